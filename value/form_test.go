package value

import (
	"slices"
	"strings"
	"testing"

	"pilaster/api"
)

// P14.1

func expectForm(t *testing.T, v api.Value, valid, data bool) {
	t.Helper()
	if Valid(v) != valid || Data(v) != data {
		t.Fatalf("%s: valid %v, data %v; want %v, %v", brief(v), Valid(v), Data(v), valid, data)
	}
}

func TestFormsByHand(t *testing.T) {
	v := []api.Value{num(1)}
	for i, c := range []struct {
		v           api.Value
		valid, data bool
	}{
		{num(0), true, true}, {num(api.MaxNumber), true, true}, {num(-api.MaxNumber), true, true}, {num(api.MaxNumber + 1), false, false}, {num(-api.MaxNumber - 1), false, false}, {api.Value{Op: api.VInt, S: "1"}, false, false}, {api.Value{Op: api.VInt, Names: []string{"a"}}, false, false}, {api.Value{Op: api.VInt, L: v}, false, false}, {api.Value{Op: api.VInt, Names: []string{}, L: []api.Value{}}, true, true},
		{str(""), true, true}, {str("a\x00\xff"), true, true}, {str(strings.Repeat("\xff", api.MaxText)), true, true}, {str(strings.Repeat("a", api.MaxText+1)), false, false}, {api.Value{Op: api.VText, N: 1, S: "a"}, false, false}, {api.Value{Op: api.VText, N: -1}, false, false}, {api.Value{Op: api.VText, L: v}, false, false}, {api.Value{Op: api.VText, Names: []string{"a"}}, false, false},
		{unit(), true, true}, {record("a", num(1)), true, true}, {record("0 1 10 2 A a val.x", slices.Repeat(v, 7)...), true, true}, {record("b a", num(1), num(2)), false, false}, {record("a a", num(1), num(2)), false, false}, {record("a"), false, false}, {record("a b", num(1)), false, false}, {record("a", num(1), num(2)), false, false}, {record("a-b", num(1)), false, false}, {api.Value{Op: api.VRecord, Names: []string{""}, L: v}, false, false}, {record(strings.Repeat("a", 48), num(1)), true, true}, {record(strings.Repeat("a", 49), num(1)), false, false}, {api.Value{Op: api.VRecord, N: 1}, false, false}, {api.Value{Op: api.VRecord, S: "a"}, false, false}, {api.Value{Op: api.VRecord, S: "a", L: v}, false, false}, {api.Value{Op: api.VRecord, N: 1, L: v}, false, false},
		{block(num(1)), true, false}, {block(slices.Repeat(v, api.MaxList)...), true, false}, {block(slices.Repeat(v, api.MaxList+1)...), false, false}, {wide(api.MaxList, num(1)), true, true}, {wide(api.MaxList+1, num(1)), false, false},
		{inject("A", num(1)), true, true}, {inject("fn", num(1)), true, true}, {inject("1", num(1)), true, true}, {inject("a.b_C.9", num(1)), true, true}, {inject(strings.Repeat("A", 48), num(1)), true, true}, {inject(strings.Repeat("A", 49), num(1)), false, false}, {inject("A B", num(1)), false, false}, {inject("#1", num(1)), false, false}, {inject("é", num(1)), false, false}, {api.Value{Op: api.VInject, S: "A", N: 1, L: v}, false, false}, {api.Value{Op: api.VInject, S: "A", N: -1, L: v}, false, false}, {api.Value{Op: api.VInject, S: "A"}, false, false}, {api.Value{Op: api.VInject, S: "A", L: []api.Value{num(1), num(2)}}, false, false}, {api.Value{Op: api.VInject, S: "A", Names: []string{"a"}, L: v}, false, false},
		{tagged(0, num(1)), true, false}, {tagged(1, num(1)), true, false}, {tagged(api.MaxList, num(1)), true, false}, {tagged(api.MaxList+1, num(1)), false, false}, {tagged(-1, num(1)), false, false}, {api.Value{Op: api.VInject}, false, false}, {api.Value{Op: api.VInject, N: 3}, false, false}, {api.Value{Op: api.VInject, Names: []string{"a"}, L: v}, false, false},
		{roll(num(1)), true, true}, {api.Value{Op: api.VRoll}, false, false}, {api.Value{Op: api.VRoll, L: []api.Value{num(1), num(1)}}, false, false}, {api.Value{Op: api.VRoll, N: 1, L: v}, false, false}, {api.Value{Op: api.VRoll, S: "A", L: v}, false, false}, {api.Value{Op: api.VRoll, Names: []string{"a"}, L: v}, false, false},
		{pack(num(1)), true, false}, {api.Value{Op: api.VPack}, false, false}, {api.Value{Op: api.VPack, L: []api.Value{num(1), num(1)}}, false, false}, {api.Value{Op: api.VPack, N: 1, L: v}, false, false}, {api.Value{Op: api.VPack, S: "A", L: v}, false, false}, {api.Value{Op: api.VPack, Names: []string{"a"}, L: v}, false, false},
		{fun(), true, false}, {api.Value{Op: api.VFun, L: v}, false, false}, {api.Value{Op: api.VFun, N: 1}, false, false}, {api.Value{Op: api.VFun, S: "f"}, false, false}, {api.Value{Op: api.VFun, Names: []string{"a"}}, false, false},
		{api.Value{}, false, false}, {api.Value{Op: 8}, false, false}, {api.Value{Op: -1}, false, false}, {api.Value{Op: 8, L: v}, false, false},
	} {
		if Valid(c.v) != c.valid || Data(c.v) != c.data {
			t.Error(i, brief(c.v), Valid(c.v), Data(c.v))
		}
		for _, around := range []func(api.Value) api.Value{roll, func(x api.Value) api.Value { return record("a b", num(1), x) }, func(x api.Value) api.Value { return inject("A", x) }} {
			expectForm(t, around(c.v), c.valid, c.data)
			expectForm(t, around(roll(c.v)), c.valid, c.data)
		}
		for _, around := range []func(api.Value) api.Value{pack, func(x api.Value) api.Value { return block(num(1), x) }, func(x api.Value) api.Value { return tagged(2, x) }} {
			expectForm(t, around(c.v), c.valid, false)
		}
	}
}

func TestFormsAtTheLimits(t *testing.T) {
	for n := api.MaxNodes - 2; n <= api.MaxNodes+2; n++ {
		v := ofSize(n)
		if Size(v) != n {
			t.Fatal(n, Size(v))
		}
		expectForm(t, v, n <= api.MaxNodes, n <= api.MaxNodes)
		expectForm(t, block(v), n < api.MaxNodes, false)
	}
	full := block(slices.Repeat([]api.Value{wide(999, unit())}, 20)...)
	expectForm(t, full, false, false)
	full.L[0] = wide(998, unit())
	expectForm(t, full, true, false)
	for n := api.MaxDepth - 2; n <= api.MaxDepth+2; n++ {
		for _, v := range []api.Value{rolls(n-1, num(1)), record("a b", num(1), rolls(n-2, num(1))), rolls(n-2, inject("A", unit()))} {
			expectForm(t, v, n <= api.MaxDepth, n <= api.MaxDepth)
			if Size(v) != wantSize(v) {
				t.Error(n, Size(v))
			}
		}
	}
	for i, v := range invalidValues() {
		if Valid(v) || Data(v) {
			t.Error(i)
		}
	}
}

// Each field of each node is changed.
func TestFormsOfChanged(t *testing.T) {
	for _, v := range randomValues(1401, 3000) {
		expectForm(t, v, true, wantData(v))
		changes := []func(x *api.Value){
			func(x *api.Value) { x.Op++ }, func(x *api.Value) { x.Op-- }, func(x *api.Value) { x.Op = 0 }, func(x *api.Value) { x.N++ }, func(x *api.Value) { x.N-- }, func(x *api.Value) { x.N = -x.N }, func(x *api.Value) { x.N += api.MaxNumber }, func(x *api.Value) { x.S += "x" }, func(x *api.Value) { x.S += "é" }, func(x *api.Value) { x.S = "" }, func(x *api.Value) { x.S = strings.Repeat(x.S, 20) },
			func(x *api.Value) { x.Names = nil }, func(x *api.Value) { x.Names = append(x.Names, "z") }, func(x *api.Value) { x.Names = append(x.Names, "A") }, func(x *api.Value) { slices.Reverse(x.Names) }, func(x *api.Value) { x.L = nil }, func(x *api.Value) { x.L = append(x.L, num(1)) }, func(x *api.Value) { x.L, x.Names = append(x.L, num(1)), append(x.Names, "~") },
		}
		for _, change := range changes {
			for at := range wantSize(v) {
				w := clone(v)
				change(nodeAt(&w, &at))
				expectForm(t, w, wantValid(w), wantData(w))
				if Size(w) != wantSize(w) {
					t.Fatal(brief(w), Size(w))
				}
			}
			if wantSize(v) > 12 {
				break
			}
		}
	}
}

// nodeAt returns the node with a number, in the order of the text.
func nodeAt(v *api.Value, at *int) *api.Value {
	if *at == 0 {
		return v
	}
	for i := range v.L {
		*at--
		if x := nodeAt(&v.L[i], at); x != nil {
			return x
		}
	}
	return nil
}

func TestEqual(t *testing.T) {
	l := append(randomValues(1402, 300), api.Value{}, num(0), num(1), str(""), str("1"), unit(), block(num(1)), record("1", num(1)), inject("A", num(1)), tagged(0, num(1)), tagged(1, num(1)), roll(num(1)), pack(num(1)), fun(), api.Value{Op: 9, N: 4, S: "x", Names: []string{"b", "a"}}, api.Value{Op: 9, N: 4, S: "x", Names: []string{"a", "b"}}, api.Value{Op: -3, L: []api.Value{{}, {}}}, api.Value{Op: -3, L: []api.Value{{}}})
	for i, v := range l {
		if !Equal(v, clone(v)) || !Equal(clone(v), v) {
			t.Fatal(brief(v))
		}
		for j, w := range l {
			if Equal(v, w) != alike(v, w) {
				t.Fatal(i, j, brief(v), brief(w))
			}
		}
		for at := range wantSize(v) {
			for _, change := range []func(x *api.Value){func(x *api.Value) { x.Op++ }, func(x *api.Value) { x.N++ }, func(x *api.Value) { x.S += "x" }, func(x *api.Value) { x.Names = append(x.Names, "z") }, func(x *api.Value) { x.L = append(x.L, num(1)) }, func(x *api.Value) { x.L = append([]api.Value{{}}, x.L...) }} {
				w, n := clone(v), at
				change(nodeAt(&w, &n))
				if Equal(v, w) || Equal(w, v) {
					t.Fatal(brief(v), brief(w))
				}
			}
		}
	}
	if !Equal(api.Value{Op: api.VRecord, Names: []string{}, L: []api.Value{}}, unit()) {
		t.Error("empty lists")
	}
}

func TestSize(t *testing.T) {
	for want, v := range map[int]api.Value{1: {}, 2: roll(num(1)), 3: record("a b", num(1), num(1)), 4: {Op: 77, L: []api.Value{{}, {L: []api.Value{{}}}}}, 1001: wide(1000, num(1)), 50000: ofSize(50000), 2000: rolls(1999, num(1))} {
		if Size(v) != want {
			t.Error(want, Size(v))
		}
	}
	for _, v := range randomValues(1403, 1000) {
		if Size(v) != wantSize(v) {
			t.Fatal(brief(v), Size(v))
		}
	}
}
