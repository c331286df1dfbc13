package kinding

import (
	"slices"
	"testing"

	"pilaster/api"
)

// P10.1, P10.2

func TestExamples(t *testing.T) {
	expectKind(t, "fn *. (#0 -> #0)", nil, lam(star(), to(v(0), v(0))), one())
	expectFault(t, "(int int)", nil, app(num(), num()), api.ErrKind, nil)
	expectFault(t, "(int -> #0)", nil, to(num(), v(0)), api.ErrName, []int{1})
}

func TestVariables(t *testing.T) {
	g := []api.Kind{chain(3), one(), star()}
	expectKind(t, 0, g, v(0), star())
	expectKind(t, 1, g, v(1), one())
	expectKind(t, 2, g, v(2), chain(3))
	expectFault(t, 3, g, v(3), api.ErrName, nil)
	expectFault(t, "most", g, v(api.MaxNodes), api.ErrName, nil)
	expectFault(t, "no scope", nil, v(0), api.ErrName, nil)
	expectFault(t, "empty scope", []api.Kind{}, v(0), api.ErrName, nil)
}

// The variables of binders come after those of the scope, the nearest one last.
func TestVariablesOfBinders(t *testing.T) {
	g := []api.Kind{chain(3), one()}
	two := arrow(one(), star())
	for i, c := range []struct {
		n int
		k api.Kind
	}{{0, star()}, {1, two}, {2, one()}, {3, chain(3)}} {
		expectKind(t, i, g, lam(two, lam(star(), v(c.n))), arrow(two, arrow(star(), c.k)))
		expectFault(t, i, nil, lam(two, lam(star(), v(c.n+2))), api.ErrName, []int{0, 0})
	}
	expectFault(t, "outside", g, lam(two, lam(star(), v(4))), api.ErrName, []int{0, 0})
	for _, op := range []int{api.CAll, api.CSome} {
		expectKind(t, op, nil, binder(op, star(), v(0)), star())
		expectKind(t, op, nil, binder(op, one(), app(v(0), num())), star())
		expectKind(t, op, []api.Kind{star()}, binder(op, one(), v(1)), star())
		expectFault(t, op, []api.Kind{star()}, binder(op, one(), v(0)), api.ErrKind, nil)
		expectFault(t, op, []api.Kind{star()}, binder(op, one(), v(2)), api.ErrName, []int{0})
	}
	expectKind(t, "mu", []api.Kind{one()}, mu(star(), app(v(1), v(0))), star())
}

// What a binder adds to the scope is not there beside it.
func TestPartsDoNotDisturbEachOther(t *testing.T) {
	room := append(make([]api.Kind, 0, 10), one())
	for i, c := range []struct {
		c api.Con
		e api.Errno
		p []int
	}{
		{to(binder(api.CAll, star(), v(0)), app(v(0), num())), api.OK, nil},
		{to(app(v(0), num()), binder(api.CAll, star(), v(0))), api.OK, nil},
		{to(binder(api.CAll, star(), v(0)), binder(api.CSome, one(), app(v(0), app(v(1), num())))), api.OK, nil},
		{binder(api.CAll, star(), to(binder(api.CAll, one(), app(v(0), v(1))), v(0))), api.OK, nil},
		{to(binder(api.CAll, star(), v(0)), v(0)), api.ErrKind, nil},
		{to(binder(api.CAll, star(), v(0)), v(1)), api.ErrName, []int{1}},
		{fields(api.CRecord, "a b c", mu(star(), v(0)), binder(api.CSome, one(), num()), v(1)), api.ErrName, []int{2}},
		{binder(api.CAll, star(), to(lam(one(), v(0)), v(2))), api.ErrName, []int{0, 1}},
	} {
		if c.e == api.OK {
			expectKind(t, i, room, c.c, star())
		} else {
			expectFault(t, i, room, c.c, c.e, c.p)
		}
		if slices.ContainsFunc(room[1:10], func(k api.Kind) bool { return len(k.L) > 0 }) {
			t.Fatal(i, "the memory behind the scope was written to")
		}
	}
}

func TestLeaves(t *testing.T) {
	for _, k := range smallKinds(4) {
		expectKind(t, "constant", nil, con("A.0", k), k)
		expectKind(t, "variable", []api.Kind{star(), k, one()}, v(1), k)
	}
	for i, c := range []api.Con{num(), {Op: api.CText}, {Op: api.CMeta}, {Op: api.CMeta, N: api.MaxNodes}, fields(api.CRecord, ""), fields(api.CSum, "")} {
		expectKind(t, i, nil, c, star())
		expectKind(t, i, []api.Kind{one()}, c, star())
	}
}

// Nodes that are types want types in each part.
func TestTypes(t *testing.T) {
	f, x := con("F.0", one()), con("T.0", star())
	expectKind(t, "arrow", nil, to(x, x), star())
	expectFault(t, "from", nil, to(f, x), api.ErrKind, nil)
	expectFault(t, "to", nil, to(x, f), api.ErrKind, nil)
	for _, op := range []int{api.CRecord, api.CSum} {
		expectKind(t, op, nil, fields(op, "A", x), star())
		expectKind(t, op, nil, fields(op, "A B C", x, num(), x), star())
		for i := range 3 {
			l := []api.Con{x, x, x}
			l[i] = f
			expectFault(t, i, nil, fields(op, "A B C", l...), api.ErrKind, nil)
		}
		expectFault(t, op, nil, fields(op, "A", f), api.ErrKind, nil)
	}
	for _, op := range []int{api.CAll, api.CSome} {
		for _, k := range smallKinds(3) {
			expectKind(t, op, nil, binder(op, k, x), star())
			expectFault(t, op, nil, binder(op, k, f), api.ErrKind, nil)
			// The kind of the part counts, not that of the binder.
			expectFault(t, op, nil, binder(op, k, con("F.0", arrow(k, star()))), api.ErrKind, nil)
		}
	}
	expectKind(t, "many fields", nil, wide(api.MaxList, x), star())
	expectFault(t, "many fields", nil, wide(api.MaxList, f), api.ErrKind, nil)
}

func TestFunctions(t *testing.T) {
	for _, a := range smallKinds(3) {
		for _, b := range smallKinds(3) {
			expectKind(t, "function", nil, lam(a, con("A.0", b)), arrow(a, b))
		}
		expectKind(t, "identity", []api.Kind{one()}, lam(a, v(0)), arrow(a, a))
	}
	expectKind(t, "three", nil, lams(3, num()), chain(4))
}

// An application has the second part of a kind, if the first one is that of the argument.
func TestApplications(t *testing.T) {
	for _, f := range smallKinds(4) {
		for _, a := range smallKinds(3) {
			c := app(con("F.0", f), con("A.0", a))
			if len(f.L) > 0 && code(f.L[0]) == code(a) {
				expectKind(t, code(f), nil, c, f.L[1])
			} else {
				expectFault(t, code(f)+" "+code(a), nil, c, api.ErrKind, nil)
			}
		}
	}
	f := con("F.0", chain(3))
	expectKind(t, "one after the other", nil, app(app(f, num()), num()), star())
	expectFault(t, "one too many", nil, app(app(app(f, num()), num()), num()), api.ErrKind, nil)
	// No function takes itself.
	expectFault(t, "itself", nil, lam(one(), app(v(0), v(0))), api.ErrKind, []int{0})
}

// A recursive constructor has the kind of its part and its variable.
func TestRecursive(t *testing.T) {
	for _, k := range smallKinds(3) {
		expectKind(t, "itself", nil, mu(k, v(0)), k)
		for _, part := range smallKinds(3) {
			if c := mu(k, con("A.0", part)); code(k) == code(part) {
				expectKind(t, code(k), nil, c, k)
			} else {
				expectFault(t, code(k)+" "+code(part), nil, c, api.ErrKind, nil)
			}
		}
	}
	list := mu(one(), lam(star(), fields(api.CSum, "Cons Nil", fields(api.CRecord, "1 2", v(0), app(v(1), v(0))), fields(api.CRecord, ""))))
	expectKind(t, "list", nil, list, one())
	expectKind(t, "list of int", nil, app(list, num()), star())
}

// P10.1: compared with the second description, for all small constructors, and for larger ones.
func TestOfSmall(t *testing.T) {
	l := smallCons(3)
	if !testing.Short() {
		l = smallCons(4)
	}
	kinded := 0
	for i, c := range l {
		for _, g := range scopes() {
			if len(l) > 10000 && i%5 != len(g) {
				continue
			}
			s, e := wantFault(g, c)
			if e != api.OK {
				expectFault(t, c, g, c, e, s.place)
				continue
			}
			kinded++
			if text, _ := wantCode(s.near, c); text != codeOf(t, g, c) {
				t.Fatal(c, text)
			}
		}
	}
	if kinded < 1000 {
		t.Error("only", kinded, "have a kind")
	}
}

func codeOf(t *testing.T, g []api.Kind, c api.Con) string {
	t.Helper()
	k, e := Of(g, c)
	if e != api.OK {
		t.Fatal(c, "has the fault", e)
	}
	expectKind(t, c, g, c, k)
	return code(k)
}

func TestOfAny(t *testing.T) {
	count := map[api.Errno]int{}
	for _, s := range randomSamples(101, 12000) {
		at, e := wantFault(s.g, s.c)
		count[e]++
		if e != api.OK {
			expectFault(t, s.c, s.g, s.c, e, at.place)
		} else if text, _ := wantCode(at.near, s.c); text != codeOf(t, s.g, s.c) {
			t.Fatal(s.c, text)
		}
	}
	if count[api.OK] < 1000 || count[api.ErrName] < 300 || count[api.ErrKind] < 300 {
		t.Error("the samples are of one sort", count)
	}
}

// P10.2: another kind is refused, also one that differs in one place only.
func TestCheckOtherKinds(t *testing.T) {
	for _, k := range smallKinds(4) {
		for _, other := range smallKinds(4) {
			want := api.ErrKind
			if code(k) == code(other) {
				want = api.OK
			}
			if e := Check([]api.Kind{k, star()}, v(1), other); e != want {
				t.Fatal(code(k), code(other), e)
			}
		}
		if Type([]api.Kind{k}, v(0)) != (len(k.L) == 0) {
			t.Fatal(code(k))
		}
	}
	long := chain(api.MaxDepth)
	if e := Check([]api.Kind{long}, v(0), chain(api.MaxDepth-1)); e != api.ErrKind {
		t.Error(e)
	}
	if e := Check([]api.Kind{long}, v(0), cloneKind(long)); e != api.OK {
		t.Error(e)
	}
}

func TestCheckInvalidKinds(t *testing.T) {
	for i, k := range invalidKinds() {
		for _, c := range []api.Con{num(), v(0), v(9), app(num(), num()), con("A.0", star()), {}} {
			if e := Check([]api.Kind{star()}, c, k); e != api.ErrArg {
				t.Error(i, c, e)
			}
		}
	}
}
