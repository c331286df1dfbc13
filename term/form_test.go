package term

import (
	"fmt"
	"math"
	"math/rand"
	"slices"
	"strings"
	"testing"

	"pilaster/api"
)

// P12.1

func numbers() []int {
	return []int{0, 1, -1, 14, 15, api.MaxNodes, api.MaxNodes + 1, 1000000, 1000001, api.MaxNumber, api.MaxNumber + 1, -api.MaxNumber, -api.MaxNumber - 1, math.MaxInt, math.MinInt}
}

func texts() []string {
	long := strings.Repeat("x", 2*api.MaxName)
	most := strings.Repeat("\xff", api.MaxText)
	return []string{"", "a", "val.x", "1", "_", ".", "A_.9", "a b", "a'", "\xc3\x84", "\x00", "\"", "end", long, long + "x", most, most + "x"}
}

func kinds() []api.Kind {
	k := arrow(star(), star())
	endless := arrow(star(), star())
	endless.L[0] = endless
	deepest := star()
	for range api.MaxDepth - 1 {
		deepest = arrow(star(), deepest)
	}
	return []api.Kind{star(), {L: []api.Kind{}}, k, arrow(k, k), {L: make([]api.Kind, 1)}, {L: make([]api.Kind, 3)}, arrow(star(), api.Kind{L: make([]api.Kind, 1)}), endless, deepest, arrow(star(), deepest)}
}

func nameLists() [][]string {
	long := strings.Repeat("x", 2*api.MaxName)
	return [][]string{
		nil, {}, {"a"}, {""}, {"a b"}, {"1"}, {"val.x"}, {long}, {long + "x"}, {"a", "b"}, {"b", "a"}, {"a", "a"}, {"1", "2"}, {"10", "2"}, {"2", "10"}, {"B", "a"}, {"a", "B"}, {"a", "b", "c"}, {"a", "c", "b"}, {"", "a"}, {"a", "?"}, {"a", "a."}, {"a", "ab", "b"},
	}
}

// cons returns small constructors that are well-formed, and such that are not, among them the zero one with empty lists.
func cons() []api.Con {
	empty := api.Con{Names: []string{}, L: []api.Con{}, Kind: api.Kind{L: []api.Kind{}}}
	zeroButOne := []api.Con{{N: 1}, {S: "x"}, {Kind: api.Kind{L: make([]api.Kind, 1)}}, {Names: []string{""}}, {L: make([]api.Con, 1)}, {Op: api.CVar}, {Op: -1}}
	return slices.Concat([]api.Con{empty, cint(), cvar(api.MaxNodes), call(cvar(3)), {Op: api.CRecord}, cconst("A.0", arrow(star(), star()))}, wrongCons(), zeroButOne)
}

func opers() []int {
	l := []int{math.MinInt, -1, 27, math.MaxInt}
	for op := range 23 {
		l = append(l, op)
	}
	return l
}

// judge compares what all functions of P12.1 say about one term with the second description, and returns whether it is well-formed.
func judge(t *testing.T, x api.Term) bool {
	t.Helper()
	size := wantSize(x)
	if got := Size(x); got != size || Valid(x) != (size > 0) || Value(x) != wantValue(x) || Equal(x, x) != (size > 0) {
		t.Fatalf("%d %t %t %t, want %d: %.300s", got, Valid(x), Value(x), Equal(x, x), size, fmt.Sprint(x))
	}
	return size > 0
}

// Each field alone with few others.
func TestValidOfOneNode(t *testing.T) {
	accepted := map[int]int{}
	try := func(x api.Term) {
		if judge(t, x) {
			accepted[x.Op]++
		}
	}
	for _, op := range opers() {
		for parts := range 5 {
			l := slices.Repeat([]api.Term{num(0)}, parts)
			for _, c := range []api.Con{{}, cint()} {
				for _, to := range []api.Con{{}, cint()} {
					x := api.Term{Op: op, Con: c, To: to, L: l}
					for _, n := range numbers() {
						x.N = n
						try(x)
						for _, s := range texts() {
							x.S = s
							try(x)
						}
						x.S = ""
					}
					x.N = 1
					for _, k := range kinds() {
						x.Kind = k
						try(x)
					}
				}
			}
		}
	}
	if len(accepted) != 19-1 {
		t.Error(accepted, "all but ECase")
	}
}

// All combinations of few values of each field.
func TestValidOfAllFields(t *testing.T) {
	accepted := map[int]int{}
	for _, op := range opers() {
		for i := range 2 * 2 * 3 * 3 * 2 * 4 * 4 {
			choose := func(n int) int { r := i % n; i /= n; return r }
			x := api.Term{Op: op, N: choose(2), S: []string{"", "a"}[choose(2)], Con: []api.Con{{}, cint(), cvar(-1)}[choose(3)], To: []api.Con{{}, cint(), cvar(-1)}[choose(3)], Kind: []api.Kind{star(), arrow(star(), star())}[choose(2)]}
			x.Names, x.L = []string{"a", "b", "c"}[:choose(4)], slices.Repeat([]api.Term{v(0)}, choose(4))
			if judge(t, x) {
				accepted[x.Op]++
			}
		}
	}
	if len(accepted) != 19 {
		t.Error(accepted)
	}
}

func TestValidOfNames(t *testing.T) {
	for _, op := range opers() {
		for _, names := range nameLists() {
			for parts := range 5 {
				judge(t, api.Term{Op: op, Names: names, L: slices.Repeat([]api.Term{num(0)}, parts)})
			}
		}
	}
	for _, names := range nameLists() {
		if Valid(api.Term{Op: api.ERecord, Names: names, L: make([]api.Term, len(names))}) && len(names) > 0 {
			t.Error(names, "with zero parts")
		}
	}
}

func TestValidOfConstructors(t *testing.T) {
	for _, op := range opers() {
		for _, c := range append(cons(), malformedCons()...) {
			for parts := range 3 {
				l := slices.Repeat([]api.Term{num(0)}, parts)
				judge(t, api.Term{Op: op, Con: c, L: l})
				judge(t, api.Term{Op: op, Con: c, N: 1, S: "a", L: l})
				judge(t, api.Term{Op: op, Con: c, S: "a", L: l})
				judge(t, api.Term{Op: op, Con: c, N: 1, L: l})
				judge(t, api.Term{Op: op, To: c, L: l})
				judge(t, api.Term{Op: op, Con: cint(), To: c, L: l})
				judge(t, api.Term{Op: op, Con: c, To: cint(), L: l})
			}
		}
	}
}

func TestValidOfOperations(t *testing.T) {
	one := map[int]bool{api.PNeg: true, api.PSize: true, api.PShow: true, api.PPrint: true}
	for n := -3; n < 20; n++ {
		for parts := range 5 {
			known := api.PAdd <= n && n <= api.PPrint
			want := known && (one[n] && parts == 1 || !one[n] && parts == 2)
			if x := prim(n, slices.Repeat([]api.Term{num(1)}, parts)...); judge(t, x) != want {
				t.Error(n, parts)
			}
		}
	}
}

// everyNode hands each node of x to f, which may change it.
func everyNode(x *api.Term, f func(*api.Term)) {
	f(x)
	for i := range x.L {
		everyNode(&x.L[i], f)
	}
}

// changes returns copies of x with one field of one node changed.
func changes(x api.Term, fields []func(*api.Term)) []api.Term {
	var l []api.Term
	for at := range strings.Count(written(x), "<") {
		for _, change := range fields {
			y, i := clone(x), 0
			everyNode(&y, func(node *api.Term) {
				if i++; i == at+1 {
					change(node)
				}
			})
			l = append(l, y)
		}
	}
	return l
}

func fieldChanges(r *rand.Rand) []func(*api.Term) {
	con := func() api.Con { l := cons(); return l[r.Intn(len(l))] }
	return []func(*api.Term){
		func(x *api.Term) { x.Op = r.Intn(22) - 1 },
		func(x *api.Term) { x.N = numbers()[r.Intn(len(numbers()))] },
		func(x *api.Term) { x.N++ },
		func(x *api.Term) { x.S = texts()[r.Intn(15)] },
		func(x *api.Term) { x.S += "0" },
		func(x *api.Term) { x.Con = con() },
		func(x *api.Term) { x.Con.N++ },
		func(x *api.Term) { x.Con = call(x.Con) },
		func(x *api.Term) { x.To = con() },
		func(x *api.Term) { x.Con, x.To = x.To, x.Con },
		func(x *api.Term) { x.Kind = kinds()[r.Intn(7)] },
		func(x *api.Term) { x.Kind = arrow(x.Kind, star()) },
		func(x *api.Term) { x.Names = nameLists()[r.Intn(len(nameLists()))] },
		func(x *api.Term) { x.Names = append(x.Names, "x") },
		func(x *api.Term) { x.Names = x.Names[:max(0, len(x.Names)-1)] },
		func(x *api.Term) { slices.Reverse(x.Names) },
		func(x *api.Term) { x.L = append(x.L, num(0)) },
		func(x *api.Term) { x.L = append(x.L, api.Term{}) },
		func(x *api.Term) { x.L = x.L[:max(0, len(x.L)-1)] },
		func(x *api.Term) { slices.Reverse(x.L) },
		func(x *api.Term) { x.L, x.Names = append(x.L, v(2)), append(x.Names, "z") },
	}
}

func TestChanges(t *testing.T) {
	r := rand.New(rand.NewSource(121))
	valid, equal := 0, 0
	for _, x := range randomTerms(122, 250) {
		if !judge(t, x) {
			t.Fatal(x)
		}
		if Size(x) > 40 {
			continue
		}
		text := written(x)
		for _, y := range changes(x, fieldChanges(r)) {
			ok, same := judge(t, y), Equal(x, y)
			if same != (written(y) == text) || same != Equal(y, x) || Equal(y, clone(y)) != ok {
				t.Fatalf("%t %t %+v", ok, same, y)
			}
			if ok {
				valid++
			}
			if same {
				equal++
			}
		}
	}
	if valid < 1000 || equal < 1000 {
		t.Error(valid, equal)
	}
}

func TestEqualOfSmall(t *testing.T) {
	l := smallTerms(3)
	var texts []string
	for _, x := range l {
		texts = append(texts, written(x))
	}
	for i, a := range l {
		for j, b := range l {
			if Equal(a, b) != (texts[i] == texts[j]) {
				t.Fatal(a, b)
			}
		}
	}
	empty := api.Term{Op: api.EVar, Names: []string{}, L: []api.Term{}, Kind: api.Kind{L: []api.Kind{}}, Con: cons()[0], To: cons()[0]}
	if !Equal(empty, v(0)) || !Equal(v(0), empty) {
		t.Error("nil and empty lists are the same")
	}
	for i, x := range invalid() {
		if Equal(x, num(0)) || Equal(num(0), x) || Equal(x, x) || Equal(let(x, x), let(x, x)) {
			t.Error(i, "is not well-formed")
		}
	}
	if k := (api.Kind{L: make([]api.Kind, 1)}); Equal(tlam(k, v(0)), tlam(k, v(0))) || Equal(tlam(star(), v(0)), tlam(k, v(0))) {
		t.Error("kinds that are not valid")
	}
}

func TestSize(t *testing.T) {
	for i, c := range []struct {
		x    api.Term
		want int
	}{
		{api.Term{}, 0}, {num(0), 1}, {record(""), 1}, {lam(call(carrow(cvar(0), cint())), v(0)), 6}, {pack(cint(), carrow(cint(), cint()), v(0)), 6}, {tlam(arrow(star(), star()), v(0)), 2}, {fail(1, conOf(500, cint())), 501},
		{cases("A B", v(0), v(1), v(2)), 4}, {balanced(999, v(0)), 999}, {wide(api.ERecord, 1000, 0, v(0)), 1001}, {wide(api.ERecord, 1001, 0, v(0)), 0}, {lams(399, v(0)), 799}, {tapp(v(0), api.Con{}), 0}, {app(v(0), v(-1)), 0},
		{balanced(api.MaxNodes, v(0)), api.MaxNodes}, {balanced(api.MaxNodes+1, v(0)), 0}, {inject("A", api.Con{Op: api.CSum, Names: []string{"A"}, L: []api.Con{cint()}}, num(1)), 4}, {fix(carrow(cint(), cint()), lam(cint(), v(1))), 7}, {text(strings.Repeat("x", 100)), 1},
	} {
		if got := Size(c.x); got != c.want {
			t.Error(i, got)
		}
	}
}

func TestValue(t *testing.T) {
	ok := []api.Term{
		num(-3), text(""), text("x"), lam(cint(), v(0)), lam(cint(), app(v(0), v(5))), tlam(star(), v(3)), tlam(star(), fail(1, cint())), fix(cint(), v(0)), fix(cint(), lam(cint(), v(1))), record(""), record("a", num(1)), record("a b", lam(cint(), v(7)), record("")),
		inject("A", cint(), num(1)), roll(cint(), inject("A", cint(), record(""))), pack(cint(), cvar(4), num(1)), pack(cint(), cint(), pack(cint(), cint(), text("x"))), unrolls(0, num(1)),
	}
	no := []api.Term{
		v(0), app(lam(cint(), v(0)), num(1)), tapp(tlam(star(), num(1)), cint()), unpack(pack(cint(), cint(), num(1)), v(0)), proj("a", record("a", num(1))), cases("A", inject("A", cint(), num(1)), num(2)), node(api.EUnroll, roll(cint(), num(1))), let(num(1), num(2)), prim(api.PAdd, num(1), num(2)), prim(api.PNeg, num(1)), fail(1, cint()),
		record("a", v(0)), record("a b", num(1), app(num(1), num(2))), record("a b", let(num(1), num(2)), num(1)), inject("A", cint(), v(0)), roll(cint(), fail(1, cint())), pack(cint(), cint(), v(1)), roll(cint(), inject("A", cint(), record("a", v(0)))), unrolls(1, num(1)),
	}
	for i, x := range ok {
		if !Value(x) || !judge(t, x) {
			t.Error(i, "is a value")
		}
	}
	for i, x := range no {
		if Value(x) || !judge(t, x) {
			t.Error(i, "is none")
		}
	}
	for i, x := range invalid() {
		if Value(x) || Value(lam(cint(), x)) || Value(record("a", x)) || Value(roll(cint(), x)) {
			t.Error(i, "is not well-formed")
		}
	}
	for _, x := range append(smallTerms(3), randomTerms(123, 2000)...) {
		judge(t, x)
		judge(t, record("a b", num(1), x))
	}
}

func TestValidAtTheLimits(t *testing.T) {
	most := conOf(api.MaxNodes-1, cint())
	deepest := calls(api.MaxDepth-1, cint())
	for i, x := range []api.Term{
		balanced(api.MaxNodes, num(0)), lams(api.MaxDepth-1, num(0)), unrolls(api.MaxDepth-1, num(0)), app(tlams(api.MaxDepth-2, num(0)), tlams(api.MaxDepth-2, num(0))), unrolls(api.MaxDepth-2, record("a", num(0))), wide(api.ERecord, api.MaxList, 0, num(0)), wide(api.ECase, api.MaxList, 1, num(0)),
		fail(1, most), lam(conOf(api.MaxNodes-2, cint()), num(0)), pack(conOf(9999, cint()), conOf(9999, cint()), num(0)), app(fail(1, conOf(10000, cint())), fail(1, conOf(9997, cint()))), balanced(9999, fail(1, cint())), wide(api.ERecord, api.MaxList, 0, fail(1, conOf(18, cint()))),
		lams(api.MaxDepth-1, v(api.MaxNodes)), unrolls(api.MaxDepth-2, roll(deepest, num(0))), unrolls(api.MaxDepth-1, fail(1, deepest)), tlam(kinds()[8], num(0)), tlams(api.MaxDepth-1, fail(1000000, cvar(api.MaxNodes))), text(strings.Repeat("x", api.MaxText)),
	} {
		if !judge(t, x) {
			t.Error(i, "refused")
		}
	}
	for i, x := range invalid() {
		if Valid(x) || Size(x) != 0 || Value(x) || Equal(x, x) {
			t.Error(i, "accepted")
		}
	}
	for i, x := range tooLarge() {
		if wantValid(x) {
			t.Error(i, "accepted")
		}
	}
	// The nodes of kinds and the levels of constructors are not counted.
	if k := kinds()[8]; !Valid(tlams(399, fail(1, cconst("A.0", k)))) || Size(tlam(k, v(0))) != 2 {
		t.Error("kinds")
	}
}
