package term

import (
	"math/rand"
	"slices"
	"strconv"
	"strings"
	"testing"

	"pilaster/api"
)

// Constructors of all kinds.

func cvar(n int) api.Con { return api.Con{Op: api.CVar, N: n} }

func cint() api.Con { return api.Con{Op: api.CInt} }

func cconst(s string, k api.Kind) api.Con { return api.Con{Op: api.CConst, S: s, Kind: k} }

func cpair(op int, a, b api.Con) api.Con { return api.Con{Op: op, L: []api.Con{a, b}} }

func carrow(a, b api.Con) api.Con { return cpair(api.CArrow, a, b) }

func cbinder(op int, k api.Kind, c api.Con) api.Con {
	return api.Con{Op: op, Kind: k, L: []api.Con{c}}
}

func call(c api.Con) api.Con { return cbinder(api.CAll, star(), c) }

// calls puts n binders around c.
func calls(n int, c api.Con) api.Con {
	for range n {
		c = call(c)
	}
	return c
}

// star and arrow are kinds.
func star() api.Kind { return api.Kind{} }

func arrow(a, b api.Kind) api.Kind { return api.Kind{L: []api.Kind{a, b}} }

// conOf returns a constructor of small depth without binders with n nodes, if those of c at all ends count as one.
func conOf(n int, c api.Con) api.Con {
	switch n {
	case 1:
		return c
	case 2:
		return api.Con{Op: api.CRecord, Names: []string{"a"}, L: []api.Con{c}}
	}
	return carrow(conOf(n/2, c), conOf(n-1-n/2, c))
}

// Terms of all kinds.

func v(n int) api.Term { return api.Term{Op: api.EVar, N: n} }

func num(n int) api.Term { return api.Term{Op: api.EInt, N: n} }

func text(s string) api.Term { return api.Term{Op: api.EText, S: s} }

func node(op int, l ...api.Term) api.Term { return api.Term{Op: op, L: l} }

func app(f, a api.Term) api.Term { return node(api.EApp, f, a) }

func let(a, b api.Term) api.Term { return node(api.ELet, a, b) }

func unpack(a, b api.Term) api.Term { return node(api.EUnpack, a, b) }

func typed(op int, c api.Con, t api.Term) api.Term {
	return api.Term{Op: op, Con: c, L: []api.Term{t}}
}

func lam(c api.Con, t api.Term) api.Term { return typed(api.ELam, c, t) }

func tapp(t api.Term, c api.Con) api.Term { return typed(api.ETApp, c, t) }

func fix(c api.Con, t api.Term) api.Term { return typed(api.EFix, c, t) }

func roll(c api.Con, t api.Term) api.Term { return typed(api.ERoll, c, t) }

func tlam(k api.Kind, t api.Term) api.Term {
	return api.Term{Op: api.ETLam, Kind: k, L: []api.Term{t}}
}

func pack(c, to api.Con, t api.Term) api.Term {
	return api.Term{Op: api.EPack, Con: c, To: to, L: []api.Term{t}}
}

func proj(s string, t api.Term) api.Term {
	return api.Term{Op: api.EProj, S: s, L: []api.Term{t}}
}

func inject(s string, c api.Con, t api.Term) api.Term {
	return api.Term{Op: api.EInject, S: s, Con: c, L: []api.Term{t}}
}

// named returns an ERecord, or an ECase.
func named(op int, names string, l ...api.Term) api.Term {
	return api.Term{Op: op, Names: strings.Fields(names), L: l}
}

func record(names string, l ...api.Term) api.Term { return named(api.ERecord, names, l...) }

func cases(names string, l ...api.Term) api.Term { return named(api.ECase, names, l...) }

func prim(n int, l ...api.Term) api.Term { return api.Term{Op: api.EPrim, N: n, L: l} }

func fail(n int, c api.Con) api.Term { return api.Term{Op: api.EFail, N: n, Con: c} }

// unrolls, lams and tlams put n nodes around t: such that bind nothing, such that bind a variable of terms, and such that bind one of constructors.
func unrolls(n int, t api.Term) api.Term {
	for range n {
		t = node(api.EUnroll, t)
	}
	return t
}

// lams makes two nodes for each binder, one of which is the constructor.
func lams(n int, t api.Term) api.Term {
	for range n {
		t = lam(cint(), t)
	}
	return t
}

func tlams(n int, t api.Term) api.Term {
	for range n {
		t = tlam(star(), t)
	}
	return t
}

// balanced returns a term of small depth without binders and constructors with n nodes, if t at all ends counts as one.
func balanced(n int, t api.Term) api.Term {
	switch n {
	case 1:
		return t
	case 2:
		return node(api.EUnroll, t)
	}
	return app(balanced(n/2, t), balanced(n-1-n/2, t))
}

// manyLabels returns labels that ascend.
func manyLabels(n int) []string {
	var l []string
	for i := range n {
		l = append(l, "l"+strconv.Itoa(1<<20+i))
	}
	return l
}

// wide returns a term with so many names, and more parts, all of them t.
func wide(op, names, more int, t api.Term) api.Term {
	return api.Term{Op: op, Names: manyLabels(names), L: slices.Repeat([]api.Term{t}, names+more)}
}

// smallTerms returns all terms of at most n nodes (those of constructors aside) of some kinds.
func smallTerms(n int) []api.Term {
	l := [][]api.Term{nil, {v(0), v(1), v(2), num(7), fail(1, cvar(1))}}
	for size := 2; size <= n; size++ {
		var now []api.Term
		for _, t := range l[size-1] {
			now = append(now, lam(cvar(0), t), tlam(star(), t), tapp(t, call(carrow(cvar(0), cvar(1)))), fix(cvar(1), t), pack(cvar(0), cvar(2), t))
		}
		for first := 1; first < size-1; first++ {
			for _, a := range l[first] {
				for _, b := range l[size-1-first] {
					now = append(now, app(a, b), let(a, b), unpack(a, b), cases("A", a, b))
				}
			}
		}
		l = append(l, now)
	}
	return slices.Concat(l...)
}

func randomKind(r *rand.Rand, levels int) api.Kind {
	if levels == 0 || r.Intn(3) > 0 {
		return star()
	}
	return arrow(randomKind(r, levels-1), randomKind(r, levels-1))
}

// randomCon returns a constructor, with constants that are named like those that the program makes on the way, and of different kinds.
func randomCon(r *rand.Rand, levels int) api.Con {
	if levels <= 1 || r.Intn(4) == 0 {
		switch r.Intn(8) {
		case 0:
			return cint()
		case 1:
			return cconst("Bound."+strconv.Itoa(r.Intn(4)), randomKind(r, 2))
		case 2:
			return api.Con{Op: api.CMeta, N: r.Intn(3)}
		}
		return cvar(r.Intn(7))
	}
	part := func() api.Con { return randomCon(r, levels-1) }
	switch r.Intn(5) {
	case 0:
		return carrow(part(), part())
	case 1:
		return cpair(api.CApp, part(), part())
	case 2:
		return api.Con{Op: api.CRecord + r.Intn(2), Names: []string{"A", "val.x"}, L: []api.Con{part(), part()}}
	}
	op := []int{api.CAll, api.CSome, api.CLam, api.CMu}[r.Intn(4)]
	return cbinder(op, randomKind(r, 2), part())
}

func randomLeaf(r *rand.Rand) api.Term {
	switch r.Intn(9) {
	case 0:
		return num(r.Intn(100) - 50)
	case 1:
		return text([]string{"", "x", "a\x00\"\xff"}[r.Intn(3)])
	case 2:
		return fail(1+r.Intn(3), randomCon(r, 2))
	case 3:
		return record("")
	}
	return v(r.Intn(7))
}

func randomNamed(r *rand.Rand, op, more int, part func() api.Term) api.Term {
	l := []string{"1", "2", "X", "con.A", "val.x"}[r.Intn(3):]
	t := api.Term{Op: op, Names: slices.Clone(l[:more+r.Intn(3-more)])}
	for range len(t.Names) + more {
		t.L = append(t.L, part())
	}
	return t
}

func randomTerm(r *rand.Rand, levels int) api.Term {
	if levels <= 1 {
		return randomLeaf(r)
	}
	part := func() api.Term { return randomTerm(r, levels-1) }
	con := func() api.Con { return randomCon(r, 1+r.Intn(3)) }
	switch r.Intn(14) {
	case 0:
		return randomLeaf(r)
	case 1:
		return typed([]int{api.ELam, api.EFix}[r.Intn(2)], con(), part())
	case 2:
		return typed([]int{api.ETApp, api.ERoll}[r.Intn(2)], con(), part())
	case 3, 4:
		return tlam(randomKind(r, 2), part())
	case 5:
		return pack(con(), con(), part())
	case 6, 7:
		return unpack(part(), part())
	case 8:
		return node([]int{api.EApp, api.ELet}[r.Intn(2)], part(), part())
	case 9:
		return proj("val.x", part())
	case 10:
		return inject("A", con(), part())
	case 11:
		return randomNamed(r, api.ERecord, 0, part)
	case 12:
		return randomNamed(r, api.ECase, 1, part)
	}
	switch r.Intn(3) {
	case 0:
		return prim([]int{api.PNeg, api.PSize, api.PShow, api.PPrint}[r.Intn(4)], part())
	case 1:
		return prim([]int{api.PAdd, api.PEqual, api.PConcat, api.PSame}[r.Intn(4)], part(), part())
	}
	return node(api.EUnroll, part())
}

func randomTerms(seed int64, n int) []api.Term {
	r := rand.New(rand.NewSource(seed))
	var l []api.Term
	for range n {
		l = append(l, randomTerm(r, 1+r.Intn(7)))
	}
	return l
}

func randomCons(seed int64, n int) []api.Con {
	r := rand.New(rand.NewSource(seed))
	var l []api.Con
	for range n {
		l = append(l, randomCon(r, 1+r.Intn(4)))
	}
	return l
}

// cloneKind, cloneCon and clone return what is equal with memory of its own, whatever its form.
func cloneKind(k api.Kind) api.Kind {
	var l []api.Kind
	for _, part := range k.L {
		l = append(l, cloneKind(part))
	}
	return api.Kind{L: l}
}

func cloneCon(c api.Con) api.Con {
	c.Kind, c.L, c.Names = cloneKind(c.Kind), eachOf(c.L, cloneCon), append([]string(nil), c.Names...)
	return c
}

func clone(t api.Term) api.Term {
	t.Con, t.To, t.Kind = cloneCon(t.Con), cloneCon(t.To), cloneKind(t.Kind)
	t.L, t.Names = eachOf(t.L, clone), append([]string(nil), t.Names...)
	return t
}

func eachOf[T any](l []T, f func(T) T) []T {
	var r []T
	for _, x := range l {
		r = append(r, f(x))
	}
	return r
}

// wrongCons returns small constructors that are not well-formed, and malformedCons also large ones, and such that are endless.
func wrongCons() []api.Con {
	return []api.Con{{}, cvar(-1), cvar(api.MaxNodes + 1), {Op: 14}, {Op: api.CInt, N: 1}, cconst("a", star()), carrow(cint(), api.Con{}), call(cvar(-1))}
}

func malformedCons() []api.Con {
	endless, wide := carrow(cint(), cint()), cint()
	endless.L[0], endless.L[1] = endless, endless
	for range 63 {
		wide = carrow(wide, wide)
	}
	return append(wrongCons(), endless, wide, calls(api.MaxDepth, cint()), conOf(api.MaxNodes+1, cint()))
}

// endless returns terms of shared memory with more nodes than could be gone through, and some that contain themselves.
func endless() []api.Term {
	shared := num(0)
	for range 63 {
		shared = app(shared, shared)
	}
	first, second, both, under := app(num(0), num(0)), app(num(0), num(0)), app(num(0), num(0)), lam(cint(), num(0))
	first.L[0], second.L[1], under.L[0] = first, second, under
	both.L[0], both.L[1] = both, both
	k := arrow(star(), star())
	k.L[1] = k
	return []api.Term{shared, first, second, both, under, tlam(star(), shared), unpack(num(0), both), record("a b", both, both), tlam(k, num(0))}
}

// malformed returns terms with a node that has none of the forms.
func malformed() []api.Term {
	k := arrow(star(), star())
	wrong := []api.Term{
		{}, {Op: -1}, {Op: 20}, v(-1), v(api.MaxNodes + 1), num(api.MaxNumber + 1), num(-api.MaxNumber - 1), text(strings.Repeat("x", api.MaxText+1)), fail(0, cint()), fail(1000001, cint()),
		{Op: api.EVar, S: "x"}, {Op: api.EInt, Con: cint()}, {Op: api.EText, To: cint()}, {Op: api.EVar, Kind: k}, {Op: api.EInt, L: make([]api.Term, 1)}, {Op: api.EVar, Names: []string{"a"}}, {Op: api.EText, Names: []string{""}},
		node(api.ELam, v(0)), node(api.EApp, v(0)), node(api.EApp, v(0), v(0), v(0)), node(api.ELet), node(api.EUnpack, v(0)), node(api.EUnroll), node(api.EUnroll, v(0), v(0)), {Op: api.ETLam}, {Op: api.ETLam, Con: cint(), L: []api.Term{v(0)}},
		tlam(api.Kind{L: make([]api.Kind, 1)}, v(0)), {Op: api.ELam, Con: cint(), Kind: k, L: []api.Term{v(0)}}, {Op: api.ELam, Con: cint(), To: cint(), L: []api.Term{v(0)}}, {Op: api.EApp, N: 1, L: []api.Term{v(0), v(0)}},
		{Op: api.EPack, Con: cint(), L: []api.Term{v(0)}}, {Op: api.EPack, To: cint(), L: []api.Term{v(0)}}, record("b a", v(0), v(0)), record("a a", v(0), v(0)), record("a"), record("", v(0)), {Op: api.ERecord, Names: []string{""}, L: []api.Term{v(0)}},
		cases("", v(0)), cases("A", v(0)), cases("A", v(0), v(0), v(0)), cases("B A", v(0), v(0), v(0)), {Op: api.ECase}, proj("", v(0)), proj("a b", v(0)), proj(strings.Repeat("x", 49), v(0)), inject("", cint(), v(0)), {Op: api.EInject, S: "A", L: []api.Term{v(0)}},
		prim(0, v(0), v(0)), prim(15, v(0), v(0)), prim(15, v(0)), prim(api.PAdd, v(0)), prim(api.PNeg, v(0), v(0)), prim(api.PPrint), {Op: api.EFail, N: 1}, {Op: api.EFail, N: 1, Con: cint(), L: []api.Term{v(0)}},
		{Op: api.ERecord, L: make([]api.Term, 1<<18)}, {Op: api.ERecord, Names: make([]string, 1<<18), L: make([]api.Term, 1<<18)},
	}
	for _, c := range malformedCons() {
		wrong = append(wrong, lam(c, v(0)), tapp(v(0), c), pack(c, cint(), v(0)), pack(cint(), c, v(0)), inject("A", c, v(0)), roll(c, v(0)), fix(c, v(0)), fail(1, c))
	}
	var l []api.Term
	for _, t := range wrong {
		l = append(l, t, lam(cint(), t), let(t, num(0)), let(num(0), t), tlams(20, cases("A B", num(0), num(0), unpack(v(0), t))))
	}
	return l
}

// tooLarge returns terms that exceed one limit each, by as little as possible.
func tooLarge() []api.Term {
	most := conOf(api.MaxNodes, cint())
	return []api.Term{
		lams(api.MaxDepth, num(0)), app(num(0), tlams(api.MaxDepth-1, num(0))), app(tlams(api.MaxDepth-1, num(0)), num(0)), let(num(0), unrolls(api.MaxDepth-1, num(0))), unrolls(api.MaxDepth-1, record("a", num(0))),
		balanced(api.MaxNodes+1, num(0)), wide(api.ERecord, api.MaxList+1, 0, num(0)), wide(api.ECase, api.MaxList+1, 1, num(0)), fail(1, most), lam(conOf(api.MaxNodes-1, cint()), num(0)), pack(conOf(9999, cint()), conOf(10000, cint()), num(0)),
		pack(cint(), most, num(0)), pack(most, cint(), num(0)), app(fail(1, conOf(10000, cint())), fail(1, conOf(9998, cint()))), app(balanced(10000, num(0)), fail(1, conOf(9999, cint()))),
	}
}

// invalid returns terms that are not well-formed, for all reasons.
func invalid() []api.Term { return slices.Concat(malformed(), endless(), tooLarge()) }

func expectTerm(t *testing.T, about any, x api.Term, e api.Errno, want api.Term) {
	t.Helper()
	if e != api.OK || !alike(x, want) {
		t.Fatalf("%v: %.2000s, %d; want %.2000s", about, written(x), e, written(want))
	}
}

// expectNone tests that there is an error, and the zero term with it.
func expectNone(t *testing.T, about any, x api.Term, e, want api.Errno) {
	t.Helper()
	if e != want || !isZero(x) {
		t.Fatalf("%v: %.2000s, %d; want %d", about, written(x), e, want)
	}
}

func isZero(t api.Term) bool { return alike(t, api.Term{}) }
