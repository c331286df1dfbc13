package kinding

import (
	"math/rand"
	"slices"
	"strconv"
	"strings"
	"testing"

	"pilaster/api"
)

// Kinds.

func star() api.Kind { return api.Kind{} }

func arrow(a, b api.Kind) api.Kind { return api.Kind{L: []api.Kind{a, b}} }

// one is the kind * -> *.
func one() api.Kind { return arrow(star(), star()) }

// chain returns the kind * -> * -> .. -> * of a depth.
func chain(depth int) api.Kind {
	k := star()
	for range depth - 1 {
		k = arrow(star(), k)
	}
	return k
}

// balanced returns a kind of small depth with so many arrows, and so with 2 n + 1 nodes.
func balanced(n int) api.Kind {
	if n == 0 {
		return star()
	}
	return arrow(balanced((n-1)/2), balanced(n-1-(n-1)/2))
}

// smallKinds returns all kinds with at most n arrows.
func smallKinds(n int) []api.Kind {
	l := [][]api.Kind{{star()}}
	for size := 1; size <= n; size++ {
		var now []api.Kind
		for first := range size {
			for _, a := range l[first] {
				for _, b := range l[size-1-first] {
					now = append(now, arrow(a, b))
				}
			}
		}
		l = append(l, now)
	}
	return slices.Concat(l...)
}

// Constructors.

func v(n int) api.Con { return api.Con{Op: api.CVar, N: n} }

func num() api.Con { return api.Con{Op: api.CInt} }

func con(s string, k api.Kind) api.Con { return api.Con{Op: api.CConst, S: s, Kind: k} }

func pair(op int, a, b api.Con) api.Con { return api.Con{Op: op, L: []api.Con{a, b}} }

func app(f, a api.Con) api.Con { return pair(api.CApp, f, a) }

func to(a, b api.Con) api.Con { return pair(api.CArrow, a, b) }

func binder(op int, k api.Kind, c api.Con) api.Con { return api.Con{Op: op, Kind: k, L: []api.Con{c}} }

func lam(k api.Kind, c api.Con) api.Con { return binder(api.CLam, k, c) }

func mu(k api.Kind, c api.Con) api.Con { return binder(api.CMu, k, c) }

func fields(op int, names string, l ...api.Con) api.Con {
	return api.Con{Op: op, Names: strings.Fields(names), L: l}
}

// lams puts functions of types around c.
func lams(n int, c api.Con) api.Con {
	for range n {
		c = lam(star(), c)
	}
	return c
}

// wide returns a record of so many fields, all of them c.
func wide(n int, c api.Con) api.Con {
	r := api.Con{Op: api.CRecord, L: slices.Repeat([]api.Con{c}, n)}
	for i := range n {
		r.Names = append(r.Names, "l"+strconv.Itoa(1<<20+i))
	}
	return r
}

// constOf returns the constant of a kind: its name tells which one, so that no name has two kinds.
func constOf(k api.Kind) api.Con {
	bits := strings.NewReplacer("*", "0", ">", "1").Replace(code(k))
	n, _ := strconv.ParseInt("1"+bits, 2, 0)
	return con("K."+strconv.FormatInt(n, 10), k)
}

// smallCons returns all constructors of at most n nodes of all forms, with some indices and kinds.
func smallCons(n int) []api.Con {
	l := [][]api.Con{nil, {v(0), v(1), v(2), con("A.0", star()), con("B.1", one()), num(), fields(api.CRecord, "")}}
	for size := 2; size <= n; size++ {
		var now []api.Con
		for _, c := range l[size-1] {
			now = append(now, fields(api.CSum, "A", c))
			for _, k := range []api.Kind{star(), one()} {
				now = append(now, binder(api.CAll, k, c), binder(api.CSome, k, c), lam(k, c), mu(k, c))
			}
		}
		for first := 1; first < size-1; first++ {
			for _, a := range l[first] {
				for _, b := range l[size-1-first] {
					now = append(now, app(a, b), to(a, b), fields(api.CRecord, "a b", a, b))
				}
			}
		}
		l = append(l, now)
	}
	return slices.Concat(l...)
}

// scopes returns some scopes, in which variables of the same index have different kinds.
func scopes() [][]api.Kind {
	return [][]api.Kind{nil, {star()}, {one()}, {star(), one()}, {one(), star()}, {arrow(one(), star()), star(), one()}, {star(), arrow(one(), one()), chain(3)}}
}

func randomKind(r *rand.Rand, levels int) api.Kind {
	if levels == 0 || r.Intn(3) > 0 {
		return star()
	}
	return arrow(randomKind(r, levels-1), randomKind(r, levels-1))
}

func randomScope(r *rand.Rand) []api.Kind {
	var g []api.Kind
	for range r.Intn(6) {
		g = append(g, randomKind(r, 2))
	}
	return g
}

// randomCon returns any constructor: most of them have no kind.
func randomCon(r *rand.Rand, levels int) api.Con {
	if levels <= 1 {
		return []api.Con{v(r.Intn(6)), v(r.Intn(3)), num(), {Op: api.CText}, {Op: api.CMeta, N: r.Intn(9)}, constOf(randomKind(r, 2))}[r.Intn(6)]
	}
	part := func() api.Con { return randomCon(r, levels-1-r.Intn(2)) }
	switch r.Intn(8) {
	case 0:
		return to(part(), part())
	case 1:
		return app(part(), part())
	case 2:
		return fields(api.CRecord, "1 2 con.A", part(), part(), part())
	case 3:
		return fields(api.CSum, "A B", part(), part())
	}
	return binder([]int{api.CAll, api.CSome, api.CLam, api.CMu}[r.Intn(4)], randomKind(r, 2), part())
}

// wellKinded returns a constructor of the kind k in the scope g.
func wellKinded(r *rand.Rand, g []api.Kind, k api.Kind, levels int) api.Con {
	if levels <= 1 {
		return leafOfKind(r, g, k)
	}
	part := func(k api.Kind) api.Con { return wellKinded(r, g, k, levels-1-r.Intn(2)) }
	under := func(bound, k api.Kind) api.Con {
		return wellKinded(r, append(slices.Clone(g), bound), k, levels-1-r.Intn(2))
	}
	switch n := r.Intn(10); {
	case n == 0:
		return leafOfKind(r, g, k)
	case n == 1:
		return mu(k, under(k, k))
	case n <= 4 || n <= 6 && len(k.L) == 0:
		a := randomKind(r, 2)
		return app(part(arrow(a, k)), part(a))
	case len(k.L) > 0:
		return lam(k.L[0], under(k.L[0], k.L[1]))
	case n == 7:
		return to(part(k), part(k))
	case n == 8:
		return fields(api.CRecord+r.Intn(2), "A B a", part(k), part(k), part(k))
	}
	bound := randomKind(r, 2)
	return binder(api.CAll+r.Intn(2), bound, under(bound, k))
}

// leafOfKind prefers variables, as those are what scopes are for.
func leafOfKind(r *rand.Rand, g []api.Kind, k api.Kind) api.Con {
	var l []int
	for i := range g {
		if code(g[len(g)-1-i]) == code(k) {
			l = append(l, i)
		}
	}
	if len(l) > 0 && r.Intn(5) > 0 {
		return v(l[r.Intn(len(l))])
	}
	if len(k.L) == 0 && r.Intn(2) > 0 {
		return api.Con{Op: api.CInt + r.Intn(2)}
	}
	return constOf(k)
}

// A sample is a constructor with its scope.
type sample struct {
	g []api.Kind
	c api.Con
}

// randomSamples returns samples of all sorts: half of them have a kind, and some more have but one fault.
func randomSamples(seed int64, n int) []sample {
	r := rand.New(rand.NewSource(seed))
	var l []sample
	for i := range n {
		g := randomScope(r)
		s := sample{g, randomCon(r, 1+r.Intn(6))}
		if i%4 > 0 {
			s.c = wellKinded(r, g, randomKind(r, 2), 1+r.Intn(8))
		}
		if i%4 == 3 {
			spoil(r, &s.c)
		}
		l = append(l, s)
	}
	return l
}

// spoil puts something else at a random place.
func spoil(r *rand.Rand, c *api.Con) {
	for len(c.L) > 0 && r.Intn(4) > 0 {
		c = &c.L[r.Intn(len(c.L))]
	}
	*c = randomCon(r, 1+r.Intn(2))
}

// cloneKind, cloneKinds, and clone return what is equal with memory of its own.
func cloneKind(k api.Kind) api.Kind { return api.Kind{L: cloneKinds(k.L)} }

func cloneKinds(l []api.Kind) []api.Kind {
	var copies []api.Kind
	for _, k := range l {
		copies = append(copies, cloneKind(k))
	}
	return copies
}

func clone(c api.Con) api.Con {
	var l []api.Con
	for _, part := range c.L {
		l = append(l, clone(part))
	}
	c.Kind, c.L, c.Names = cloneKind(c.Kind), l, append([]string(nil), c.Names...)
	return c
}

// invalidKinds returns kinds that are not valid: malformed ones, too large ones, and some that could not be gone through.
func invalidKinds() []api.Kind {
	shared, endless := star(), one()
	for range 63 {
		shared = arrow(shared, shared)
	}
	endless.L[1] = endless
	return []api.Kind{
		{L: make([]api.Kind, 1)}, {L: make([]api.Kind, 3)}, arrow(star(), api.Kind{L: make([]api.Kind, 1)}), arrow(api.Kind{L: make([]api.Kind, 4)}, star()),
		chain(api.MaxDepth + 1), balanced(api.MaxNodes / 2), shared, endless, {L: make([]api.Kind, 1<<20)},
	}
}

// invalidCons returns constructors that are not well-formed.
func invalidCons() []api.Con {
	shared, endless := num(), to(num(), num())
	for range 63 {
		shared = to(shared, shared)
	}
	endless.L[0] = endless
	l := []api.Con{shared, endless, lam(star(), endless), lams(api.MaxDepth, num()), wide(api.MaxList+1, num()), {Op: api.CRecord, Names: []string{"b", "a"}, L: make([]api.Con, 2)}}
	for _, wrong := range []api.Con{
		{}, {Op: -1}, {Op: 14}, v(-1), v(api.MaxNodes + 1), {Op: api.CInt, N: 1}, {Op: api.CText, S: "x"}, con("A", star()), {Op: api.CApp, L: make([]api.Con, 1)}, {Op: api.CArrow}, {Op: api.CLam}, {Op: api.CAll, L: make([]api.Con, 2)},
		{Op: api.CSum, Names: []string{"A"}}, {Op: api.CVar, Kind: one()}, {Op: api.CMu, Kind: api.Kind{L: make([]api.Kind, 1)}, L: []api.Con{num()}}, con("A.0", api.Kind{L: make([]api.Kind, 3)}), {Op: api.CInt, L: []api.Con{num()}},
	} {
		l = append(l, wrong, app(num(), wrong), to(wrong, v(9)), lam(one(), wrong))
	}
	for _, k := range invalidKinds() {
		l = append(l, lam(k, num()), con("A.0", k), binder(api.CAll, k, num()))
	}
	return l
}

// invalidScopes returns scopes that are too long, or contain a kind that is not valid.
func invalidScopes() [][]api.Kind {
	l := [][]api.Kind{make([]api.Kind, api.MaxList+1), make([]api.Kind, 1<<20)}
	for _, k := range invalidKinds() {
		l = append(l, []api.Kind{k}, []api.Kind{star(), k, one()}, append(make([]api.Kind, api.MaxList-1), k))
	}
	return l
}

// expectKind tests that c has the kind k by all functions.
func expectKind(t *testing.T, about any, g []api.Kind, c api.Con, k api.Kind) {
	t.Helper()
	if found, e := Of(g, c); e != api.OK || code(found) != code(k) {
		t.Fatal(about, "has the kind", code(found), e, "not", code(k))
	}
	if e := Check(g, c, k); e != api.OK {
		t.Fatal(about, "Check", e)
	}
	if Type(g, c) != (len(k.L) == 0) {
		t.Fatal(about, "Type", Type(g, c))
	}
	if at, e := Where(g, c); e != api.ErrNone || len(at) > 0 {
		t.Fatal(about, "Where", at, e)
	}
}

// expectFault tests that c has the fault e at a place by all functions.
func expectFault(t *testing.T, about any, g []api.Kind, c api.Con, e api.Errno, place []int) {
	t.Helper()
	if k, found := Of(g, c); found != e || len(k.L) > 0 {
		t.Fatal(about, "has the fault", found, code(k), "not", e)
	}
	for _, k := range []api.Kind{star(), one()} {
		if found := Check(g, c, k); found != e {
			t.Fatal(about, "Check", found)
		}
	}
	if Type(g, c) {
		t.Fatal(about, "is a type")
	}
	if at, found := Where(g, c); found != api.OK || !slices.Equal(at, place) {
		t.Fatal(about, "Where", at, found, "not", place)
	}
}

// expectInvalid tests that a scope, or a constructor, is refused by all functions.
func expectInvalid(t *testing.T, about any, g []api.Kind, c api.Con) {
	t.Helper()
	if k, e := Of(g, c); e != api.ErrArg || len(k.L) > 0 {
		t.Fatal(about, "Of", e)
	}
	if e := Check(g, c, star()); e != api.ErrArg {
		t.Fatal(about, "Check", e)
	}
	if Type(g, c) {
		t.Fatal(about, "Type")
	}
	if at, e := Where(g, c); e != api.ErrArg || len(at) > 0 {
		t.Fatal(about, "Where", at, e)
	}
}
