package normal

import (
	"fmt"
	"math/rand"
	"slices"
	"strconv"
	"strings"
	"testing"

	"pilaster/api"
)

// Kinds.

func star() api.Kind { return api.Kind{} }

func arrow(a, b api.Kind) api.Kind { return api.Kind{L: []api.Kind{a, b}} }

// one is the kind * -> *.
func one() api.Kind { return arrow(star(), star()) }

// chain returns the kind * -> * -> .. -> * of a depth.
func chain(depth int) api.Kind {
	k := star()
	for range depth - 1 {
		k = arrow(star(), k)
	}
	return k
}

func alikeKinds(a, b api.Kind) bool { return fmt.Sprint(a) == fmt.Sprint(b) }

func randomKind(r *rand.Rand, levels int) api.Kind {
	if levels == 0 || r.Intn(3) > 0 {
		return star()
	}
	return arrow(randomKind(r, levels-1), randomKind(r, levels-1))
}

// Constructors.

func v(n int) api.Con { return api.Con{Op: api.CVar, N: n} }

func num() api.Con { return api.Con{Op: api.CInt} }

func con(s string, k api.Kind) api.Con { return api.Con{Op: api.CConst, S: s, Kind: k} }

func pair(op int, a, b api.Con) api.Con { return api.Con{Op: op, L: []api.Con{a, b}} }

func app(f api.Con, l ...api.Con) api.Con {
	for _, a := range l {
		f = pair(api.CApp, f, a)
	}
	return f
}

func to(a, b api.Con) api.Con { return pair(api.CArrow, a, b) }

func binder(op int, k api.Kind, c api.Con) api.Con { return api.Con{Op: op, Kind: k, L: []api.Con{c}} }

func lam(k api.Kind, c api.Con) api.Con { return binder(api.CLam, k, c) }

func mu(k api.Kind, c api.Con) api.Con { return binder(api.CMu, k, c) }

func fields(op int, names string, l ...api.Con) api.Con {
	return api.Con{Op: op, Names: strings.Fields(names), L: l}
}

// id is the function that returns its argument.
func id() api.Con { return lam(star(), v(0)) }

// wide returns a record of so many fields, all of them c.
func wide(n int, c api.Con) api.Con {
	r := api.Con{Op: api.CRecord, L: slices.Repeat([]api.Con{c}, n)}
	for i := range n {
		r.Names = append(r.Names, "l"+strconv.Itoa(1<<20+i))
	}
	return r
}

// nested returns f applied to f applied to .. c, n times.
func nested(n int, f, c api.Con) api.Con {
	for range n {
		c = app(f, c)
	}
	return c
}

// lams puts functions of types around c.
func lams(n int, c api.Con) api.Con {
	for range n {
		c = lam(star(), c)
	}
	return c
}

// deep returns c, the result of a function of n arguments: so it is n levels deeper.
func deep(n int, c api.Con) api.Con {
	for range n {
		c = to(num(), c)
	}
	return c
}

// balanced returns a constructor of small depth without binders with n nodes, if those of c at all ends count as one.
func balanced(n int, c api.Con) api.Con {
	switch n {
	case 1:
		return c
	case 2:
		return fields(api.CRecord, "a", c)
	}
	return to(balanced(n/2, c), balanced(n-1-n/2, c))
}

// read returns the constructor with a text that is known to have one.
func read(t *testing.T, s string) api.Con {
	t.Helper()
	c, e := Parse(s)
	if e != api.OK {
		t.Fatal(s, e)
	}
	return c
}

// alike compares constructors of any form in all fields, nil and empty lists being the same.
func alike(a, b api.Con) bool { return fmt.Sprint(a) == fmt.Sprint(b) }

func isZero(c api.Con) bool { return alike(c, api.Con{}) }

// cloneKind and clone return what is equal with memory of its own.
func cloneKind(k api.Kind) api.Kind {
	var l []api.Kind
	for _, part := range k.L {
		l = append(l, cloneKind(part))
	}
	return api.Kind{L: l}
}

func clone(c api.Con) api.Con {
	var l []api.Con
	for _, part := range c.L {
		l = append(l, clone(part))
	}
	c.Kind, c.L, c.Names = cloneKind(c.Kind), l, append([]string(nil), c.Names...)
	return c
}

// lambdas returns all constructors of at most n nodes that are made of variables, functions, and applications.
func lambdas(n int) []api.Con {
	return combined(n, []api.Con{v(0), v(1)}, func(c api.Con) []api.Con {
		return []api.Con{lam(star(), c)}
	}, func(a, b api.Con) []api.Con {
		return []api.Con{app(a, b)}
	})
}

// smallCons returns all constructors of at most n nodes of all forms, with some indices, names, and kinds.
func smallCons(n int) []api.Con {
	leaves := []api.Con{v(0), v(1), num(), {Op: api.CText}, {Op: api.CMeta, N: 7}, con("A.0", star()), con("B.12", one()), fields(api.CRecord, ""), fields(api.CSum, "")}
	return combined(n, leaves, func(c api.Con) []api.Con {
		l := []api.Con{lam(one(), c), fields(api.CRecord, "a", c), fields(api.CSum, "A", c)}
		for _, op := range []int{api.CAll, api.CSome, api.CLam, api.CMu} {
			l = append(l, binder(op, star(), c))
		}
		return l
	}, func(a, b api.Con) []api.Con {
		return []api.Con{app(a, b), to(a, b), fields(api.CRecord, "1 2", a, b), fields(api.CSum, "con.A val.x", a, b)}
	})
}

// combined returns what is made of leaves by nodes with one part and with two parts, and has at most n nodes.
func combined(n int, leaves []api.Con, around func(api.Con) []api.Con, both func(a, b api.Con) []api.Con) []api.Con {
	l := [][]api.Con{nil, leaves}
	for size := 2; size <= n; size++ {
		var now []api.Con
		for _, c := range l[size-1] {
			now = append(now, around(c)...)
		}
		for first := 1; first < size-1; first++ {
			for _, a := range l[first] {
				for _, b := range l[size-1-first] {
					now = append(now, both(a, b)...)
				}
			}
		}
		l = append(l, now)
	}
	return slices.Concat(l...)
}

// constOf returns the constant of a kind: its name tells which one, so that no name has two kinds.
func constOf(k api.Kind) api.Con {
	n := 1
	var add func(k api.Kind)
	add = func(k api.Kind) {
		n = 2*n + len(k.L)/2
		for _, part := range k.L {
			add(part)
		}
	}
	add(k)
	return con("K."+strconv.Itoa(n), k)
}

// randomCon returns any constructor: most of them have no kind, and many have steps.
func randomCon(r *rand.Rand, levels int) api.Con {
	if levels <= 1 {
		return []api.Con{v(r.Intn(5)), v(r.Intn(2)), v(0), num(), {Op: api.CText}, {Op: api.CMeta, N: r.Intn(9)}, constOf(randomKind(r, 2))}[r.Intn(7)]
	}
	part := func() api.Con { return randomCon(r, levels-1-r.Intn(2)) }
	switch r.Intn(10) {
	case 0:
		return to(part(), part())
	case 1, 2, 3:
		return app(part(), part())
	case 4:
		return app(lam(star(), part()), part())
	case 5:
		return fields(api.CRecord+r.Intn(2), "")
	case 6:
		return fields(api.CRecord+r.Intn(2), "A B val.x", part(), part(), part())
	case 7:
		return lam(randomKind(r, 1), app(part(), v(0)))
	}
	return binder([]int{api.CAll, api.CSome, api.CLam, api.CLam, api.CMu}[r.Intn(5)], randomKind(r, 2), part())
}

func randomCons(seed int64, n int) []api.Con {
	r := rand.New(rand.NewSource(seed))
	var l []api.Con
	for range n {
		l = append(l, randomCon(r, 1+r.Intn(7)))
	}
	return l
}

// A sample is a constructor with a kind, and its scope.
type sample struct {
	g []api.Kind
	c api.Con
	k api.Kind
}

func randomScope(r *rand.Rand) []api.Kind {
	var g []api.Kind
	for range r.Intn(5) {
		g = append(g, randomKind(r, 2))
	}
	return g
}

// randomSamples returns constructors with kinds, most of which have steps.
func randomSamples(seed int64, n int) []sample {
	r := rand.New(rand.NewSource(seed))
	var l []sample
	for range n {
		g, k := randomScope(r), randomKind(r, 2)
		l = append(l, sample{g, wellKinded(r, g, k, 1+r.Intn(9)), k})
	}
	return l
}

// wellKinded returns a constructor of the kind k in the scope g.
func wellKinded(r *rand.Rand, g []api.Kind, k api.Kind, levels int) api.Con {
	if levels <= 1 {
		return leafOfKind(r, g, k)
	}
	part := func(k api.Kind) api.Con { return wellKinded(r, g, k, levels-1-r.Intn(2)) }
	under := func(bound, k api.Kind) api.Con {
		return wellKinded(r, append(slices.Clone(g), bound), k, levels-1-r.Intn(2))
	}
	switch n := r.Intn(12); {
	case n == 0:
		return leafOfKind(r, g, k)
	case n == 1:
		return mu(k, under(k, k))
	case n <= 4:
		a := randomKind(r, 2)
		return app(lam(a, under(a, k)), part(a))
	case n <= 6 || n <= 8 && len(k.L) == 0:
		a := randomKind(r, 2)
		return app(part(arrow(a, k)), part(a))
	case len(k.L) > 0:
		return lam(k.L[0], under(k.L[0], k.L[1]))
	case n == 9:
		return to(part(k), part(k))
	case n == 10:
		return fields(api.CRecord+r.Intn(2), "A B a", part(k), part(k), part(k))
	}
	bound := randomKind(r, 2)
	return binder(api.CAll+r.Intn(2), bound, under(bound, k))
}

// leafOfKind prefers variables, as steps are about them.
func leafOfKind(r *rand.Rand, g []api.Kind, k api.Kind) api.Con {
	var l []int
	for i := range g {
		if alikeKinds(g[len(g)-1-i], k) {
			l = append(l, i)
		}
	}
	if len(l) > 0 && r.Intn(5) > 0 {
		return v(l[r.Intn(len(l))])
	}
	if len(k.L) == 0 && r.Intn(2) > 0 {
		return api.Con{Op: api.CInt + r.Intn(2)}
	}
	return constOf(k)
}

// invalid returns constructors that are not well-formed: malformed ones, too large ones, and some that could not be gone through.
func invalid() []api.Con {
	shared, endless := num(), app(id(), id())
	for range 63 {
		shared = app(shared, shared)
	}
	endless.L[0] = endless
	k := arrow(star(), star())
	k.L[1] = k
	l := []api.Con{shared, endless, lam(star(), endless), lam(k, num()), con("A.0", k), lams(api.MaxDepth, num()), nested(api.MaxDepth, id(), num()), balanced(api.MaxNodes+1, num()), wide(api.MaxList+1, num()), lam(star(), v(api.MaxNodes+1))}
	for _, wrong := range []api.Con{
		{}, {Op: -1}, {Op: 14}, v(-1), {Op: api.CMeta, N: -1}, {Op: api.CInt, N: 1}, {Op: api.CText, S: "x"}, con("A", star()), con("a.0", star()), con("A.0", api.Kind{L: make([]api.Kind, 1)}), fields(api.CRecord, "b a", num(), num()), fields(api.CSum, "a a", num(), num()),
		fields(api.CRecord, "a"), fields(api.CSum, "", num()), {Op: api.CApp, L: []api.Con{id()}}, {Op: api.CApp}, {Op: api.CArrow}, {Op: api.CLam}, {Op: api.CLam, L: []api.Con{num(), num()}}, {Op: api.CMu, Kind: api.Kind{L: make([]api.Kind, 3)}, L: []api.Con{num()}}, {Op: api.CVar, L: []api.Con{num()}}, {Op: api.CInt, Kind: one()},
	} {
		l = append(l, wrong, lam(star(), wrong), app(wrong, num()), app(id(), wrong), app(lam(star(), num()), wrong), app(lam(star(), wrong), num()), lam(star(), app(wrong, v(0))))
	}
	return l
}

// brief shows the beginning of anything.
func brief(x any) string {
	if c, isCon := x.(api.Con); isCon && c.Op > 0 {
		x = wantText(c)
	}
	return fmt.Sprintf("%.300s", fmt.Sprint(x))
}

func expectCon(t *testing.T, about any, c api.Con, e api.Errno, want api.Con) {
	t.Helper()
	if e != api.OK || !alike(c, want) {
		t.Fatalf("%s: %s, %d; want %s", brief(about), brief(c), e, brief(want))
	}
}

// expectNone tests that there is an error, and the zero constructor with it.
func expectNone(t *testing.T, about any, c api.Con, e, want api.Errno) {
	t.Helper()
	if e != want || !isZero(c) {
		t.Fatalf("%s: %s, %d; want %d", brief(about), brief(c), e, want)
	}
}
