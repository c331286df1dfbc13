package tycon

import (
	"math/rand"
	"slices"
	"strconv"
	"strings"
	"testing"

	"pilaster/api"
)

// Constructors of all kinds.

func v(n int) api.Con { return api.Con{Op: api.CVar, N: n} }

func meta(n int) api.Con { return api.Con{Op: api.CMeta, N: n} }

func num() api.Con { return api.Con{Op: api.CInt} }

func con(s string, k api.Kind) api.Con { return api.Con{Op: api.CConst, S: s, Kind: k} }

func pair(op int, a, b api.Con) api.Con { return api.Con{Op: op, L: []api.Con{a, b}} }

func app(f, a api.Con) api.Con { return pair(api.CApp, f, a) }

func binder(op int, k api.Kind, c api.Con) api.Con { return api.Con{Op: op, Kind: k, L: []api.Con{c}} }

func lam(c api.Con) api.Con { return binder(api.CLam, api.Kind{}, c) }

func fields(op int, names string, l ...api.Con) api.Con {
	return api.Con{Op: op, Names: strings.Fields(names), L: l}
}

// star and arrow are kinds.
func star() api.Kind { return api.Kind{} }

func arrow(a, b api.Kind) api.Kind { return api.Kind{L: []api.Kind{a, b}} }

// lams puts binders around c.
func lams(n int, c api.Con) api.Con {
	for range n {
		c = lam(c)
	}
	return c
}

// balanced returns a constructor of small depth without binders with n nodes, if those of c at all ends count as one.
func balanced(n int, c api.Con) api.Con {
	switch n {
	case 1:
		return c
	case 2:
		return fields(api.CRecord, "a", c)
	}
	return pair(api.CArrow, balanced(n/2, c), balanced(n-1-n/2, c))
}

// manyLabels returns labels that ascend.
func manyLabels(n int) []string {
	var l []string
	for i := range n {
		l = append(l, "l"+strconv.Itoa(1<<20+i))
	}
	return l
}

// wide returns a record of so many fields, all of them c.
func wide(n int, c api.Con) api.Con {
	return api.Con{Op: api.CRecord, Names: manyLabels(n), L: slices.Repeat([]api.Con{c}, n)}
}

// smallCons returns all constructors of at most n nodes of some kinds.
func smallCons(n int) []api.Con {
	l := [][]api.Con{nil, {v(0), v(1), v(2), con("A.0", star()), con("B.1", star()), num()}}
	for size := 2; size <= n; size++ {
		var now []api.Con
		for _, c := range l[size-1] {
			now = append(now, lam(c), binder(api.CSome, arrow(star(), star()), c), fields(api.CRecord, "a", c))
		}
		for first := 1; first < size-1; first++ {
			for _, a := range l[first] {
				for _, b := range l[size-1-first] {
					now = append(now, app(a, b), fields(api.CSum, "A B", a, b))
				}
			}
		}
		l = append(l, now)
	}
	return slices.Concat(l...)
}

func randomKind(r *rand.Rand, levels int) api.Kind {
	if levels == 0 || r.Intn(3) > 0 {
		return star()
	}
	return arrow(randomKind(r, levels-1), randomKind(r, levels-1))
}

// constName returns one of few names of constants.
func constName(r *rand.Rand) string {
	return []string{"A.0", "A.1", "A.10", "A.2", "B.0", "Zz_9.7"}[r.Intn(6)]
}

// randomLeaf returns a node without parts. The kind of a constant depends on its name.
func randomLeaf(r *rand.Rand) api.Con {
	switch r.Intn(8) {
	case 0:
		return num()
	case 1:
		return api.Con{Op: api.CText}
	case 2:
		return meta(r.Intn(3))
	case 3, 4:
		s := constName(r)
		if s[0] == 'A' {
			return con(s, star())
		}
		return con(s, arrow(star(), star()))
	}
	return v(r.Intn(7))
}

func randomCon(r *rand.Rand, levels int) api.Con {
	if levels <= 1 {
		return randomLeaf(r)
	}
	part := func() api.Con { return randomCon(r, levels-1) }
	switch r.Intn(9) {
	case 0:
		return randomLeaf(r)
	case 1, 2:
		return pair(api.CArrow, part(), part())
	case 3, 4:
		return app(part(), part())
	case 5:
		l := []string{"1", "2", "X", "con.A", "val.x"}[r.Intn(3):]
		l = l[:r.Intn(3)]
		c := api.Con{Op: api.CRecord + r.Intn(2), Names: slices.Clone(l)}
		for range l {
			c.L = append(c.L, part())
		}
		return c
	}
	op := []int{api.CAll, api.CSome, api.CLam, api.CMu}[r.Intn(4)]
	return binder(op, randomKind(r, 2), part())
}

func randomCons(seed int64, n int) []api.Con {
	r := rand.New(rand.NewSource(seed))
	var l []api.Con
	for range n {
		l = append(l, randomCon(r, 1+r.Intn(7)))
	}
	return l
}

// cloneKind and clone return what is equal with memory of its own, whatever its form.
func cloneKind(k api.Kind) api.Kind {
	var l []api.Kind
	for _, part := range k.L {
		l = append(l, cloneKind(part))
	}
	return api.Kind{L: l}
}

func clone(c api.Con) api.Con {
	var l []api.Con
	for _, part := range c.L {
		l = append(l, clone(part))
	}
	c.Kind, c.L, c.Names = cloneKind(c.Kind), l, append([]string(nil), c.Names...)
	return c
}

func cloneAll(l []api.Con) []api.Con {
	var copies []api.Con
	for _, c := range l {
		copies = append(copies, clone(c))
	}
	return copies
}

// endless returns constructors of shared memory with more nodes than could be gone through, and some that contain themselves.
func endless() []api.Con {
	shared := num()
	for range 63 {
		shared = app(shared, shared)
	}
	first, second, both, under := app(num(), num()), app(num(), num()), app(num(), num()), lam(num())
	first.L[0], second.L[1], under.L[0] = first, second, under
	both.L[0], both.L[1] = both, both
	k := arrow(star(), star())
	k.L[1] = k
	return []api.Con{shared, first, second, both, under, lam(shared), lam(both), fields(api.CRecord, "a b", both, both), binder(api.CLam, k, num()), con("A.0", k)}
}

// malformed returns constructors with a node that has none of the forms.
func malformed() []api.Con {
	var l []api.Con
	for _, wrong := range []api.Con{
		{}, {Op: -1}, {Op: 14}, v(-1), v(api.MaxNodes + 1), meta(-1), {Op: api.CInt, N: 1}, {Op: api.CText, S: "x"}, con("A", star()), con("a.0", star()), con("A.0", api.Kind{L: make([]api.Kind, 1)}),
		fields(api.CRecord, "b a", num(), num()), fields(api.CSum, "a a", num(), num()), fields(api.CRecord, "a"), fields(api.CSum, "", num()), {Op: api.CApp, L: make([]api.Con, 1)}, {Op: api.CArrow},
		{Op: api.CLam}, {Op: api.CMu, Kind: api.Kind{L: make([]api.Kind, 3)}, L: []api.Con{num()}}, {Op: api.CRecord, L: make([]api.Con, 1<<20)}, {Op: api.CRecord, Names: make([]string, 1<<20), L: make([]api.Con, 1<<20)},
		{Op: api.CVar, L: []api.Con{num()}}, {Op: api.CInt, Names: []string{"a"}, L: []api.Con{num()}}, {Op: api.CVar, Kind: arrow(star(), star())},
	} {
		l = append(l, wrong, lam(wrong), app(wrong, num()), app(num(), wrong), lams(20, fields(api.CSum, "A B", num(), lam(wrong))))
	}
	return l
}

// tooLarge returns constructors that exceed one limit each, by as little as possible.
func tooLarge() []api.Con {
	return []api.Con{
		lams(api.MaxDepth, num()), app(num(), lams(api.MaxDepth-1, num())), app(lams(api.MaxDepth-1, num()), num()),
		balanced(api.MaxNodes+1, num()), wide(api.MaxList+1, num()), lam(v(api.MaxNodes + 1)),
	}
}

// invalid returns constructors that are not well-formed, for all reasons.
func invalid() []api.Con { return slices.Concat(malformed(), endless(), tooLarge()) }

func expectCon(t *testing.T, about any, c api.Con, e api.Errno, want api.Con) {
	t.Helper()
	if e != api.OK || !alike(c, want) {
		t.Fatalf("%v: %v, %d; want %v", about, c, e, want)
	}
}

// expectNone tests that there is an error, and the zero constructor with it.
func expectNone(t *testing.T, about any, c api.Con, e, want api.Errno) {
	t.Helper()
	if e != want || !isZero(c) {
		t.Fatalf("%v: %v, %d; want %d", about, c, e, want)
	}
}

func isZero(c api.Con) bool { return alike(c, api.Con{}) }
