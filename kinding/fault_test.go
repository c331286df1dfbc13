package kinding

import (
	"math/rand"
	"slices"
	"testing"

	"pilaster/api"
)

// P10.1, P10.3: the first fault, and its place.

func TestFirstFault(t *testing.T) {
	f := lam(star(), v(0))
	name, kind := v(9), app(num(), num())
	large := lam(chain(api.MaxDepth), num())
	for i, c := range []struct {
		c  api.Con
		e  api.Errno
		at []int
	}{
		{to(num(), name), api.ErrName, []int{1}},
		{to(name, kind), api.ErrName, []int{0}}, {to(kind, name), api.ErrKind, []int{0}}, {to(num(), kind), api.ErrKind, []int{1}}, {to(large, name), api.ErrBig, []int{0}}, {to(name, large), api.ErrName, []int{0}},
		// A part that has another kind than it should is no fault of its own: those after it come first.
		{to(f, name), api.ErrName, []int{1}}, {to(f, kind), api.ErrKind, []int{1}}, {to(f, large), api.ErrBig, []int{1}}, {to(f, f), api.ErrKind, nil}, {app(num(), name), api.ErrName, []int{1}}, {app(f, name), api.ErrName, []int{1}}, {app(name, name), api.ErrName, []int{0}},
		{fields(api.CRecord, "a b c d", f, num(), name, kind), api.ErrName, []int{2}}, {fields(api.CSum, "a b c d", f, num(), kind, name), api.ErrKind, []int{2}}, {fields(api.CSum, "a b", f, large), api.ErrBig, []int{1}},
		// The parts come before the node.
		{lam(chain(api.MaxDepth), name), api.ErrName, []int{0}}, {lam(chain(api.MaxDepth), kind), api.ErrKind, []int{0}}, {mu(one(), kind), api.ErrKind, []int{0}}, {mu(one(), num()), api.ErrKind, nil}, {mu(one(), to(num(), num())), api.ErrKind, nil}, {mu(star(), f), api.ErrKind, nil},
		{binder(api.CAll, star(), f), api.ErrKind, nil}, {binder(api.CSome, star(), to(f, num())), api.ErrKind, []int{0}}, {binder(api.CSome, star(), large), api.ErrBig, []int{0}}, {large, api.ErrBig, nil}, {kind, api.ErrKind, nil}, {name, api.ErrName, nil},
		{to(to(num(), num()), to(to(num(), app(f, f)), name)), api.ErrKind, []int{1, 0, 1}}, {app(app(app(f, num()), num()), name), api.ErrKind, []int{0}},
	} {
		expectFault(t, i, nil, c.c, c.e, c.at)
		expectFault(t, i, []api.Kind{star(), one(), star()}, lam(star(), lam(one(), c.c)), c.e, append([]int{0, 0}, c.at...))
	}
}

// Two faults: the first one is found, wherever they are.
func TestTwoFaults(t *testing.T) {
	tree := func(at, also int) api.Con {
		l := slices.Repeat([]api.Con{num()}, 8)
		l[also], l[at] = app(num(), num()), v(7)
		quarter := func(i int) api.Con { return to(l[i], l[i+1]) }
		return fields(api.CRecord, "a b", fields(api.CSum, "a b", quarter(0), quarter(2)), binder(api.CAll, one(), fields(api.CSum, "a b", quarter(4), quarter(6))))
	}
	for at := range 8 {
		for also := range 8 {
			e, first := api.ErrName, at
			if also < at {
				e, first = api.ErrKind, also
			}
			place := []int{first / 4, first / 2 % 2, first % 2}
			if first >= 4 {
				place = slices.Insert(place, 1, 0)
			}
			expectFault(t, at*10+also, nil, tree(at, also), e, place)
		}
	}
}

// Places are as long as a constructor is deep, and as wide as a node is.
func TestPlaces(t *testing.T) {
	deep := lams(api.MaxDepth-1, v(api.MaxDepth-1))
	expectFault(t, "deep", nil, deep, api.ErrName, make([]int, api.MaxDepth-1))
	expectKind(t, "deep", []api.Kind{star()}, deep, chain(api.MaxDepth))
	c, place := v(0), []int(nil)
	for i := range api.MaxDepth - 1 {
		if i%2 == 0 {
			c, place = to(num(), c), append(place, 1)
		} else {
			c, place = to(c, num()), append(place, 0)
		}
	}
	slices.Reverse(place)
	expectFault(t, "turns", nil, c, api.ErrName, place)
	for _, i := range []int{0, 1, 500, api.MaxList - 1} {
		c := wide(api.MaxList, num())
		c.L[i] = to(num(), v(0))
		expectFault(t, i, nil, c, api.ErrName, []int{i, 1})
	}
}

// ErrBig on both sides of the limit on levels.
func TestTooDeepKinds(t *testing.T) {
	long := chain(api.MaxDepth - 1)
	expectKind(t, "from", nil, lam(long, num()), arrow(long, star()))
	expectKind(t, "to", nil, lam(star(), con("A.0", long)), chain(api.MaxDepth))
	expectKind(t, "itself", nil, lam(long, v(0)), arrow(long, long))
	long = chain(api.MaxDepth)
	expectFault(t, "from", nil, lam(long, num()), api.ErrBig, nil)
	expectFault(t, "to", nil, lam(star(), con("A.0", long)), api.ErrBig, nil)
	expectFault(t, "of the scope", []api.Kind{long, star()}, lam(star(), v(2)), api.ErrBig, nil)
	expectFault(t, "under others", nil, binder(api.CAll, star(), to(num(), lam(long, num()))), api.ErrBig, []int{0, 1})
	// The other nodes have kinds that are no larger than those that they are made of.
	expectKind(t, "constant", nil, con("A.0", long), long)
	expectKind(t, "variable", []api.Kind{long}, v(0), long)
	expectKind(t, "recursive", nil, mu(long, v(0)), long)
	expectKind(t, "application", nil, app(con("A.0", arrow(star(), chain(api.MaxDepth-1))), num()), chain(api.MaxDepth-1))
	expectKind(t, "all", nil, binder(api.CAll, long, num()), star())
	for n := 1; n < 4; n++ {
		expectKind(t, n, nil, lams(n, con("A.0", chain(api.MaxDepth-n))), chain(api.MaxDepth))
		expectFault(t, n, nil, lams(3, lams(n, con("A.0", chain(api.MaxDepth-n+1)))), api.ErrBig, []int{0, 0, 0})
	}
}

// ErrBig on both sides of the limit on nodes. A kind has an odd number of them.
func TestTooManyNodesOfKinds(t *testing.T) {
	const most = (api.MaxNodes - 1) / 2 // arrows
	k := balanced(most)
	expectKind(t, "constant", nil, con("A.0", k), k)
	expectKind(t, "recursive", []api.Kind{k}, mu(k, v(1)), k)
	expectFault(t, "from", nil, lam(k, num()), api.ErrBig, nil)
	expectFault(t, "to", []api.Kind{k}, lam(star(), v(1)), api.ErrBig, nil)
	k = balanced(most - 1)
	expectKind(t, "from", nil, lam(k, num()), arrow(k, star()))
	expectKind(t, "to", []api.Kind{k}, lam(star(), v(1)), arrow(star(), k))
	expectFault(t, "from", nil, lam(k, con("A.0", one())), api.ErrBig, nil)
	half := balanced(most / 2)
	expectKind(t, "both", nil, lam(half, v(0)), arrow(half, half))
	half = balanced(most/2 + 1)
	expectFault(t, "both", nil, lam(half, v(0)), api.ErrBig, nil)
}

// Kinds that must be equal are compared in all of their nodes, and are not made larger by being shared.
func TestLargeKindsInManyNodes(t *testing.T) {
	k := balanced(4000)
	c := v(0)
	for range api.MaxDepth - 2 {
		c = app(v(1), c)
	}
	expectKind(t, "applied", []api.Kind{arrow(k, k), k}, c, k)
	other := cloneKind(k)
	at := &other
	for len(at.L) > 0 {
		at = &at.L[1]
	}
	at.L = []api.Kind{star(), star()}
	expectFault(t, "applied", []api.Kind{arrow(k, k), other}, c, api.ErrKind, slices.Repeat([]int{1}, api.MaxDepth-3))
}

// The scope may be as long as a list, also if binders make it longer.
func TestLongScopes(t *testing.T) {
	g := slices.Repeat([]api.Kind{star()}, api.MaxList)
	g[0] = one()
	expectKind(t, "first", g, v(api.MaxList-1), one())
	expectKind(t, "second", g, v(api.MaxList-2), star())
	expectFault(t, "outside", g, v(api.MaxList), api.ErrName, nil)
	expectKind(t, "under binders", g, lams(200, v(api.MaxList+199)), chainTo(200, one()))
	expectFault(t, "outside", g, lams(200, v(api.MaxList+200)), api.ErrName, make([]int, 200))
	expectInvalid(t, "too long", append(g, star()), v(0))
	expectInvalid(t, "too long", append(g, star()), num())
}

func chainTo(n int, k api.Kind) api.Kind {
	for range n {
		k = arrow(star(), k)
	}
	return k
}

// ErrArg comes first, also if what is not valid is not needed.
func TestInvalid(t *testing.T) {
	for i, g := range invalidScopes() {
		for _, c := range []api.Con{num(), v(0), v(9999), app(num(), num()), lam(chain(api.MaxDepth), num()), {}} {
			expectInvalid(t, i, g, c)
		}
	}
	for i, c := range invalidCons() {
		for _, g := range [][]api.Kind{nil, {star(), one()}, {{L: make([]api.Kind, 1)}}} {
			expectInvalid(t, i, g, c)
		}
	}
}

// Scopes of valid kinds are valid, whatever their kinds are.
func TestValidScopes(t *testing.T) {
	r := rand.New(rand.NewSource(102))
	for range 300 {
		g := randomScope(r)
		expectKind(t, g, g, num(), star())
		for i, k := range g {
			expectKind(t, g, g, v(len(g)-1-i), k)
		}
	}
	g := []api.Kind{chain(api.MaxDepth), balanced((api.MaxNodes - 1) / 2)}
	expectKind(t, "large", g, v(0), g[1])
	expectKind(t, "deep", g, v(1), g[0])
}
