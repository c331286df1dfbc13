package kernel

import (
	"math/rand"
	"slices"
	"strconv"

	"pilaster/api"
	"pilaster/kind"
	"pilaster/kinding"
	"pilaster/normal"
	"pilaster/term"
	"pilaster/tycon"
)

// maker makes terms of types that are given.
type maker struct{ *rand.Rand }

func newMaker(seed int64) maker { return maker{rand.New(rand.NewSource(seed))} }

func (m maker) kind(levels int) api.Kind {
	if levels == 0 || m.Intn(4) > 0 {
		return star()
	}
	return api.Kind{L: []api.Kind{m.kind(levels - 1), m.kind(levels - 1)}}
}

// with returns a longer list with memory of its own.
func with[T any](l []T, x T) []T { return append(slices.Clone(l), x) }

func shifted(c api.Con, by int) api.Con { return sure(tycon.Shift(c, by, 0)) }

func normalForm(c api.Con) api.Con { return sure(normal.Normal(c)) }

// leaf returns a constructor without parts of any kind.
func (m maker) leaf(kinds []api.Kind, k api.Kind) api.Con {
	var l []api.Con
	for i := range kinds {
		if kind.Equal(kinds[len(kinds)-1-i], k) {
			l = append(l, cvar(i), cvar(i))
		}
	}
	if len(k.L) == 0 {
		l = append(l, number(), text(), named(api.CRecord, ""))
	}
	if len(l) == 0 || m.Intn(5) == 0 {
		// The name tells the kind.
		s := sure(kind.Text(k))
		return api.Con{Op: api.CConst, S: "K." + strconv.Itoa(len(s)), Kind: k}
	}
	return pick(m.Rand, l...)
}

// con returns a constructor of a kind, often one with steps.
func (m maker) con(kinds []api.Kind, k api.Kind, levels int) api.Con {
	if levels <= 1 {
		return m.leaf(kinds, k)
	}
	part := func(k api.Kind) api.Con { return m.con(kinds, k, levels-1-m.Intn(2)) }
	under := func(k, of api.Kind) api.Con { return m.con(with(kinds, k), of, levels-1-m.Intn(2)) }
	if n := m.Intn(8); n == 0 {
		a := m.kind(1)
		return capp(binder(api.CLam, a, under(a, k)), part(a))
	} else if n == 1 {
		return binder(api.CMu, k, under(k, k))
	}
	if len(k.L) > 0 {
		return binder(api.CLam, k.L[0], under(k.L[0], k.L[1]))
	}
	switch n := m.Intn(9); n {
	case 0, 1:
		return to(part(k), part(k))
	case 2, 3, 4:
		l := []string{"a", "b", "A", "A b", "1 2", "A B C"}
		names := pick(m.Rand, l...)
		c := named(api.CRecord+m.Intn(2), names)
		for range c.Names {
			c.L = append(c.L, part(k))
		}
		return c
	case 5:
		a := m.kind(1)
		return capp(part(api.Kind{L: []api.Kind{a, k}}), part(a))
	}
	a := m.kind(2)
	return binder(api.CAll+m.Intn(2), a, under(a, k))
}

// typ returns a type that is normal.
func (m maker) typ(kinds []api.Kind, levels int) api.Con {
	return normalForm(m.con(kinds, star(), levels))
}

// disguised returns a constructor that has the normal form of c.
func (m maker) disguised(kinds []api.Kind, c api.Con) api.Con {
	k := sure(kinding.Of(kinds, c))
	switch n := m.Intn(6); {
	case n == 0:
		a := m.kind(1)
		return capp(binder(api.CLam, a, shifted(c, 1)), m.con(kinds, a, 2))
	case n == 1:
		return capp(binder(api.CLam, k, cvar(0)), c)
	case n == 2 && len(k.L) > 0:
		return binder(api.CLam, k.L[0], capp(shifted(c, 1), cvar(0)))
	}
	return c
}

// abstracted returns a constructor with the variable 0 for int, or for nothing.
func (m maker) abstracted(c api.Con) api.Con {
	c = shifted(c, 1)
	var replace func(c api.Con, binders int) api.Con
	replace = func(c api.Con, binders int) api.Con {
		if c.Op == api.CInt && m.Intn(3) > 0 {
			return cvar(binders)
		}
		if c.Op >= api.CAll && c.Op != api.CApp {
			binders++
		}
		c.L = eachOf(c.L, func(part api.Con) api.Con { return replace(part, binders) })
		return c
	}
	return replace(c, 0)
}

// term returns a term of the type c, which is normal.
func (m maker) term(g api.Context, c api.Con, levels int) api.Term {
	if levels <= 1 || m.Intn(8) == 0 {
		return m.shortTerm(g, c)
	}
	levels -= 1 + m.Intn(2)
	if m.Intn(2) == 0 {
		return m.built(g, c, levels)
	}
	return m.taken(g, c, levels)
}

// shortTerm prefers variables.
func (m maker) shortTerm(g api.Context, c api.Con) api.Term {
	var l []api.Term
	for i, has := range slices.Backward(g.Types) {
		if same, e := normal.Equal(has, c); same && e == api.OK {
			l = append(l, v(len(g.Types)-1-i))
		}
	}
	if len(l) > 0 && m.Intn(5) > 0 {
		return pick(m.Rand, l...)
	}
	switch {
	case c.Op == api.CInt:
		return num(m.Intn(100) - 50)
	case c.Op == api.CText:
		return str("x")
	case c.Op == api.CRecord && len(c.L) == 0:
		return record("")
	}
	return failed(m.disguised(g.Kinds, c))
}

func addKind(g api.Context, k api.Kind) api.Context {
	return api.Context{Kinds: with(g.Kinds, k), Types: eachOf(g.Types, func(c api.Con) api.Con { return shifted(c, 1) })}
}

func addType(g api.Context, c api.Con) api.Context {
	return api.Context{Kinds: g.Kinds, Types: with(g.Types, c)}
}

// built returns a term that the form of the type suggests.
func (m maker) built(g api.Context, c api.Con, levels int) api.Term {
	part := func(c api.Con) api.Term { return m.term(g, c, levels) }
	seen := func(c api.Con) api.Con { return m.disguised(g.Kinds, c) }
	switch c.Op {
	case api.CInt:
		return pick(m.Rand, prim(1+m.Intn(5), part(number()), part(number())), prim(api.PNeg, part(number())), prim(api.PSize, part(text())))
	case api.CText:
		return pick(m.Rand, prim(api.PConcat, part(text()), part(text())), prim(api.PShow, part(number())))
	case api.CArrow, api.CAll:
		return m.function(g, c, levels)
	case api.CRecord:
		if len(c.L) == 0 && m.Intn(2) == 0 {
			return prim(api.PPrint, part(text()))
		}
		return api.Term{Op: api.ERecord, Names: c.Names, L: eachOf(c.L, part)}
	case api.CSum:
		if len(c.L) > 0 {
			i := m.Intn(len(c.L))
			return injected(c.Names[i], seen(c), part(c.L[i]))
		}
	case api.CSome:
		by := m.con(g.Kinds, c.Kind, 2)
		return packed(seen(by), seen(c), part(replaced(c, by)))
	}
	if tycon.Equal(c, tycon.Bool()) && m.Intn(3) > 0 {
		return pick(m.Rand, prim(7+m.Intn(3), part(number()), part(number())), prim(api.PSame, part(text()), part(text())))
	}
	if inner, e := normal.Unroll(c); e == api.OK {
		return typed(api.ERoll, seen(c), part(inner))
	}
	return m.shortTerm(g, c)
}

// function returns a function of either kind, which may be recursive.
func (m maker) function(g api.Context, c api.Con, levels int) api.Term {
	if m.Intn(3) == 0 {
		return typed(api.EFix, m.disguised(g.Kinds, c), m.plainFunction(addType(g, c), c, levels))
	}
	return m.plainFunction(g, c, levels)
}

func (m maker) plainFunction(g api.Context, c api.Con, levels int) api.Term {
	if c.Op == api.CAll {
		return tlam(c.Kind, m.term(addKind(g, c.Kind), c.L[0], levels))
	}
	return typed(api.ELam, m.disguised(g.Kinds, c.L[0]), m.term(addType(g, c.L[0]), c.L[1], levels))
}

// taken returns a term that takes something else apart.
func (m maker) taken(g api.Context, c api.Con, levels int) api.Term {
	part := func(c api.Con) api.Term { return m.term(g, c, levels) }
	a := m.typ(g.Kinds, 1+m.Intn(3))
	switch m.Intn(8) {
	case 0:
		return app(part(to(a, c)), part(a))
	case 1:
		return let(part(a), m.term(addType(g, a), c, levels))
	case 2:
		l := []api.Con{m.typ(g.Kinds, 2), m.typ(g.Kinds, 2), m.typ(g.Kinds, 2)}
		i := m.Intn(3)
		l[i] = c
		return proj([]string{"A", "a", "b"}[i], part(named(api.CRecord, "A a b", l...)))
	case 3:
		sum := named(api.CSum, pick(m.Rand, "A", "A B", "1 2 val.x"))
		t := api.Term{Op: api.ECase, Names: sum.Names}
		for range sum.Names {
			a := m.typ(g.Kinds, 2)
			sum.L = append(sum.L, a)
			t.L = append(t.L, m.term(addType(g, a), c, levels))
		}
		t.L = append([]api.Term{part(sum)}, t.L...)
		return t
	case 4:
		return unroll(part(normalForm(binder(api.CMu, star(), shifted(c, 1)))))
	case 5:
		k := m.kind(2)
		inner := m.con(with(g.Kinds, k), star(), 3)
		inner = normalForm(inner)
		return unpack(part(binder(api.CSome, k, inner)), m.term(addType(addKind(g, k), inner), shifted(c, 1), levels))
	case 6:
		k := m.kind(2)
		return typed(api.ETApp, m.con(g.Kinds, k, 3), part(binder(api.CAll, k, shifted(c, 1))))
	}
	return typed(api.ETApp, m.disguised(g.Kinds, number()), part(binder(api.CAll, star(), m.abstracted(c))))
}

// sample is a term of a type, which is normal, in a context.
type sample struct {
	g api.Context
	x api.Term
	c api.Con
}

func (m maker) context() api.Context {
	var g api.Context
	for range m.Intn(4) {
		g.Kinds = append(g.Kinds, m.kind(2))
	}
	for range m.Intn(5) {
		g.Types = append(g.Types, m.con(g.Kinds, star(), 1+m.Intn(4)))
	}
	return g
}

// samples returns terms with types that are small enough for the second description.
func samples(seed int64, n int) []sample {
	m := newMaker(seed)
	var l []sample
	for len(l) < n {
		g := m.context()
		c := m.typ(g.Kinds, 1+m.Intn(4))
		if len(g.Types) > 0 && m.Intn(3) == 0 {
			c = normalForm(pick(m.Rand, g.Types...))
		}
		if x := m.term(g, c, 1+m.Intn(9)); term.Size(x) > 0 && term.Size(x) < 400 {
			l = append(l, sample{g, x, c})
		}
	}
	return l
}
