package kernel

import (
	"slices"

	"pilaster/api"
	"pilaster/kinding"
	"pilaster/normal"
	"pilaster/tycon"
)

// typeOf returns the type of t, which is well-formed, as a normal form, or its fault. The type may share memory with the context, the term, and itself, so that large types need not be copied at each node.
func (g context) typeOf(t *api.Term) (api.Con, api.Errno) {
	switch t.Op {
	case api.EVar:
		return g.variable(t.N)
	case api.EInt:
		return number(), api.OK
	case api.EText:
		return text(), api.OK
	case api.ELam:
		return g.function(t)
	case api.EApp:
		return g.application(t)
	case api.ETLam:
		return g.abstraction(t)
	case api.ETApp:
		return g.instantiation(t)
	case api.EPack:
		return g.packed(t)
	case api.EUnpack:
		return g.opened(t)
	case api.ERecord:
		return g.record(t)
	case api.EProj:
		return g.field(t)
	case api.EInject:
		return g.injected(t)
	case api.ECase:
		return g.cases(t)
	case api.ERoll:
		return g.rolled(t)
	case api.EUnroll:
		return g.unrolled(t)
	case api.EFix:
		return g.recursive(t)
	case api.ELet:
		return g.let(t)
	case api.EPrim:
		return g.operation(t)
	case api.EFail:
		return g.normalType(t.Con)
	}
	return api.Con{}, api.ErrArg
}

func (g context) function(t *api.Term) (api.Con, api.Errno) {
	from, e := g.normalType(t.Con)
	if e != api.OK {
		return api.Con{}, e
	}
	to, e := g.withType(from).typeOf(&t.L[0])
	if e != api.OK {
		return api.Con{}, e
	}
	return permitted(api.Con{Op: api.CArrow, L: []api.Con{from, to}})
}

func (g context) application(t *api.Term) (api.Con, api.Errno) {
	l, e := g.typesOf(t.L)
	if e != api.OK {
		return api.Con{}, e
	}
	if f := l[0]; f.Op == api.CArrow && tycon.Equal(f.L[0], l[1]) {
		return f.L[1], api.OK
	}
	return api.Con{}, api.ErrType
}

func (g context) abstraction(t *api.Term) (api.Con, api.Errno) {
	part, e := g.withKind(t.Kind).typeOf(&t.L[0])
	if e != api.OK {
		return api.Con{}, e
	}
	return permitted(api.Con{Op: api.CAll, Kind: t.Kind, L: []api.Con{part}})
}

func (g context) instantiation(t *api.Term) (api.Con, api.Errno) {
	f, e := g.typeOf(&t.L[0])
	if e != api.OK {
		return api.Con{}, e
	}
	if f.Op != api.CAll {
		return api.Con{}, api.ErrType
	}
	if e := kinding.Check(g.kinds, t.Con, f.Kind); e != api.OK {
		return api.Con{}, e
	}
	return instance(f.L[0], t.Con)
}

func (g context) packed(t *api.Term) (api.Con, api.Errno) {
	to, e := g.normalType(t.To)
	if e != api.OK {
		return api.Con{}, e
	}
	if to.Op != api.CSome {
		return api.Con{}, api.ErrType
	}
	if e := kinding.Check(g.kinds, t.Con, to.Kind); e != api.OK {
		return api.Con{}, e
	}
	found, e := g.typeOf(&t.L[0])
	if e != api.OK {
		return api.Con{}, e
	}
	want, e := instance(to.L[0], t.Con)
	if e != api.OK {
		return api.Con{}, e
	}
	if !tycon.Equal(found, want) {
		return api.Con{}, api.ErrType
	}
	return to, api.OK
}

func (g context) opened(t *api.Term) (api.Con, api.Errno) {
	p, e := g.typeOf(&t.L[0])
	if e != api.OK {
		return api.Con{}, e
	}
	if p.Op != api.CSome {
		return api.Con{}, api.ErrType
	}
	c, e := g.withKind(p.Kind).withType(p.L[0]).typeOf(&t.L[1])
	if e != api.OK {
		return api.Con{}, e
	}
	// The shift is refused if 0 is a free index.
	c, e = tycon.Shift(c, -1, 0)
	if e != api.OK {
		return api.Con{}, api.ErrEscape
	}
	return c, api.OK
}

func (g context) record(t *api.Term) (api.Con, api.Errno) {
	l, e := g.typesOf(t.L)
	if e != api.OK {
		return api.Con{}, e
	}
	return permitted(api.Con{Op: api.CRecord, Names: t.Names, L: l})
}

func (g context) field(t *api.Term) (api.Con, api.Errno) {
	c, e := g.typeOf(&t.L[0])
	if e != api.OK {
		return api.Con{}, e
	}
	return partOf(c, api.CRecord, t.S)
}

func (g context) injected(t *api.Term) (api.Con, api.Errno) {
	sum, e := g.normalType(t.Con)
	if e != api.OK {
		return api.Con{}, e
	}
	part, e := partOf(sum, api.CSum, t.S)
	if e != api.OK {
		return api.Con{}, e
	}
	if e := g.expect(&t.L[0], part); e != api.OK {
		return api.Con{}, e
	}
	return sum, api.OK
}

func (g context) cases(t *api.Term) (api.Con, api.Errno) {
	sum, e := g.typeOf(&t.L[0])
	if e != api.OK {
		return api.Con{}, e
	}
	if sum.Op != api.CSum || !slices.Equal(sum.Names, t.Names) {
		return api.Con{}, api.ErrType
	}
	c, e := g.withType(sum.L[0]).typeOf(&t.L[1])
	if e != api.OK {
		return api.Con{}, e
	}
	for i := 1; i < len(sum.L); i++ {
		if e := g.withType(sum.L[i]).expect(&t.L[i+1], c); e != api.OK {
			return api.Con{}, e
		}
	}
	return c, api.OK
}

func (g context) rolled(t *api.Term) (api.Con, api.Errno) {
	c, e := g.normalType(t.Con)
	if e != api.OK {
		return api.Con{}, e
	}
	inner, e := normal.Unroll(c)
	if e != api.OK {
		return api.Con{}, e
	}
	if e := g.expect(&t.L[0], inner); e != api.OK {
		return api.Con{}, e
	}
	return c, api.OK
}

func (g context) unrolled(t *api.Term) (api.Con, api.Errno) {
	c, e := g.typeOf(&t.L[0])
	if e != api.OK {
		return api.Con{}, e
	}
	return normal.Unroll(c)
}

func (g context) recursive(t *api.Term) (api.Con, api.Errno) {
	c, e := g.normalType(t.Con)
	if e != api.OK {
		return api.Con{}, e
	}
	f := &t.L[0]
	if f.Op != api.ELam && f.Op != api.ETLam {
		return api.Con{}, api.ErrType
	}
	if e := g.withType(c).expect(f, c); e != api.OK {
		return api.Con{}, e
	}
	return c, api.OK
}

func (g context) let(t *api.Term) (api.Con, api.Errno) {
	c, e := g.typeOf(&t.L[0])
	if e != api.OK {
		return api.Con{}, e
	}
	return g.withType(c).typeOf(&t.L[1])
}

func (g context) operation(t *api.Term) (api.Con, api.Errno) {
	l, e := g.typesOf(t.L)
	if e != api.OK {
		return api.Con{}, e
	}
	// There is such an operation, as t is well-formed.
	args, result, _ := Prim(t.N)
	if !slices.EqualFunc(l, args, tycon.Equal) {
		return api.Con{}, api.ErrType
	}
	return result, api.OK
}
