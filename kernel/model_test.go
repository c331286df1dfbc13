package kernel

import (
	"slices"
	"strconv"

	"pilaster/api"
	"pilaster/kinding"
	"pilaster/normal"
	"pilaster/term"
	"pilaster/tycon"
)

// The second description has no context. Where a binder is passed, its variable is replaced: that of constructors by a constant with a name of its own, and that of terms by a failure, which has any type that it says. A fault ends it by a panic.
type model struct{ last int }

// fresh returns a constant that nothing else has.
func (m *model) fresh(k api.Kind) api.Con {
	m.last++
	return api.Con{Op: api.CConst, S: "Model." + strconv.Itoa(m.last), Kind: k}
}

// bound returns c with the constant for the variable 0.
func bound(c, name api.Con) api.Con { return sure(tycon.Bind(c, []string{name.S})) }

func occurs(c, name api.Con) bool {
	return c.Op == api.CConst && c.S == name.S || slices.ContainsFunc(c.L, func(part api.Con) bool { return occurs(part, name) })
}

// sure returns the result of a call that cannot fail for a small term.
func sure[T any](x T, e api.Errno) T {
	if e != api.OK {
		panic("not small enough")
	}
	return x
}

func require(ok bool, e api.Errno) {
	if !ok {
		panic(e)
	}
}

// made returns a result that is normal, if there is one.
func made(c api.Con, e api.Errno) api.Con {
	require(e == api.OK, e)
	return c
}

// small has the limits of types.
func small(c api.Con) api.Con {
	nodes, deepest := 0, 0
	var visit func(c api.Con, depth int)
	visit = func(c api.Con, depth int) {
		nodes, deepest = nodes+1, max(deepest, depth)
		for _, part := range c.L {
			visit(part, depth+1)
		}
	}
	visit(c, 1)
	require(nodes <= 20000 && deepest <= 400, api.ErrBudget)
	return c
}

func asked(c api.Con, k api.Kind) {
	e := kinding.Check(nil, c, k)
	require(e == api.OK, e)
}

func askedType(c api.Con) api.Con {
	asked(c, star())
	return made(normal.Normal(c))
}

// replaced returns the normal form of the part of a binder, with something for its variable.
func replaced(c api.Con, by api.Con) api.Con {
	r, e := tycon.Subst(c.L[0], []api.Con{by})
	require(e == api.OK, api.ErrBudget)
	return made(normal.Normal(r))
}

// given returns a term below a binder, with something of a type for the variable.
func given(t api.Term, c api.Con) api.Term { return sure(term.Subst(t, failed(c))) }

func givenCon(t api.Term, c api.Con) api.Term { return sure(term.SubstCons(t, []api.Con{c})) }

func (m *model) types(l []api.Term) []api.Con {
	var r []api.Con
	for _, t := range l {
		r = append(r, m.typeOf(t))
	}
	return r
}

// hasType requires a term to have a type, after which the node has its own one.
func (m *model) hasType(t api.Term, c api.Con) {
	require(tycon.Equal(m.typeOf(t), c), api.ErrType)
}

func at(c api.Con, op int, label string) api.Con {
	i := slices.Index(c.Names, label)
	require(c.Op == op && i >= 0, api.ErrType)
	return c.L[i]
}

// typeOf goes through the kinds of terms in the order of the chapter.
func (m *model) typeOf(t api.Term) api.Con {
	switch t.Op {
	case api.EVar:
		panic(api.ErrName)
	case api.EInt:
		return con("int")
	case api.EText:
		return con("text")
	case api.ELam:
		from := askedType(t.Con)
		return small(to(from, m.typeOf(given(t.L[0], from))))
	case api.EApp:
		l := m.types(t.L)
		require(l[0].Op == api.CArrow && tycon.Equal(l[0].L[0], l[1]), api.ErrType)
		return l[0].L[1]
	case api.ETLam:
		a := m.fresh(t.Kind)
		return small(binder(api.CAll, t.Kind, bound(m.typeOf(givenCon(t.L[0], a)), a)))
	case api.ETApp:
		f := m.typeOf(t.L[0])
		require(f.Op == api.CAll, api.ErrType)
		asked(t.Con, f.Kind)
		return replaced(f, t.Con)
	case api.EPack:
		c := askedType(t.To)
		require(c.Op == api.CSome, api.ErrType)
		asked(t.Con, c.Kind)
		has := m.typeOf(t.L[0])
		require(tycon.Equal(replaced(c, t.Con), has), api.ErrType)
		return c
	case api.EUnpack:
		p := m.typeOf(t.L[0])
		require(p.Op == api.CSome, api.ErrType)
		a := m.fresh(p.Kind)
		c := m.typeOf(given(givenCon(t.L[1], a), replaced(p, a)))
		require(!occurs(c, a), api.ErrEscape)
		return c
	}
	return m.typeOfData(t)
}

func (m *model) typeOfData(t api.Term) api.Con {
	switch t.Op {
	case api.ERecord:
		return small(api.Con{Op: api.CRecord, Names: t.Names, L: m.types(t.L)})
	case api.EProj:
		return at(m.typeOf(t.L[0]), api.CRecord, t.S)
	case api.EInject:
		c := askedType(t.Con)
		m.hasType(t.L[0], at(c, api.CSum, t.S))
		return c
	case api.ECase:
		c := m.typeOf(t.L[0])
		require(c.Op == api.CSum && slices.Equal(c.Names, t.Names), api.ErrType)
		var first api.Con
		for i, part := range c.L {
			now := m.typeOf(given(t.L[i+1], part))
			require(i == 0 || tycon.Equal(now, first), api.ErrType)
			first = now
		}
		return first
	case api.ERoll:
		c := askedType(t.Con)
		m.hasType(t.L[0], made(normal.Unroll(c)))
		return c
	case api.EUnroll:
		return made(normal.Unroll(m.typeOf(t.L[0])))
	case api.EFix:
		c := askedType(t.Con)
		require(t.L[0].Op == api.ELam || t.L[0].Op == api.ETLam, api.ErrType)
		m.hasType(given(t.L[0], c), c)
		return c
	case api.ELet:
		return m.typeOf(given(t.L[1], m.typeOf(t.L[0])))
	case api.EPrim:
		want := wantPrim(t.N)
		require(slices.EqualFunc(m.types(t.L), want[1:], tycon.Equal), api.ErrType)
		return want[0]
	}
	return askedType(t.Con)
}

// wantPrim returns the type of the result of an operation, and then those of the operands.
func wantPrim(n int) []api.Con {
	bool := "(mu *. [False: {} | True: {}])"
	switch n {
	case 1, 2, 3, 4, 5:
		return cons("int", "int", "int")
	case 6:
		return cons("int", "int")
	case 7, 8, 9:
		return cons(bool, "int", "int")
	case 10:
		return cons("text", "text", "text")
	case 11:
		return cons("int", "text")
	case 12:
		return cons(bool, "text", "text")
	case 13:
		return cons("text", "int")
	case 14:
		return cons("{}", "text")
	}
	return nil
}

// closed returns a term with something for the variables of a context, and the constants that stand for those of constructors.
func (m *model) closed(g api.Context, t api.Term) (api.Term, []api.Const) {
	var names []api.Const
	var byIndex []api.Con
	for _, k := range g.Kinds {
		a := m.fresh(k)
		names = append(names, api.Const{Name: a.S, Kind: k})
		byIndex = append([]api.Con{a}, byIndex...)
	}
	t = sure(term.SubstCons(t, byIndex))
	for _, c := range slices.Backward(g.Types) {
		t = given(t, sure(tycon.Unbind(c, names)))
	}
	return t, names
}

// wantType returns the type of a small term in a valid context, or its fault.
func wantType(g api.Context, t api.Term) (c api.Con, e api.Errno) {
	defer func() {
		switch fault := recover().(type) {
		case nil:
		case api.Errno:
			c, e = api.Con{}, fault
		default:
			panic(fault)
		}
	}()
	var m model
	t, l := m.closed(g, t)
	names := eachOf(l, func(a api.Const) string { return a.Name })
	return sure(tycon.Bind(m.typeOf(t), names)), api.OK
}
