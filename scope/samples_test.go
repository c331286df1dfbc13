package scope

import (
	"math/rand"
	"slices"

	"pilaster/api"
)

// maker makes well-formed trees of few names, so that they are often bound, and often twice; left is the number of levels that it may still use.
type maker struct {
	r    *rand.Rand
	left int
}

func (m maker) pick(l ...string) string { return l[m.r.Intn(len(l))] }

func (m maker) lower() string { return m.pick("x", "x", "y", "t", "int", "print") }

func (m maker) upper() string { return m.pick("A", "M", "M", "B", "True") }

func (m maker) variable() string { return m.pick("'a", "'a", "'b", "'c") }

// modules makes a path of upper names, most often of one.
func (m maker) modules() []string {
	l := []string{m.upper()}
	for m.r.Intn(4) == 0 && len(l) < api.MaxPath {
		l = append(l, m.upper())
	}
	return l
}

// value makes a path with a lower name at its end, most often of one.
func (m maker) value() []string {
	l := m.modules()
	l[len(l)-1] = m.lower()
	return l
}

func (m maker) params() []string {
	l := []string{"'a", "'b", "'c"}
	m.r.Shuffle(len(l), func(i, j int) { l[i], l[j] = l[j], l[i] })
	return l[:m.r.Intn(4)]
}

// list makes from low to high trees, each one with one level less.
func (m maker) list(low, high int, one func(maker) api.Syn) []api.Syn {
	m.left--
	if m.left < 2 {
		high = min(high, low+1)
	}
	var l []api.Syn
	for range low + m.r.Intn(high-low+1) {
		l = append(l, one(m))
	}
	return l
}

// choose calls one of the functions: one of the first ones, which make trees of one node, if no level is left.
func (m maker) choose(small int, l ...func() api.Syn) api.Syn {
	if m.left <= 1 {
		l = l[:small]
	}
	return l[m.r.Intn(len(l))]()
}

func (m maker) typ() api.Syn {
	return m.choose(3,
		func() api.Syn { return named(api.TyVar, m.variable()) },
		func() api.Syn { return api.Syn{Op: api.TyPath, Names: m.value()} },
		func() api.Syn { return api.Syn{Op: api.TyPack, Names: m.modules()} },
		func() api.Syn { return api.Syn{Op: api.TyPath, Names: m.value(), L: m.list(0, 3, maker.typ)} },
		func() api.Syn { return node(api.TyArrow, m.list(2, 2, maker.typ)...) },
		func() api.Syn { return node(api.TyTuple, m.list(2, 3, maker.typ)...) },
	)
}

// path makes a type without parts.
func (m maker) path() api.Syn { return api.Syn{Op: api.TyPath, Names: m.value()} }

func (m maker) pat() api.Syn {
	name := func() api.Syn { return named(api.PtVar, m.lower()) }
	return m.choose(5, name, name,
		func() api.Syn { return node(api.PtAny) },
		func() api.Syn { return api.Syn{Op: api.PtInt, N: -3} },
		func() api.Syn { return api.Syn{Op: api.PtCtor, Names: m.modules()} },
		func() api.Syn { return api.Syn{Op: api.PtCtor, Names: m.modules(), L: m.list(1, 1, maker.pat)} },
		func() api.Syn { return node(api.PtTuple, m.list(2, 4, maker.pat)...) },
		func() api.Syn { return node(api.PtTuple) },
	)
}

func (m maker) rule() api.Syn { return node(api.XRule, m.pat(), m.expr()) }

func (m maker) let() api.Syn {
	return node(api.XLet, append(m.list(1, 4, maker.local), m.list(1, 1, maker.expr)...)...)
}

func (m maker) match() api.Syn {
	return node(api.XCase, append(m.list(1, 1, maker.expr), m.list(1, 3, maker.rule)...)...)
}

func (m maker) expr() api.Syn {
	name := func() api.Syn { return api.Syn{Op: api.XVar, Names: m.value()} }
	return m.choose(6, name, name, name,
		func() api.Syn { return api.Syn{Op: api.XCtor, Names: m.modules()} },
		func() api.Syn { return api.Syn{Op: api.XInt, N: 3} },
		func() api.Syn { return named(api.XText, "x") },
		func() api.Syn { return node(api.XTuple, m.list(2, 4, maker.expr)...) },
		func() api.Syn { return named(api.XFn, m.lower(), m.list(1, 1, maker.expr)...) },
		func() api.Syn { return named(api.XFn, "", m.list(1, 1, maker.expr)...) },
		func() api.Syn { return node(api.XApp, m.list(2, 2, maker.expr)...) },
		func() api.Syn { return node(api.XIf, m.list(3, 3, maker.expr)...) },
		m.match, m.match, m.let, m.let,
		func() api.Syn { return api.Syn{Op: api.XOp, N: api.OpAdd, L: m.list(2, 2, maker.expr)} },
		func() api.Syn { return api.Syn{Op: api.XOp, N: api.OpNeg, L: m.list(1, 1, maker.expr)} },
		func() api.Syn {
			return node(api.XAnnot, append(m.list(1, 1, maker.expr), m.list(1, 1, maker.typ)...)...)
		},
		func() api.Syn { return api.Syn{Op: api.XPack, Names: m.modules(), L: []api.Syn{m.sigPath()}} },
	)
}

func (m maker) sigPath() api.Syn { return api.Syn{Op: api.GPath, Names: m.modules()} }

// local makes a declaration that may stand in an XLet.
func (m maker) local() api.Syn {
	switch m.r.Intn(3) {
	case 0:
		return named(api.DVal, m.lower(), m.list(1, 1, maker.expr)...)
	case 1:
		var l []string
		for range 1 + m.r.Intn(3) {
			l = append(l, m.lower())
		}
		return api.Syn{Op: api.DFun, S: m.lower(), Names: l, L: m.list(1, 1, maker.expr)}
	}
	return named(api.DUnpack, m.upper(), append(m.list(1, 1, maker.expr), m.sigPath())...)
}

// equation makes a declaration that is a specification as well.
func (m maker) equation() api.Syn {
	if m.r.Intn(2) == 0 {
		return api.Syn{Op: api.DType, S: m.lower(), Names: m.params(), L: m.list(1, 1, maker.typ)}
	}
	names := []string{"A", "B", "M", "True"}
	m.r.Shuffle(len(names), func(i, j int) { names[i], names[j] = names[j], names[i] })
	var l []api.Syn
	for _, s := range names[:1+m.r.Intn(4)] {
		l = append(l, named(api.DCtor, s, m.list(0, 1, maker.typ)...))
	}
	return api.Syn{Op: api.DData, S: m.lower(), Names: m.params(), L: l}
}

func (m maker) decl() api.Syn {
	switch m.r.Intn(9) {
	case 0, 1:
		return m.local()
	case 2, 3:
		return m.equation()
	case 4, 5:
		return named(api.DStruct, m.upper(), m.list(1, 1, maker.mod)...)
	case 6:
		return named(api.DSig, m.upper(), m.list(1, 1, maker.sig)...)
	case 7:
		return api.Syn{Op: api.DOpen, Names: m.modules()}
	}
	return api.Syn{Op: api.DInclude, Names: m.modules()}
}

func (m maker) spec() api.Syn {
	switch m.r.Intn(9) {
	case 0, 1:
		return m.equation()
	case 2:
		return named(api.SpVal, m.lower(), m.list(1, 1, maker.typ)...)
	case 3:
		return api.Syn{Op: api.SpType, S: m.lower(), Names: m.params()}
	case 4, 5:
		return named(api.SpStruct, m.upper(), m.list(1, 1, maker.sig)...)
	case 6:
		return named(api.SpSig, m.upper(), m.list(1, 1, maker.sig)...)
	case 7:
		return node(api.SpInclude, m.list(1, 1, maker.sig)...)
	}
	return api.Syn{Op: api.SpShare, Names: m.value(), L: []api.Syn{m.path()}}
}

func (m maker) sig() api.Syn {
	specs := func() api.Syn { return node(api.GSig, m.list(0, 6, maker.spec)...) }
	return m.choose(1, m.sigPath, specs, specs, specs,
		func() api.Syn {
			return api.Syn{Op: api.GFun, S: m.upper(), N: m.r.Intn(2), L: m.list(2, 2, maker.sig)}
		},
		func() api.Syn {
			nameless := api.Syn{Op: api.DType, Names: m.params(), L: m.list(1, 1, maker.typ)}
			return api.Syn{Op: api.GWith, Names: m.value(), L: append(m.list(1, 1, maker.sig), nameless)}
		},
	)
}

func (m maker) mod() api.Syn {
	withSig := func(op int) func() api.Syn {
		return func() api.Syn {
			return node(op, append(m.list(1, 1, maker.mod), m.list(1, 1, maker.sig)...)...)
		}
	}
	decls := func() api.Syn { return node(api.MStruct, m.list(0, 6, maker.decl)...) }
	let := func() api.Syn {
		return node(api.MLet, append(m.list(0, 4, maker.decl), m.list(1, 1, maker.mod)...)...)
	}
	return m.choose(1,
		func() api.Syn { return api.Syn{Op: api.MPath, Names: m.modules()} },
		decls, decls, decls, let, let,
		func() api.Syn {
			return api.Syn{Op: api.MFun, S: m.upper(), N: m.r.Intn(2), L: append(m.list(1, 1, maker.sig), m.list(1, 1, maker.mod)...)}
		},
		func() api.Syn { return node(api.MApp, m.list(2, 2, maker.mod)...) },
		withSig(api.MSeal), withSig(api.MShow),
		func() api.Syn { return node(api.MUnpack, append(m.list(1, 1, maker.expr), m.sigPath())...) },
	)
}

// makers returns the functions that make trees of the categories.
func makers() map[int]func(maker) api.Syn {
	return map[int]func(maker) api.Syn{
		api.CatType: maker.typ, api.CatPat: maker.pat, api.CatExpr: maker.expr, api.CatDecl: maker.decl,
		api.CatSpec: maker.spec, api.CatSig: maker.sig, api.CatMod: maker.mod,
	}
}

// sample is a tree with a category to which it belongs.
type sample struct {
	cat int
	t   api.Syn
}

// samples returns n trees of each category.
func samples(seed int64, n int) []sample {
	r := rand.New(rand.NewSource(seed))
	var l []sample
	for i := range n {
		for cat := api.CatType; cat <= api.CatMod; cat++ {
			l = append(l, sample{cat, makers()[cat](maker{r, 2 + i%9})})
		}
	}
	return l
}

// copied returns a tree that is equal to t, and shares no memory with it.
func copied(t api.Syn) api.Syn {
	t.Names, t.L = slices.Clone(t.Names), slices.Clone(t.L)
	for i := range t.L {
		t.L[i] = copied(t.L[i])
	}
	return t
}
