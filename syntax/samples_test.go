package syntax

import (
	"math/rand"
	"slices"
	"strings"

	"pilaster/api"
)

func node(op int, l ...api.Syn) api.Syn { return api.Syn{Op: op, L: l} }

func named(op int, s string, l ...api.Syn) api.Syn { return api.Syn{Op: op, S: s, L: l} }

func path(op int, names ...string) api.Syn { return api.Syn{Op: op, Names: names} }

func number(op, n int, l ...api.Syn) api.Syn { return api.Syn{Op: op, N: n, L: l} }

// maker makes well-formed trees; left is the number of levels that it may still use.
type maker struct {
	r    *rand.Rand
	left int
}

func (m maker) pick(l ...string) string { return l[m.r.Intn(len(l))] }

func (m maker) lower() string {
	return m.pick("x", "y", "f_1", "mod2", "aB_9", "z"+strings.Repeat("_", 23))
}

func (m maker) upper() string { return m.pick("M", "N", "C1", "Mod", "A"+strings.Repeat("0", 23)) }

func (m maker) module() []string {
	var l []string
	for range 1 + m.r.Intn(1+m.r.Intn(8)) {
		l = append(l, m.upper())
	}
	return l
}

func (m maker) value() []string {
	l := m.module()
	l[len(l)-1] = m.lower()
	return l
}

func (m maker) params() []string {
	l := []string{"'a", "'b", "'val", "'x_1", "'t" + strings.Repeat("y", 22)}
	m.r.Shuffle(len(l), func(i, j int) { l[i], l[j] = l[j], l[i] })
	return slices.Clone(l[:m.r.Intn(5)])
}

// list makes from low to high trees with a function of a maker.
func (m maker) list(low, high int, one func(maker) api.Syn) []api.Syn {
	m.left--
	if m.left < 3 {
		high = min(high, low+1)
	}
	var l []api.Syn
	for range low + m.r.Intn(high-low+1) {
		l = append(l, one(m))
	}
	return l
}

// none is a chance for a list without elements, as (), or a constructor without an argument.
func (m maker) none(l []api.Syn) []api.Syn {
	if m.r.Intn(3) == 0 {
		return nil
	}
	return l
}

func (m maker) typ() api.Syn {
	n := 3
	if m.left > 1 {
		n = 6
	}
	switch m.r.Intn(n) {
	case 0:
		return named(api.TyVar, m.pick("'a", "'b", "'end"))
	case 1:
		return path(api.TyPath, m.value()...)
	case 2:
		return path(api.TyPack, m.module()...)
	case 3:
		return api.Syn{Op: api.TyPath, Names: m.value(), L: m.list(0, 4, maker.typ)}
	case 4:
		return node(api.TyArrow, m.list(2, 2, maker.typ)...)
	}
	return node(api.TyTuple, m.list(2, 9, maker.typ)...)
}

func (m maker) pat() api.Syn {
	n := 4
	if m.left > 1 {
		n = 6
	}
	switch m.r.Intn(n) {
	case 0:
		return node(api.PtAny)
	case 1:
		return named(api.PtVar, m.lower())
	case 2:
		return number(api.PtInt, []int{0, 7, -7, api.MaxNumber, -api.MaxNumber}[m.r.Intn(5)])
	case 3:
		return path(api.PtCtor, m.module()...)
	case 4:
		return api.Syn{Op: api.PtCtor, Names: m.module(), L: m.list(1, 1, maker.pat)}
	}
	return node(api.PtTuple, m.none(m.list(2, 9, maker.pat))...)
}

func (m maker) rule() api.Syn {
	m.left--
	return node(api.XRule, m.pat(), m.expr())
}

func (m maker) expr() api.Syn {
	n := 5
	if m.left > 2 {
		n = 16
	}
	switch m.r.Intn(n) {
	case 0:
		return number(api.XInt, []int{0, 7, api.MaxNumber}[m.r.Intn(3)])
	case 1:
		return named(api.XText, m.pick("", "a \"b\"\n", "~", strings.Repeat("\\", 20)))
	case 2:
		return path(api.XVar, m.value()...)
	case 3:
		return path(api.XCtor, m.module()...)
	case 4:
		return node(api.XTuple)
	case 5:
		return node(api.XTuple, m.list(2, 9, maker.expr)...)
	case 6:
		return named(api.XFn, m.pick("", m.lower()), m.list(1, 1, maker.expr)...)
	case 7, 8:
		return node(api.XApp, m.list(2, 2, maker.expr)...)
	case 9:
		return node(api.XIf, m.list(3, 3, maker.expr)...)
	case 10:
		return node(api.XCase, append(m.list(1, 1, maker.expr), m.list(1, 3, maker.rule)...)...)
	case 11:
		return node(api.XLet, append(m.list(0, 3, maker.local), m.list(1, 1, maker.expr)...)...)
	case 12:
		return number(api.XOp, api.OpNeg, m.list(1, 1, maker.expr)...)
	case 13:
		return number(api.XOp, 1+m.r.Intn(11), m.list(2, 2, maker.expr)...)
	case 14:
		return node(api.XAnnot, append(m.list(1, 1, maker.expr), m.list(1, 1, maker.typ)...)...)
	}
	return api.Syn{Op: api.XPack, Names: m.module(), L: []api.Syn{m.signature()}}
}

// signature makes the path of a signature.
func (m maker) signature() api.Syn { return path(api.GPath, m.module()...) }

// opened makes the parts of a DUnpack, and an MUnpack.
func (m maker) opened() []api.Syn {
	return append(m.list(1, 1, maker.expr), m.signature())
}

// local makes a declaration that may stand in an XLet.
func (m maker) local() api.Syn {
	switch m.r.Intn(3) {
	case 0:
		return named(api.DVal, m.lower(), m.list(1, 1, maker.expr)...)
	case 1:
		l := make([]string, 1+m.r.Intn(9))
		for i := range l {
			l[i] = m.lower()
		}
		return api.Syn{Op: api.DFun, S: m.lower(), Names: l, L: m.list(1, 1, maker.expr)}
	}
	return named(api.DUnpack, m.upper(), m.opened()...)
}

// equation makes a declaration that is a specification as well.
func (m maker) equation() api.Syn {
	if m.r.Intn(2) == 0 {
		return api.Syn{Op: api.DType, S: m.lower(), Names: m.params(), L: m.list(1, 1, maker.typ)}
	}
	var l []api.Syn
	for _, s := range []string{"C", "D", "Nil", "E" + strings.Repeat("e", 23)}[m.r.Intn(4):] {
		l = append(l, named(api.DCtor, s, m.none(m.list(1, 1, maker.typ))...))
	}
	return api.Syn{Op: api.DData, S: m.lower(), Names: m.params(), L: l}
}

func (m maker) decl() api.Syn {
	m.left--
	switch m.r.Intn(9) {
	case 0, 1:
		return m.local()
	case 2, 3:
		return m.equation()
	case 4, 5:
		return named(api.DStruct, m.upper(), m.list(1, 1, maker.mod)...)
	case 6:
		return named(api.DSig, m.upper(), m.list(1, 1, maker.sig)...)
	case 7:
		return path(api.DOpen, m.module()...)
	}
	return path(api.DInclude, m.module()...)
}

func (m maker) spec() api.Syn {
	m.left--
	switch m.r.Intn(8) {
	case 0, 1:
		return m.equation()
	case 2:
		return named(api.SpVal, m.lower(), m.list(1, 1, maker.typ)...)
	case 3:
		return api.Syn{Op: api.SpType, S: m.lower(), Names: m.params()}
	case 4:
		return named(api.SpStruct, m.upper(), m.list(1, 1, maker.sig)...)
	case 5:
		return named(api.SpSig, m.upper(), m.list(1, 1, maker.sig)...)
	case 6:
		return node(api.SpInclude, m.list(1, 1, maker.sig)...)
	}
	return api.Syn{Op: api.SpShare, Names: m.value(), L: []api.Syn{path(api.TyPath, m.value()...)}}
}

func (m maker) sig() api.Syn {
	if m.left <= 2 {
		return m.signature()
	}
	switch m.r.Intn(5) {
	case 0:
		return m.signature()
	case 1, 2:
		return node(api.GSig, m.list(0, 4, maker.spec)...)
	case 3:
		return api.Syn{Op: api.GFun, S: m.upper(), N: m.r.Intn(2), L: m.list(2, 2, maker.sig)}
	}
	nameless := api.Syn{Op: api.DType, Names: m.params(), L: m.list(1, 1, maker.typ)}
	return api.Syn{Op: api.GWith, Names: m.value(), L: append(m.list(1, 1, maker.sig), nameless)}
}

func (m maker) mod() api.Syn {
	if m.left <= 2 {
		return path(api.MPath, m.module()...)
	}
	switch m.r.Intn(9) {
	case 0:
		return path(api.MPath, m.module()...)
	case 1, 2:
		return node(api.MStruct, m.list(0, 4, maker.decl)...)
	case 3:
		return api.Syn{Op: api.MFun, S: m.upper(), N: m.r.Intn(2), L: append(m.list(1, 1, maker.sig), m.list(1, 1, maker.mod)...)}
	case 4:
		return node(api.MApp, m.list(2, 2, maker.mod)...)
	case 5:
		return node(api.MSeal, append(m.list(1, 1, maker.mod), m.list(1, 1, maker.sig)...)...)
	case 6:
		return node(api.MShow, append(m.list(1, 1, maker.mod), m.list(1, 1, maker.sig)...)...)
	case 7:
		return node(api.MLet, append(m.list(0, 3, maker.decl), m.list(1, 1, maker.mod)...)...)
	}
	return node(api.MUnpack, m.opened()...)
}

// samples returns n well-formed trees of a fixed seed, those of each category in turn.
func samples(n int) []api.Syn {
	r := rand.New(rand.NewSource(3))
	makers := []func(maker) api.Syn{maker.typ, maker.pat, maker.expr, maker.decl, maker.spec, maker.sig, maker.mod}
	var l []api.Syn
	for i := range n {
		l = append(l, makers[i%len(makers)](maker{r, 2 + r.Intn(4)}))
	}
	return l
}

// places returns all places of a tree, each one before those in it.
func places(t api.Syn) [][]int {
	l := [][]int{nil}
	for i, part := range t.L {
		for _, p := range places(part) {
			l = append(l, append([]int{i}, p...))
		}
	}
	return l
}

// part returns what stands at a place.
func part(t api.Syn, place []int) api.Syn {
	for _, i := range place {
		t = t.L[i]
	}
	return t
}

// with returns a new tree with by at a place.
func with(t api.Syn, place []int, by api.Syn) api.Syn {
	if len(place) == 0 {
		return by
	}
	l := append([]api.Syn{}, t.L...)
	l[place[0]] = with(l[place[0]], place[1:], by)
	t.L = l
	return t
}

// chain returns a tree of a depth, op being the kind of all nodes but the last one.
func chain(depth int, last api.Syn, around func(api.Syn) api.Syn) api.Syn {
	for range depth - 1 {
		last = around(last)
	}
	return last
}

// endless returns a tree of shared memory with more nodes than could be gone through, one that contains itself, and one with very many parts.
func endless() []api.Syn {
	shared := node(api.XTuple)
	for range 63 {
		shared = node(api.XApp, shared, shared)
	}
	self := node(api.XApp, node(api.XTuple), node(api.XTuple))
	self.L[0] = self
	wide := node(api.MStruct, slices.Repeat([]api.Syn{path(api.DOpen, "M")}, 1<<20)...)
	return []api.Syn{shared, self, wide}
}
