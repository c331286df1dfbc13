package printer

import (
	"math/rand"
	"slices"
	"strings"

	"pilaster/api"
)

// maker makes well-formed trees from the table; left is the number of levels on which it may still choose freely.
type maker struct {
	r    *rand.Rand
	left int
}

func newMaker(seed int64, left int) maker { return maker{rand.New(rand.NewSource(seed)), left} }

func (m maker) pick(l ...string) string { return l[m.r.Intn(len(l))] }

// formsOf returns the forms of a category.
func formsOf(cat string) []form {
	var l []form
	for _, f := range forms() {
		if slices.Contains(strings.Fields(f.cats), cat) {
			l = append(l, f)
		}
	}
	return l
}

// tree makes a tree of a category.
func (m maker) tree(cat string) api.Syn {
	if cat == "refinement" {
		return api.Syn{Op: api.DType, Names: m.params(), L: []api.Syn{m.tree("type")}}
	}
	l := formsOf(cat)
	if m.left <= 0 {
		least := slices.MinFunc(l, func(a, b form) int { return a.low - b.low }).low
		l = slices.DeleteFunc(l, func(f form) bool { return f.low > least })
	}
	return m.node(l[m.r.Intn(len(l))])
}

// node makes a tree of a form.
func (m maker) node(f form) api.Syn {
	t := api.Syn{Op: f.op, N: f.n}
	m.left--
	for i, word := range f.words {
		m.fill(&t, word)
		s := f.slots[i]
		for range s.low + m.r.Intn(min(s.high-s.low, max(m.left, 0), 3)+1) {
			t.L = append(t.L, m.tree(s.cat))
		}
	}
	if f.op == api.DData {
		rename(t.L)
	}
	return t
}

// fill makes the fields of t for which a word stands.
func (m maker) fill(t *api.Syn, word string) {
	switch word {
	case "refinement", "P=lower":
		t.Names = append(m.path(m.r.Intn(1+m.r.Intn(8))), m.lower())
	case "P=upper":
		t.Names = m.path(1 + m.r.Intn(1+m.r.Intn(8)))
	case "names":
		for range 1 + m.r.Intn(9) {
			t.Names = append(t.Names, m.lower())
		}
	case "params":
		t.Names = m.params()
	case "S=var":
		t.S = m.pick("'a", "'b", "'end")
	case "S=lower":
		t.S = m.lower()
	case "S=upper":
		t.S = m.upper()
	case "S=name":
		t.S = m.pick("", m.lower())
	case "S=text":
		t.S = m.pick("", " ( ", "a.b , c ;", "a \"b\"\n\\n", "(* *)", "end")
	case "N=nat":
		t.N = m.r.Intn(3) * (api.MaxNumber / 2)
	case "N=int":
		t.N = (m.r.Intn(5) - 2) * (api.MaxNumber / 2)
	}
}

func (m maker) lower() string { return m.pick("x", "y", "f_1", "mod2", "z"+strings.Repeat("_", 23)) }

func (m maker) upper() string { return m.pick("M", "S", "C1", "Val", "A"+strings.Repeat("0", 23)) }

func (m maker) path(n int) []string {
	var l []string
	for range n {
		l = append(l, m.upper())
	}
	return l
}

func (m maker) params() []string {
	l := []string{"'a", "'b", "'val", "'x_1"}
	m.r.Shuffle(len(l), func(i, j int) { l[i], l[j] = l[j], l[i] })
	return l[:m.r.Intn(5)]
}

// rename gives the constructors of a data type different names.
func rename(l []api.Syn) {
	for i := range l {
		l[i].S = "C" + strings.Repeat("c", i)
	}
}

// categories returns the categories of trees that can be printed, and their names in the table.
func categories() map[int]string {
	return map[int]string{api.CatType: "type", api.CatPat: "pat", api.CatExpr: "expr", api.CatDecl: "decl", api.CatSpec: "spec", api.CatSig: "sig", api.CatMod: "mod"}
}

// sample is a tree with a category to which it belongs.
type sample struct {
	cat int
	t   api.Syn
}

// randomSamples returns n trees of each category.
func randomSamples(seed int64, n int) []sample {
	m := newMaker(seed, 0)
	var l []sample
	for cat := api.CatType; cat <= api.CatMod; cat++ {
		for range n {
			m.left = 1 + m.r.Intn(5)
			l = append(l, sample{cat, m.tree(categories()[cat])})
		}
	}
	return l
}

// nested returns trees of a form in which each form that is possible stands at each place of each of the next levels.
func nested(m maker, f form, levels int) []api.Syn {
	m.left = 0
	if levels == 0 {
		return []api.Syn{m.node(f)}
	}
	var l []api.Syn
	for at := range f.words {
		if f.slots[at].cat == "refinement" {
			for _, t := range nested(m, formOf(row{api.DType, 0, "", 0, "type:0"}), levels) {
				t.Names = m.params()
				l = append(l, m.around(f, at, t)...)
			}
			continue
		}
		for _, g := range formsOf(f.slots[at].cat) {
			for _, t := range nested(m, g, levels-1) {
				l = append(l, m.around(f, at, t)...)
			}
		}
	}
	return l
}

// around makes trees of a form with t at each place of the slot at the word with the index at.
func (m maker) around(f form, at int, t api.Syn) []api.Syn {
	before, s := 0, f.slots[at]
	for i := range at {
		before += f.slots[i].low
	}
	n := min(max(2, s.low), s.high)
	var l []api.Syn
	for i := range n {
		x := m.node(form{f.row, f.words, shortened(f, at, n), f.low, f.high})
		x.L[before+i] = t
		if f.op == api.DData {
			rename(x.L)
		}
		l = append(l, x)
	}
	return l
}

// shortened returns the slots of a form with the least possible numbers of parts, but n at the word with the index at.
func shortened(f form, at, n int) map[int]slot {
	slots := map[int]slot{}
	for i, s := range f.slots {
		s.high = s.low
		if i == at {
			s.low, s.high = n, n
		}
		slots[i] = s
	}
	return slots
}

// nestings returns trees of all categories in which each form stands at each place of each form, on so many levels.
func nestings(cat, levels int) []sample {
	m := newMaker(6, 0)
	var l []sample
	for _, f := range formsOf(categories()[cat]) {
		for _, t := range nested(m, f, levels) {
			l = append(l, sample{cat, t})
		}
	}
	return l
}

// normal returns the tree that the text of t is parsed as: a DUnpack outside of an XLet becomes a DStruct.
func normal(t api.Syn) api.Syn { return normalPart(t, 0) }

func normalPart(t api.Syn, around int) api.Syn {
	if t.Op == api.DUnpack && around != api.XLet {
		t = api.Syn{Op: api.DStruct, S: t.S, L: []api.Syn{{Op: api.MUnpack, L: t.L}}}
	}
	var l []api.Syn
	for _, part := range t.L {
		l = append(l, normalPart(part, t.Op))
	}
	t.L = l
	return t
}
