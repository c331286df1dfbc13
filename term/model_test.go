package term

import (
	"regexp"
	"slices"
	"strconv"
	"strings"

	"pilaster/api"
	"pilaster/kind"
	"pilaster/tycon"
)

// The second description: terms in which variables of both kinds have names instead of indices. The free ones with the free index 3 are named f3, bound ones have names that nothing else has.

type namedCon struct {
	node  api.Con // without parts
	name  string  // that of a variable, or of the variable of a binder
	parts []namedCon
}

type namedTerm struct {
	node    api.Term // without parts and constructors
	name    string   // that of a variable
	con, to namedCon
	parts   []scoped
}

// scoped is a part with the names that are bound in it, which are empty if nothing is.
type scoped struct {
	con, term string
	t         namedTerm
}

// around has the names that are bound around a node, the innermost ones being the last ones.
type around struct{ cons, terms []string }

// with returns the names with one more name of each kind that is not empty.
func (a around) with(con, term string) around {
	if con != "" {
		a.cons = append(slices.Clone(a.cons), con)
	}
	if term != "" {
		a.terms = append(slices.Clone(a.terms), term)
	}
	return a
}

type namer struct{ last int }

func (n *namer) fresh(bound bool) string {
	if !bound {
		return ""
	}
	n.last++
	return "b" + strconv.Itoa(n.last)
}

func nameOf(index int, names []string) string {
	if free := index - len(names); free >= 0 {
		return freeName(free)
	}
	return names[len(names)-1-index]
}

func freeName(i int) string { return "f" + strconv.Itoa(i) }

// freeIndex returns the free index that a name says, if it is that of a free variable.
func freeIndex(name string) (int, bool) {
	s, found := strings.CutPrefix(name, "f")
	i, err := strconv.Atoi(s)
	return i, found && err == nil
}

// indexOf is the opposite of nameOf.
func indexOf(name string, names []string) int {
	if i, free := freeIndex(name); free {
		return i + len(names)
	}
	return len(names) - 1 - slices.Index(names, name)
}

func (n *namer) con(c api.Con, a around) namedCon {
	r := namedCon{node: c}
	r.node.L = nil
	switch c.Op {
	case api.CVar:
		r.node.N, r.name = 0, nameOf(c.N, a.cons)
	case api.CAll, api.CSome, api.CLam, api.CMu:
		r.name = n.fresh(true)
		a = a.with(r.name, "")
	}
	for _, part := range c.L {
		r.parts = append(r.parts, n.con(part, a))
	}
	return r
}

// bindsIn says whether a node of a kind binds a variable of constructors, and one of terms, in its part i.
func bindsIn(op, i int) (con, term bool) {
	switch strconv.Itoa(op) + "." + strconv.Itoa(min(i, 1)) {
	case "6.0":
		return true, false
	case "4.0", "16.0", "17.1", "13.1":
		return false, true
	case "9.1":
		return true, true
	}
	return false, false
}

func (n *namer) term(t api.Term, a around) namedTerm {
	r := namedTerm{node: t, con: n.con(t.Con, a), to: n.con(t.To, a)}
	r.node.L, r.node.Con, r.node.To = nil, api.Con{}, api.Con{}
	if t.Op == api.EVar {
		r.node.N, r.name = 0, nameOf(t.N, a.terms)
	}
	for i, part := range t.L {
		con, term := bindsIn(t.Op, i)
		s := scoped{con: n.fresh(con), term: n.fresh(term)}
		s.t = n.term(part, a.with(s.con, s.term))
		r.parts = append(r.parts, s)
	}
	return r
}

func toNames(t api.Term) namedTerm {
	var n namer
	return n.term(t, around{})
}

func conToIndices(x namedCon, a around) api.Con {
	c := x.node
	if c.Op == api.CVar {
		c.N = indexOf(x.name, a.cons)
	} else {
		a = a.with(x.name, "")
	}
	for _, part := range x.parts {
		c.L = append(c.L, conToIndices(part, a))
	}
	return c
}

// toIndices is the opposite of toNames.
func toIndices(x namedTerm, a around) api.Term {
	t := x.node
	t.Con, t.To = conToIndices(x.con, a), conToIndices(x.to, a)
	if t.Op == api.EVar {
		t.N = indexOf(x.name, a.terms)
	}
	for _, part := range x.parts {
		t.L = append(t.L, toIndices(part.t, a.with(part.con, part.term)))
	}
	return t
}

// swap says what becomes of free variables of both kinds.
type swap struct {
	con  func(free int) namedCon
	term func(free int) namedTerm
}

func (s swap) inCon(x namedCon) namedCon {
	if i, free := freeIndex(x.name); free && x.node.Op == api.CVar {
		return s.con(i)
	}
	var l []namedCon
	for _, part := range x.parts {
		l = append(l, s.inCon(part))
	}
	x.parts = l
	return x
}

func (s swap) in(x namedTerm) namedTerm {
	if i, free := freeIndex(x.name); free {
		return s.term(i)
	}
	x.con, x.to = s.inCon(x.con), s.inCon(x.to)
	var l []scoped
	for _, part := range x.parts {
		l = append(l, scoped{part.con, part.term, s.in(part.t)})
	}
	x.parts = l
	return x
}

// want returns t with something else for its free variables. Names of bound variables may then stand for several binders, but never one inside of the other.
func want(t api.Term, s swap) api.Term { return toIndices(s.in(toNames(t)), around{}) }

func freeCon(i int) namedCon {
	return namedCon{node: api.Con{Op: api.CVar}, name: freeName(i)}
}

func freeTerm(i int) namedTerm {
	return namedTerm{node: api.Term{Op: api.EVar}, name: freeName(i)}
}

func wantFree(t api.Term) (cons, terms []int) {
	want(t, swap{
		func(i int) namedCon { cons = append(cons, i); return freeCon(i) },
		func(i int) namedTerm { terms = append(terms, i); return freeTerm(i) },
	})
	once := func(l []int) []int { slices.Sort(l); return slices.Compact(l) }
	return once(cons), once(terms)
}

func wantShift(t api.Term, cons, terms int) api.Term {
	return want(t, swap{
		func(i int) namedCon { return freeCon(i + cons) },
		func(i int) namedTerm { return freeTerm(i + terms) },
	})
}

func wantSubst(t, by api.Term) api.Term {
	return want(t, swap{freeCon, func(i int) namedTerm {
		if i > 0 {
			return freeTerm(i - 1)
		}
		// Names of its binders are told from those of t.
		n := namer{1 << 20}
		return n.term(by, around{})
	}})
}

func wantSubstCons(t api.Term, l []api.Con) api.Term {
	return want(t, swap{func(i int) namedCon {
		if i >= len(l) {
			return freeCon(i - len(l))
		}
		n := namer{1 << 20}
		return n.con(l[i], around{})
	}, freeTerm})
}

// wantLams and wantApps have no limits.
func wantLams(l []api.Con, t api.Term) api.Term {
	for i := len(l) - 1; i >= 0; i-- {
		t = lam(l[i], t)
	}
	return t
}

func wantApps(f api.Term, l []api.Term) api.Term {
	for _, a := range l {
		f = app(f, a)
	}
	return f
}

// form is a row of the chapter's table: what the fields of a node are, and how many parts there are, beside one for each name.
type form struct {
	n     string
	parts int
	s     string
	names string
	con   string
	kind  bool
}

// forms returns the rows of the chapter's table, but for the parts of operations.
func forms() map[int]form {
	return map[int]form{
		1: {n: "index"}, 2: {n: "number"}, 3: {s: "text"}, 4: {con: "Con", parts: 1}, 5: {parts: 2}, 6: {kind: true, parts: 1}, 7: {con: "Con", parts: 1}, 8: {con: "Con, To", parts: 1}, 9: {parts: 2},
		10: {names: "any"}, 11: {s: "label", parts: 1}, 12: {s: "label", con: "Con", parts: 1}, 13: {names: "some", parts: 1}, 14: {con: "Con", parts: 1}, 15: {parts: 1}, 16: {con: "Con", parts: 1}, 17: {parts: 2}, 18: {n: "operation", parts: 2}, 19: {n: "code", con: "Con"},
	}
}

// numbersOf returns the least and the greatest N.
func numbersOf(what string) (from, to int) {
	switch what {
	case "index":
		return 0, 20000
	case "number":
		return -1 << 52, 1 << 52
	case "operation":
		return 1, 14
	case "code":
		return 1, 1000000
	}
	return 0, 0
}

func textsOf(what, s string) bool {
	switch what {
	case "text":
		return len(s) <= 16384
	case "label":
		return labelForm.MatchString(s)
	}
	return s == ""
}

var labelForm = regexp.MustCompile(`^[A-Za-z0-9_.]{1,48}$`)

func wantNames(what string, l []string) bool {
	if what == "" || what == "some" && len(l) == 0 {
		return what == "" && len(l) == 0
	}
	sorted := slices.Compact(slices.Sorted(slices.Values(l)))
	isNoLabel := func(s string) bool { return !labelForm.MatchString(s) }
	return len(l) <= 1000 && slices.Equal(sorted, l) && !slices.ContainsFunc(l, isNoLabel)
}

// wantCons says whether the constructors of a node are right, and how many nodes they have.
func wantCons(t api.Term, what string) (int, bool) {
	nodes := 0
	for i, c := range []api.Con{t.Con, t.To} {
		used := strings.Contains(what, []string{"Con", "To"}[i])
		switch {
		case used && !tycon.Valid(c), !used && !isZeroCon(c):
			return 0, false
		case used:
			nodes += tycon.Size(c)
		}
	}
	return nodes, true
}

func isZeroCon(c api.Con) bool {
	return c.Op == 0 && c.N == 0 && c.S == "" && len(c.Kind.L) == 0 && len(c.Names) == 0 && len(c.L) == 0
}

// wantNode says whether a node is right, without its parts, and how many nodes it is with its constructors.
func wantNode(t api.Term) (int, bool) {
	f, found := forms()[t.Op]
	from, to := numbersOf(f.n)
	if !found || t.N < from || t.N > to || !textsOf(f.s, t.S) || !wantNames(f.names, t.Names) {
		return 0, false
	}
	if t.Op == 18 && slices.Contains([]int{6, 11, 13, 14}, t.N) {
		f.parts = 1
	}
	if len(t.L) != f.parts+len(t.Names) || !f.kind && len(t.Kind.L) > 0 || f.kind && !kind.Valid(t.Kind) {
		return 0, false
	}
	nodes, ok := wantCons(t, f.con)
	return nodes + 1, ok
}

// wantSize goes through a term level by level. It returns 0 if it is not well-formed.
func wantSize(t api.Term) int {
	nodes := 0
	level := []api.Term{t}
	for depth := 1; len(level) > 0; depth++ {
		var next []api.Term
		for _, x := range level {
			own, ok := wantNode(x)
			nodes += own
			if !ok || depth > 400 || nodes > 20000 {
				return 0
			}
			next = append(next, x.L...)
		}
		level = next
	}
	return nodes
}

func wantValid(t api.Term) bool { return wantSize(t) > 0 }

// wantValue follows the chapter's sentence.
func wantValue(t api.Term) bool {
	if !wantValid(t) {
		return false
	}
	switch t.Op {
	case 10, 12, 14, 8:
		return !slices.ContainsFunc(t.L, func(part api.Term) bool { return !wantValue(part) })
	}
	return slices.Contains([]int{2, 3, 4, 6, 16}, t.Op)
}

// alike compares the texts of all fields.
func alike(a, b api.Term) bool { return written(a) == written(b) }

// written shows all of a term, with nil for empty lists.
func written(t api.Term) string {
	var b strings.Builder
	write(&b, t)
	return b.String()
}

func write(b *strings.Builder, t api.Term) {
	b.WriteString("<" + strconv.Itoa(t.Op) + " " + strconv.Itoa(t.N))
	writeText(b, t.S)
	writeCon(b, t.Con)
	writeCon(b, t.To)
	writeKind(b, t.Kind)
	for _, s := range t.Names {
		writeText(b, s)
	}
	for _, part := range t.L {
		write(b, part)
	}
	b.WriteString(">")
}

func writeText(b *strings.Builder, s string) { b.WriteString(" " + strconv.Quote(s)) }

func writeCon(b *strings.Builder, c api.Con) {
	b.WriteString("[" + strconv.Itoa(c.Op) + " " + strconv.Itoa(c.N))
	writeText(b, c.S)
	writeKind(b, c.Kind)
	for _, s := range c.Names {
		writeText(b, s)
	}
	for _, part := range c.L {
		writeCon(b, part)
	}
	b.WriteString("]")
}

func writeKind(b *strings.Builder, k api.Kind) {
	b.WriteString("(")
	for _, part := range k.L {
		writeKind(b, part)
	}
	b.WriteString(")")
}
