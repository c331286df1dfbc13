package printer

import (
	"math/rand"
	"slices"
	"strings"
	"testing"

	"pilaster/api"
	"pilaster/lexer"
	"pilaster/parsecore"
	"pilaster/parsemod"
	"pilaster/syntax"
)

// parse returns the tree of a category with a text, if there is one.
func parse(cat int, s string) (api.Syn, api.Errno) {
	switch cat {
	case api.CatType:
		t, _, e := parsecore.Type(s)
		return t, e
	case api.CatPat:
		t, _, e := parsecore.Pattern(s)
		return t, e
	case api.CatExpr:
		t, _, e := parsecore.Expr(s)
		return t, e
	case api.CatDecl:
		return parseOne("struct "+s+" end", parsemod.Mod)
	case api.CatSpec:
		return parseOne("sig "+s+" end", parsemod.Sig)
	case api.CatSig:
		t, _, e := parsemod.Sig(s)
		return t, e
	}
	t, _, e := parsemod.Mod(s)
	return t, e
}

// parseOne returns the only part of a tree.
func parseOne(s string, f func(string) (api.Syn, api.Pos, api.Errno)) (api.Syn, api.Errno) {
	t, _, e := f(s)
	if e == api.OK && len(t.L) != 1 {
		return api.Syn{}, api.ErrForm
	}
	if e != api.OK {
		return api.Syn{}, e
	}
	return t.L[0], api.OK
}

// checkText compares the text of a tree with that of the table.
func checkText(t *testing.T, x sample) {
	t.Helper()
	want := textOf(x.t)
	if s, e := Print(x.cat, x.t); s != want || e != api.OK {
		t.Fatalf("%v: %q, %d; want %q", x, s, e, want)
	}
}

// P6.2: each form of trees, in each place of each form.
func TestTextsOfNestedTrees(t *testing.T) {
	for cat := range categories() {
		for _, x := range nestings(cat, 1) {
			checkText(t, x)
		}
	}
}

// P6.2: trees of any forms.
func TestTextsOfRandomTrees(t *testing.T) {
	for _, x := range randomSamples(1, 1000) {
		if len(textOf(x.t)) <= api.MaxText {
			checkText(t, x)
		}
	}
}

// P6.1: the table says the levels.
func TestLevels(t *testing.T) {
	m := newMaker(2, 0)
	for _, f := range forms() {
		for m.left = range 3 {
			if x := m.node(f); Level(x) != f.level {
				t.Error(x, Level(x), f.level)
			}
		}
	}
}

// P6.1: neither the parts of a tree matter, but for whether there are any, nor do other fields, but for the operator.
func TestLevelsOfAnyTrees(t *testing.T) {
	for op := -10; op < 300; op++ {
		for n := -3; n < 16; n++ {
			for _, parts := range [][]api.Syn{nil, {}, {{}}, {{Op: 1000}, {Op: op, N: n}}, make([]api.Syn, 20)} {
				x := api.Syn{Op: op, N: n, S: "?", Names: []string{"end", ""}, L: parts}
				if got, want := Level(x), levelOfAny(x); got != want {
					t.Error(x, got, want)
				}
			}
		}
	}
}

// levelOfAny returns the level of a tree, which need not be well-formed.
func levelOfAny(t api.Syn) int {
	switch {
	case t.Op == api.TyPath && len(t.L) > 0:
		return 2
	case t.Op == api.PtCtor && len(t.L) > 0:
		return 0
	}
	for _, f := range forms() {
		if f.op == t.Op && (t.Op != api.XOp || f.n == t.N) {
			return f.level
		}
	}
	return 0
}

// P6.4: what is printed is parsed as it was.
func TestTextsAreParsed(t *testing.T) {
	for _, x := range slices.Concat(randomSamples(3, 400), allNestings(1)) {
		s, e := Print(x.cat, x.t)
		if e == api.ErrFull {
			continue
		}
		got, f := parse(x.cat, s)
		if e != api.OK || f != api.OK || !syntax.Equal(got, normal(x.t)) {
			t.Fatalf("%q: %v, %d, %d; want %v", s, got, e, f, x.t)
		}
		if again, e := Print(x.cat, got); again != s || e != api.OK {
			t.Fatalf("%q is printed again as %q, %d", s, again, e)
		}
	}
}

func allNestings(levels int) []sample {
	var l []sample
	for cat := api.CatType; cat <= api.CatMod; cat++ {
		l = append(l, nestings(cat, levels)...)
	}
	return l
}

// P6.4: the same with operators, types, and modules in others that are in others.
func TestDeeplyNestedTextsAreParsed(t *testing.T) {
	for _, cat := range []int{api.CatType, api.CatPat, api.CatExpr, api.CatSig, api.CatMod} {
		for i, x := range nestings(cat, 2) {
			if testing.Short() && i%20 > 0 {
				continue
			}
			s, e := Print(cat, x.t)
			if got, f := parse(cat, s); e != api.OK || f != api.OK || !syntax.Equal(got, normal(x.t)) {
				t.Fatalf("%q: %v, %d, %d; want %v", s, got, e, f, x.t)
			}
		}
	}
}

// pairs returns the indices of the parentheses that belong to each other.
func pairs(l []api.Token) [][2]int {
	var open []int
	var all [][2]int
	for i, x := range l {
		if x.Kind != api.TokSymbol {
			continue
		}
		switch x.Text {
		case "(":
			open = append(open, i)
		case ")":
			last := len(open) - 1
			all = append(all, [2]int{open[last], i})
			open = open[:last]
		}
	}
	return all
}

// withoutPairs returns the texts of s without each pair of its parentheses.
func withoutPairs(t *testing.T, s string) []string {
	l, at, e := lexer.Tokens(s)
	if e != api.OK {
		t.Fatalf("%q: %v, %d", s, at, e)
	}
	var texts []string
	for _, p := range pairs(l) {
		text, e := lexer.Join(slices.Concat(l[:p[0]], l[p[0]+1:p[1]], l[p[1]+1:]))
		if e == api.ErrFull {
			continue
		}
		if e != api.OK {
			t.Fatalf("%q: %d", s, e)
		}
		texts = append(texts, text)
	}
	return texts
}

// P6.4: no pair of parentheses is superfluous.
func TestParenthesesAreNeeded(t *testing.T) {
	n := 0
	for _, x := range slices.Concat(randomSamples(4, 150), allNestings(1)) {
		s, e := Print(x.cat, x.t)
		if e == api.ErrFull || len(s) > 2000 {
			continue
		}
		for _, text := range withoutPairs(t, s) {
			n++
			if got, e := parse(x.cat, text); e == api.OK && syntax.Equal(got, normal(x.t)) {
				t.Fatalf("%q has the tree of %q", text, s)
			}
		}
	}
	if n < 1000 {
		t.Error("too few parentheses", n)
	}
}

// loose returns a source with the same tokens, with other blanks and comments between them.
func loose(r *rand.Rand, tokens []string) string {
	var b strings.Builder
	for i, s := range tokens {
		if i > 0 {
			b.WriteString([]string{" ", "\n", "\t ", "(* ) *)", " (* a (* \" *) *)"}[r.Intn(5)])
		}
		b.WriteString(strings.ReplaceAll(s, ".", []string{".", " . ", "\n."}[r.Intn(3)]))
	}
	return shown(b.String())
}

// P6.4: superfluous parentheses, blanks, and comments are left out of what is parsed and printed.
func TestSourcesArePrinted(t *testing.T) {
	r := rand.New(rand.NewSource(5))
	x := speller{func() int { return max(0, r.Intn(5)-2) }}
	n := 0
	for _, y := range randomSamples(5, 400) {
		s := loose(r, x.tokens(y.t))
		if len(s) > api.MaxText {
			continue
		}
		n++
		got, e := parse(y.cat, s)
		want := textOf(y.t)
		if text, f := Print(y.cat, got); e != api.OK || f != api.OK || text != want {
			t.Fatalf("%q: %q, %d, %d; want %q", s, text, e, f, want)
		}
	}
	if n < 1000 {
		t.Error("too few sources", n)
	}
}

// declarations returns up to n declarations.
func declarations(m maker, n int) []api.Syn {
	var l []api.Syn
	for range n {
		l = append(l, m.tree("decl"))
	}
	return l
}

func normalAll(l []api.Syn) []api.Syn {
	var all []api.Syn
	for _, t := range l {
		all = append(all, normal(t))
	}
	return all
}

// P6.3, P6.4: lists of declarations.
func TestDeclarations(t *testing.T) {
	m := newMaker(6, 3)
	for i := range 400 {
		l := declarations(m, i%7)
		s, e := Decls(l)
		if want := linesOf(l); len(want) > api.MaxText {
			if s != "" || e != api.ErrFull {
				t.Fatalf("%q, %d", s, e)
			}
			continue
		} else if s != want || e != api.OK {
			t.Fatalf("%q, %d; want %q", s, e, want)
		}
		got, at, e := parsemod.Decls(s)
		if e != api.OK || !slices.EqualFunc(got, normalAll(l), syntax.Equal) {
			t.Fatalf("%q: %v, %v, %d", s, got, at, e)
		}
		for _, text := range withoutPairs(t, s) {
			if got, _, e := parsemod.Decls(text); e == api.OK && slices.EqualFunc(got, normalAll(l), syntax.Equal) {
				t.Fatalf("%q has the trees of %q", text, s)
			}
		}
	}
}

// P6.3, P6.4: units.
func TestUnits(t *testing.T) {
	m := newMaker(7, 2)
	names := []string{"B", "A", "Unit", "Z9", "C_", "A" + strings.Repeat("a", 23)}
	for i := range 300 {
		u := api.Unit{Name: names[i%6], Imports: names[:i/6%7], Decls: declarations(m, i%4)}
		s, e := Unit(u)
		if want := sourceOf(u); s != want || e != api.OK {
			t.Fatalf("%q, %d; want %q", s, e, want)
		}
		got, at, e := parsemod.Unit(u.Name, s)
		if e != api.OK || got.Name != u.Name || !slices.Equal(got.Imports, u.Imports) || !slices.EqualFunc(got.Decls, normalAll(u.Decls), syntax.Equal) {
			t.Fatalf("%q: %v, %v, %d", s, got, at, e)
		}
		if again, e := Unit(got); again != s || e != api.OK {
			t.Fatalf("%q is printed again as %q, %d", s, again, e)
		}
	}
}

// A DUnpack has the text of a DStruct, but in an XLet the parser finds it again.
func TestUnpack(t *testing.T) {
	s := api.Syn{Op: api.GPath, Names: []string{"S"}}
	x := api.Syn{Op: api.XVar, Names: []string{"x"}}
	d := api.Syn{Op: api.DUnpack, S: "X", L: []api.Syn{x, s}}
	same := api.Syn{Op: api.DStruct, S: "X", L: []api.Syn{{Op: api.MUnpack, L: []api.Syn{x, s}}}}
	for _, y := range []api.Syn{d, same} {
		if text, e := Print(api.CatDecl, y); text != "structure X = unpack x : S" || e != api.OK {
			t.Error(y, text, e)
		}
	}
	got, e := parse(api.CatDecl, "structure X = unpack x : S")
	if e != api.OK || !syntax.Equal(got, same) {
		t.Error(got, e)
	}
	let := api.Syn{Op: api.XLet, L: []api.Syn{d, x}}
	text, e := Print(api.CatExpr, let)
	if got, f := parse(api.CatExpr, text); text != "let structure X = unpack x : S in x end" || e != api.OK || f != api.OK || !syntax.Equal(got, let) {
		t.Error(got, text, e, f)
	}
}
