package parsecore

import (
	"slices"
	"strings"
	"testing"

	"pilaster/api"
	"pilaster/syntax"
)

// A list has at most MaxNodes tokens, and the end.
func TestNumberOfTokens(t *testing.T) {
	l := append(slices.Repeat([]api.Token{{Kind: api.TokLower, Text: "x"}, word("in")}, 10000), end())
	longer, many := append(l[:1:1], l...), slices.Repeat(l, 50)
	for rule := range atFunctions() {
		x := value("x")
		if rule == "type" {
			x = typ("x")
		}
		expectAt(t, rule, l, 0, x, 1, api.OK)
		expectAt(t, rule, l, 19998, x, 19999, api.OK)
		expectAt(t, rule, l, 20000, api.Syn{}, 20000, api.ErrEnd)
		expectAt(t, rule, longer, 0, api.Syn{}, 0, api.ErrArg)
		expectAt(t, rule, many, 0, api.Syn{}, 0, api.ErrArg)
	}
}

// sized is a text in which a part is repeated, with the greatest number of times that is permitted, separated by by.
type sized struct {
	rule, before, part, by, after string
	most                          int
}

func (x sized) text(n int) string {
	return x.before + strings.Join(slices.Repeat([]string{x.part}, n), x.by) + x.after
}

func lists() []sized {
	return []sized{
		{"type", "", "a", " * ", "", 9},
		{"type", "(", "(a -> b)", " * ", ") c", 9},
		{"type", "(", "a", ",", ") t", 4},
		{"type", "", "M", ".", ".t", 7},
		{"type", "a * a ", "M", ".", ".t", 7},
		{"type", "(module ", "M", ".", ")", 8},
		{"pattern", "(", "x", ",", ")", 9},
		{"pattern", "C (", "_", ",", ")", 9},
		{"pattern", "", "M", ".", "", 8},
		{"pattern", "C ", "M", ".", "", 8},
		{"pattern", "", "M", ".", " x", 8},
		{"expression", "f (", "x", ",", ")", 9},
		{"expression", "(x : ", "a", " * ", ")", 9},
		{"expression", "f ", "M", ".", " x", 8},
		{"expression", "f ", "M", ".", ".x", 7},
		{"expression", "(pack ", "M", ".", " : S)", 8},
		{"expression", "(pack S : ", "M", ".", ")", 8},
		{"expression", "let fun f ", "x", " ", " = 1 in 2 end", 9},
		{"expression", "let structure S = unpack p : ", "M", ".", " in 2 end", 8},
		{"expression", "case x of ", "M", ".", " => 2 end", 8},
		{"expression", "case x of (", "y", ",", ") => 2 end", 9},
	}
}

func TestListsAtTheirBounds(t *testing.T) {
	for _, x := range lists() {
		for n := 2; n <= x.most; n++ {
			checkSource(t, x.rule, x.text(n))
			if _, at, e := sourceFunctions()[x.rule](x.text(n)); e != api.OK {
				t.Error(x.text(n), at, e)
			}
		}
		for _, n := range []int{x.most + 1, x.most + 2, 1000} {
			s := x.text(n)
			expectSource(t, x.rule, s, api.Syn{}, api.Pos{}, api.ErrFull)
			expectAt(t, x.rule, tokens(s), 0, api.Syn{}, 0, api.ErrFull)
			// A token that cannot stand there comes first, wherever it is.
			l := tokens(s + " )")
			expectSource(t, x.rule, s+" )", api.Syn{}, l[len(l)-2].At, api.ErrForm)
			expectAt(t, x.rule, l, 0, api.Syn{}, 0, api.ErrFull)
		}
	}
}

// There is no limit but that for the nodes where the table of layer 3 names none.
func TestListsWithoutBounds(t *testing.T) {
	for _, x := range []sized{
		{"expression", "case x of ", "_=>1", "|", " end", 1500},
		{"expression", "let ", "val x=1", " ", " in x end", 1500},
	} {
		s := x.text(x.most)
		tree, _, e := Expr(s)
		if e != api.OK || len(tree.L) != x.most+1 {
			t.Error(x, len(tree.L), e)
		}
	}
}

// nest is a text whose depth grows by one with each time that before and after are put around it.
type nest struct{ rule, before, middle, after string }

func (x nest) tokens(n int) []api.Token {
	one := func(s string) []api.Token {
		l := tokens(s)
		return l[:len(l)-1]
	}
	l := slices.Repeat(one(x.before), n)
	l = append(l, one(x.middle)...)
	l = append(l, slices.Repeat(one(x.after), n)...)
	for i := range l {
		l[i].At = api.Pos{}
	}
	return append(l, end())
}

func nests() []nest {
	return []nest{
		{"type", "a->", "a", ""}, {"type", "(", "a", "->a)"}, {"type", "", "a", " a"}, {"type", "(a,", "a", ")a"}, {"type", "(a*", "a", ")"},
		{"pattern", "C(", "C", ")"}, {"pattern", "(x,", "x", ")"},
		{"expression", "fn x=>", "x", ""}, {"expression", "fn _=>", "x", ""}, {"expression", "~", "x", ""}, {"expression", "x^", "x", ""},
		{"expression", "x orelse ", "x", ""}, {"expression", "x andalso ", "x", ""}, {"expression", "", "x", "+x"}, {"expression", "", "x", " div x"},
		{"expression", "(x=", "x", ")"}, {"expression", "", "x", " x"}, {"expression", "x(", "x", ")"}, {"expression", "(x,", "x", ")"},
		{"expression", "(", "x", ":t)"}, {"expression", "if ", "x", " then x else x"}, {"expression", "if x then ", "x", " else x"},
		{"expression", "if x then x else ", "x", ""}, {"expression", "let in ", "x", " end"},
		{"atom", "(", "x", ":t)"}, {"atom", "(x,", "x", ")"}, {"atom", "let in ", "x", " end"},
	}
}

func TestDepthAtItsBound(t *testing.T) {
	for _, x := range nests() {
		l := x.tokens(399)
		tree := api.Syn{}
		if f, ok := atFunctions()[x.rule]; ok {
			next, e := 0, api.OK
			if tree, next, e = f(l, 0); e != api.OK || next != len(l)-1 || syntax.Depth(tree) != 400 {
				t.Error(x, next, e, syntax.Depth(tree))
			}
		}
		if f, ok := sourceFunctions()[x.rule]; ok {
			e := api.OK
			if tree, _, e = f(written(l)); e != api.OK || syntax.Depth(tree) != 400 {
				t.Error(x, e, syntax.Depth(tree))
			}
		}
		for _, n := range []int{400, 401, 500} {
			l := x.tokens(n)
			expectAt(t, x.rule, l, 0, api.Syn{}, 0, api.ErrFull)
			expectSource(t, x.rule, written(l), api.Syn{}, api.Pos{}, api.ErrFull)
		}
	}
}

// A rule is a node between a match and its expressions.
func TestDepthOfMatches(t *testing.T) {
	x := nest{"expression", "case x of x=>", "(x,x)", " end"}
	l := x.tokens(199)
	tree, next, e := ExprAt(l, 0)
	if e != api.OK || next != len(l)-1 || syntax.Depth(tree) != 400 {
		t.Error(next, e, syntax.Depth(tree))
	}
	expectAt(t, "expression", nest{x.rule, x.before, "((x,x),x)", x.after}.tokens(199), 0, api.Syn{}, 0, api.ErrFull)
	expectAt(t, "expression", x.tokens(200), 0, api.Syn{}, 0, api.ErrFull)
}

// Neither the depth of a text nor that of what is read is limited before it is known that there is no wrong token.
func TestDeepTexts(t *testing.T) {
	for _, x := range nests() {
		one := x.tokens(1)
		n := api.MaxNodes / (len(one) - 1)
		l := x.tokens(n)
		expectAt(t, x.rule, l, 0, api.Syn{}, 0, api.ErrFull)
		// Without the last token, or with a wrong one in its place, at least those in parentheses cannot end.
		if x.after == ")" {
			last := len(l) - 2
			expectAt(t, x.rule, append(slices.Clone(l[:last]), end()), 0, api.Syn{}, last, api.ErrEnd)
			expectAt(t, x.rule, append(slices.Clone(l[:last]), word("]")), 0, api.Syn{}, 0, api.ErrArg)
			expectAt(t, x.rule, append(slices.Clone(l[:last]), word(";"), end()), 0, api.Syn{}, last, api.ErrForm)
		}
	}
}

func TestManyParentheses(t *testing.T) {
	x := api.Token{Kind: api.TokLower, Text: "x"}
	for rule := range atFunctions() {
		tree := value("x")
		if rule == "type" {
			tree = typ("x")
		}
		left, right := slices.Repeat([]api.Token{word("(")}, 20000), slices.Repeat([]api.Token{word(")")}, 9999)
		expectAt(t, rule, slices.Concat(left, []api.Token{end()}), 0, api.Syn{}, 20000, api.ErrEnd)
		expectAt(t, rule, slices.Concat(left[:9999], []api.Token{x}, right, []api.Token{end()}), 0, tree, 19999, api.OK)
		expectAt(t, rule, slices.Concat(left[:9999], []api.Token{x}, right[1:], []api.Token{end()}), 0, api.Syn{}, 19998, api.ErrEnd)
	}
	for rule, tree := range map[string]api.Syn{"type": typ("x"), "pattern": named(api.PtVar, "x"), "expression": value("x")} {
		s := strings.Repeat("(", 8191) + "x" + strings.Repeat(")", 8191)
		expectSource(t, rule, s, tree, api.Pos{}, api.OK)
		expectSource(t, rule, s+")", api.Syn{}, api.Pos{Line: 1, Column: 16384}, api.ErrForm)
		expectSource(t, rule, s+"  ", api.Syn{}, api.Pos{}, api.ErrFull)
		expectSource(t, rule, strings.Repeat("(", 16384), api.Syn{}, api.Pos{Line: 1, Column: 16385}, api.ErrEnd)
	}
}

// wide returns a match of 66 rules, each of which has a pattern and an application of 151 atoms, and so of 303 nodes if the pattern is one.
func wide(first string) string {
	atoms := strings.Repeat(`1""`, 75) + "1"
	return "case 1 of " + first + "=>" + atoms + strings.Repeat("|_=>"+atoms, 65) + " end"
}

func TestNodesAtTheirBound(t *testing.T) {
	all, more := wide("_"), wide("C _")
	tree, _, e := Expr(all)
	if e != api.OK || syntax.Size(tree) != api.MaxNodes {
		t.Error(syntax.Size(tree), e)
	}
	expectSource(t, "expression", more, api.Syn{}, api.Pos{}, api.ErrFull)
	for _, rule := range []string{"expression", "atom"} {
		l := tokens(all)
		expectAt(t, rule, l, 0, tree, len(l)-1, api.OK)
		expectAt(t, rule, tokens(more), 0, api.Syn{}, 0, api.ErrFull)
	}
	// A part of what is too large may be well-formed.
	l := tokens(more)
	expectAt(t, "expression", l, 3, path(api.XCtor, "C"), 4, api.OK)
	l = tokens(more + " :")
	expectSource(t, "expression", more+" :", api.Syn{}, l[len(l)-2].At, api.ErrForm)
	expectSource(t, "expression", more[:len(more)-3], api.Syn{}, api.Pos{Line: 1, Column: len(more) - 2}, api.ErrEnd)
}
