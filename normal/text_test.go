package normal

import (
	"slices"
	"strings"
	"testing"

	"pilaster/api"
	"pilaster/tycon"
)

// P11.5

func expectText(t *testing.T, c api.Con, want string) {
	t.Helper()
	if s, e := Text(c); s != want || e != api.OK {
		t.Fatalf("%s: %s, %d", brief(want), brief(s), e)
	}
	again, e := Parse(want)
	expectCon(t, want, again, e, c)
}

func TestTextByHand(t *testing.T) {
	two := arrow(one(), star())
	for want, c := range map[string]api.Con{
		"#0": v(0), "#19": v(19), "#20000": v(api.MaxNodes), "?0": {Op: api.CMeta}, "?20000": {Op: api.CMeta, N: api.MaxNodes}, "int": num(), "text": text(),
		"A.0{*}": con("A.0", star()), "Unit_2.12{(* -> *) -> *}": con("Unit_2.12", two), "Int.4503599627370496{* -> *}": con("Int.4503599627370496", one()), "Abcdefghijklmnopqrstuvwx.7{*}": con("Abcdefghijklmnopqrstuvwx.7", star()),
		"(int -> text)": to(num(), text()), "((int -> text) -> int)": to(to(num(), text()), num()), "(int -> (text -> int))": to(num(), to(text(), num())), "(#0 int)": app(v(0), num()), "((#0 int) text)": app(v(0), num(), text()), "(#0 (int text))": app(v(0), app(num(), text())), "((#0 int) -> (#1 text))": to(app(v(0), num()), app(v(1), text())), "((#0 -> int) (#1 -> text))": app(to(v(0), num()), to(v(1), text())),
		"{}": fields(api.CRecord, ""), "[]": fields(api.CSum, ""), "{a: int}": fields(api.CRecord, "a", num()), "[a: int]": fields(api.CSum, "a", num()), "{1: int, 2: text}": fields(api.CRecord, "1 2", num(), text()), "[A: int | B: text | C: #0]": fields(api.CSum, "A B C", num(), text(), v(0)), "{.: int, ..: text, _: {}, mod.X: [val.x: {}]}": fields(api.CRecord, ". .. _ mod.X", num(), text(), fields(api.CRecord, ""), fields(api.CSum, "val.x", fields(api.CRecord, ""))),
		"{all: int, fn: int, int: text, mu: [some: int], text: int}": fields(api.CRecord, "all fn int mu text", num(), num(), text(), fields(api.CSum, "some", num()), num()),
		"(all *. #0)": binder(api.CAll, star(), v(0)), "(some * -> *. (#0 int))": binder(api.CSome, one(), app(v(0), num())), "(fn (* -> *) -> *. (#0 -> #1))": lam(two, to(v(0), v(1))), "(mu *. [Cons: #0 | Nil: {}])": mu(star(), fields(api.CSum, "Cons Nil", v(0), fields(api.CRecord, ""))), "(all *. (some *. (fn *. (mu *. #3))))": binder(api.CAll, star(), binder(api.CSome, star(), lam(star(), mu(star(), v(3))))), "((fn *. #0) (mu *. #0))": app(id(), mu(star(), v(0))), "((all *. #0) -> A.0{*})": to(binder(api.CAll, star(), v(0)), con("A.0", star())), "(A.0{* -> *} B.0{*})": app(con("A.0", one()), con("B.0", star())),
	} {
		expectText(t, c, want)
	}
}

func TestTextOfAny(t *testing.T) {
	texts := map[string]api.Con{}
	for _, c := range slices.Concat(smallCons(4), lambdas(8), randomCons(301, 5000)) {
		want := wantText(c)
		expectText(t, c, want)
		if other, found := texts[want]; found && !alike(other, c) {
			t.Fatal(want, "is the text of two constructors")
		}
		texts[want] = c
	}
	for _, s := range randomSamples(302, 2000) {
		expectText(t, s.c, wantText(s.c))
	}
}

// withLength returns a constructor whose text has n bytes: 14 for each of 1,000 fields, and one for each more digit.
func withLength(n int) api.Con {
	c := wide(1000, v(0))
	n -= 14000
	for i := 0; n > 0; i++ {
		digits := min(n, 4)
		c.L[i] = v([]int{0, 10, 100, 1000, 10000}[digits])
		n -= digits
	}
	return c
}

// Long texts, on both sides of the limit.
func TestLongestTexts(t *testing.T) {
	for n := api.MaxText - 3; n <= api.MaxText+3; n++ {
		c := withLength(n)
		want := wantText(c)
		if len(want) != n {
			t.Fatal(n, len(want))
		}
		if n <= api.MaxText {
			expectText(t, c, want)
			continue
		}
		if s, e := Text(c); s != "" || e != api.ErrFull {
			t.Error(n, len(s), e)
		}
		r, e := Parse(want)
		expectNone(t, n, r, e, api.ErrFull)
	}
	for i, c := range []api.Con{balanced(api.MaxNodes, num()), wide(9, con("A.0", chain(400))), wide(1000, con("Abcdefghijklmnopqrstuvwx.7", star()))} {
		if s, e := Text(c); s != "" || e != api.ErrFull {
			t.Error(i, len(s), e)
		}
	}
}

// A text would be huge if kinds that stand in one place of memory were written for each node.
func TestTextOfHugeKinds(t *testing.T) {
	k := star()
	for range 13 {
		k = arrow(k, k)
	}
	c := wide(1000, con("A.0", k))
	for _, c := range []api.Con{con("A.0", k), lam(k, num()), c, to(num(), to(c, c))} {
		if s, e := Text(c); s != "" || e != api.ErrFull {
			t.Error(len(s), e)
		}
	}
}

func TestParseRefuses(t *testing.T) {
	for _, s := range []string{
		"", " ", "\n", "x", "@", "\xff", "#", "?", "#x", "#-1", "#+1", "#00", "#01", "#20001", "#99999999999999999999", "?20001", "?00", "#1 ", " #1", "# 1", "#1.0", "#1#1", "#4503599627370497", "#18446744073709551616", "#4294967296", "?4294967296",
		"Int", "INT", "int ", " int", "integer", "intint", "in", "texts", "tex", "int text", "bool", "unit", "()", "( )", "(int)", "((int))", "(int", "int)", "(int ->)", "(int -> )", "( -> int)", "(-> int)", "(int->int)", "(int- > int)", "(int  -> int)", "(int ->  int)", "(int -> int", "(int -> int))", "((int -> int)", "int -> int", "(int -> int -> int)", "(int int int)", "(int  int)", "(int int )", "( int int)", "int int", "(int -> int) ", "(int, int)", "(int | int)", "(int;int)", "(int\tint)", "(int\nint)", "(int => int)",
		"{", "}", "{ }", "{a}", "{a:}", "{a: }", "{a:int}", "{a : int}", "{ a: int}", "{a: int }", "{a: int,}", "{a: int, }", "{, a: int}", "{a: int,b: int}", "{a: int , b: int}", "{a: int,  b: int}", "{a: int b: int}", "{a: int | b: int}", "{a: int, a: int}", "{b: int, a: int}", "{10: int, 9: int, 1: int}", "{: int}", "{ : int}", "{a-b: int}", "{é: int}", "{a: int]", "{a: int", "a: int", "a: int}", "{a: int}}", "{int}", "{a: b: int}", "{a, b: int}", "{\xff: int}", "{'a: int}",
		"[", "]", "[ ]", "[a: int, b: int]", "[a: int| b: int]", "[a: int |b: int]", "[a: int|b: int]", "[a: int | a: int]", "[b: int | a: int]", "[a: int | ]", "[| a: int]", "[a: int}", "[a]", "[int]", "[A | B]", "{" + strings.Repeat("a", 49) + ": int}",
		"A", "A.0", "A.", ".0", "A.0{", "A.0{}", "A.0{*", "A.0*}", "A.0 {*}", "A.0{ *}", "A.0{* }", "A.0{*} ", "A.0{(*)}", "A.0{* ->}", "A.0{*->*}", "A.0{* -> (* -> *)}", "A.0{{*}}", "A.0{*}}", "A.00{*}", "A.-1{*}", "A.x{*}", "A.4503599627370497{*}", "a.0{*}", "A.B.0{*}", "A.0.0{*}", "A{*}", "0{*}", "{*}", "int.0{*}", "A.0{#0}", "A.0{type}", "A.0[*]", "Mod-1.0{*}", "Ä.0{*}", strings.Repeat("A", 25) + ".0{*}", "A.0{*}{*}",
		"(fn *.#0)", "(fn*. #0)", "(fn  *. #0)", "(fn * . #0)", "(fn *.  #0)", "(fn *. #0 )", "( fn *. #0)", "(fn *. )", "(fn *.)", "(fn *)", "(fn)", "(fn *. #0", "fn *. #0", "(fn. #0)", "(fn . #0)", "(fn (*). #0)", "(fn *->*. #0)", "(fn * -> (* -> *). #0)", "(fn int. #0)", "(fn #0)", "(fun *. #0)", "(Fn *. #0)", "(lambda *. #0)", "(forall *. #0)", "(exists *. #0)", "(rec *. #0)", "(mu #0)", "(mu *. #0 #0)", "(all *. #0 -> #0)", "(all *, #0)", "(some *: #0)", "(all *. all *. #0)", "(all * *. #0)", "(all *. . #0)", "(mu *. *)", "(fn *. #0) int", "(fn *. #0 int)", "(allx *. #0)", "(all\n*. #0)",
		"*", "* -> *", "(* -> *)", strings.Repeat("(", api.MaxText), strings.Repeat("{a: ", 4096), strings.Repeat("[", api.MaxText), strings.Repeat("(fn *. ", 2000), strings.Repeat("#", api.MaxText), "#" + strings.Repeat("1", api.MaxText-1), "#" + strings.Repeat("0", api.MaxText-1), strings.Repeat("A", api.MaxText), strings.Repeat("\x00", api.MaxText), "(fn " + strings.Repeat("(", 9000) + ". #0)",
	} {
		c, e := Parse(s)
		expectNone(t, s, c, e, api.ErrForm)
	}
}

// The limits of constructors hold for their texts.
func TestParseAtTheLimits(t *testing.T) {
	most, tooMany := wide(api.MaxList, v(0)), wide(api.MaxList+1, v(0))
	for i := range tooMany.Names {
		// Labels of 4 bytes, so that the text is short enough.
		s := tooMany.Names[i]
		tooMany.Names[i] = s[len(s)-4:]
	}
	slices.Sort(tooMany.Names)
	most.Names = tooMany.Names[:api.MaxList]
	expectText(t, most, wantText(most))
	label := strings.Repeat("a", 48)
	expectText(t, fields(api.CRecord, label, num()), "{"+label+": int}")
	name := strings.Repeat("A", 24) + ".4503599627370496"
	expectText(t, con(name, star()), name+"{*}")
	for _, c := range []api.Con{deep(399, num()), lams(399, num()), nested(399, v(0), num()), app(num(), slices.Repeat([]api.Con{v(1)}, 399)...), lam(chain(400), con("A.0", chain(400)))} {
		expectText(t, c, wantText(c))
	}
	wrong := []api.Con{tooMany, deep(400, num()), lams(400, num()), nested(400, v(0), num()), app(num(), slices.Repeat([]api.Con{v(1)}, 400)...), lams(2000, num()), lam(chain(401), num()), con("A.0", chain(401))}
	for range 3 {
		for _, c := range wrong {
			s := wantText(c)
			r, e := Parse(s)
			if len(s) > api.MaxText || tycon.Valid(c) {
				t.Fatal(brief(s))
			}
			expectNone(t, s, r, e, api.ErrForm)
		}
		for i, c := range wrong {
			wrong[i] = fields(api.CSum, "A B", num(), c)
		}
	}
	for _, s := range []string{"int", "(", "{", "#", "x", " ", "\xff", "(int -> ", "A.0{*}"} {
		for _, n := range []int{api.MaxText + 1, api.MaxText + 9, 1 << 22} {
			r, e := Parse(strings.Repeat(s, n)[:n])
			expectNone(t, n, r, e, api.ErrFull)
		}
	}
}

// expectParsed compares Parse with the second description of texts.
func expectParsed(t *testing.T, s string) (found bool) {
	t.Helper()
	c, e := Parse(s)
	if !isText(s) {
		expectNone(t, s, c, e, api.ErrForm)
		return false
	}
	if e != api.OK || wantText(c) != s {
		t.Fatal(s, brief(c), e)
	}
	return true
}

// All texts of a few words.
func TestParseOfShortTexts(t *testing.T) {
	found := 0
	for words, n := range map[string]int{
		"#0;(;);{;};[;]; ; -> ;a: ;b: ;, ; | ;int": 5, "(;);fn ;*;. ; -> ;#1;(mu *. ; ": 6, "A.0;{;};*;(;); -> ;a: ": 6, "{;};a: ;b: ;, ;?2; | ": 7, "[;];a: ;b: ; | ;{}": 7,
	} {
		level := []string{""}
		for range n {
			var next []string
			for _, s := range level {
				for _, w := range strings.Split(words, ";") {
					next = append(next, s+w)
				}
			}
			for _, s := range next {
				if expectParsed(t, s) {
					found++
				}
			}
			level = next
		}
	}
	if found < 60 {
		t.Error("only", found, "texts")
	}
}

// Texts with a change of a byte.
func TestParseOfChangedTexts(t *testing.T) {
	texts := []string{"(fn * -> *. (#0 int))", "{a: int, b: (text -> #10)}", "[A: {} | B: [] | C: ?7]", "((all *. #0) (some (* -> *) -> *. (#0 A.10{* -> *})))", "(mu *. [Cons: {1: #1, 2: #0} | Nil: {}])", "(A.0{*} -> (B_1.2{*} int))"}
	for _, c := range randomCons(303, 60) {
		if s := wantText(c); len(s) < 40 {
			texts = append(texts, s)
		}
	}
	for _, s := range texts {
		if !expectParsed(t, s) {
			t.Fatal(s)
		}
		for i := range len(s) + 1 {
			expectParsed(t, s[:i])
			expectParsed(t, s[i:])
			for _, b := range "()[]{}#?*.,:|-> a0A1t\n\x00" {
				expectParsed(t, s[:i]+string(b)+s[i:])
				if i < len(s) {
					expectParsed(t, s[:i]+string(b)+s[i+1:])
				}
			}
			if i < len(s) {
				expectParsed(t, s[:i]+s[i+1:])
			}
		}
	}
}
