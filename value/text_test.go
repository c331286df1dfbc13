package value

import (
	"slices"
	"strings"
	"testing"

	"pilaster/api"
)

// P14.2

func expectText(t *testing.T, v api.Value, want string) {
	t.Helper()
	if s, e := Text(v); s != want || e != api.OK {
		t.Fatalf("%s: %s, %d", brief(want), brief(s), e)
	}
	again, e := Parse(want)
	expectValue(t, want, again, e, v)
}

func TestTextByHand(t *testing.T) {
	for want, v := range map[string]api.Value{
		"0": num(0), "7": num(7), "-7": num(-7), "4503599627370496": num(api.MaxNumber), "-4503599627370496": num(-api.MaxNumber), "-10": num(-10), "1000": num(1000),
		`""`: str(""), `"a b"`: str("a b"), `" ~!#[]"`: str(" ~!#[]"), `"\034"`: str(`"`), `"\092"`: str(`\`), `"\000\031\127\128\255"`: str("\x00\x1f\x7f\x80\xff"), `"\010\009\013"`: str("\n\t\r"), `"a\034b\092034c"`: str(`a"b\034c`), `"\195\169"`: str("é"), `"fn"`: str("fn"), `"{a = 1, b = <2>}"`: str("{a = 1, b = <2>}"),
		"{}": unit(), "{a = 1}": record("a", num(1)), "{1 = 1, 2 = {}}": record("1 2", num(1), unit()), "{A = fn, a = {b = -1}, val.x = \"\"}": record("A a val.x", fun(), record("b", num(-1)), str("")), "{fn = fn}": record("fn", fun()), "{. = 0, .. = 0, 0 = 0, _ = 0}": record(". .. 0 _", num(0), num(0), num(0), num(0)),
		"<1>": block(num(1)), "<{}, <fn>, \"<\">": block(unit(), block(fun()), str("<")), "<<<0>>, 0>": block(block(block(num(0))), num(0)),
		"A(1)": inject("A", num(1)), "1(1)": inject("1", num(1)), "fn(fn)": inject("fn", fun()), "fn1({})": inject("fn1", unit()), "-1": num(-1), "a.b_C(A(B({})))": inject("a.b_C", inject("A", inject("B", unit()))), "01(0)": inject("01", num(0)), ".(0)": inject(".", num(0)),
		"#0(1)": tagged(0, num(1)), "#1000(#10(#7({})))": tagged(1000, tagged(10, tagged(7, unit()))), "#1(A(1))": tagged(1, inject("A", num(1))),
		"@(1)": roll(num(1)), "@(@(%(@({}))))": roll(roll(pack(roll(unit())))), "%(fn)": pack(fun()), "fn": fun(), "@(True({}))": roll(inject("True", unit())),
	} {
		expectText(t, v, want)
	}
	for i := range 256 {
		expectText(t, str(string([]byte{byte(i)})), wantText(str(string([]byte{byte(i)}))))
	}
}

func TestTextOfAny(t *testing.T) {
	texts := map[string]api.Value{}
	for _, v := range append(randomValues(1411, 20000), dataUpTo(4)...) {
		want := wantText(v)
		expectText(t, v, want)
		if !isText(want) {
			t.Fatal(want)
		}
		if other, exists := texts[want]; exists && !alike(other, v) {
			t.Fatal(want, "is the text of two values")
		}
		texts[want] = v
	}
}

func TestTextRefuses(t *testing.T) {
	for i, v := range invalidValues() {
		if s, e := Text(v); s != "" || e != api.ErrArg {
			t.Error(i, s, e)
		}
	}
}

// Long texts, on both sides of the limit.
func TestLongestTexts(t *testing.T) {
	for n := api.MaxText - 3; n <= api.MaxText+2; n++ {
		for _, v := range []api.Value{
			str(strings.Repeat("a", n-2)), str(strings.Repeat("\n", (n-2)/4) + strings.Repeat("a", (n-2)%4)), record("a", str(strings.Repeat("b", n-8))), roll(str(strings.Repeat("x", n-5))), block(num(1), str(strings.Repeat("x", n-7))), tagged(10, str(strings.Repeat("x", n-7))),
			// The last bytes are those of something else.
			block(str(strings.Repeat("x", n-7)), num(1)), block(str(strings.Repeat("x", n-8)), fun()), block(str(strings.Repeat("x", n-8)), unit()), record("a b", str(strings.Repeat("x", n-16)), num(-1)),
		} {
			want := wantText(v)
			if len(want) != n {
				t.Fatal(n, len(want))
			}
			if n <= api.MaxText {
				expectText(t, v, want)
				continue
			}
			if s, e := Text(v); s != "" || e != api.ErrFull {
				t.Error(n, len(s), e)
			}
			if r, e := Parse(want); !isZero(r) || e != api.ErrFull {
				t.Error(n, brief(r), e)
			}
		}
	}
	long := str(strings.Repeat("\x00", api.MaxText))
	for i, v := range []api.Value{long, ofSize(api.MaxNodes), wide(api.MaxList, long), block(slices.Repeat([]api.Value{wide(998, long)}, 20)...), block(slices.Repeat([]api.Value{block(slices.Repeat([]api.Value{long}, 998)...)}, 20)...), rolls(399, long)} {
		if s, e := Text(v); s != "" || e != api.ErrFull {
			t.Error(i, len(s), e)
		}
	}
}

func TestParseRefuses(t *testing.T) {
	for _, s := range []string{
		"", " ", "\n", "x", "A", "a.b", "\xff", "-", "-0", "--1", "- 1", "+1", "00", "01", "-01", "1 ", " 1", "1.0", "1e3", "0x1", "1_000", "1,2", "1 2", "~1", "4503599627370497", "-4503599627370497", "18446744073709551616", "9223372036854775808", "-x", "-fn", "-A(1)", "-1(1)", "(1)", "()", "(", ")", "1)", "(1",
		`"`, `"a`, `a"`, `"a"b`, `"a""b"`, `""""`, `'a'`, `"\"`, `"\""`, `"\n"`, `"\\"`, `"\1"`, `"\10"`, `"\010`, `"\0100`, `"\065"`, `"\032"`, `"\126"`, `"\033"`, `"\035"`, `"\091"`, `"\093"`, `"\256"`, `"\265"`, `"\999"`, `"\1000"`[:6], `"\+10"`, `"\-10"`, `"\ 10"`, `"\0x1"`, `"\x0a"`, `"\010\"`, "\"\n\"", "\"\x00\"", "\"\x7f\"", "\"\x80\"", "\"é\"", "\"\t\"", `"\034" `, `"\ff0"`,
		"{", "}", "{ }", "{a}", "{1}", "{a = }", "{a =1}", "{a= 1}", "{a=1}", "{ a = 1}", "{a = 1 }", "{a  = 1}", "{a = 1,}", "{a = 1, }", "{, a = 1}", "{a = 1,b = 2}", "{a = 1 , b = 2}", "{a = 1,  b = 2}", "{a = 1 b = 2}", "{a = 1; b = 2}", "{a = 1, a = 2}", "{b = 1, a = 2}", "{10 = 1, 9 = 1, 2 = 3}", "{ = 1}", "{a-b = 1}", "{é = 1}", "{#1 = 1}", "{a = 1", "a = 1", "a = 1}", "{a = 1}}", "{{a = 1}", "{a: 1}", "{a = 1>", "{a = 1, 2}", "{1, 2}", "{a = b = 1}", "{(a) = 1}", "{'a = 1}", "{" + strings.Repeat("a", 49) + " = 1}", "{a = {}", "{}{}", "{} ",
		"<", ">", "<>", "< >", "<1", "1>", "<1,>", "<1, >", "<,1>", "<1,2>", "<1 , 2>", "<1,  2>", "<1 2>", "< 1>", "<1 >", "<a = 1>", "<1>>", "<<1>", "<1}", "<>1",
		"A()", "A( )", "A(1", "A1)", "A (1)", "A( 1)", "A(1 )", "A((1))", "A(1))", "A(1)(1)", "A(1, 2)", "A{}", "A 1", "A.B", "A-(1)", "A'(1)", "é(1)", strings.Repeat("A", 49) + "(1)", "A(B)", "A(1)B(2)", "#(1)", "#1", "#1()", "#01(1)", "#-1(1)", "#1001(1)", "#4503599627370497(1)", "#99999999999999999999(1)", "#A(1)", "# 1(1)", "#1 (1)", "##1(1)", "#1(1", "#1.0(1)", "#fn(1)",
		"@", "@1", "@()", "@(1", "@1)", "@ (1)", "@((1))", "@(1))", "@(1, 2)", "@@(1)", "%", "%1", "%()", "%(1", "% (1)", "%(1))", "%%(1)", "@%(1)", "&(1)", "$(1)", "fn ", " fn", "fn x", "fnfn", "Fn", "f", "n", "fun", "fn()", "fn(", "fn)", "fn(1", "fn 1",
		strings.Repeat("(", api.MaxText), strings.Repeat("{", api.MaxText), strings.Repeat("<", api.MaxText), strings.Repeat("@(", 8192), strings.Repeat("A(", 8192), strings.Repeat("{a = ", 3276), strings.Repeat("a", api.MaxText), strings.Repeat("1", api.MaxText), strings.Repeat("-", api.MaxText), "\"" + strings.Repeat("a", api.MaxText-1), strings.Repeat("\"", api.MaxText), strings.Repeat("\\", api.MaxText), strings.Repeat("\x00", api.MaxText), "#" + strings.Repeat("0", api.MaxText-1), strings.Repeat("1, ", 5000),
	} {
		if v, e := Parse(s); e != api.ErrForm || !isZero(v) {
			t.Errorf("%s: %s, %d", brief(s), brief(v), e)
		}
		if len(s) < 200 && isText(s) {
			t.Error("the second description accepts", s)
		}
	}
}

// The limits of values hold for their texts.
func TestParseAtTheLimits(t *testing.T) {
	short := labels(api.MaxList + 1)
	for i, s := range short {
		short[i] = s[len(s)-4:]
	}
	slices.Sort(short)
	ones := slices.Repeat([]api.Value{num(1)}, api.MaxList+1)
	n := api.MaxList
	expectText(t, api.Value{Op: api.VRecord, Names: short[:n], L: ones[:n]}, wantText(api.Value{Op: api.VRecord, Names: short[:n], L: ones[:n]}))
	expectText(t, block(ones[:n]...), "<"+strings.Repeat("1, ", n-1)+"1>")
	expectText(t, record(strings.Repeat("a", 48), num(1)), "{"+strings.Repeat("a", 48)+" = 1}")
	expectText(t, inject(strings.Repeat("a", 48), num(1)), strings.Repeat("a", 48)+"(1)")
	expectText(t, rolls(399, num(1)), strings.Repeat("@(", 399)+"1"+strings.Repeat(")", 399))
	for _, v := range []api.Value{{Op: api.VRecord, Names: short, L: ones}, block(ones...), rolls(400, num(1)), rolls(3000, num(1)), tagged(1001, num(1)), block(num(1), rolls(399, num(1)))} {
		for _, s := range []string{wantText(v), "<1, " + wantText(v) + ">", "{a = " + wantText(v) + "}", "A(" + wantText(v) + ")"} {
			if v, e := Parse(s); len(s) > api.MaxText || e != api.ErrForm || !isZero(v) {
				t.Error(len(s), brief(v), e)
			}
		}
	}
	for _, s := range []string{"1", "(", "{", "\"", "@(", "a", " ", "\xff", "<1, "} {
		for _, n := range []int{api.MaxText + 1, api.MaxText + 9, 1 << 22} {
			if v, e := Parse(strings.Repeat(s, n)[:n]); e != api.ErrFull || !isZero(v) {
				t.Error(n, brief(v), e)
			}
		}
	}
}

// expectParsed compares Parse with the second description of texts.
func expectParsed(t *testing.T, s string) (ok bool) {
	t.Helper()
	v, e := Parse(s)
	if !isText(s) {
		if e != api.ErrForm || !isZero(v) {
			t.Fatalf("%q: %s, %d", s, brief(v), e)
		}
		return false
	}
	if e != api.OK || !wantValid(v) || wantText(v) != s {
		t.Fatalf("%q: %s, %d", s, brief(v), e)
	}
	return true
}

// All texts of a few words.
func TestParseOfShortTexts(t *testing.T) {
	accepted := 0
	for words, n := range map[string]int{
		"{;};a = ;b = ;, ;1; ": 6, "<;>;, ;1;fn; ;(": 6, "A;(;);@;%;#;1;{}": 6, "\";\\;0;1;3;4;a": 6, "-;0;1;9;(;);fn": 6, "@(;#2(;A(;);{a = ;};<;>;0": 5,
	} {
		level := []string{""}
		for range n {
			var next []string
			for _, s := range level {
				for _, w := range strings.Split(words, ";") {
					next = append(next, s+w)
				}
			}
			for _, s := range next {
				if expectParsed(t, s) {
					accepted++
				}
			}
			level = next
		}
	}
	if accepted < 200 {
		t.Error("only", accepted, "texts")
	}
}

// Texts with a change of a byte.
func TestParseOfChangedTexts(t *testing.T) {
	texts := []string{"{a = 1, b = @(Cons({}))}", "<fn, -10, \"a\\010\">", "#10(%(fn(A({}))))", "{1 = <0>, 2 = \"\\034\\255 ~\"}"}
	for _, v := range randomValues(1412, 80) {
		if s := wantText(v); len(s) < 30 {
			texts = append(texts, s)
		}
	}
	for _, s := range texts {
		if !expectParsed(t, s) {
			t.Fatal(s)
		}
		for i := range len(s) + 1 {
			expectParsed(t, s[:i])
			expectParsed(t, s[i:])
			for _, b := range []byte("(){}<>@%#\"\\-=, a0A1fn.\n\xff") {
				expectParsed(t, s[:i]+string([]byte{b})+s[i:])
				if i < len(s) {
					expectParsed(t, s[:i]+string([]byte{b})+s[i+1:])
				}
			}
			if i < len(s) {
				expectParsed(t, s[:i]+s[i+1:])
			}
		}
	}
}
