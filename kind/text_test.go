package kind

import (
	"slices"
	"strings"
	"testing"

	"pilaster/api"
)

// P8.4

func TestText(t *testing.T) {
	star := api.Kind{}
	one := node(star, star)
	for want, k := range map[string]api.Kind{
		"*":                                   star,
		"* -> *":                              one,
		"* -> * -> *":                         node(star, one),
		"(* -> *) -> *":                       node(one, star),
		"(* -> *) -> * -> *":                  node(one, one),
		"((* -> *) -> *) -> *":                node(node(one, star), star),
		"(* -> * -> *) -> *":                  node(node(star, one), star),
		"* -> (* -> *) -> *":                  node(star, node(one, star)),
		"(* -> (* -> *) -> *) -> * -> *":      node(node(star, node(one, star)), one),
		"(* -> *) -> (* -> *) -> * -> * -> *": node(one, node(one, node(star, one))),
	} {
		if s, e := Text(k); s != want || e != api.OK {
			t.Error(want, s, e)
		}
		k2, e := Parse(want)
		expectKind(t, want, k2, e, k)
	}
	if s, e := Text(node(node(), node(node(), node()))); s != "* -> * -> *" || e != api.OK {
		t.Error(s, e)
	}
}

func TestTextOfAnyKind(t *testing.T) {
	for _, k := range slices.Concat(allKinds(8), randomKinds(4, 1000), []api.Kind{right(399), left(399), balanced(2000)}) {
		want := wantText(k)
		if s, e := Text(k); s != want || e != api.OK {
			t.Error(want, s, e)
		}
		again, e := Parse(want)
		expectKind(t, want, again, e, k)
	}
	for i, k := range invalid() {
		if s, e := Text(k); s != "" || e != api.ErrArg {
			t.Error(i, s, e)
		}
	}
}

// manyArrows returns a kind with so many arrows, and so many first parts in parentheses.
func manyArrows(arrows, parentheses int) api.Kind {
	l := make([]api.Kind, api.MaxDepth-1)
	arrows -= len(l)
	for i := range parentheses {
		rest := parentheses - i - 1
		n := min(arrows-rest, api.MaxDepth-2-i)
		l[i] = right(n)
		arrows -= n
	}
	return over(l, api.Kind{})
}

func TestLongestTexts(t *testing.T) {
	for _, c := range []struct {
		arrows, parentheses, length int
	}{
		{3272, 11, 16383}, {3273, 9, 16384}, {3271, 14, 16384}, {3272, 12, 16385}, {3273, 10, 16386}, {3271, 15, 16386}, {9999, 40, 50076},
	} {
		k := manyArrows(c.arrows, c.parentheses)
		want := wantText(k)
		if !Valid(k) || len(want) != c.length {
			t.Error(c, Valid(k), len(want))
		}
		s, e := Text(k)
		again, f := Parse(want)
		if c.length > api.MaxText {
			if s != "" || e != api.ErrFull {
				t.Error(c, len(s), e)
			}
			expectNone(t, c, again, f, api.ErrFull)
			continue
		}
		if s != want || e != api.OK {
			t.Error(c, len(s), e)
		}
		expectKind(t, c, again, f, k)
	}
	if s, e := Text(balanced(api.MaxNodes / 2)); s != "" || e != api.ErrFull {
		t.Error(len(s), e)
	}
}

func TestParseRefuses(t *testing.T) {
	for _, s := range []string{
		"", " ", "()", "(", ")", "->", " -> ", "(*)", "((*))", "**", "* *", "*->*", "* ->*", "*-> *", "*  -> *", "* ->  *", "* - > *", "* => *", "* -> ", "* ->", "* -", " -> *", "-> *",
		" *", "* ", "* -> * ", " * -> *", "*\n", "\t*", "*\x00", "* -> *\n", "*\n-> *", "*\u00a0-> *", "\ufeff*", "∗", "*→*", "k", "* -> k", "type", "#0", "Type -> Type", "\xff",
		"(* -> *)", "((* -> *) -> *)", "* -> (* -> *)", "(* -> *) -> (* -> *)", "(*) -> *", "* -> (*)", "((* -> *)) -> *", "(((* -> *) -> *)) -> *", "((*) -> *) -> *", "(* -> (* -> *)) -> *",
		"(* -> *", "* -> *)", "(* -> * -> *", "(* -> *)-> *", "(* -> *) ->*", "( * -> *) -> *", "(* -> * ) -> *", "(* -> *) *", "(* -> *)(* -> *) -> *", ")* -> *( -> *", "[* -> *] -> *", "* -> * ->", "* -> -> *", "* -> ) -> *",
		strings.Repeat("(", api.MaxText), strings.Repeat("*", api.MaxText), strings.Repeat(" -> ", api.MaxText/4), strings.Repeat("* -> ", 100), strings.Repeat("(* -> ", 200), strings.Repeat("\x00", api.MaxText),
	} {
		k, e := Parse(s)
		expectNone(t, s, k, e, api.ErrForm)
	}
}

func TestParseAtTheLimits(t *testing.T) {
	deepest := map[string]api.Kind{
		strings.Repeat("* -> ", 399) + "*":                                                 right(399),
		strings.Repeat("(", 398) + "* -> *" + strings.Repeat(") -> *", 398):                left(399),
		strings.Repeat("* -> ", 200) + wantText(left(199)):                                 over(make([]api.Kind, 200), left(199)),
		"(" + strings.Repeat("* -> ", 398) + "*) -> " + strings.Repeat("* -> ", 398) + "*": node(right(398), right(398)),
	}
	for s, want := range deepest {
		k, e := Parse(s)
		expectKind(t, s, k, e, want)
	}
	for _, s := range []string{
		strings.Repeat("* -> ", 400) + "*",
		strings.Repeat("* -> ", 401) + "*",
		strings.Repeat("* -> ", 3276) + "*",
		strings.Repeat("(", 399) + "* -> *" + strings.Repeat(") -> *", 399),
		strings.Repeat("(", 2000) + "* -> *" + strings.Repeat(") -> *", 2000),
		strings.Repeat("* -> ", 200) + wantText(left(200)),
		"(" + strings.Repeat("* -> ", 399) + "*) -> *",
		"* -> " + strings.Repeat("* -> ", 399) + "*",
	} {
		k, e := Parse(s)
		expectNone(t, s, k, e, api.ErrForm)
	}
	for _, s := range []string{"*", "(", "* -> ", "x", " ", "\xff"} {
		for _, n := range []int{api.MaxText + 1, api.MaxText + 5, 1 << 22} {
			k, e := Parse(strings.Repeat(s, n)[:n])
			expectNone(t, n, k, e, api.ErrFull)
		}
	}
}

// textsOf returns the kinds in which * stands at most n times by their texts.
func textsOf(n int) map[string]api.Kind {
	m := map[string]api.Kind{}
	for _, k := range allKinds(n) {
		m[wantText(k)] = k
	}
	return m
}

// expectParsed tests that a text is that of a kind only if it is among the texts of kinds.
func expectParsed(t *testing.T, texts map[string]api.Kind, s string) {
	t.Helper()
	k, e := Parse(s)
	if want, ok := texts[s]; ok {
		expectKind(t, s, k, e, want)
	} else {
		expectNone(t, s, k, e, api.ErrForm)
	}
}

// P8.4, P8.5: all short texts of the bytes, and of the words, of texts of kinds.
func TestParseOfShortTexts(t *testing.T) {
	texts := textsOf(8)
	for words, n := range map[string]int{"*|(|)| |-|>": 7, "*|(|)| -> ": 9} {
		level := []string{""}
		for range n {
			var next []string
			for _, s := range level {
				for _, w := range strings.Split(words, "|") {
					next = append(next, s+w)
				}
			}
			for _, s := range next {
				expectParsed(t, texts, s)
			}
			level = next
		}
	}
}

// P8.4, P8.5: texts of kinds, with a change of a byte.
func TestParseOfChangedTexts(t *testing.T) {
	texts := textsOf(8)
	for s := range textsOf(6) {
		for i := range len(s) + 1 {
			for _, b := range "*()-> #x\n\x00" {
				expectParsed(t, texts, s[:i]+string(b)+s[i:])
				if i < len(s) {
					expectParsed(t, texts, s[:i]+string(b)+s[i+1:])
				}
			}
			expectParsed(t, texts, s[:i])
			expectParsed(t, texts, s[i:])
			if i < len(s) {
				expectParsed(t, texts, s[:i]+s[i+1:])
			}
		}
	}
}
