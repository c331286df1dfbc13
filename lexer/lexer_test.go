package lexer

import (
	"math"
	"math/rand"
	"regexp"
	"slices"
	"strconv"
	"strings"
	"sync"
	"testing"

	"pilaster/api"
)

func keyWords() []string {
	return strings.Fields(`andalso case data div else end fn fun functor generative if import in include let mod module of open
		orelse pack sharing sig signature struct structure then type unpack val with`)
}

func symbols() []string {
	return strings.Fields(`( ) , ; : :> = => -> | _ . * + - < <= ^ ~`)
}

// The forms of tokens, written once more as regular expressions, so that the reader is compared with something unlike it.
var (
	nameForm   = regexp.MustCompile(`\A[A-Za-z][A-Za-z0-9_]*`)
	varForm    = regexp.MustCompile(`\A'[a-z][A-Za-z0-9_]*`)
	numberForm = regexp.MustCompile(`\A[0-9]+`)
	textBegin  = regexp.MustCompile(`\A"(?:[ !#-\[\]-~]|\\["\\n])*`)
	symbolForm = regexp.MustCompile(`\A(?::>|=>|->|<=|[(),;:=|_.*+\-<^~])`)
	wordForm   = regexp.MustCompile(`\A(?:` + strings.Join(keyWords(), "|") + `)\z`)
	textForm   = regexp.MustCompile(`\A[\n -~]*\z`)
	quoteForm  = regexp.MustCompile(`\A"(?:[ !#-\[\]-~]|\\["\\n])*"\z`)
)

func placeIn(s string, i int) api.Pos {
	before := s[:i]
	return api.Pos{Line: 1 + strings.Count(before, "\n"), Column: i - strings.LastIndex(before, "\n")}
}

// commentLength returns the length of the comment with which s begins, or -1 if it does not end.
func commentLength(s string) int {
	for i := 2; i+1 < len(s); i++ {
		switch s[i : i+2] {
		case "*)":
			return i + 2
		case "(*":
			n := commentLength(s[i:])
			if n < 0 {
				return -1
			}
			i += n - 1
		}
	}
	return -1
}

func unescape(s string) string {
	return strings.NewReplacer(`\\`, `\`, `\"`, `"`, `\n`, "\n").Replace(s)
}

func escape(s string) string {
	return strings.NewReplacer(`\`, `\\`, `"`, `\"`, "\n", `\n`).Replace(s)
}

// wantToken returns the token with which s begins, and its length; with an error, the index of what is wrong instead.
func wantToken(s string) (kind int, text string, n int, e api.Errno) {
	if t := nameForm.FindString(s); t != "" {
		switch {
		case len(t) > 24:
			return 0, "", 0, api.ErrFull
		case wordForm.MatchString(t):
			return api.TokWord, t, len(t), api.OK
		case t[0] <= 'Z':
			return api.TokUpper, t, len(t), api.OK
		}
		return api.TokLower, t, len(t), api.OK
	}
	if t := varForm.FindString(s); t != "" {
		if len(t) > 24 {
			return 0, "", 0, api.ErrFull
		}
		return api.TokVar, t, len(t), api.OK
	}
	if t := numberForm.FindString(s); t != "" {
		if len(t) > 1 && t[0] == '0' {
			return 0, "", 0, api.ErrForm
		}
		if v, err := strconv.ParseUint(t, 10, 64); err != nil || v > 1<<52 {
			return 0, "", 0, api.ErrBig
		}
		return api.TokInt, t, len(t), api.OK
	}
	if t := textBegin.FindString(s); t != "" {
		switch rest := s[len(t):]; {
		case rest == "" || rest == `\`:
			return 0, "", 0, api.ErrEnd
		case rest[0] != '"':
			return 0, "", len(t), api.ErrForm
		}
		return api.TokText, unescape(t[1:]), len(t) + 1, api.OK
	}
	if t := symbolForm.FindString(s); t != "" {
		return api.TokSymbol, t, len(t), api.OK
	}
	return 0, "", 0, api.ErrForm
}

// wantTokens is Tokens with a limit for the number of tokens.
func wantTokens(s string, limit int) ([]api.Token, api.Pos, api.Errno) {
	var l []api.Token
	for i := 0; i < len(s); {
		switch {
		case strings.ContainsRune(" \t\n", rune(s[i])):
			i++
			continue
		case strings.HasPrefix(s[i:], "(*"):
			n := commentLength(s[i:])
			if n < 0 {
				return nil, placeIn(s, i), api.ErrEnd
			}
			i += n
			continue
		case len(l) == limit:
			return nil, placeIn(s, i), api.ErrFull
		}
		kind, text, n, e := wantToken(s[i:])
		if e != api.OK {
			return nil, placeIn(s, i+n), e
		}
		l = append(l, api.Token{Kind: kind, Text: text, At: placeIn(s, i)})
		i += n
	}
	return append(l, api.Token{Kind: api.TokEnd, At: placeIn(s, len(s))}), api.Pos{}, api.OK
}

func checkTokens(t *testing.T, s string) {
	t.Helper()
	l, at, e := Tokens(s)
	if want, place, code := wantTokens(s, 20000); !slices.Equal(l, want) || at != place || e != code {
		t.Errorf("Tokens(%q) = %v, %v, %d; want %v, %v, %d", s, l, at, e, want, place, code)
	}
}

// texts calls f with all texts of at most n of the parts.
func texts(parts []string, n int, f func(string)) {
	var extend func(s string, n int)
	extend = func(s string, n int) {
		f(s)
		if n == 0 {
			return
		}
		for _, p := range parts {
			extend(s+p, n-1)
		}
	}
	extend("", n)
}

// fragments returns parts of sources, right ones and wrong ones, and what may stand between them.
func fragments() []string {
	l := []string{"x", "X", "x_1", "Mod2", "'a", "'val", "'aB_9", "0", "7", "12034", "4503599627370496", `""`, `"a b"`, `"\n\"\\"`, `"(*"`, `"*)"`, "(* *)", "(**)", "(***)", "(* \" *)", "(* (* \n *) *)", "(*\xff*)",
		" ", "  ", "\t", "\n", "\n\n", " \n ", "(", ")", "*", "(*", "*)", "(*)", "\"", "'", "\\", "'A", "00", "01", "4503599627370497", "#", "\r", "\x00", "\xc3\xa9", ">", "\"\\t\"", "\"a\nb\"", "\"\\",
		strings.Repeat("a", 24), strings.Repeat("a", 25), strings.Repeat("A", 24), strings.Repeat("A", 25), "'" + strings.Repeat("a", 23), "'" + strings.Repeat("a", 24)}
	return append(append(l, keyWords()...), symbols()...)
}

// sources returns long sources of a fixed seed; the first half of them has but right tokens.
func sources() []string {
	r := rand.New(rand.NewSource(2))
	l := fragments()
	wrong := slices.IndexFunc(l, func(s string) bool { return s == "(*" })
	var result []string
	for i := range 4000 {
		var b strings.Builder
		for range r.Intn(30) {
			p := l[r.Intn(len(l))]
			if i < 2000 {
				if p = l[r.Intn(wrong)]; r.Intn(2) == 0 {
					p += " "
				}
			}
			b.WriteString(p)
		}
		result = append(result, b.String())
	}
	return result
}

// P2.1

func TestTokensOrdinary(t *testing.T) {
	type token struct {
		kind         int
		text         string
		line, column int
	}
	for s, want := range map[string][]token{
		"":                      {{api.TokEnd, "", 1, 1}},
		"\n \n\t ":              {{api.TokEnd, "", 3, 3}},
		"val x = ~ 1 (* one *)": {{api.TokWord, "val", 1, 1}, {api.TokLower, "x", 1, 5}, {api.TokSymbol, "=", 1, 7}, {api.TokSymbol, "~", 1, 9}, {api.TokInt, "1", 1, 11}, {api.TokEnd, "", 1, 22}},
		"M.x":                   {{api.TokUpper, "M", 1, 1}, {api.TokSymbol, ".", 1, 2}, {api.TokLower, "x", 1, 3}, {api.TokEnd, "", 1, 4}},
		"~1_a":                  {{api.TokSymbol, "~", 1, 1}, {api.TokInt, "1", 1, 2}, {api.TokSymbol, "_", 1, 3}, {api.TokLower, "a", 1, 4}, {api.TokEnd, "", 1, 5}},
		"0x 10A":                {{api.TokInt, "0", 1, 1}, {api.TokLower, "x", 1, 2}, {api.TokInt, "10", 1, 4}, {api.TokUpper, "A", 1, 6}, {api.TokEnd, "", 1, 7}},
		"x'a'b":                 {{api.TokLower, "x", 1, 1}, {api.TokVar, "'a", 1, 2}, {api.TokVar, "'b", 1, 4}, {api.TokEnd, "", 1, 6}},
		"'end ends endS End":    {{api.TokVar, "'end", 1, 1}, {api.TokLower, "ends", 1, 6}, {api.TokLower, "endS", 1, 11}, {api.TokUpper, "End", 1, 16}, {api.TokEnd, "", 1, 19}},
		"a\"b\"c":               {{api.TokLower, "a", 1, 1}, {api.TokText, "b", 1, 2}, {api.TokLower, "c", 1, 5}, {api.TokEnd, "", 1, 6}},
		`"""(*\\n*)"`:           {{api.TokText, "", 1, 1}, {api.TokText, `(*\n*)`, 1, 3}, {api.TokEnd, "", 1, 12}},
		`"\n"x`:                 {{api.TokText, "\n", 1, 1}, {api.TokLower, "x", 1, 5}, {api.TokEnd, "", 1, 6}},
		"::>=>=->-<=<":          {{api.TokSymbol, ":", 1, 1}, {api.TokSymbol, ":>", 1, 2}, {api.TokSymbol, "=>", 1, 4}, {api.TokSymbol, "=", 1, 6}, {api.TokSymbol, "->", 1, 7}, {api.TokSymbol, "-", 1, 9}, {api.TokSymbol, "<=", 1, 10}, {api.TokSymbol, "<", 1, 12}, {api.TokEnd, "", 1, 13}},
		"( *)":                  {{api.TokSymbol, "(", 1, 1}, {api.TokSymbol, "*", 1, 3}, {api.TokSymbol, ")", 1, 4}, {api.TokEnd, "", 1, 5}},
		"a(*\n*)b":              {{api.TokLower, "a", 1, 1}, {api.TokLower, "b", 2, 3}, {api.TokEnd, "", 2, 4}},
		"\ta\n\n  b":            {{api.TokLower, "a", 1, 2}, {api.TokLower, "b", 3, 3}, {api.TokEnd, "", 3, 4}},
	} {
		l, at, e := Tokens(s)
		var expected []api.Token
		for _, k := range want {
			expected = append(expected, api.Token{Kind: k.kind, Text: k.text, At: api.Pos{Line: k.line, Column: k.column}})
		}
		if !slices.Equal(l, expected) || at != (api.Pos{}) || e != api.OK {
			t.Errorf("Tokens(%q) = %v, %v, %d", s, l, at, e)
		}
	}
}

func TestCommentsOrdinary(t *testing.T) {
	for _, s := range []string{"(**)", "(***)", "(* x *)", "(* (* *) *)", "(*(**)*)", "(*(*)*)*)", "(* \" *)", "(* \"*)", "(* '# \r\xff\x00 01 *)", "(**)(**)", "(*\n(*\n*)\n*)", "(*)*)", strings.Repeat("(*", 8000/2) + strings.Repeat("*)", 8000/2)} {
		want := []api.Token{{Kind: api.TokEnd, At: placeIn(s, len(s))}}
		if l, at, e := Tokens(s); !slices.Equal(l, want) || at != (api.Pos{}) || e != api.OK {
			t.Errorf("%q: %v, %v, %d", s, l, at, e)
		}
	}
	if l, _, e := Tokens("(* *) *)"); e != api.OK || len(l) != 3 || l[0].Text != "*" || l[1].Text != ")" {
		t.Error(l, e)
	}
}

func TestFirstWrongThing(t *testing.T) {
	for s, want := range map[string]struct {
		line, column int
		e            api.Errno
	}{
		"007":                                {1, 1, api.ErrForm},
		"a !":                                {1, 3, api.ErrForm},
		"a\n b >":                            {2, 4, api.ErrForm},
		">=":                                 {1, 1, api.ErrForm},
		"\r":                                 {1, 1, api.ErrForm},
		"x \xc3\xa9":                         {1, 3, api.ErrForm},
		"\\":                                 {1, 1, api.ErrForm},
		"'":                                  {1, 1, api.ErrForm},
		"a 'A":                               {1, 3, api.ErrForm},
		"a '_x":                              {1, 3, api.ErrForm},
		"a '1":                               {1, 3, api.ErrForm},
		"a ' x":                              {1, 3, api.ErrForm},
		"''a":                                {1, 1, api.ErrForm},
		"'A" + strings.Repeat("a", 30):       {1, 1, api.ErrForm},
		"x '" + strings.Repeat("a", 24):      {1, 3, api.ErrFull},
		"x\n" + strings.Repeat("a", 25):      {2, 1, api.ErrFull},
		"x\n" + strings.Repeat("A", 25):      {2, 1, api.ErrFull},
		"1 00":                               {1, 3, api.ErrForm},
		"1 0" + strings.Repeat("9", 20):      {1, 3, api.ErrForm},
		"1 4503599627370497":                 {1, 3, api.ErrBig},
		"1 1" + strings.Repeat("0", 19):      {1, 3, api.ErrBig},
		"1 18446744073709551617":             {1, 3, api.ErrBig},
		"x \"":                               {1, 3, api.ErrEnd},
		"x \"ab":                             {1, 3, api.ErrEnd},
		"x \"ab\\":                           {1, 3, api.ErrEnd},
		"x \"ab\\\"":                         {1, 3, api.ErrEnd},
		"x \"ab\\\\":                         {1, 3, api.ErrEnd},
		"x \"ab\\\\\\":                       {1, 3, api.ErrEnd},
		"x \"a\nb\"":                         {1, 5, api.ErrForm},
		"x \"a\x7fb\"":                       {1, 5, api.ErrForm},
		"x \"a\x1fb\"":                       {1, 5, api.ErrForm},
		"x \"a\xc3\xa9b\"":                   {1, 5, api.ErrForm},
		"x \"a\tb":                           {1, 5, api.ErrForm},
		"x \"a\\tb\"":                        {1, 5, api.ErrForm},
		"x \"a\\Nb\"":                        {1, 5, api.ErrForm},
		"x \"a\\\n\"":                        {1, 5, api.ErrForm},
		"x \"a\\\\\\'\"":                     {1, 7, api.ErrForm},
		"x \"a\\n\t\"":                       {1, 7, api.ErrForm},
		"\n x (*":                            {2, 4, api.ErrEnd},
		"\n x (* \n (* *)":                   {2, 4, api.ErrEnd},
		"x (*)":                              {1, 3, api.ErrEnd},
		"x (* *) (* (*) *)":                  {1, 9, api.ErrEnd},
		"(* # *) 01 # \"":                    {1, 9, api.ErrForm},
		"\" \\q 01 #":                        {1, 3, api.ErrForm},
		"4503599627370497 01 (*":             {1, 1, api.ErrBig},
		"x (* 01 # \" '":                     {1, 3, api.ErrEnd},
		strings.Repeat("a", 25) + " 01":      {1, 1, api.ErrFull},
		"01 " + strings.Repeat("a", 25):      {1, 1, api.ErrForm},
		"x\n(*\n\n*) \"\n":                   {4, 5, api.ErrForm},
		"\"ok\" \"" + strings.Repeat("a", 9): {1, 6, api.ErrEnd},
	} {
		if l, at, e := Tokens(s); e != want.e || at != (api.Pos{Line: want.line, Column: want.column}) || len(l) != 0 {
			t.Errorf("Tokens(%q) = %v, %v, %d", s, l, at, e)
		}
	}
}

func TestTokensOfAllShortTexts(t *testing.T) {
	parts := []string{"a", "A", "1", "0", "_", "'", "\"", "\\", "n", "(", "*", ")", " ", "\n", "-", ">", "<", ":", "=", "#", "\xff"}
	texts(parts, 4, func(s string) { checkTokens(t, s) })
	texts([]string{"(", "*", ")", "a", "\n"}, 7, func(s string) { checkTokens(t, s) })
	texts([]string{"\"", "\\", "n", "\n"}, 8, func(s string) { checkTokens(t, s) })
}

func TestTokensOfAnyByte(t *testing.T) {
	for b := range 256 {
		c := string([]byte{byte(b)})
		for _, around := range []string{"%", "a%", "%a", "a % b", "'%", "'a%", "'%a", "1%", "\"%\"", "\"a%b\"", "\"%", "\"\\%\"", "\"\\%", "(*%*)", "(* % *) x", "(%*)", "-%", "=%", "<%", ":%", "\n%\nx", "_%"} {
			checkTokens(t, strings.ReplaceAll(around, "%", c))
		}
		// Each byte but the blanks begins a token or is none.
		l, _, e := Tokens(c)
		one := strings.ContainsAny(c, "(),;:=|_.*+-<^~0123456789abcdefghijklmnopqrstuvwxyzABCDEFGHIJKLMNOPQRSTUVWXYZ")
		switch {
		case strings.ContainsAny(c, " \t\n"):
			if e != api.OK || len(l) != 1 {
				t.Errorf("%q: %v, %d", c, l, e)
			}
		case c == "\"":
			if e != api.ErrEnd {
				t.Errorf("%q: %d", c, e)
			}
		case one != (e == api.OK), one && len(l) != 2, !one && e != api.ErrForm:
			t.Errorf("%q: %v, %d", c, l, e)
		}
	}
}

func TestTokensOfManyFragments(t *testing.T) {
	texts(fragments(), 2, func(s string) { checkTokens(t, s) })
	right := 0
	for _, s := range sources() {
		checkTokens(t, s)
		if _, _, e := Tokens(s); e == api.OK {
			right++
		}
	}
	if right < 1000 {
		t.Error("few right sources:", right)
	}
}

func TestNamesAndNumbersAtTheirBounds(t *testing.T) {
	for n := 1; n < 60; n++ {
		for _, s := range []string{strings.Repeat("a", n), strings.Repeat("A", n), "a" + strings.Repeat("_", n-1), "'" + strings.Repeat("z", n), "'z" + strings.Repeat("9", n-1)} {
			l, at, e := Tokens(s)
			if right := len(s) <= 24; right && (e != api.OK || len(l) != 2 || l[0].Text != s) || !right && (e != api.ErrFull || at != (api.Pos{Line: 1, Column: 1})) {
				t.Error(s, l, at, e)
			}
		}
	}
	for _, s := range []string{"0", "4503599627370495", "4503599627370496"} {
		if l, _, e := Tokens(s); e != api.OK || l[0] != (api.Token{Kind: api.TokInt, Text: s, At: api.Pos{Line: 1, Column: 1}}) {
			t.Error(s, l, e)
		}
	}
}

func TestSourcesAtTheirBound(t *testing.T) {
	for _, part := range []string{"a ", " ", "\n", "((", "x\n", "(**)", "#", "1\"\""} {
		s := strings.Repeat(part, 16385)
		checkTokens(t, s[:16384])
		checkTokens(t, s[:16383])
		if l, at, e := Tokens(s[:16385]); l != nil || at != (api.Pos{}) || e != api.ErrFull {
			t.Errorf("%q..: %v, %d", part, at, e)
		}
	}
	inside := strings.Repeat("\\n", 16382/2)
	if l, _, e := Tokens("\"" + inside + "\""); e != api.OK || len(l) != 2 || l[0].Text != strings.Repeat("\n", 16382/2) {
		t.Error(len(l), e)
	}
}

// A source has fewer bytes than MaxNodes, so that the limit for its tokens is tested with smaller ones.
func TestTooManyTokens(t *testing.T) {
	for _, s := range []string{"", "a", "a b", "a b c", "a b c d", "a b #", "a b (* *) ", "a b (*", "a b 01", "a b \"", "a b\n ((", "a # c d", "a b (* c *) d", "a b " + strings.Repeat("c", 25), "a \" b c d"} {
		for limit := range 5 {
			r := reader{source: s, line: 1, limit: limit}
			l, at, e := r.tokens()
			if want, place, code := wantTokens(s, limit); !slices.Equal(l, want) || at != place || e != code {
				t.Errorf("%q, %d: %v, %v, %d", s, limit, l, at, e)
			}
		}
	}
	r := reader{source: "a b #", line: 1, limit: 2}
	if l, at, e := r.tokens(); l != nil || at != (api.Pos{Line: 1, Column: 5}) || e != api.ErrFull {
		t.Error(l, at, e)
	}
}

// P2.2

func TestKeywords(t *testing.T) {
	l := keyWords()
	if len(l) != 31 {
		t.Fatal(len(l))
	}
	for _, w := range l {
		if !Keyword(w) || Keyword(w+" ") || Keyword(" "+w) || Keyword(w+"_") || Keyword("'"+w) || Keyword(strings.ToUpper(w)) || Keyword(strings.ToUpper(w[:1])+w[1:]) {
			t.Error(w)
		}
		if tokens, _, e := Tokens(w); e != api.OK || tokens[0].Kind != api.TokWord || tokens[0].Text != w {
			t.Error(w, tokens, e)
		}
	}
	texts(strings.Split("adefilmnoptvw", ""), 4, func(s string) {
		if Keyword(s) != wordForm.MatchString(s) {
			t.Errorf("Keyword(%q) = %v", s, Keyword(s))
		}
	})
	for _, s := range []string{"", "_", "and", "as", "abstype", "true", "false", "int", "rec", "unit", "where", "x", "X", "not", "ref", "print"} {
		if Keyword(s) {
			t.Error(s)
		}
	}
}

func TestSymbolOfAnyText(t *testing.T) {
	check := func(s string) {
		want := ""
		for _, c := range symbols() {
			if len(c) > len(want) && strings.HasPrefix(s, c) {
				want = c
			}
		}
		if strings.HasPrefix(s, "(*") {
			want = ""
		}
		if got, ok := Symbol(s); got != want || ok != (want != "") {
			t.Errorf("Symbol(%q) = %q, %v", s, got, ok)
		}
	}
	for b := range 256 {
		for c := range 256 {
			check(string([]byte{byte(b), byte(c)}))
		}
		check(string([]byte{byte(b)}))
	}
	texts(strings.Split("(),;:>=->|_.*+<^~ a", ""), 3, check)
	for s, want := range map[string]string{"->": "->", "-> ": "->", "=>>": "=>", ":>=": ":>", ":=": ":", "<=>": "<=", "=<": "=", "( *": "(", "()": "(", "*)": "*", "_x": "_"} {
		if got, ok := Symbol(s); got != want || !ok {
			t.Errorf("Symbol(%q) = %q, %v", s, got, ok)
		}
	}
	for _, s := range []string{"", "(*", "(*)", "(* *)", ">", ">=", " (", "x", "1", "'", "\"", "!", "[", "{", "/", "&", "\n"} {
		if got, ok := Symbol(s); got != "" || ok {
			t.Errorf("Symbol(%q) = %q, %v", s, got, ok)
		}
	}
}

// P2.3

func TestQuoteOrdinary(t *testing.T) {
	for text, want := range map[string]string{"": `""`, "a": `"a"`, "a\"\n\\": `"a\"\n\\"`, `\n`: `"\\n"`, "\n": `"\n"`, " ~'(*": `" ~'(*"`, `""`: `"\"\""`} {
		if s, e := Quote(text); s != want || e != api.OK {
			t.Errorf("Quote(%q) = %q, %d", text, s, e)
		}
		if s, e := Unquote(want); s != text || e != api.OK {
			t.Errorf("Unquote(%q) = %q, %d", want, s, e)
		}
	}
}

func TestQuoteOfAnyText(t *testing.T) {
	check := func(text string) {
		want, code := "", api.ErrForm
		if textForm.MatchString(text) {
			want, code = `"`+escape(text)+`"`, api.OK
		}
		if s, e := Quote(text); s != want || e != code {
			t.Errorf("Quote(%q) = %q, %d", text, s, e)
		}
	}
	for b := range 256 {
		check(string([]byte{byte(b)}))
		check(string([]byte{'a', byte(b), 'b'}))
	}
	texts([]string{"\"", "\\", "n", "\n", " ", "~", "\t", "\xc3\xa9"}, 5, check)
}

func TestUnquoteOfAnyText(t *testing.T) {
	check := func(s string) {
		want, code := "", api.ErrForm
		if quoteForm.MatchString(s) {
			want, code = unescape(s[1:len(s)-1]), api.OK
		}
		if text, e := Unquote(s); text != want || e != code {
			t.Errorf("Unquote(%q) = %q, %d", s, text, e)
		}
	}
	for b := range 256 {
		c := string([]byte{byte(b)})
		for _, around := range []string{"%", "\"%\"", "\"\\%\"", "\"a%b\"", "\"a\"%", "%\"a\"", "\"%", "%\"", "\"\\%"} {
			check(strings.ReplaceAll(around, "%", c))
		}
	}
	texts([]string{"\"", "\\", "n", "\n", " ", "a"}, 7, check)
	for _, s := range []string{"", "\"", "a", "\"a", "a\"", "\"a\" ", " \"a\"", "\"a\"\"b\"", "\"\\\"", "\"\\t\"", "\"\n\"", "\"\\", "'a'", "\"a\"b"} {
		if text, e := Unquote(s); text != "" || e != api.ErrForm {
			t.Errorf("Unquote(%q) = %q, %d", s, text, e)
		}
	}
}

func TestLiteralsAtTheirBounds(t *testing.T) {
	for _, part := range []string{"a", "\n", "\"", "\\"} {
		text := strings.Repeat(part, 16384)
		s, e := Quote(text)
		if s != `"`+escape(text)+`"` || e != api.OK {
			t.Errorf("%q: %d", part, e)
		}
		if back, e := Unquote(s); back != text || e != api.OK {
			t.Errorf("%q: %d", part, e)
		}
		if s, e := Quote(text + part); s != "" || e != api.ErrFull {
			t.Errorf("%q: %d", part, e)
		}
	}
	for n, want := range map[int]api.Errno{16384: api.OK, 16385: api.ErrForm, 32768: api.ErrForm, 32769: api.ErrFull} {
		if text, e := Unquote(`"` + strings.Repeat("a", n) + `"`); e != want || e == api.OK && len(text) != n || e != api.OK && text != "" {
			t.Error(n, e)
		}
	}
	if s, e := Quote("\t" + strings.Repeat("a", 16383)); s != "" || e != api.ErrForm {
		t.Error(e)
	}
	if s, e := Quote("\t" + strings.Repeat("a", 16384)); s != "" || e != api.ErrFull {
		t.Error(e)
	}
	if s, e := Unquote(strings.Repeat("x", 32770)); s != "" || e != api.ErrForm {
		t.Error(e)
	}
	if s, e := Unquote(strings.Repeat("x", 32771)); s != "" || e != api.ErrFull {
		t.Error(e)
	}
}

// P2.4

func token(kind int, text string) api.Token { return api.Token{Kind: kind, Text: text} }

func TestJoinOrdinary(t *testing.T) {
	end := token(api.TokEnd, "")
	for _, c := range []struct {
		l    []api.Token
		want string
	}{
		{nil, ""}, {[]api.Token{end}, ""}, {[]api.Token{token(api.TokLower, "x")}, "x"}, {[]api.Token{token(api.TokLower, "x"), end}, "x"},
		{[]api.Token{token(api.TokSymbol, "("), token(api.TokSymbol, "*"), token(api.TokText, "a\n\"\\"), end}, `( * "a\n\"\\"`},
		{[]api.Token{token(api.TokWord, "val"), token(api.TokUpper, "M"), token(api.TokSymbol, "."), token(api.TokLower, "x"), token(api.TokVar, "'a"), token(api.TokInt, "10"), token(api.TokText, "")}, `val M . x 'a 10 ""`},
		{[]api.Token{{Kind: api.TokLower, Text: "x", At: api.Pos{Line: -7, Column: math.MaxInt}}, {Kind: api.TokLower, Text: "y", At: api.Pos{Line: 1, Column: 1}}, {Kind: api.TokEnd, At: api.Pos{Line: 0, Column: -1}}}, "x y"},
	} {
		if s, e := Join(c.l); s != c.want || e != api.OK {
			t.Errorf("Join(%v) = %q, %d", c.l, s, e)
		}
	}
}

// wantRight reports whether a token of a kind may have a text, as the forms above tell.
func wantRight(kind int, s string) bool {
	switch kind {
	case api.TokText:
		return len(s) <= 16384 && textForm.MatchString(s)
	case api.TokEnd:
		return s == ""
	}
	k, text, n, e := wantToken(s)
	return e == api.OK && k == kind && n == len(s) && text == s
}

func TestJoinOfAnyToken(t *testing.T) {
	x, end := token(api.TokLower, "x"), token(api.TokEnd, "")
	for _, kind := range []int{math.MinInt, -1, 0, 1, 2, 3, 4, 5, 6, 7, 8, 9, 256 + 1, 1<<32 + 1, math.MaxInt} {
		for _, s := range append(fragments(), "", " x", "x ", "x y", "x\n", "a\xff", "1 ", "-1", "+1", ":> ", "::", "(*)", "a\tb", "\x7f", "~~", "'", "é") {
			wrong := token(kind, s)
			right := wantRight(kind, s)
			shown := s
			if kind == api.TokText {
				shown = `"` + escape(s) + `"`
			}
			// Neither the end nor a wrong token may stand before another token.
			want, code := "x "+shown+" x", api.OK
			if !right || kind == api.TokEnd {
				want, code = "", api.ErrForm
			}
			if got, e := Join([]api.Token{x, wrong, x}); got != want || e != code {
				t.Errorf("Join of %d, %q: %q, %d", kind, s, got, e)
			}
			if got, e := Join([]api.Token{wrong, x, end}); got != strings.TrimPrefix(want, "x ") || e != code {
				t.Errorf("Join of %d, %q, first: %q, %d", kind, s, got, e)
			}
			want, code = "x "+shown, api.OK
			switch {
			case !right:
				want, code = "", api.ErrForm
			case kind == api.TokEnd:
				want = "x"
			}
			if got, e := Join([]api.Token{x, wrong}); got != want || e != code {
				t.Errorf("Join of %d, %q, last: %q, %d", kind, s, got, e)
			}
		}
	}
}

func TestJoinOfEnds(t *testing.T) {
	x, end := token(api.TokLower, "x"), token(api.TokEnd, "")
	for _, l := range [][]api.Token{{end, end}, {end, x}, {x, end, x}, {x, end, end}, {x, token(api.TokEnd, "x")}, {token(api.TokEnd, "x"), end}} {
		if s, e := Join(l); s != "" || e != api.ErrForm {
			t.Errorf("Join(%v) = %q, %d", l, s, e)
		}
	}
}

func TestJoinAtItsBounds(t *testing.T) {
	x, end, wrong := token(api.TokLower, "x"), token(api.TokEnd, ""), token(api.TokLower, "X")
	for _, c := range []struct {
		l []api.Token
		n int
		e api.Errno
	}{
		{slices.Repeat([]api.Token{x}, 8192), 16383, api.OK},
		{append(slices.Repeat([]api.Token{x}, 8191), token(api.TokLower, "xy")), 16384, api.OK},
		{append(slices.Repeat([]api.Token{x}, 8191), token(api.TokLower, "xyz")), 0, api.ErrFull},
		{slices.Repeat([]api.Token{x}, 8193), 0, api.ErrFull},
		{append(slices.Repeat([]api.Token{x}, 8192), end), 16383, api.OK},
		{append(slices.Repeat([]api.Token{x}, 19999), wrong), 0, api.ErrForm},
		{append(slices.Repeat([]api.Token{x}, 19999), wrong, end), 0, api.ErrForm},
		{append(slices.Repeat([]api.Token{x}, 20000), end), 0, api.ErrFull},
		{append(slices.Repeat([]api.Token{x}, 20000), wrong), 0, api.ErrFull},
		{append([]api.Token{wrong}, slices.Repeat([]api.Token{x}, 19999)...), 0, api.ErrForm},
		{append([]api.Token{wrong}, slices.Repeat([]api.Token{x}, 20000)...), 0, api.ErrFull},
		{append(append([]api.Token{wrong}, slices.Repeat([]api.Token{x}, 19999)...), end), 0, api.ErrForm},
		{append(append([]api.Token{wrong}, slices.Repeat([]api.Token{x}, 20000)...), end), 0, api.ErrFull},
		{[]api.Token{token(api.TokText, strings.Repeat("a", 16382))}, 16384, api.OK},
		{[]api.Token{token(api.TokText, strings.Repeat("\n", 8191))}, 16384, api.OK},
		{[]api.Token{token(api.TokText, strings.Repeat("a", 16383))}, 0, api.ErrFull},
		{[]api.Token{token(api.TokText, strings.Repeat("\n", 8192))}, 0, api.ErrFull},
		{[]api.Token{token(api.TokText, strings.Repeat("a", 16384)), wrong}, 0, api.ErrForm},
		{[]api.Token{token(api.TokText, strings.Repeat("a", 16384))}, 0, api.ErrFull},
		{[]api.Token{token(api.TokText, strings.Repeat("a", 16385))}, 0, api.ErrForm},
	} {
		if s, e := Join(c.l); len(s) != c.n || e != c.e {
			t.Errorf("%d tokens, the last one %d: %d, %d", len(c.l), c.l[len(c.l)-1].Kind, len(s), e)
		}
	}
}

// P2.5

func withoutPlaces(l []api.Token) []api.Token {
	result := slices.Clone(l)
	for i := range result {
		result[i].At = api.Pos{}
	}
	return result
}

func TestJoinedTokensAreFoundAgain(t *testing.T) {
	joined := 0
	for _, s := range sources() {
		l, _, e := Tokens(s)
		if e != api.OK {
			continue
		}
		text, e := Join(l)
		if e != api.OK {
			t.Errorf("%q: %d", s, e)
			continue
		}
		joined++
		if again, _, e := Tokens(text); e != api.OK || !slices.Equal(withoutPlaces(again), withoutPlaces(l)) {
			t.Errorf("%q: %v, %d", s, again, e)
		}
	}
	if joined < 1000 {
		t.Error("few tokens were joined:", joined)
	}
}

func TestGapsChangeNothingButPlaces(t *testing.T) {
	gaps := []string{"  ", "\t", "\n", "(**)", " (* x \" (* # *) *) ", "\n\n(*\n*)\t"}
	for _, s := range sources()[:2000] {
		l, _, e := Tokens(s)
		if e != api.OK {
			continue
		}
		for i, gap := range gaps {
			var b strings.Builder
			for j, k := range l[:len(l)-1] {
				one, _ := Join([]api.Token{k})
				b.WriteString(gaps[(i+j)%len(gaps)] + one)
			}
			b.WriteString(gap)
			if again, _, e := Tokens(b.String()); e != api.OK || !slices.Equal(withoutPlaces(again), withoutPlaces(l)) {
				t.Errorf("%q: %v, %d", b.String(), again, e)
			}
		}
	}
}

func TestLiteralsAndTextsBelongToEachOther(t *testing.T) {
	parts := []string{"\"", "\\", "n", "\n", " ", "a", "\t"}
	literals := map[string]string{}
	texts(parts, 5, func(s string) {
		if l, e := Quote(s); e == api.OK {
			if other, twice := literals[l]; twice {
				t.Errorf("%q and %q have the literal %q", s, other, l)
			}
			literals[l] = s
			if back, e := Unquote(l); back != s || e != api.OK {
				t.Errorf("%q: %q, %d", s, back, e)
			}
			if k, _, e := Tokens(l); e != api.OK || len(k) != 2 || k[0].Kind != api.TokText || k[0].Text != s {
				t.Errorf("%q: %v, %d", s, k, e)
			}
		}
		if text, e := Unquote(s); e == api.OK {
			if back, e := Quote(text); back != s || e != api.OK {
				t.Errorf("%q: %q, %d", s, back, e)
			}
		}
	})
	if len(literals) < 1000 {
		t.Error("few literals:", len(literals))
	}
}

// P1

func TestLongArguments(t *testing.T) {
	for _, part := range []string{"a", "A", "'", "'a", "9", "0", "\"", "\\", "(", "(*", "*)", " ", "\n", "\xff", "\x00", "->"} {
		s := strings.Repeat(part, 1<<20)
		if l, at, e := Tokens(s); l != nil || at != (api.Pos{}) || e != api.ErrFull {
			t.Errorf("%q..: %d", part, e)
		}
		if Keyword(s) {
			t.Errorf("%q..", part)
		}
		want := symbolForm.FindString(s)
		if part == "(*" {
			want = ""
		}
		if got, ok := Symbol(s); got != want || ok != (want != "") {
			t.Errorf("%q..: %q", part, got)
		}
		if l, e := Quote(s); l != "" || e != api.ErrFull {
			t.Errorf("%q..: %d", part, e)
		}
		if l, e := Unquote(s); l != "" || e != api.ErrFull {
			t.Errorf("%q..: %d", part, e)
		}
		for kind := range 10 {
			if l, e := Join([]api.Token{token(kind, s), token(api.TokEnd, "")}); l != "" || e != api.ErrForm {
				t.Errorf("%q.., %d: %d", part, kind, e)
			}
		}
		// The longest sources that are read come next.
		s = s[:16384]
		checkTokens(t, s)
		checkTokens(t, "\""+s[1:])
		checkTokens(t, "(*"+s[2:])
	}
	// Texts that are permitted each, but not together.
	long := slices.Repeat([]api.Token{token(api.TokText, strings.Repeat("\n", 16384))}, 20000)
	if s, e := Join(long); s != "" || e != api.ErrFull {
		t.Error(e)
	}
}

func TestArgumentsStayAndResultsAreNew(t *testing.T) {
	l, _, _ := Tokens("val x = \"a\" 1")
	kept := slices.Clone(l)
	Join(l)
	if !slices.Equal(l, kept) {
		t.Error("an argument was modified")
	}
	l[0].Text = "y"
	if again, _, _ := Tokens("val x = \"a\" 1"); !slices.Equal(again, kept) {
		t.Error("a result shares memory with another one")
	}
	// A list with more room than tokens: what lies behind them is not written.
	Join(kept[:2])
	if kept[2].Text != "=" {
		t.Error("the memory behind an argument was modified")
	}
}

// P3

func answers() string {
	var b strings.Builder
	say := func(n int) { b.WriteString(strconv.Itoa(n) + ",") }
	for _, s := range sources() {
		l, at, e := Tokens(s)
		for _, k := range l {
			b.WriteString(k.Text)
			say(k.Kind)
			say(k.At.Line)
			say(k.At.Column)
		}
		joined, f := Join(l)
		quoted, g := Quote(s)
		unquoted, h := Unquote(s)
		symbol, _ := Symbol(s)
		b.WriteString(joined + quoted + unquoted + symbol)
		for _, n := range []int{at.Line, at.Column, int(e), int(f), int(g), int(h)} {
			say(n)
		}
	}
	return b.String()
}

func TestEqualArgumentsHaveEqualResults(t *testing.T) {
	want := answers()
	got := make([]string, 4)
	var w sync.WaitGroup
	for i := range got {
		w.Go(func() { got[i] = answers() })
	}
	w.Wait()
	for i, s := range got {
		if s != want {
			t.Error(i)
		}
	}
}
