package parsecore

import (
	"math/rand"
	"reflect"
	"slices"
	"strings"
	"sync"
	"testing"

	"pilaster/api"
	"pilaster/lexer"
	"pilaster/syntax"
)

// alphabet returns a token of each kind, all key words, and all symbols.
func alphabet() []api.Token {
	l := []api.Token{{Kind: api.TokLower, Text: "x"}, {Kind: api.TokUpper, Text: "M"}, {Kind: api.TokVar, Text: "'a"}, {Kind: api.TokInt, Text: "1"},
		{Kind: api.TokText, Text: "("}}
	for _, s := range strings.Fields(`andalso case data div else end fn fun functor generative if import in include let mod module of open orelse
		pack sharing sig signature struct structure then type unpack val with ( ) , ; : :> = => -> | _ . * + - < <= ^ ~`) {
		l = append(l, word(s))
	}
	return l
}

// beginnings calls f with the beginnings of a rule of at most n tokens, and how they can be read.
func beginnings(rule string, n int, f func(l []api.Token, r *reading)) {
	var extend func(l []api.Token)
	extend = func(l []api.Token) {
		r := newReading(append(slices.Clone(l), end()), 0)
		r.rule(rule, 0)
		f(l, r)
		if len(l) == n {
			return
		}
		for _, c := range alphabet() {
			if r.wants(c) {
				extend(append(slices.Clone(l), c))
			}
		}
	}
	extend(nil)
}

// wants reports whether a token could stand in place of the end.
func (r *reading) wants(t api.Token) bool {
	for terminal := range r.wanted {
		if fits(terminal, t) {
			return true
		}
	}
	return false
}

// Each beginning of a few tokens is tried with the end and with each other token after it. As what comes after a token that cannot stand there does not matter, these are all texts of a few tokens.
func TestAllShortTexts(t *testing.T) {
	t.Parallel()
	for rule, n := range map[string]int{"type": 5, "pattern": 5, "expression": 4, "atom": 4} {
		t.Run(rule, func(t *testing.T) {
			t.Parallel()
			beginnings(rule, n, func(l []api.Token, r *reading) { checkBeginning(t, rule, l, r) })
		})
	}
}

func checkBeginning(t *testing.T, rule string, l []api.Token, r *reading) {
	whole := append(slices.Clone(l), end())
	checkAt(t, rule, whole, 0)
	checkSource(t, rule, written(whole))
	tree, next, e := want(rule, whole, 0)
	if e == api.ErrEnd {
		// The tokens that are tried next are no ends.
		e = api.ErrForm
	}
	for _, c := range alphabet() {
		if r.wants(c) {
			continue
		}
		more := append(slices.Clone(l), c, end())
		expectAt(t, rule, more, 0, tree, next, e)
		s := written(more)
		expectSource(t, rule, s, api.Syn{}, tokens(s)[len(l)].At, api.ErrForm)
	}
}

// parenthesized returns how many parentheses are put around parts at random.
func parenthesized(r *rand.Rand) func() int {
	return func() int { return max(0, r.Intn(6)-3) }
}

// spread writes tokens with blanks and comments between them.
func spread(r *rand.Rand, l []api.Token) string {
	gap := func() string {
		return []string{" ", "\n", "\t", "(**)", " (* x (* y *) \" *) ", "\n\n  "}[r.Intn(6)]
	}
	var b strings.Builder
	for _, t := range l {
		b.WriteString(gap() + written([]api.Token{t}))
	}
	return b.String() + gap()
}

// rulesOfTexts returns the rules of the categories of texts.
func rulesOfTexts() []string { return []string{"type", "pattern", "expression", "atom"} }

// samples calls f with n texts of each category in turn, of a fixed seed.
func samples(n, size int, f func(r *rand.Rand, rule string, text piece)) {
	r := rand.New(rand.NewSource(4))
	for range n {
		for _, rule := range rulesOfTexts() {
			w := writer{r, r.Intn(size)}
			f(r, rule, w.text(rule))
		}
	}
}

func TestTextsOfTheGrammar(t *testing.T) {
	t.Parallel()
	samples(2500, 120, func(r *rand.Rand, rule string, text piece) {
		tree := tree(text)
		e := api.OK
		if !syntax.Valid(category(rule), tree) {
			tree, e = api.Syn{}, api.ErrFull
		}
		l := flat(text, none)
		next := len(l)
		if e != api.OK {
			next = 0
		}
		expectAt(t, rule, append(l, end()), 0, tree, next, e)
		expectSource(t, rule, written(l), tree, api.Pos{}, e)
		// Neither parentheses nor blanks nor comments change anything.
		l = flat(text, parenthesized(r))
		if e == api.OK {
			next = len(l)
		}
		expectAt(t, rule, append(l, end()), 0, tree, next, e)
		expectSource(t, rule, spread(r, l), tree, api.Pos{}, e)
	})
}

// The same trees are found wherever a text stands, as long as what follows does not continue it.
func TestTextsAmongOtherTokens(t *testing.T) {
	t.Parallel()
	some := alphabet()
	any := func(r *rand.Rand) []api.Token {
		var l []api.Token
		for range r.Intn(4) {
			l = append(l, some[r.Intn(len(some))])
		}
		return l
	}
	samples(1500, 25, func(r *rand.Rand, rule string, text piece) {
		if rule == "pattern" {
			return
		}
		before := any(r)
		l := slices.Concat(before, flat(text, none), any(r), []api.Token{end()})
		checkAt(t, rule, l, len(before))
	})
}

// changed returns tokens with a few changes at random.
func changed(r *rand.Rand, l []api.Token) []api.Token {
	some := alphabet()
	l = slices.Clone(l)
	for range 1 + r.Intn(2) {
		i := r.Intn(len(l) + 1)
		switch c := some[r.Intn(len(some))]; {
		case r.Intn(4) == 0:
			l = l[:i]
		case i == len(l) || r.Intn(3) == 0:
			l = slices.Insert(l, i, c)
		case r.Intn(2) == 0:
			l = slices.Delete(l, i, i+1)
		default:
			l[i] = c
		}
	}
	return l
}

func TestChangedTexts(t *testing.T) {
	t.Parallel()
	samples(4000, 30, func(r *rand.Rand, rule string, text piece) {
		l := changed(r, flat(text, parenthesized(r)))
		if len(l) > 40 {
			return
		}
		checkSource(t, rule, written(l))
		l = append(l, end())
		checkAt(t, rule, l, 0)
		checkAt(t, rule, l, r.Intn(len(l)))
	})
}

// P1: Any bytes may stand in a source.
func TestAnySource(t *testing.T) {
	t.Parallel()
	r := rand.New(rand.NewSource(5))
	parts := []string{"x", "M", ".", "(", ")", ",", " ", "\n", "1", "0", "~", "'a", "'", "\"", "\\", "(*", "*)", "fn ", "=>", "let ", "\x00", "\xff", "é", "!"}
	for range 20000 {
		var b strings.Builder
		for range r.Intn(9) {
			b.WriteString(parts[r.Intn(len(parts))])
		}
		for rule := range sourceFunctions() {
			checkSource(t, rule, b.String())
		}
	}
	for rule := range sourceFunctions() {
		checkSource(t, rule, strings.Repeat(" ", 16384))
		expectSource(t, rule, strings.Repeat(" ", 16385), api.Syn{}, api.Pos{}, api.ErrFull)
		expectSource(t, rule, "= "+strings.Repeat("x", 1<<20), api.Syn{}, api.Pos{}, api.ErrFull)
	}
}

func TestIndices(t *testing.T) {
	l := tokens("val x : int list = f 1 end")
	list, f := typ("list", typ("int")), value("f")
	expectAt(t, "type", l, 3, list, 5, api.OK)
	expectAt(t, "type", l, 4, typ("list"), 5, api.OK)
	expectAt(t, "expression", l, 6, apply(f, number(api.XInt, 1)), 8, api.OK)
	expectAt(t, "expression", l, 1, value("x"), 2, api.OK)
	expectAt(t, "atom", l, 6, f, 7, api.OK)
	expectAt(t, "atom", l, 7, number(api.XInt, 1), 8, api.OK)
	for rule := range atFunctions() {
		for i := range l {
			checkAt(t, rule, l, i)
		}
		expectAt(t, rule, l, 0, api.Syn{}, 0, api.ErrForm)
		expectAt(t, rule, l, 2, api.Syn{}, 2, api.ErrForm)
		expectAt(t, rule, l, 8, api.Syn{}, 8, api.ErrForm)
		expectAt(t, rule, l, 9, api.Syn{}, 9, api.ErrEnd)
		for _, i := range []int{-1, 10, 11, 1 << 40, -1 << 63, 1<<63 - 1} {
			expectAt(t, rule, l, i, api.Syn{}, 0, api.ErrArg)
		}
	}
}

// An atom ends where an expression may go on.
func TestAtomsEndEarly(t *testing.T) {
	for _, x := range []struct {
		s       string
		next    int
		e       api.Errno
		isValue bool
	}{
		{"x y", 1, api.OK, true}, {"x + y", 1, api.OK, true}, {"(x) y", 3, api.OK, true}, {"x : M", 1, api.OK, true}, {"x.y", 1, api.OK, true},
		{"~ x", 0, api.ErrForm, false}, {"fn x => x", 0, api.ErrForm, false}, {"if x then x else x", 0, api.ErrForm, false},
		{"M.", 2, api.ErrEnd, false}, {"M.1", 2, api.ErrForm, false}, {"(x", 2, api.ErrEnd, false}, {"", 0, api.ErrEnd, false},
	} {
		var tree api.Syn
		if x.isValue {
			tree = value("x")
		}
		expectAt(t, "atom", tokens(x.s), 0, tree, x.next, x.e)
	}
}

// The longest beginning decides, also if a shorter one is a text.
func TestTheLongestBeginningDecides(t *testing.T) {
	for _, x := range []struct {
		rule, s string
		next    int
		e       api.Errno
	}{
		{"type", "int M = x", 2, api.ErrForm}, {"type", "int -> = x", 2, api.ErrForm}, {"type", "int * , x", 2, api.ErrForm}, {"type", "int M", 2, api.ErrEnd},
		{"expression", "f M. in", 3, api.ErrForm}, {"expression", "f + in", 2, api.ErrForm}, {"expression", "f (x in", 3, api.ErrForm},
		{"expression", "f = x andalso", 4, api.ErrEnd}, {"expression", "f let val", 3, api.ErrEnd}, {"expression", "f case x of y end", 5, api.ErrForm},
	} {
		expectAt(t, x.rule, tokens(x.s), 0, api.Syn{}, x.next, x.e)
		checkAt(t, x.rule, tokens(x.s), 0)
	}
}

// isRight reports whether a token is found as it is where it is written.
func isRight(t api.Token) bool {
	s := t.Text
	if t.Kind == api.TokText {
		q, e := lexer.Quote(s)
		if e != api.OK || len(s) > 8000 {
			// A literal of this length may not fit into a source, though its text is right.
			return e == api.OK
		}
		s = q
	}
	l, _, e := lexer.Tokens(s)
	return e == api.OK && len(l) == 2 && l[0].Kind == t.Kind && l[0].Text == t.Text
}

// anyTokens returns tokens of which some are not right.
func anyTokens() []api.Token {
	var l []api.Token
	for _, s := range []string{"", "x", "M", "'a", "1", "01", "-1", "(", "fn", "M.x", "x ", "é", "x\x00", "(*", "==", "'", "''", "'A", "4503599627370496", "4503599627370497",
		"99999999999999999999", "abcdefghijklmnopqrstuvwx", "abcdefghijklmnopqrstuvwxy", "a\nb", "a\tb", strings.Repeat("a", 16384), strings.Repeat("a", 16385),
		strings.Repeat("\"", 16384), "\"a\""} {
		for kind := -1; kind <= 10; kind++ {
			l = append(l, api.Token{Kind: kind, Text: s, At: api.Pos{Line: kind, Column: -7}})
		}
		l = append(l, api.Token{Kind: 1 << 40, Text: s}, api.Token{Kind: -1 << 63, Text: s})
	}
	return l
}

func TestListsThatAreNotComplete(t *testing.T) {
	x := api.Token{Kind: api.TokLower, Text: "x"}
	for rule, f := range atFunctions() {
		for _, c := range anyTokens() {
			// Only the tokens count, and not whether they are read.
			for _, l := range [][]api.Token{{x, c, end()}, {c, x, word("="), c, end()}, {x, word("in"), c, c, x, end()}} {
				_, _, e := f(l, slices.Index(l, x))
				if isRight(c) != (e != api.ErrArg) {
					t.Errorf("%s with %.100q of the kind %d: %d", rule, c.Text, c.Kind, e)
				}
			}
			isEnd := c.Kind == api.TokEnd && c.Text == ""
			if tree, next, e := f([]api.Token{x, c}, 0); isEnd != (e == api.OK) || isEnd != (next == 1) || !isEnd && !syntax.Equal(tree, api.Syn{}) {
				t.Errorf("%s of x and %.100q: %v, %d, %d", rule, c.Text, tree, next, e)
			}
		}
		for _, l := range [][]api.Token{nil, {}, {x}, {x, end(), end()}, {end(), x, end()}, {x, end(), x}, {x, word("in"), end(), end()}} {
			for at := -1; at <= len(l); at++ {
				expectAt(t, rule, l, at, api.Syn{}, 0, api.ErrArg)
			}
		}
		expectAt(t, rule, []api.Token{end()}, 0, api.Syn{}, 0, api.ErrEnd)
	}
}

// The places of tokens do not matter to the functions for tokens.
func TestPlacesDoNotMatter(t *testing.T) {
	samples(300, 30, func(r *rand.Rand, rule string, text piece) {
		l := append(flat(text, none), end())
		tree, next, e := want(rule, l, 0)
		for i := range l {
			l[i].At = api.Pos{Line: r.Intn(9) - 4, Column: -r.Int()}
		}
		expectAt(t, rule, l, 0, tree, next, e)
	})
}

func TestWhatComesAfterDoesNotMatter(t *testing.T) {
	some := alphabet()
	samples(2000, 30, func(r *rand.Rand, rule string, text piece) {
		l := changed(r, flat(text, none))
		f, ok := sourceFunctions()[rule]
		if !ok {
			return
		}
		s := written(l)
		_, at, e := f(s)
		if e != api.ErrForm {
			return
		}
		all := tokens(s)
		i := slices.IndexFunc(all, func(t api.Token) bool { return t.At == at })
		rest := append(slices.Clone(l[:i+1]), some[r.Intn(len(some))], some[r.Intn(len(some))])
		expectSource(t, rule, written(rest), api.Syn{}, at, api.ErrForm)
		// What comes before is a beginning.
		before := written(l[:i])
		tree, at, e := f(before)
		if e == api.ErrEnd {
			all := tokens(before)
			expectSource(t, rule, before, api.Syn{}, all[len(all)-1].At, api.ErrEnd)
		} else if e != api.OK || !syntax.Valid(category(rule), tree) {
			t.Errorf("%s of %q: %v, %d", rule, before, at, e)
		}
	})
}

// slots calls f with the address of each element of the lists of a tree.
func slots(t api.Syn, f func(any)) {
	for i := range t.Names[:cap(t.Names)] {
		f(&t.Names[:cap(t.Names)][i])
	}
	for i := range t.L[:cap(t.L)] {
		f(&t.L[:cap(t.L)][i])
	}
	for _, x := range t.L {
		slots(x, f)
	}
}

func TestArgumentsStayAndResultsAreNew(t *testing.T) {
	samples(500, 40, func(r *rand.Rand, rule string, text piece) {
		f, ok := atFunctions()[rule]
		if !ok {
			return
		}
		l := append(flat(text, none), end())
		same := slices.Clone(l)
		a, _, _ := f(l, 0)
		b, _, _ := f(l, 0)
		if !slices.Equal(l, same) {
			t.Error(rule, l)
		}
		seen := map[any]bool{}
		for _, tree := range []api.Syn{a, b} {
			slots(tree, func(at any) {
				if seen[at] {
					t.Error(rule, l)
				}
				seen[at] = true
			})
		}
		clear(l)
		if want, _, _ := want(rule, same, 0); !syntax.Equal(a, want) || !syntax.Equal(b, want) {
			t.Error(rule, same)
		}
	})
}

func TestErrorsLeaveNothing(t *testing.T) {
	isZero := func(tree api.Syn) bool { return reflect.DeepEqual(tree, api.Syn{}) }
	samples(1000, 30, func(r *rand.Rand, rule string, text piece) {
		l := changed(r, flat(text, none))
		if f, ok := sourceFunctions()[rule]; ok {
			if tree, at, e := f(written(l)); (e == api.OK || e == api.ErrFull) != (at == api.Pos{}) || e != api.OK && !isZero(tree) {
				t.Error(rule, l, tree, at, e)
			}
		}
		if f, ok := atFunctions()[rule]; ok {
			if tree, next, e := f(append(l, end()), 0); e != api.OK && !isZero(tree) {
				t.Error(rule, l, tree, next, e)
			}
		}
	})
}

// P3: Nothing is kept between calls, also of those that run at the same time.
func TestSameResultsAtTheSameTime(t *testing.T) {
	var sources []string
	samples(100, 40, func(r *rand.Rand, rule string, text piece) {
		sources = append(sources, written(changed(r, flat(text, none))))
	})
	type result struct {
		tree api.Syn
		at   api.Pos
		e    api.Errno
	}
	run := func() []result {
		var l []result
		for _, s := range sources {
			for _, rule := range rulesOfTexts()[:3] {
				tree, at, e := sourceFunctions()[rule](s)
				l = append(l, result{tree, at, e})
			}
		}
		return l
	}
	want := run()
	var all sync.WaitGroup
	for range 4 {
		all.Go(func() {
			if !reflect.DeepEqual(run(), want) {
				t.Error("results differ")
			}
		})
	}
	all.Wait()
}
