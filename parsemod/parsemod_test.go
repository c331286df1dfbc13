package parsemod

import (
	"math/rand"
	"reflect"
	"slices"
	"strings"
	"sync"
	"testing"

	"pilaster/api"
	"pilaster/syntax"
)

// alphabet returns a token of each kind, all key words, and all symbols.
func alphabet() []api.Token {
	l := []api.Token{{Kind: api.TokLower, Text: "x"}, {Kind: api.TokUpper, Text: "M"}, {Kind: api.TokVar, Text: "'a"}, {Kind: api.TokInt, Text: "1"},
		{Kind: api.TokText, Text: "("}}
	for _, s := range strings.Fields(`andalso case data div else end fn fun functor generative if import in include let mod module of open orelse
		pack sharing sig signature struct structure then type unpack val with ( ) , ; : :> = => -> | _ . * + - < <= ^ ~`) {
		l = append(l, word(s))
	}
	return l
}

// beginnings calls f with the beginnings of a rule of at most n tokens, and how they can be read.
func beginnings(rule string, n int, f func(l []api.Token, r *reading)) {
	var extend func(l []api.Token)
	extend = func(l []api.Token) {
		r := newReading(append(slices.Clone(l), api.Token{Kind: api.TokEnd}))
		r.rule(rule, 0)
		f(l, r)
		if len(l) == n {
			return
		}
		for _, c := range alphabet() {
			if r.wants(c) {
				extend(append(slices.Clone(l), c))
			}
		}
	}
	extend(nil)
}

// Each beginning of a few tokens is tried with the end and with each other token after it. As what comes after a token that cannot stand there does not matter, these are all texts of a few tokens.
func TestAllShortTexts(t *testing.T) {
	t.Parallel()
	for rule, n := range map[string]int{"signature": 6, "module": 5, "decls": 5, "unit": 5} {
		t.Run(rule, func(t *testing.T) {
			t.Parallel()
			beginnings(rule, n, func(l []api.Token, r *reading) { checkBeginning(t, rule, l, r) })
		})
	}
}

func checkBeginning(t *testing.T, rule string, l []api.Token, r *reading) {
	check(t, rule, written(l))
	for _, c := range alphabet() {
		if r.wants(c) {
			continue
		}
		s := written(append(slices.Clone(l), c))
		expect(t, rule, s, wrongAt(tokens(s)[len(l)].At, api.ErrForm))
	}
}

// samples calls f with n texts of each category in turn, of a fixed seed.
func samples(n, size int, f func(r *rand.Rand, rule string, text piece)) {
	r := rand.New(rand.NewSource(5))
	for range n {
		for _, rule := range rulesOfTexts() {
			w := writer{r, r.Intn(size)}
			f(r, rule, w.text(rule))
		}
	}
}

// parenthesized returns how many parentheses are put around parts at random.
func parenthesized(r *rand.Rand) func() int {
	return func() int { return max(0, r.Intn(6)-3) }
}

// spread writes tokens with blanks and comments between them.
func spread(r *rand.Rand, l []api.Token) string {
	gap := func() string {
		return []string{" ", "\n", "\t", "(**)", " (* x (* y *) \" *) ", "\n\n  "}[r.Intn(6)]
	}
	var b strings.Builder
	for _, t := range l {
		b.WriteString(gap() + written([]api.Token{t}))
	}
	return b.String() + gap()
}

func TestTextsOfTheGrammar(t *testing.T) {
	t.Parallel()
	samples(1000, 120, func(r *rand.Rand, rule string, text piece) {
		want := judged(text)
		expect(t, rule, written(flat(text, none)), want)
		// Neither parentheses nor blanks nor comments change anything.
		if s := spread(r, flat(text, parenthesized(r))); len(s) <= api.MaxText {
			expect(t, rule, s, want)
		}
	})
}

// changed returns tokens with a few changes at random.
func changed(r *rand.Rand, l []api.Token) []api.Token {
	some := alphabet()
	l = slices.Clone(l)
	for range 1 + r.Intn(2) {
		i := r.Intn(len(l) + 1)
		switch c := some[r.Intn(len(some))]; {
		case r.Intn(4) == 0:
			l = l[:i]
		case i == len(l) || r.Intn(3) == 0:
			l = slices.Insert(l, i, c)
		case r.Intn(2) == 0:
			l = slices.Delete(l, i, i+1)
		default:
			l[i] = c
		}
	}
	return l
}

func TestChangedTexts(t *testing.T) {
	t.Parallel()
	samples(4000, 40, func(r *rand.Rand, rule string, text piece) {
		if l := changed(r, flat(text, parenthesized(r))); len(l) <= 60 {
			check(t, rule, written(l))
		}
	})
}

// P1: Any bytes may stand in a source.
func TestAnySource(t *testing.T) {
	t.Parallel()
	r := rand.New(rand.NewSource(6))
	parts := []string{"x", "M", ".", "(", ")", ",", " ", "\n", "1", ":", ":>", "'a", "'", "\"", "\\", "(*", "*)", "val ", "=", "sig ", "struct ", " end", "let ", " in ", "import ", ";",
		"type ", "unpack ", "with ", "\x00", "\xff", "é", "!"}
	for range 20000 {
		var b strings.Builder
		for range r.Intn(9) {
			b.WriteString(parts[r.Intn(len(parts))])
		}
		for _, rule := range rulesOfTexts() {
			check(t, rule, b.String())
		}
	}
	for _, rule := range rulesOfTexts() {
		check(t, rule, strings.Repeat(" ", 16384))
		expect(t, rule, strings.Repeat(" ", 16385), result{e: api.ErrFull})
		expect(t, rule, "= "+strings.Repeat("x", 1<<20), result{e: api.ErrFull})
	}
}

// P5.4: The declarations of a structure, a unit, and a source are the same.
func TestDeclarationsAreTheSame(t *testing.T) {
	samples(1500, 60, func(r *rand.Rand, rule string, text piece) {
		if rule != "decls" {
			return
		}
		s := written(flat(text, parenthesized(r)))
		want := read(t, "decls", s)
		expect(t, "unit", s, want)
		inner := want
		inner.imports = []string{"A", "B"}
		if want.e != api.OK {
			inner = want
		}
		expect(t, "unit", "import A, B; "+s, inner)
		for _, x := range []struct {
			before, after string
			tree          api.Syn
		}{
			{"struct ", " end", node(api.MStruct, want.trees...)},
			{"let ", " in M end", node(api.MLet, append(slices.Clone(want.trees), path(api.MPath, "M"))...)},
		} {
			inner := result{trees: []api.Syn{x.tree}}
			if want.e != api.OK {
				inner = want
			}
			expect(t, "module", x.before+s+x.after, inner)
		}
	})
}

// P5.4: What comes after a token that cannot stand there does not matter.
func TestWhatComesAfterDoesNotMatter(t *testing.T) {
	some := alphabet()
	samples(2000, 40, func(r *rand.Rand, rule string, text piece) {
		l := changed(r, flat(text, none))
		s := written(l)
		got := read(t, rule, s)
		if got.e != api.ErrForm {
			return
		}
		i := slices.IndexFunc(tokens(s), func(t api.Token) bool { return t.At == got.at })
		rest := append(slices.Clone(l[:i+1]), some[r.Intn(len(some))], some[r.Intn(len(some))])
		expect(t, rule, written(rest), got)
		// What comes before is a beginning.
		before := written(l[:i])
		all := tokens(before)
		if x := read(t, rule, before); x.e == api.ErrForm || x.e == api.ErrEnd && x.at != all[len(all)-1].At {
			t.Errorf("%s of %q: %v", rule, before, x)
		}
	})
}

// P5.4: Every tree that is returned is well-formed.
func TestTreesAreWellFormed(t *testing.T) {
	samples(1500, 60, func(r *rand.Rand, rule string, text piece) {
		cat := api.CatDecl
		switch rule {
		case "signature":
			cat = api.CatSig
		case "module":
			cat = api.CatMod
		}
		for _, x := range read(t, rule, written(changed(r, flat(text, none)))).trees {
			if !syntax.Valid(cat, x) {
				t.Error(rule, x)
			}
		}
	})
}

// slots calls f with the address of each element of the lists of a tree.
func slots(t api.Syn, f func(any)) {
	for i := range t.Names[:cap(t.Names)] {
		f(&t.Names[:cap(t.Names)][i])
	}
	for i := range t.L[:cap(t.L)] {
		f(&t.L[:cap(t.L)][i])
	}
	for _, x := range t.L {
		slots(x, f)
	}
}

func TestResultsAreNew(t *testing.T) {
	samples(400, 60, func(r *rand.Rand, rule string, text piece) {
		s := written(flat(text, none))
		seen := map[any]bool{}
		for range 2 {
			got := read(t, rule, s)
			for _, x := range []api.Syn{{Names: got.imports}, {L: got.trees}} {
				slots(x, func(at any) {
					if seen[at] {
						t.Error(rule, s)
					}
					seen[at] = true
				})
			}
		}
	})
}

// P3: Nothing is kept between calls, also of those that run at the same time.
func TestSameResultsAtTheSameTime(t *testing.T) {
	var sources []string
	samples(100, 60, func(r *rand.Rand, rule string, text piece) {
		sources = append(sources, written(changed(r, flat(text, none))))
	})
	run := func() []result {
		var l []result
		for _, s := range sources {
			for _, rule := range rulesOfTexts() {
				l = append(l, read(t, rule, s))
			}
		}
		return l
	}
	want := run()
	var all sync.WaitGroup
	for range 4 {
		all.Go(func() {
			if !reflect.DeepEqual(run(), want) {
				t.Error("results differ")
			}
		})
	}
	all.Wait()
}
