package parsemod

import (
	"fmt"
	"reflect"
	"slices"
	"strings"
	"testing"

	"pilaster/api"
	"pilaster/lexer"
	"pilaster/syntax"
)

func node(op int, l ...api.Syn) api.Syn { return api.Syn{Op: op, L: l} }

func named(op int, s string, l ...api.Syn) api.Syn { return api.Syn{Op: op, S: s, L: l} }

func path(op int, s string, l ...api.Syn) api.Syn {
	return api.Syn{Op: op, Names: strings.Split(s, "."), L: l}
}

// binder returns a functor, or the signature of functors; n is 1 if it is applicative.
func binder(op, n int, s string, l ...api.Syn) api.Syn { return api.Syn{Op: op, N: n, S: s, L: l} }

// family returns a tree with the parameters params, separated by blanks.
func family(op int, params, s string, l ...api.Syn) api.Syn {
	return api.Syn{Op: op, Names: strings.Fields(params), S: s, L: l}
}

func typ(s string, l ...api.Syn) api.Syn { return path(api.TyPath, s, l...) }

func value(s string) api.Syn { return path(api.XVar, s) }

func number(n int) api.Syn { return api.Syn{Op: api.XInt, N: n} }

// word returns the token of a key word, or a symbol.
func word(s string) api.Token {
	if lexer.Keyword(s) {
		return api.Token{Kind: api.TokWord, Text: s}
	}
	return api.Token{Kind: api.TokSymbol, Text: s}
}

// tokens returns the tokens of a source, with the end.
func tokens(s string) []api.Token {
	l, at, e := lexer.Tokens(s)
	if e != api.OK {
		panic(fmt.Sprint(s, at, e))
	}
	return l
}

// written returns a source of tokens.
func written(l []api.Token) string {
	s, e := lexer.Join(l)
	if e != api.OK {
		panic(e)
	}
	return s
}

// result is what a function returns: one tree for a signature, or a module.
type result struct {
	imports []string
	trees   []api.Syn
	at      api.Pos
	e       api.Errno
}

func (r result) equals(other result) bool {
	return slices.Equal(r.imports, other.imports) && slices.EqualFunc(r.trees, other.trees, syntax.Equal) && r.at == other.at && r.e == other.e
}

// wrongAt is the result for a wrong token at a place.
func wrongAt(at api.Pos, e api.Errno) result { return result{at: at, e: e} }

func column(n int, e api.Errno) result { return wrongAt(api.Pos{Line: 1, Column: n}, e) }

// rulesOfTexts returns the rules of the texts that the functions read.
func rulesOfTexts() []string { return []string{"signature", "module", "decls", "unit"} }

// read calls the function for a rule, and fails if there is anything but zeros beside an error.
func read(t *testing.T, rule, s string) result {
	t.Helper()
	var r result
	first := any(nil)
	switch rule {
	case "signature", "module":
		f := Sig
		if rule == "module" {
			f = Mod
		}
		x, at, e := f(s)
		first, r = x, result{trees: []api.Syn{x}, at: at, e: e}
	case "decls":
		l, at, e := Decls(s)
		first, r = l, result{trees: l, at: at, e: e}
	case "unit":
		u, at, e := Unit("U", s)
		if e == api.OK && u.Name != "U" {
			t.Errorf("unit of %q: the name is %q", s, u.Name)
		}
		first, r = u, result{imports: u.Imports, trees: u.Decls, at: at, e: e}
	}
	if r.e == api.OK {
		return r
	}
	r.trees = nil
	if !reflect.ValueOf(first).IsZero() {
		t.Errorf("%s of %q: %v beside the error %d", rule, s, first, r.e)
	}
	return r
}

// expect compares the function for a rule with what it has to return.
func expect(t *testing.T, rule, s string, want result) {
	t.Helper()
	if got := read(t, rule, s); !got.equals(want) {
		t.Errorf("%s of %q: %v; want %v", rule, s, got, want)
	}
}

// check compares the function for a rule with the definitions.
func check(t *testing.T, rule, s string) {
	t.Helper()
	expect(t, rule, s, want(rule, s))
}
