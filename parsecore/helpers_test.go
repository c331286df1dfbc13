package parsecore

import (
	"fmt"
	"strings"
	"testing"

	"pilaster/api"
	"pilaster/lexer"
	"pilaster/syntax"
)

func node(op int, l ...api.Syn) api.Syn { return api.Syn{Op: op, L: l} }

func named(op int, s string, l ...api.Syn) api.Syn { return api.Syn{Op: op, S: s, L: l} }

func path(op int, s string, l ...api.Syn) api.Syn {
	return api.Syn{Op: op, Names: strings.Split(s, "."), L: l}
}

func number(op, n int, l ...api.Syn) api.Syn { return api.Syn{Op: op, N: n, L: l} }

func typ(s string, l ...api.Syn) api.Syn { return path(api.TyPath, s, l...) }

func value(s string) api.Syn { return path(api.XVar, s) }

func apply(f api.Syn, l ...api.Syn) api.Syn {
	for _, x := range l {
		f = node(api.XApp, f, x)
	}
	return f
}

// word returns the token of a key word, or a symbol.
func word(s string) api.Token {
	if lexer.Keyword(s) {
		return api.Token{Kind: api.TokWord, Text: s}
	}
	return api.Token{Kind: api.TokSymbol, Text: s}
}

func end() api.Token { return api.Token{Kind: api.TokEnd} }

// tokens returns the tokens of a source, with the end.
func tokens(s string) []api.Token {
	l, at, e := lexer.Tokens(s)
	if e != api.OK {
		panic(fmt.Sprint(s, at, e))
	}
	return l
}

// written returns a source of tokens.
func written(l []api.Token) string {
	s, e := lexer.Join(l)
	if e != api.OK {
		panic(e)
	}
	return s
}

type atFunction func([]api.Token, int) (api.Syn, int, api.Errno)

type sourceFunction func(string) (api.Syn, api.Pos, api.Errno)

func atFunctions() map[string]atFunction {
	return map[string]atFunction{"type": TypeAt, "expression": ExprAt, "atom": AtomAt}
}

func sourceFunctions() map[string]sourceFunction {
	return map[string]sourceFunction{"type": Type, "pattern": Pattern, "expression": Expr}
}

// checkAt compares a function for tokens with the definitions.
func checkAt(t *testing.T, rule string, l []api.Token, at int) {
	t.Helper()
	tree, next, e := want(rule, l, at)
	expectAt(t, rule, l, at, tree, next, e)
}

// expectAt compares a function for tokens with what it has to return. It does nothing for patterns, which have none.
func expectAt(t *testing.T, rule string, l []api.Token, at int, tree api.Syn, next int, e api.Errno) {
	t.Helper()
	f, ok := atFunctions()[rule]
	if !ok {
		return
	}
	if x, n, code := f(l, at); !syntax.Equal(x, tree) || n != next || code != e {
		t.Errorf("%s of %v at %d: %v, %d, %d; want %v, %d, %d", rule, l, at, x, n, code, tree, next, e)
	}
}

// checkSource compares a function for sources with the definitions.
func checkSource(t *testing.T, rule string, s string) {
	t.Helper()
	l, at, e := lexer.Tokens(s)
	var tree api.Syn
	if e == api.OK {
		tree, at, e = wantAll(rule, l)
	}
	expectSource(t, rule, s, tree, at, e)
}

// expectSource compares a function for sources with what it has to return. It does nothing for atoms, which have none.
func expectSource(t *testing.T, rule, s string, tree api.Syn, at api.Pos, e api.Errno) {
	t.Helper()
	f, ok := sourceFunctions()[rule]
	if !ok {
		return
	}
	if x, place, code := f(s); !syntax.Equal(x, tree) || place != at || code != e {
		t.Errorf("%s of %q: %v, %v, %d; want %v, %v, %d", rule, s, x, place, code, tree, at, e)
	}
}
