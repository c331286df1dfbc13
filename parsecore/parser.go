package parsecore

import (
	"strconv"

	"pilaster/api"
	"pilaster/syntax"
)

// parser goes through a complete list of tokens. Its methods read what they are named after, and never read a token that cannot stand where it is, so that what is read is always a beginning.
type parser struct {
	tokens []api.Token
	next   int // the index of the first token that is not read yet
}

// fault is what a parser panics with: the index of the token that cannot stand where it is, and the error.
type fault struct {
	at   int
	code api.Errno
}

// parse reads a tree of a category at an index of l, and returns it with the index of the first token after it.
func parse(l []api.Token, at, cat int, read func(*parser) api.Syn) (t api.Syn, next int, e api.Errno) {
	defer func() {
		r := recover()
		if r == nil {
			return
		}
		f, ok := r.(fault)
		if !ok {
			// A mistake in the parser itself must not look like a result.
			panic(r)
		}
		t, next, e = api.Syn{}, f.at, f.code
	}()
	p := parser{tokens: l, next: at}
	t = read(&p)
	if !syntax.Valid(cat, t) {
		return api.Syn{}, 0, api.ErrFull
	}
	return t, p.next, api.OK
}

func (p *parser) token() api.Token { return p.tokens[p.next] }

// refuse ends the parsing at the next token.
func (p *parser) refuse() {
	f := fault{p.next, api.ErrForm}
	if p.token().Kind == api.TokEnd {
		f.code = api.ErrEnd
	}
	panic(f)
}

func (p *parser) end() {
	if p.token().Kind != api.TokEnd {
		p.refuse()
	}
}

// take reads a token of a kind, and returns its text.
func (p *parser) take(kind int) string {
	t := p.token()
	if t.Kind != kind {
		p.refuse()
	}
	p.next++
	return t.Text
}

// number reads a number. Those of complete lists are right, so that there is no error.
func (p *parser) number() int {
	n, _ := strconv.Atoi(p.take(api.TokInt))
	return n
}

// need reads a key word or a symbol.
func (p *parser) need(text string) {
	if !p.pass(text) {
		p.refuse()
	}
}

// pass reads a key word or a symbol if it comes next, and reports whether it does.
func (p *parser) pass(text string) bool {
	if fixed(p.token()) != text {
		return false
	}
	p.next++
	return true
}

// fixed returns the text of a key word or a symbol, and nothing for other tokens, as a text may be written like one of them.
func fixed(t api.Token) string {
	switch t.Kind {
	case api.TokWord, api.TokSymbol:
		return t.Text
	}
	return ""
}

// separated reads one or more trees with a key word or a symbol between them.
func (p *parser) separated(by string, read func() api.Syn) []api.Syn {
	l := []api.Syn{read()}
	for p.pass(by) {
		l = append(l, read())
	}
	return l
}

// modulePath reads an MPATH.
func (p *parser) modulePath() []string {
	l := []string{p.take(api.TokUpper)}
	for p.pass(".") {
		l = append(l, p.take(api.TokUpper))
	}
	return l
}

// typePath reads a TPATH.
func (p *parser) typePath() []string {
	var l []string
	for p.token().Kind == api.TokUpper {
		l = append(l, p.take(api.TokUpper))
		p.need(".")
	}
	return append(l, p.take(api.TokLower))
}

// signature reads the path of a signature.
func (p *parser) signature() api.Syn {
	return api.Syn{Op: api.GPath, Names: p.modulePath()}
}

// tuple returns the only tree of l, or else the tuple of l.
func tuple(op int, l []api.Syn) api.Syn {
	if len(l) == 1 {
		return l[0]
	}
	return api.Syn{Op: op, L: l}
}
