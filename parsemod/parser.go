package parsemod

import (
	"pilaster/api"
	"pilaster/lexer"
)

// parser goes through the tokens of a source. Its methods read what they are named after. After the first fault they read nothing, and what they return does not matter.
type parser struct {
	tokens []api.Token
	next   int       // the index of the first token that is not read yet; with a fault, that of the token that cannot stand there
	fault  api.Errno // the first fault
}

// parse reads all of s. With an error, it returns the place of what is wrong.
func parse(s string, read func(*parser)) (api.Pos, api.Errno) {
	l, wrong, e := lexer.Tokens(s)
	if e != api.OK {
		return wrong, e
	}
	p := parser{tokens: l}
	read(&p)
	if !p.isAtEnd() {
		p.refuse()
	}
	if p.fault != api.OK {
		return l[p.next].At, p.fault
	}
	return api.Pos{}, api.OK
}

// token returns the next token, and after a fault one that is of no kind, so that no method finds what it could go on with.
func (p *parser) token() api.Token {
	if p.fault != api.OK {
		return api.Token{}
	}
	return p.tokens[p.next]
}

// refuse makes the next token the first fault, unless there is one.
func (p *parser) refuse() {
	switch {
	case p.fault != api.OK:
	case p.isAtEnd():
		p.fault = api.ErrEnd
	default:
		p.fault = api.ErrForm
	}
}

func (p *parser) isAtEnd() bool { return p.token().Kind == api.TokEnd }

// take reads a token of a kind, and returns its text.
func (p *parser) take(kind int) string {
	t := p.token()
	if t.Kind != kind {
		p.refuse()
		return ""
	}
	p.next++
	return t.Text
}

// need reads a key word or a symbol.
func (p *parser) need(text string) {
	if !p.pass(text) {
		p.refuse()
	}
}

// pass reads a key word or a symbol if it comes next, and reports whether it does. A text may be written like one of them.
func (p *parser) pass(text string) bool {
	switch t := p.token(); t.Kind {
	case api.TokWord, api.TokSymbol:
		if t.Text == text {
			p.next++
			return true
		}
	}
	return false
}

// until returns a function that reads a key word that ends a list.
func (p *parser) until(word string) func() bool {
	return func() bool { return p.pass(word) }
}

// list reads any number of trees, up to what ends them.
func (p *parser) list(read func() api.Syn, ends func() bool) []api.Syn {
	var l []api.Syn
	for p.fault == api.OK && !ends() {
		l = append(l, read())
	}
	return l
}

// names reads one or more names of a kind with a symbol between them.
func (p *parser) names(kind int, by string) []string {
	l := []string{p.take(kind)}
	for p.pass(by) {
		l = append(l, p.take(kind))
	}
	return l
}

// modulePath reads an MPATH.
func (p *parser) modulePath() []string { return p.names(api.TokUpper, ".") }

// typePath reads a TPATH.
func (p *parser) typePath() []string {
	var l []string
	for p.token().Kind == api.TokUpper {
		l = append(l, p.take(api.TokUpper))
		p.need(".")
	}
	return append(l, p.take(api.TokLower))
}

// parameters reads the params of a type.
func (p *parser) parameters() []string {
	if p.token().Kind == api.TokVar {
		return []string{p.take(api.TokVar)}
	}
	if !p.pass("(") {
		return nil
	}
	l := []string{p.take(api.TokVar)}
	p.need(",")
	l = append(l, p.names(api.TokVar, ",")...)
	p.need(")")
	return l
}

// imports reads the imports of a unit.
func (p *parser) imports() []string {
	if !p.pass("import") {
		return nil
	}
	l := p.names(api.TokUpper, ",")
	p.need(";")
	return l
}
