package parsemod

import (
	"slices"
	"sort"

	"pilaster/api"
	"pilaster/parsecore"
)

// firstWindow is the number of tokens that layer 4 gets first. Most of its texts are shorter.
const firstWindow = 16

// coreReader is a function of layer 4 that reads a text at an index.
type coreReader func(l []api.Token, at int) (api.Syn, int, api.Errno)

// coreText is a text of layer 4 with which some tokens begin.
type coreText struct {
	read   coreReader
	more   []api.Token // a token that can follow every text of this kind, to make it longer; none, if no token can follow any
	tokens []api.Token // without the end
}

// typ reads a type.
func (p *parser) typ() api.Syn {
	return p.core(parsecore.TypeAt, api.Token{Kind: api.TokSymbol, Text: "->"})
}

func (p *parser) expression() api.Syn {
	return p.core(parsecore.ExprAt, api.Token{Kind: api.TokWord, Text: "orelse"})
}

// atom reads an atom. A path is read here, as paths are the only atoms that can be made longer.
func (p *parser) atom() api.Syn {
	switch p.token().Kind {
	case api.TokLower, api.TokUpper:
		return p.valuePath()
	}
	return p.core(parsecore.AtomAt)
}

// valuePath reads a VPATH or an MPATH that is an atom.
func (p *parser) valuePath() api.Syn {
	var l []string
	for p.token().Kind == api.TokUpper {
		l = append(l, p.take(api.TokUpper))
		if !p.pass(".") {
			return api.Syn{Op: api.XCtor, Names: l}
		}
	}
	return api.Syn{Op: api.XVar, Names: append(l, p.take(api.TokLower))}
}

// core reads a text of layer 4. A tree that is not well-formed is left out, so that no tree around it is well-formed either, but the tokens after it are still judged, as a wrong one counts first.
func (p *parser) core(read coreReader, more ...api.Token) api.Syn {
	if p.fault != api.OK {
		return api.Syn{}
	}
	x := coreText{read, more, p.tokens[p.next : len(p.tokens)-1]}
	t, length, e := x.find()
	p.next += length
	switch e {
	case api.ErrForm, api.ErrEnd:
		p.refuse()
	}
	return t
}

// find returns what layer 4 says of all the tokens, and with ErrFull also the index of the first token after the text. Layer 4 goes through every token that it gets, so it gets few of them at first, and twice as many while these do not decide. More after them keeps a text from ending just because they do.
func (x coreText) find() (t api.Syn, next int, e api.Errno) {
	for n := firstWindow; n < len(x.tokens); n *= 2 {
		t, next, e = x.look(n, x.more)
		switch {
		case e == api.ErrFull:
			return api.Syn{}, x.length(n), e
		case next < n:
			return t, next, e
		}
	}
	t, next, e = x.look(len(x.tokens), nil)
	if e == api.ErrFull {
		next = x.length(len(x.tokens))
	}
	return t, next, e
}

// look reads the first n tokens with others after them.
func (x coreText) look(n int, after []api.Token) (api.Syn, int, api.Errno) {
	return x.read(slices.Concat(x.tokens[:n], after, []api.Token{{Kind: api.TokEnd}}), 0)
}

// length returns how many tokens a text has that is not well-formed, and ends among the first n. Fewer tokens are no text with more after them, nor are as many if there is a token that makes them longer; from there on, layer 4 finds the text, and says ErrFull.
func (x coreText) length(n int) int {
	return sort.Search(n+1, func(k int) bool {
		_, _, e := x.look(k, x.more)
		return e == api.ErrFull
	}) - len(x.more)
}
