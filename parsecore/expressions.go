package parsecore

import "pilaster/api"

// The levels of the binary operators, those that bind more loosely first.
const (
	levelOr = 1 + iota
	levelAnd
	levelCompare
	levelJoin
	levelSum
	levelTerm
)

func (p *parser) expression() api.Syn {
	switch {
	case p.pass("fn"):
		return p.function()
	case p.pass("if"):
		return p.choice()
	}
	return p.operation(levelOr)
}

// function reads an XFn after its key word.
func (p *parser) function() api.Syn {
	t := api.Syn{Op: api.XFn}
	if !p.pass("_") {
		t.S = p.take(api.TokLower)
	}
	p.need("=>")
	t.L = []api.Syn{p.expression()}
	return t
}

// choice reads an XIf after its key word.
func (p *parser) choice() api.Syn {
	l := []api.Syn{p.expression()}
	p.need("then")
	l = append(l, p.expression())
	p.need("else")
	return api.Syn{Op: api.XIf, L: append(l, p.expression())}
}

// operation reads an expression of operators of a level, and of those that bind more tightly. Only levels at which there is an operator take a call of their own, as parentheses may be nested thousands of times.
func (p *parser) operation(level int) api.Syn {
	t := p.negation()
	most := levelTerm
	for {
		op, at := operator(p.token())
		if at < level || at > most {
			return t
		}
		p.next++
		// The operators that bind more tightly are read with the right side, so that they cannot follow; nor can a comparison follow a comparison.
		var right int
		switch at {
		case levelSum, levelTerm:
			right, most = at+1, at
		case levelCompare:
			right, most = at+1, at-1
		default:
			right, most = at, at-1
		}
		t = api.Syn{Op: api.XOp, N: op, L: []api.Syn{t, p.operation(right)}}
	}
}

// operator returns the binary operator that a token is, and its level; 0, which is below all levels, if it is none.
func operator(t api.Token) (op, level int) {
	switch fixed(t) {
	case "orelse":
		return api.OpOr, levelOr
	case "andalso":
		return api.OpAnd, levelAnd
	case "=":
		return api.OpEqual, levelCompare
	case "<":
		return api.OpLess, levelCompare
	case "<=":
		return api.OpAtMost, levelCompare
	case "^":
		return api.OpConcat, levelJoin
	case "+":
		return api.OpAdd, levelSum
	case "-":
		return api.OpSub, levelSum
	case "*":
		return api.OpMul, levelTerm
	case "div":
		return api.OpDiv, levelTerm
	case "mod":
		return api.OpMod, levelTerm
	}
	return 0, 0
}

func (p *parser) negation() api.Syn {
	if !p.pass("~") {
		return p.application()
	}
	return api.Syn{Op: api.XOp, N: api.OpNeg, L: []api.Syn{p.negation()}}
}

func (p *parser) application() api.Syn {
	t := p.atom()
	for beginsAtom(p.token()) {
		t = api.Syn{Op: api.XApp, L: []api.Syn{t, p.atom()}}
	}
	return t
}

func beginsAtom(t api.Token) bool {
	switch t.Kind {
	case api.TokLower, api.TokUpper, api.TokInt, api.TokText:
		return true
	}
	switch fixed(t) {
	case "(", "let", "case":
		return true
	}
	return false
}

func (p *parser) atom() api.Syn {
	switch p.token().Kind {
	case api.TokInt:
		return api.Syn{Op: api.XInt, N: p.number()}
	case api.TokText:
		return api.Syn{Op: api.XText, S: p.take(api.TokText)}
	}
	switch {
	case p.pass("("):
		return p.enclosed()
	case p.pass("let"):
		return p.let()
	case p.pass("case"):
		return p.match()
	}
	return p.path()
}

// path reads a VPATH or an MPATH.
func (p *parser) path() api.Syn {
	var l []string
	for p.token().Kind == api.TokUpper {
		l = append(l, p.take(api.TokUpper))
		if !p.pass(".") {
			return api.Syn{Op: api.XCtor, Names: l}
		}
	}
	return api.Syn{Op: api.XVar, Names: append(l, p.take(api.TokLower))}
}

// enclosed reads an atom after its parenthesis.
func (p *parser) enclosed() api.Syn {
	if p.pass(")") {
		return api.Syn{Op: api.XTuple}
	}
	t := p.contents()
	p.need(")")
	return t
}

// contents reads what stands in the parentheses of an atom.
func (p *parser) contents() api.Syn {
	if p.pass("pack") {
		t := api.Syn{Op: api.XPack, Names: p.modulePath()}
		p.need(":")
		t.L = []api.Syn{p.signature()}
		return t
	}
	l := p.separated(",", p.expression)
	if len(l) == 1 && p.pass(":") {
		return api.Syn{Op: api.XAnnot, L: append(l, p.typ())}
	}
	return tuple(api.XTuple, l)
}

// let reads an XLet after its key word.
func (p *parser) let() api.Syn {
	var l []api.Syn
	for !p.pass("in") {
		l = append(l, p.declaration())
	}
	l = append(l, p.expression())
	p.need("end")
	return api.Syn{Op: api.XLet, L: l}
}

// match reads an XCase after its key word.
func (p *parser) match() api.Syn {
	l := []api.Syn{p.expression()}
	p.need("of")
	l = append(l, p.separated("|", p.rule)...)
	p.need("end")
	return api.Syn{Op: api.XCase, L: l}
}

func (p *parser) rule() api.Syn {
	t := p.pattern()
	p.need("=>")
	return api.Syn{Op: api.XRule, L: []api.Syn{t, p.expression()}}
}

func (p *parser) declaration() api.Syn {
	switch {
	case p.pass("val"):
		t := api.Syn{Op: api.DVal, S: p.take(api.TokLower)}
		p.need("=")
		t.L = []api.Syn{p.expression()}
		return t
	case p.pass("fun"):
		return p.named()
	}
	p.need("structure")
	return p.unpacked()
}

// named reads a DFun after its key word.
func (p *parser) named() api.Syn {
	t := api.Syn{Op: api.DFun, S: p.take(api.TokLower)}
	t.Names = []string{p.take(api.TokLower)}
	for !p.pass("=") {
		t.Names = append(t.Names, p.take(api.TokLower))
	}
	t.L = []api.Syn{p.expression()}
	return t
}

// unpacked reads a DUnpack after its key word.
func (p *parser) unpacked() api.Syn {
	t := api.Syn{Op: api.DUnpack, S: p.take(api.TokUpper)}
	p.need("=")
	p.need("unpack")
	t.L = []api.Syn{p.atom()}
	p.need(":")
	t.L = append(t.L, p.signature())
	return t
}
