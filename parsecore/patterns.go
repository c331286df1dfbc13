package parsecore

import "pilaster/api"

// pattern reads a pattern. A path is not read as an argument here, as it may have an argument itself.
func (p *parser) pattern() api.Syn {
	if p.token().Kind != api.TokUpper {
		return p.argument()
	}
	t := api.Syn{Op: api.PtCtor, Names: p.modulePath()}
	if beginsArgument(p.token()) {
		t.L = []api.Syn{p.argument()}
	}
	return t
}

func beginsArgument(t api.Token) bool {
	switch t.Kind {
	case api.TokLower, api.TokUpper, api.TokInt:
		return true
	}
	switch fixed(t) {
	case "_", "~", "(":
		return true
	}
	return false
}

func (p *parser) argument() api.Syn {
	switch p.token().Kind {
	case api.TokUpper:
		return api.Syn{Op: api.PtCtor, Names: p.modulePath()}
	case api.TokInt:
		return api.Syn{Op: api.PtInt, N: p.number()}
	}
	switch {
	case p.pass("_"):
		return api.Syn{Op: api.PtAny}
	case p.pass("~"):
		return api.Syn{Op: api.PtInt, N: -p.number()}
	case p.pass("("):
		return p.components()
	}
	return api.Syn{Op: api.PtVar, S: p.take(api.TokLower)}
}

// components reads a pattern after its parenthesis.
func (p *parser) components() api.Syn {
	if p.pass(")") {
		return api.Syn{Op: api.PtTuple}
	}
	l := p.separated(",", p.pattern)
	p.need(")")
	return tuple(api.PtTuple, l)
}
