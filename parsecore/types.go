package parsecore

import "pilaster/api"

func (p *parser) typ() api.Syn {
	t := p.product()
	if !p.pass("->") {
		return t
	}
	return api.Syn{Op: api.TyArrow, L: []api.Syn{t, p.typ()}}
}

func (p *parser) product() api.Syn {
	return tuple(api.TyTuple, p.separated("*", p.postfix))
}

// postfix reads types and the paths that are applied to them. Several types have to be followed by a path.
func (p *parser) postfix() api.Syn {
	l := p.simple()
	for len(l) > 1 || beginsTypePath(p.token()) {
		l = []api.Syn{{Op: api.TyPath, Names: p.typePath(), L: l}}
	}
	return l[0]
}

func beginsTypePath(t api.Token) bool {
	return t.Kind == api.TokLower || t.Kind == api.TokUpper
}

// simple reads a simple type, or several types in parentheses.
func (p *parser) simple() []api.Syn {
	switch {
	case p.token().Kind == api.TokVar:
		return []api.Syn{{Op: api.TyVar, S: p.take(api.TokVar)}}
	case p.pass("("):
		l := p.bracketed()
		p.need(")")
		return l
	}
	return []api.Syn{{Op: api.TyPath, Names: p.typePath()}}
}

// bracketed reads what stands in the parentheses of a type.
func (p *parser) bracketed() []api.Syn {
	if p.pass("module") {
		return []api.Syn{{Op: api.TyPack, Names: p.modulePath()}}
	}
	return p.separated(",", p.typ)
}
