package parsemod

import "pilaster/api"

func (p *parser) signature() api.Syn {
	switch {
	case p.pass("functor"):
		return p.functor(api.GFun, 1, p.signature)
	case p.pass("generative"):
		return p.functor(api.GFun, 0, p.signature)
	}
	return p.refined()
}

// functor reads a functor, or the signature of functors, after its key word; n is 1 if it is applicative.
func (p *parser) functor(op, n int, body func() api.Syn) api.Syn {
	p.need("(")
	t := api.Syn{Op: op, N: n, S: p.take(api.TokUpper)}
	p.need(":")
	t.L = []api.Syn{p.signature()}
	p.need(")")
	p.need("=>")
	t.L = append(t.L, body())
	return t
}

func (p *parser) refined() api.Syn {
	t := p.plain()
	for p.pass("with") {
		p.need("type")
		meaning := api.Syn{Op: api.DType, Names: p.parameters()}
		path := p.typePath()
		p.need("=")
		meaning.L = []api.Syn{p.typ()}
		t = api.Syn{Op: api.GWith, Names: path, L: []api.Syn{t, meaning}}
	}
	return t
}

func (p *parser) plain() api.Syn {
	switch {
	case p.pass("sig"):
		return api.Syn{Op: api.GSig, L: p.list(p.specification, p.until("end"))}
	case p.pass("("):
		t := p.signature()
		p.need(")")
		return t
	}
	return p.signaturePath()
}

func (p *parser) signaturePath() api.Syn {
	return api.Syn{Op: api.GPath, Names: p.modulePath()}
}

func (p *parser) specification() api.Syn {
	switch {
	case p.pass("val"):
		return p.named(api.SpVal, api.TokLower, ":", p.typ)
	case p.pass("type"):
		return p.typeSpecification()
	case p.pass("data"):
		return p.data()
	case p.pass("structure"):
		return p.named(api.SpStruct, api.TokUpper, ":", p.signature)
	case p.pass("signature"):
		return p.named(api.SpSig, api.TokUpper, "=", p.signature)
	case p.pass("include"):
		return api.Syn{Op: api.SpInclude, L: []api.Syn{p.signature()}}
	}
	p.need("sharing")
	return p.sharing()
}

// named reads a name of a kind, a symbol, and a tree, which are a tree with this name.
func (p *parser) named(op, kind int, symbol string, read func() api.Syn) api.Syn {
	t := api.Syn{Op: op, S: p.take(kind)}
	p.need(symbol)
	t.L = []api.Syn{read()}
	return t
}

// parametrized reads the parameters and the name with which a tree begins.
func (p *parser) parametrized(op int) api.Syn {
	t := api.Syn{Op: op, Names: p.parameters()}
	t.S = p.take(api.TokLower)
	return t
}

// typeSpecification reads a SpType, or a DType, after its key word.
func (p *parser) typeSpecification() api.Syn {
	t := p.parametrized(api.SpType)
	if p.pass("=") {
		t.Op = api.DType
		t.L = []api.Syn{p.typ()}
	}
	return t
}

// sharing reads a SpShare after its first key word.
func (p *parser) sharing() api.Syn {
	p.need("type")
	t := api.Syn{Op: api.SpShare, Names: p.typePath()}
	p.need("=")
	t.L = []api.Syn{{Op: api.TyPath, Names: p.typePath()}}
	return t
}

// data reads a DData after its key word.
func (p *parser) data() api.Syn {
	t := p.parametrized(api.DData)
	p.need("=")
	t.L = []api.Syn{p.constructor()}
	for p.pass("|") {
		t.L = append(t.L, p.constructor())
	}
	return t
}

func (p *parser) constructor() api.Syn {
	t := api.Syn{Op: api.DCtor, S: p.take(api.TokUpper)}
	if p.pass("of") {
		t.L = []api.Syn{p.typ()}
	}
	return t
}
