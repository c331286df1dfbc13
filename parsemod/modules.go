package parsemod

import "pilaster/api"

func (p *parser) module() api.Syn {
	switch {
	case p.pass("functor"):
		return p.functor(api.MFun, 1, p.module)
	case p.pass("generative"):
		return p.functor(api.MFun, 0, p.module)
	}
	return p.sealed()
}

func (p *parser) sealed() api.Syn {
	t := p.applied()
	for {
		switch {
		case p.pass(":"):
			t = api.Syn{Op: api.MShow, L: []api.Syn{t, p.plain()}}
		case p.pass(":>"):
			t = api.Syn{Op: api.MSeal, L: []api.Syn{t, p.plain()}}
		default:
			return t
		}
	}
}

func (p *parser) applied() api.Syn {
	t := p.simple()
	for p.pass("(") {
		t = api.Syn{Op: api.MApp, L: []api.Syn{t, p.module()}}
		p.need(")")
	}
	return t
}

func (p *parser) simple() api.Syn {
	switch {
	case p.pass("struct"):
		return api.Syn{Op: api.MStruct, L: p.list(p.declaration, p.until("end"))}
	case p.pass("("):
		t := p.module()
		p.need(")")
		return t
	case p.pass("let"):
		return p.let()
	case p.pass("unpack"):
		t := api.Syn{Op: api.MUnpack, L: []api.Syn{p.atom()}}
		p.need(":")
		t.L = append(t.L, p.signaturePath())
		return t
	}
	return api.Syn{Op: api.MPath, Names: p.modulePath()}
}

// let reads an MLet after its key word.
func (p *parser) let() api.Syn {
	l := p.list(p.declaration, p.until("in"))
	l = append(l, p.module())
	p.need("end")
	return api.Syn{Op: api.MLet, L: l}
}

func (p *parser) declaration() api.Syn {
	switch {
	case p.pass("val"):
		return p.named(api.DVal, api.TokLower, "=", p.expression)
	case p.pass("fun"):
		return p.function()
	case p.pass("type"):
		return p.typeDeclaration()
	case p.pass("data"):
		return p.data()
	case p.pass("structure"):
		return p.named(api.DStruct, api.TokUpper, "=", p.module)
	case p.pass("signature"):
		return p.named(api.DSig, api.TokUpper, "=", p.signature)
	case p.pass("open"):
		return api.Syn{Op: api.DOpen, Names: p.modulePath()}
	}
	p.need("include")
	return api.Syn{Op: api.DInclude, Names: p.modulePath()}
}

// function reads a DFun after its key word.
func (p *parser) function() api.Syn {
	t := api.Syn{Op: api.DFun, S: p.take(api.TokLower)}
	t.Names = []string{p.take(api.TokLower)}
	for p.token().Kind == api.TokLower {
		t.Names = append(t.Names, p.take(api.TokLower))
	}
	p.need("=")
	t.L = []api.Syn{p.expression()}
	return t
}

// typeDeclaration reads a DType after its key word.
func (p *parser) typeDeclaration() api.Syn {
	t := p.parametrized(api.DType)
	p.need("=")
	t.L = []api.Syn{p.typ()}
	return t
}
