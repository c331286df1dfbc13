package parsemod

import (
	"pilaster/api"
	"pilaster/parsecore"
)

// contents is what a part of a text consists of.
type contents struct {
	signs  []string // the key words and the symbols
	names  []string // the names that stand by themselves
	params [][]string
	paths  [][]string
	trees  []api.Syn
}

func contentsOf(p piece) contents {
	var c contents
	for _, x := range p.parts {
		switch x.rule {
		case "":
			c.add(x.token)
		case "params":
			c.params = append(c.params, contentsOf(x).names)
		case "MPATH", "TPATH":
			c.paths = append(c.paths, contentsOf(x).names)
		case "type", "expression", "atom":
			c.trees = append(c.trees, coreTree(x))
		default:
			c.trees = append(c.trees, treeOf(x))
		}
	}
	return c
}

func (c *contents) add(t api.Token) {
	switch t.Kind {
	case api.TokLower, api.TokUpper, api.TokVar:
		c.names = append(c.names, t.Text)
	default:
		c.signs = append(c.signs, t.Text)
	}
}

// sign returns the first key word, or symbol.
func (c contents) sign() string {
	if len(c.signs) == 0 {
		return ""
	}
	return c.signs[0]
}

// coreTree returns the tree that layer 4 says; none if it is not well-formed.
func coreTree(p piece) api.Syn {
	l := append(flat(p, none), api.Token{Kind: api.TokEnd})
	f := parsecore.ExprAt
	switch p.rule {
	case "type":
		f = parsecore.TypeAt
	case "atom":
		f = parsecore.AtomAt
	}
	t, _, e := f(l, 0)
	if e != api.OK && e != api.ErrFull {
		panic(e)
	}
	return t
}

// treeOf returns the tree of a part of a text, as the chapter says it for each rule.
func treeOf(p piece) api.Syn {
	c := contentsOf(p)
	switch p.rule {
	case "signature":
		return c.binder(api.GFun)
	case "module":
		return c.binder(api.MFun)
	case "refined":
		t := c.trees[0]
		for i, meaning := range c.trees[1:] {
			t = api.Syn{Op: api.GWith, Names: c.paths[i], L: []api.Syn{t, {Op: api.DType, Names: c.params[i], L: []api.Syn{meaning}}}}
		}
		return t
	case "plain":
		return c.plain()
	case "spec", "decl":
		return c.item(p.rule == "spec")
	case "data":
		return api.Syn{Op: api.DData, S: c.names[0], Names: c.params[0], L: c.trees}
	case "constructor":
		return api.Syn{Op: api.DCtor, S: c.names[0], L: c.trees}
	case "sealed":
		t := c.trees[0]
		for i, x := range c.trees[1:] {
			t = api.Syn{Op: map[string]int{":": api.MShow, ":>": api.MSeal}[c.signs[i]], L: []api.Syn{t, x}}
		}
		return t
	case "applied":
		t := c.trees[0]
		for _, x := range c.trees[1:] {
			t = api.Syn{Op: api.MApp, L: []api.Syn{t, x}}
		}
		return t
	case "simple":
		return c.simple()
	}
	panic(p.rule)
}

func (c contents) binder(op int) api.Syn {
	switch c.sign() {
	case "functor":
		return api.Syn{Op: op, N: 1, S: c.names[0], L: c.trees}
	case "generative":
		return api.Syn{Op: op, S: c.names[0], L: c.trees}
	}
	return c.trees[0]
}

func (c contents) plain() api.Syn {
	switch c.sign() {
	case "sig":
		return api.Syn{Op: api.GSig, L: c.trees}
	case "(":
		return c.trees[0]
	}
	return api.Syn{Op: api.GPath, Names: c.paths[0]}
}

func (c contents) simple() api.Syn {
	switch c.sign() {
	case "struct":
		return api.Syn{Op: api.MStruct, L: c.trees}
	case "(":
		return c.trees[0]
	case "let":
		return api.Syn{Op: api.MLet, L: c.trees}
	case "unpack":
		return api.Syn{Op: api.MUnpack, L: append(c.trees, api.Syn{Op: api.GPath, Names: c.paths[0]})}
	}
	return api.Syn{Op: api.MPath, Names: c.paths[0]}
}

// item returns the tree of a specification, or a declaration.
func (c contents) item(isSpec bool) api.Syn {
	ops := map[string]int{"val": api.DVal, "structure": api.DStruct, "signature": api.DSig}
	if isSpec {
		ops = map[string]int{"val": api.SpVal, "structure": api.SpStruct, "signature": api.SpSig}
	}
	switch sign := c.sign(); sign {
	case "val", "structure", "signature":
		return api.Syn{Op: ops[sign], S: c.names[0], L: c.trees}
	case "fun":
		return api.Syn{Op: api.DFun, S: c.names[0], Names: c.names[1:], L: c.trees}
	case "type":
		op := api.DType
		if len(c.trees) == 0 {
			op = api.SpType
		}
		return api.Syn{Op: op, S: c.names[0], Names: c.params[0], L: c.trees}
	case "open":
		return api.Syn{Op: api.DOpen, Names: c.paths[0]}
	case "include":
		if isSpec {
			return api.Syn{Op: api.SpInclude, L: c.trees}
		}
		return api.Syn{Op: api.DInclude, Names: c.paths[0]}
	case "sharing":
		return api.Syn{Op: api.SpShare, Names: c.paths[0], L: []api.Syn{{Op: api.TyPath, Names: c.paths[1]}}}
	}
	return c.trees[0]
}
