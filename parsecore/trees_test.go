package parsecore

import (
	"strconv"

	"pilaster/api"
)

// contents is what a part of a text consists of.
type contents struct {
	tokens []api.Token
	paths  [][]string
	trees  []api.Syn
}

func contentsOf(p piece) contents {
	var c contents
	for _, x := range p.parts {
		switch x.rule {
		case "":
			c.tokens = append(c.tokens, x.token)
		case "MPATH", "TPATH", "VPATH":
			c.paths = append(c.paths, texts(contentsOf(x).tokens, api.TokLower, api.TokUpper))
		default:
			c.trees = append(c.trees, tree(x))
		}
	}
	return c
}

// texts returns the texts of the tokens of some kinds.
func texts(l []api.Token, kinds ...int) []string {
	var s []string
	for _, t := range l {
		for _, kind := range kinds {
			if t.Kind == kind {
				s = append(s, t.Text)
			}
		}
	}
	return s
}

// sign returns the text of the i-th token if it is a key word or a symbol.
func (c contents) sign(i int) string {
	if i < len(c.tokens) && (c.tokens[i].Kind == api.TokWord || c.tokens[i].Kind == api.TokSymbol) {
		return c.tokens[i].Text
	}
	return ""
}

// only returns the only tree, or the tuple of all of them.
func (c contents) only(op int) api.Syn {
	if len(c.trees) == 1 {
		return c.trees[0]
	}
	return api.Syn{Op: op, L: c.trees}
}

// tree returns the tree of a part of a text, as the chapter says it for each rule.
func tree(p piece) api.Syn {
	c := contentsOf(p)
	switch p.rule {
	case "type":
		return c.only(api.TyArrow)
	case "product":
		return c.only(api.TyTuple)
	case "postfix":
		for _, path := range c.paths {
			c.trees = []api.Syn{{Op: api.TyPath, Names: path, L: c.trees}}
		}
		return c.trees[0]
	case "simple":
		return simpleTree(c)
	case "pattern", "argument":
		return patternTree(c)
	case "expression":
		return expressionTree(c)
	case "negation":
		if c.sign(0) == "~" {
			return api.Syn{Op: api.XOp, N: api.OpNeg, L: c.trees}
		}
		return c.trees[0]
	case "application":
		t := c.trees[0]
		for _, x := range c.trees[1:] {
			t = api.Syn{Op: api.XApp, L: []api.Syn{t, x}}
		}
		return t
	case "atom":
		return atomTree(c)
	case "rule":
		return api.Syn{Op: api.XRule, L: c.trees}
	case "declaration":
		return declarationTree(c)
	}
	// Only in sums and terms, there may be several operators, which join from the left.
	t := c.trees[0]
	for i, x := range c.trees[1:] {
		t = api.Syn{Op: api.XOp, N: operators()[c.sign(i)], L: []api.Syn{t, x}}
	}
	return t
}

func operators() map[string]int {
	return map[string]int{"orelse": api.OpOr, "andalso": api.OpAnd, "=": api.OpEqual, "<": api.OpLess, "<=": api.OpAtMost, "^": api.OpConcat,
		"+": api.OpAdd, "-": api.OpSub, "*": api.OpMul, "div": api.OpDiv, "mod": api.OpMod}
}

func simpleTree(c contents) api.Syn {
	switch {
	case c.sign(1) == "module":
		return api.Syn{Op: api.TyPack, Names: c.paths[0]}
	case len(c.paths) == 1:
		return api.Syn{Op: api.TyPath, Names: c.paths[0]}
	case len(c.trees) == 1:
		return c.trees[0]
	}
	return api.Syn{Op: api.TyVar, S: c.tokens[0].Text}
}

func patternTree(c contents) api.Syn {
	if len(c.paths) == 1 {
		return api.Syn{Op: api.PtCtor, Names: c.paths[0], L: c.trees}
	}
	if len(c.tokens) == 0 || c.sign(0) == "(" {
		return c.only(api.PtTuple)
	}
	switch c.tokens[0].Kind {
	case api.TokLower:
		return api.Syn{Op: api.PtVar, S: c.tokens[0].Text}
	case api.TokInt:
		return api.Syn{Op: api.PtInt, N: amount(c.tokens[0])}
	}
	if c.sign(0) == "~" {
		return api.Syn{Op: api.PtInt, N: -amount(c.tokens[1])}
	}
	return api.Syn{Op: api.PtAny}
}

func amount(t api.Token) int {
	n, err := strconv.ParseInt(t.Text, 10, 64)
	if err != nil {
		panic(err)
	}
	return int(n)
}

func expressionTree(c contents) api.Syn {
	switch c.sign(0) {
	case "if":
		return api.Syn{Op: api.XIf, L: c.trees}
	case "fn":
		t := api.Syn{Op: api.XFn, L: c.trees}
		if c.sign(1) != "_" {
			t.S = c.tokens[1].Text
		}
		return t
	}
	return c.trees[0]
}

func atomTree(c contents) api.Syn {
	switch c.sign(0) {
	case "let":
		return api.Syn{Op: api.XLet, L: c.trees}
	case "case":
		return api.Syn{Op: api.XCase, L: c.trees}
	case "(":
		switch {
		case c.sign(1) == "pack":
			return api.Syn{Op: api.XPack, Names: c.paths[0], L: []api.Syn{{Op: api.GPath, Names: c.paths[1]}}}
		case c.sign(1) == ":":
			return api.Syn{Op: api.XAnnot, L: c.trees}
		}
		return c.only(api.XTuple)
	}
	if len(c.paths) == 0 {
		if c.tokens[0].Kind == api.TokInt {
			return api.Syn{Op: api.XInt, N: amount(c.tokens[0])}
		}
		return api.Syn{Op: api.XText, S: c.tokens[0].Text}
	}
	path := c.paths[0]
	if last := path[len(path)-1]; last[0] <= 'Z' {
		return api.Syn{Op: api.XCtor, Names: path}
	}
	return api.Syn{Op: api.XVar, Names: path}
}

func declarationTree(c contents) api.Syn {
	switch c.sign(0) {
	case "val":
		return api.Syn{Op: api.DVal, S: c.tokens[1].Text, L: c.trees}
	case "fun":
		names := texts(c.tokens, api.TokLower)
		return api.Syn{Op: api.DFun, S: names[0], Names: names[1:], L: c.trees}
	}
	return api.Syn{Op: api.DUnpack, S: c.tokens[1].Text, L: append(c.trees, api.Syn{Op: api.GPath, Names: c.paths[0]})}
}
