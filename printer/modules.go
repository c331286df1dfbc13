package printer

import "pilaster/api"

func (w *writer) declaration(t api.Syn) {
	switch t.Op {
	case api.DVal:
		w.named(t, "val", "=")
	case api.DFun:
		w.put("fun", t.S)
		w.put(t.Names...)
		w.put("=")
		w.tree(t.L[0], levelAny)
	case api.DType:
		w.parametrized(t, "type")
		w.put("=")
		w.tree(t.L[0], levelAny)
	case api.DData:
		w.parametrized(t, "data")
		w.put("=")
		w.separated(t.L, "|", levelAny)
	case api.DStruct:
		w.named(t, "structure", "=")
	case api.DSig:
		w.named(t, "signature", "=")
	case api.DOpen:
		w.put("open", path(t))
	case api.DInclude:
		w.put("include", path(t))
	case api.DUnpack:
		w.put("structure", t.S, "=")
		w.unpack(t)
	}
}

// named writes a key word, the name of a tree, a token, and its part.
func (w *writer) named(t api.Syn, word, token string) {
	w.put(word, t.S, token)
	w.tree(t.L[0], levelAny)
}

// parametrized writes a key word, and the name of a tree after its parameters.
func (w *writer) parametrized(t api.Syn, word string) {
	w.put(word)
	w.parameters(t.Names)
	w.put(t.S)
}

// unpack writes what a DUnpack, or an MUnpack, opens.
func (w *writer) unpack(t api.Syn) {
	w.put("unpack")
	w.infix(t, levelAtom, ":", levelPlain)
}

func (w *writer) specification(t api.Syn) {
	switch t.Op {
	case api.SpVal:
		w.named(t, "val", ":")
	case api.SpType:
		w.parametrized(t, "type")
	case api.SpStruct:
		w.named(t, "structure", ":")
	case api.SpSig:
		w.named(t, "signature", "=")
	case api.SpInclude:
		w.put("include")
		w.tree(t.L[0], levelAny)
	case api.SpShare:
		w.put("sharing", "type", path(t), "=")
		w.tree(t.L[0], levelAny)
	}
}

func (w *writer) signature(t api.Syn) {
	switch t.Op {
	case api.GSig:
		w.put("sig")
		w.sequence(t.L)
		w.put("end")
	case api.GPath:
		w.put(path(t))
	case api.GFun:
		w.functor(t)
	case api.GWith:
		w.refined(t)
	}
}

// functor writes a GFun, or an MFun.
func (w *writer) functor(t api.Syn) {
	word := "generative"
	if t.N == 1 {
		word = "functor"
	}
	w.put(word, "(", t.S, ":")
	w.tree(t.L[0], levelAny)
	w.put(")", "=>")
	w.tree(t.L[1], levelAny)
}

// refined writes a GWith. Its second part has no name, so that it is no declaration by itself.
func (w *writer) refined(t api.Syn) {
	meaning := t.L[1]
	w.tree(t.L[0], levelRefined)
	w.put("with", "type")
	w.parameters(meaning.Names)
	w.put(path(t), "=")
	w.tree(meaning.L[0], levelAny)
}

func (w *writer) module(t api.Syn) {
	switch t.Op {
	case api.MStruct:
		w.put("struct")
		w.sequence(t.L)
		w.put("end")
	case api.MPath:
		w.put(path(t))
	case api.MFun:
		w.functor(t)
	case api.MApp:
		w.tree(t.L[0], levelApplied)
		w.put("(")
		w.tree(t.L[1], levelAny)
		w.put(")")
	case api.MSeal:
		w.infix(t, levelSealed, ":>", levelPlain)
	case api.MShow:
		w.infix(t, levelSealed, ":", levelPlain)
	case api.MLet:
		w.let(t)
	case api.MUnpack:
		w.unpack(t)
	}
}
