package printer

import (
	"pilaster/api"
	"pilaster/lexer"
)

func (w *writer) typ(t api.Syn) {
	switch t.Op {
	case api.TyVar:
		w.put(t.S)
	case api.TyPath:
		w.typePath(t)
	case api.TyArrow:
		w.infix(t, levelProduct, "->", levelAny)
	case api.TyTuple:
		w.separated(t.L, "*", levelPostfix)
	case api.TyPack:
		w.put("(", "module", path(t), ")")
	}
}

// typePath writes a TyPath, after the types to which it is applied.
func (w *writer) typePath(t api.Syn) {
	switch len(t.L) {
	case 0:
	case 1:
		w.tree(t.L[0], levelPostfix)
	default:
		w.tuple(t.L)
	}
	w.put(path(t))
}

func (w *writer) pattern(t api.Syn) {
	switch t.Op {
	case api.PtAny:
		w.put("_")
	case api.PtVar:
		w.put(t.S)
	case api.PtInt:
		w.number(t.N)
	case api.PtCtor:
		w.put(path(t))
		if len(t.L) > 0 {
			w.tree(t.L[0], levelArgument)
		}
	case api.PtTuple:
		w.tuple(t.L)
	}
}

func (w *writer) expression(t api.Syn) {
	switch t.Op {
	case api.XInt:
		w.number(t.N)
	case api.XText:
		// The text of a well-formed tree has a literal, so that there is no error.
		literal, _ := lexer.Quote(t.S)
		w.put(literal)
	case api.XVar, api.XCtor:
		w.put(path(t))
	case api.XFn:
		w.function(t)
	case api.XApp:
		w.tree(t.L[0], levelApplication)
		w.tree(t.L[1], levelAtom)
	case api.XTuple:
		w.tuple(t.L)
	case api.XIf:
		w.choice(t)
	case api.XCase:
		w.match(t)
	case api.XLet:
		w.let(t)
	case api.XOp:
		w.operation(t)
	case api.XAnnot:
		w.put("(")
		w.infix(t, levelAny, ":", levelAny)
		w.put(")")
	case api.XPack:
		w.put("(", "pack", path(t), ":")
		w.tree(t.L[0], levelPlain)
		w.put(")")
	}
}

// function writes an XFn.
func (w *writer) function(t api.Syn) {
	name := t.S
	if name == "" {
		name = "_"
	}
	w.put("fn", name, "=>")
	w.tree(t.L[0], levelAny)
}

// choice writes an XIf.
func (w *writer) choice(t api.Syn) {
	w.put("if")
	w.tree(t.L[0], levelAny)
	w.put("then")
	w.tree(t.L[1], levelAny)
	w.put("else")
	w.tree(t.L[2], levelAny)
}

// match writes an XCase.
func (w *writer) match(t api.Syn) {
	w.put("case")
	w.tree(t.L[0], levelAny)
	w.put("of")
	w.separated(t.L[1:], "|", levelAny)
	w.put("end")
}

// let writes an XLet, or an MLet.
func (w *writer) let(t api.Syn) {
	last := len(t.L) - 1
	w.put("let")
	w.sequence(t.L[:last])
	w.put("in")
	w.tree(t.L[last], levelAny)
	w.put("end")
}

// operation writes an XOp. On the side to which the operator associates, one of its own level needs no parentheses.
func (w *writer) operation(t api.Syn) {
	word, level := operator(t.N)
	switch level {
	case levelNegation:
		w.put(word)
		w.tree(t.L[0], level)
	case levelSum, levelTerm:
		w.infix(t, level, word, level+1)
	case levelCompare:
		w.infix(t, level+1, word, level+1)
	default:
		w.infix(t, level+1, word, level)
	}
}
