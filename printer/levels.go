package printer

import "pilaster/api"

// levelAny is the level of what binds most loosely, and of what never stands in parentheses. The other levels are named after the rules of the grammar (layers 4 and 5).
const levelAny = 0

// The levels of types.
const (
	levelProduct = 1 + iota
	levelPostfix
	levelSimpleType
)

// levelArgument is the level of the patterns that a constructor can be followed by.
const levelArgument = 1

// The levels of expressions.
const (
	levelOr = 1 + iota
	levelAnd
	levelCompare
	levelJoin
	levelSum
	levelTerm
	levelNegation
	levelApplication
	levelAtom
)

// The levels of signatures.
const (
	levelRefined = 1 + iota
	levelPlain
)

// The levels of modules.
const (
	levelSealed = 1 + iota
	levelApplied
	levelSimpleModule
)

// Level returns the level of a tree, whatever its parts are.
func Level(t api.Syn) int {
	switch t.Op {
	case api.TyTuple:
		return levelProduct
	case api.TyPath:
		return either(t, levelPostfix, levelSimpleType)
	case api.TyVar, api.TyPack:
		return levelSimpleType
	case api.PtCtor:
		return either(t, levelAny, levelArgument)
	case api.PtAny, api.PtVar, api.PtInt, api.PtTuple:
		return levelArgument
	case api.XOp:
		_, level := operator(t.N)
		return level
	case api.XApp:
		return levelApplication
	case api.XInt, api.XText, api.XVar, api.XCtor, api.XTuple, api.XCase, api.XLet, api.XAnnot, api.XPack:
		return levelAtom
	case api.GWith:
		return levelRefined
	case api.GSig, api.GPath:
		return levelPlain
	case api.MSeal, api.MShow:
		return levelSealed
	case api.MApp:
		return levelApplied
	case api.MStruct, api.MPath, api.MLet, api.MUnpack:
		return levelSimpleModule
	}
	return levelAny
}

// either returns the level of a tree of a kind that has one with parts, and one without them.
func either(t api.Syn, with, without int) int {
	if len(t.L) > 0 {
		return with
	}
	return without
}

// operator returns the word and the level of an operator; no word, and level 0, if n is none.
func operator(n int) (word string, level int) {
	switch n {
	case api.OpOr:
		return "orelse", levelOr
	case api.OpAnd:
		return "andalso", levelAnd
	case api.OpEqual:
		return "=", levelCompare
	case api.OpLess:
		return "<", levelCompare
	case api.OpAtMost:
		return "<=", levelCompare
	case api.OpConcat:
		return "^", levelJoin
	case api.OpAdd:
		return "+", levelSum
	case api.OpSub:
		return "-", levelSum
	case api.OpMul:
		return "*", levelTerm
	case api.OpDiv:
		return "div", levelTerm
	case api.OpMod:
		return "mod", levelTerm
	case api.OpNeg:
		return "~", levelNegation
	}
	return "", levelAny
}
