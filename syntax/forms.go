package syntax

import (
	"slices"

	"pilaster/api"
	"pilaster/ident"
)

// hasForm reports whether a node has a form, whatever its parts contain; around is the kind of the node of which it is a part.
func hasForm(t api.Syn, around int) bool {
	return numberFits(t) && textFits(t, around) && namesFit(t) && (corePartsFit(t) || modulePartsFit(t))
}

func numberFits(t api.Syn) bool {
	switch n := t.N; t.Op {
	case api.PtInt:
		return -api.MaxNumber <= n && n <= api.MaxNumber
	case api.XInt:
		return 0 <= n && n <= api.MaxNumber
	case api.XOp:
		return api.OpOr <= n && n <= api.OpNeg
	case api.GFun, api.MFun:
		return n == 0 || n == 1
	}
	return t.N == 0
}

func textFits(t api.Syn, around int) bool {
	switch s := t.S; t.Op {
	case api.TyVar:
		return ident.IsVar(s)
	case api.PtVar, api.DVal, api.DFun, api.DData, api.SpVal, api.SpType:
		return ident.IsLower(s)
	case api.DCtor, api.DStruct, api.DSig, api.DUnpack, api.SpStruct, api.SpSig, api.GFun, api.MFun:
		return ident.IsUpper(s)
	case api.XFn:
		return s == "" || ident.IsLower(s)
	case api.XText:
		return isText(s)
	case api.DType:
		// The path of a refinement already says which type is meant.
		if around == api.GWith {
			return s == ""
		}
		return ident.IsLower(s)
	}
	return t.S == ""
}

func namesFit(t api.Syn) bool {
	if hasPath(t.Op) {
		return isPath(t.Names, pathEnd(t.Op))
	}
	switch l := t.Names; t.Op {
	case api.DFun:
		return 1 <= len(l) && len(l) <= api.MaxTuple && all(l, ident.IsLower)
	case api.DType, api.DData, api.SpType:
		return len(l) <= api.MaxParams && all(l, ident.IsVar) && differ(l)
	}
	return len(t.Names) == 0
}

// hasPath reports whether the Names of nodes of a kind are a path.
func hasPath(op int) bool {
	switch op {
	case api.TyPath, api.TyPack, api.PtCtor, api.XVar, api.XCtor, api.XPack, api.DOpen, api.DInclude,
		api.SpShare, api.GPath, api.GWith, api.MPath:
		return true
	}
	return false
}

// pathEnd returns what the last name of a path of a kind has to be.
func pathEnd(op int) func(string) bool {
	switch op {
	case api.TyPath, api.XVar, api.SpShare, api.GWith:
		return ident.IsLower
	}
	return ident.IsUpper
}

func isPath(l []string, end func(string) bool) bool {
	last := len(l) - 1
	return 0 <= last && last < api.MaxPath && all(l[:last], ident.IsUpper) && end(l[last])
}

// isText reports whether s is the text of an XText. Its length is tested first, so that no long text is gone through.
func isText(s string) bool {
	if len(s) > api.MaxText {
		return false
	}
	for i := range len(s) {
		if b := s[i]; b != '\n' && (b < 32 || b > 126) {
			return false
		}
	}
	return true
}

// corePartsFit reports whether t is a type, a pattern, an expression, or a rule, and the kinds of its parts are right.
func corePartsFit(t api.Syn) bool {
	switch l := t.L; t.Op {
	case api.TyVar, api.TyPack, api.PtAny, api.PtVar, api.PtInt, api.XInt, api.XText, api.XVar, api.XCtor:
		return areParts(l)
	case api.TyPath:
		return len(l) <= api.MaxParams && allOf(l, api.CatType)
	case api.TyArrow:
		return areParts(l, api.CatType, api.CatType)
	case api.TyTuple:
		return isTuple(l, api.CatType)
	case api.PtCtor:
		return areParts(l) || areParts(l, api.CatPat)
	case api.PtTuple:
		return areParts(l) || isTuple(l, api.CatPat)
	case api.XFn:
		return areParts(l, api.CatExpr)
	case api.XApp:
		return areParts(l, api.CatExpr, api.CatExpr)
	case api.XTuple:
		return areParts(l) || isTuple(l, api.CatExpr)
	case api.XIf:
		return areParts(l, api.CatExpr, api.CatExpr, api.CatExpr)
	case api.XCase:
		return len(l) > 1 && areParts(l[:1], api.CatExpr) && areKinds(l[1:], api.XRule)
	case api.XRule:
		return areParts(l, api.CatPat, api.CatExpr)
	case api.XLet:
		last := len(l) - 1
		return last >= 0 && areKinds(l[:last], api.DVal, api.DFun, api.DUnpack) && areParts(l[last:], api.CatExpr)
	case api.XOp:
		if t.N == api.OpNeg {
			return areParts(l, api.CatExpr)
		}
		return areParts(l, api.CatExpr, api.CatExpr)
	case api.XAnnot:
		return areParts(l, api.CatExpr, api.CatType)
	case api.XPack:
		return areParts(l, api.CatSig) && l[0].Op == api.GPath
	}
	return false
}

// modulePartsFit reports whether t is a declaration, a specification, a constructor, a signature, or a module, and the kinds of its parts are right.
func modulePartsFit(t api.Syn) bool {
	switch l := t.L; t.Op {
	case api.DOpen, api.DInclude, api.SpType, api.GPath, api.MPath:
		return areParts(l)
	case api.DVal, api.DFun:
		return areParts(l, api.CatExpr)
	case api.DType, api.SpVal:
		return areParts(l, api.CatType)
	case api.DData:
		return len(l) > 0 && areKinds(l, api.DCtor) && differ(names(l))
	case api.DCtor:
		return areParts(l) || areParts(l, api.CatType)
	case api.DStruct:
		return areParts(l, api.CatMod)
	case api.DSig, api.SpStruct, api.SpSig, api.SpInclude:
		return areParts(l, api.CatSig)
	case api.DUnpack, api.MUnpack:
		return areParts(l, api.CatExpr, api.CatSig) && l[1].Op == api.GPath
	case api.SpShare:
		return areParts(l, api.CatType) && l[0].Op == api.TyPath && len(l[0].L) == 0
	case api.GSig:
		return allOf(l, api.CatSpec)
	case api.GFun:
		return areParts(l, api.CatSig, api.CatSig)
	case api.GWith:
		return areParts(l, api.CatSig, api.CatDecl) && l[1].Op == api.DType
	case api.MStruct:
		return allOf(l, api.CatDecl)
	case api.MFun:
		return areParts(l, api.CatSig, api.CatMod)
	case api.MApp:
		return areParts(l, api.CatMod, api.CatMod)
	case api.MSeal, api.MShow:
		return areParts(l, api.CatMod, api.CatSig)
	case api.MLet:
		last := len(l) - 1
		return last >= 0 && allOf(l[:last], api.CatDecl) && areParts(l[last:], api.CatMod)
	}
	return false
}

// areParts reports whether l has one tree of each category, in order.
func areParts(l []api.Syn, cats ...int) bool {
	if len(l) != len(cats) {
		return false
	}
	for i, cat := range cats {
		if !belongs(l[i].Op, cat) {
			return false
		}
	}
	return true
}

// areKinds reports whether each tree of l is of one of the kinds.
func areKinds(l []api.Syn, ops ...int) bool {
	return all(l, func(t api.Syn) bool { return slices.Contains(ops, t.Op) })
}

func allOf(l []api.Syn, cat int) bool {
	return all(l, func(t api.Syn) bool { return belongs(t.Op, cat) })
}

func isTuple(l []api.Syn, cat int) bool {
	return 2 <= len(l) && len(l) <= api.MaxTuple && allOf(l, cat)
}

func names(l []api.Syn) []string {
	var s []string
	for _, t := range l {
		s = append(s, t.S)
	}
	return s
}

func all[T any](l []T, ok func(T) bool) bool {
	for _, x := range l {
		if !ok(x) {
			return false
		}
	}
	return true
}

// differ reports whether no two strings of l are equal. A data type may have thousands of constructors, so they are not compared with each other.
func differ(l []string) bool {
	seen := make(map[string]bool, len(l))
	for _, s := range l {
		if seen[s] {
			return false
		}
		seen[s] = true
	}
	return true
}
