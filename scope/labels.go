package scope

import (
	"pilaster/api"
	"pilaster/ident"
)

// label returns the label of a name. Names of well-formed trees and units have the form that their kind asks for, so that there is no error.
func label(kind int, name string) string {
	s, _ := ident.Label(kind, name)
	return s
}

// reference returns the label to which the path of a well-formed tree refers, and whether it has a path that refers to one.
func reference(t api.Syn) (string, bool) {
	kind := referenceKind(t.Op)
	if kind == 0 {
		return "", false
	}
	// The first one of several names is a structure, whatever the last one is.
	if len(t.Names) > 1 {
		kind = api.LabelMod
	}
	return label(kind, t.Names[0]), true
}

// referenceKind returns the kind of the label to which a path of one name refers in a tree of a kind, 0 if there is none. The path of a GWith is none of these: it is looked up in its signature.
func referenceKind(op int) int {
	switch op {
	case api.XVar:
		return api.LabelVal
	case api.TyPath, api.SpShare:
		return api.LabelType
	case api.PtCtor, api.XCtor:
		return api.LabelCtor
	case api.XPack, api.DOpen, api.DInclude, api.MPath:
		return api.LabelMod
	case api.TyPack, api.GPath:
		return api.LabelSig
	}
	return 0
}

// bindings returns what a well-formed pattern, declaration, or specification binds, a label as often as it is bound.
func bindings(t api.Syn) []string {
	switch t.Op {
	case api.PtCtor, api.PtTuple:
		return bindingsOf(t.L)
	case api.PtVar, api.DVal, api.DFun, api.SpVal:
		return []string{label(api.LabelVal, t.S)}
	case api.DType, api.SpType:
		return []string{label(api.LabelType, t.S)}
	case api.DData:
		l := []string{label(api.LabelType, t.S)}
		for _, c := range t.L {
			l = append(l, label(api.LabelCtor, c.S))
		}
		return l
	case api.DStruct, api.DUnpack, api.SpStruct:
		return []string{label(api.LabelMod, t.S)}
	case api.DSig, api.SpSig:
		return []string{label(api.LabelSig, t.S)}
	}
	return nil
}

// bindingsOf returns what several trees bind together.
func bindingsOf(l []api.Syn) []string {
	var labels []string
	for _, t := range l {
		labels = append(labels, bindings(t)...)
	}
	return labels
}

// isBuiltIn reports whether the label s has a meaning in every unit.
func isBuiltIn(s string) bool {
	switch s {
	case "type.int", "type.text", "type.bool", "type.unit",
		"val.not", "val.size", "val.show", "val.same", "val.print", "val.abort",
		"con.True", "con.False":
		return true
	}
	return false
}
