package value

import (
	"slices"

	"pilaster/api"
	"pilaster/ident"
)

// isWellFormed reports whether each node of v has its form, and there are at most as many as left says, and at most depth levels. It stops at these limits, so that neither a huge value nor one that contains itself is gone through.
func isWellFormed(v *api.Value, left *int, depth int) bool {
	if *left == 0 || depth == 0 || !hasForm(v) {
		return false
	}
	*left--
	for i := range v.L {
		if !isWellFormed(&v.L[i], left, depth-1) {
			return false
		}
	}
	return true
}

// hasForm reports whether the fields of a node are right, whatever its parts contain.
func hasForm(v *api.Value) bool {
	return partsFit(v) && numberFits(v) && textFits(v) && namesFit(v)
}

func partsFit(v *api.Value) bool {
	switch n := len(v.L); v.Op {
	case api.VInt, api.VText, api.VFun:
		return n == 0
	case api.VInject, api.VRoll, api.VPack:
		return n == 1
	case api.VRecord:
		return n == len(v.Names) || isBlock(v) && n <= api.MaxList
	}
	return false
}

func numberFits(v *api.Value) bool {
	switch {
	case v.Op == api.VInt:
		return -api.MaxNumber <= v.N && v.N <= api.MaxNumber
	case isTagged(v):
		return 0 <= v.N && v.N <= api.MaxList
	}
	return v.N == 0
}

func textFits(v *api.Value) bool {
	switch {
	case v.Op == api.VText:
		return len(v.S) <= api.MaxText
	case v.Op == api.VInject && !isTagged(v):
		return ident.IsLabel(v.S)
	}
	return v.S == ""
}

func namesFit(v *api.Value) bool {
	if v.Op == api.VRecord {
		return areLabels(v.Names)
	}
	return len(v.Names) == 0
}

// isBlock reports whether a node is a record of values without names: the record without fields is none.
func isBlock(v *api.Value) bool { return v.Op == api.VRecord && len(v.Names) == 0 && len(v.L) > 0 }

// isTagged reports whether a node has a number for its label.
func isTagged(v *api.Value) bool { return v.Op == api.VInject && v.S == "" }

// isData reports whether a valid value is data.
func isData(v api.Value) bool {
	switch {
	case v.Op == api.VPack, v.Op == api.VFun, isBlock(&v), isTagged(&v):
		return false
	}
	return !slices.ContainsFunc(v.L, func(part api.Value) bool { return !isData(part) })
}

func areLabels(l []string) bool {
	return len(l) <= api.MaxList && !slices.ContainsFunc(l, isNoLabel) && ident.Ascending(l)
}

func isNoLabel(s string) bool { return !ident.IsLabel(s) }
