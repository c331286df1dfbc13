package term

import (
	"pilaster/api"
	"pilaster/ident"
	"pilaster/kind"
	"pilaster/tycon"
)

// maxCode is the greatest code of a failure.
const maxCode = 1000000

// isWellFormed reports whether each node of t has its form, there are at most as many nodes, with those of constructors, as left says, and at most depth levels. It stops at these limits, so that neither a huge term nor one that contains itself is gone through.
func isWellFormed(t *api.Term, left *int, depth int) bool {
	if depth == 0 || !hasForm(t) {
		return false
	}
	*left -= ownSize(t)
	if *left < 0 {
		return false
	}
	for i := range t.L {
		if !isWellFormed(&t.L[i], left, depth-1) {
			return false
		}
	}
	return true
}

// ownSize returns the number of nodes that a node and its constructors are.
func ownSize(t *api.Term) int {
	n := 1
	for _, c := range consOf(t) {
		n += tycon.Size(*c)
	}
	return n
}

// hasForm reports whether the fields of a node are right, whatever its parts contain. Kinds and constructors come last, as they may be large.
func hasForm(t *api.Term) bool {
	return partsFit(t) && numberFits(t) && textFits(t) && namesFit(t) && kindFits(t) && consFit(t)
}

func partsFit(t *api.Term) bool {
	switch n := len(t.L); t.Op {
	case api.EVar, api.EInt, api.EText, api.EFail:
		return n == 0
	case api.ELam, api.ETLam, api.ETApp, api.EPack, api.EProj, api.EInject, api.ERoll, api.EUnroll, api.EFix:
		return n == 1
	case api.EApp, api.EUnpack, api.ELet:
		return n == 2
	case api.ERecord:
		return n == len(t.Names)
	case api.ECase:
		return n == len(t.Names)+1
	case api.EPrim:
		return n == operands(t.N)
	}
	return false
}

// operands returns to how many terms an operation is applied.
func operands(operation int) int {
	switch operation {
	case api.PNeg, api.PSize, api.PShow, api.PPrint:
		return 1
	}
	return 2
}

func numberFits(t *api.Term) bool {
	switch t.Op {
	case api.EVar:
		return 0 <= t.N && t.N <= api.MaxNodes
	case api.EInt:
		return -api.MaxNumber <= t.N && t.N <= api.MaxNumber
	case api.EPrim:
		return api.PAdd <= t.N && t.N <= api.PPrint
	case api.EFail:
		return 1 <= t.N && t.N <= maxCode
	}
	return t.N == 0
}

func textFits(t *api.Term) bool {
	switch t.Op {
	case api.EText:
		return len(t.S) <= api.MaxText
	case api.EProj, api.EInject:
		return ident.IsLabel(t.S)
	}
	return t.S == ""
}

func namesFit(t *api.Term) bool {
	switch t.Op {
	case api.ERecord:
		return areLabels(t.Names)
	case api.ECase:
		return len(t.Names) > 0 && areLabels(t.Names)
	}
	return len(t.Names) == 0
}

func kindFits(t *api.Term) bool {
	if t.Op == api.ETLam {
		return kind.Valid(t.Kind)
	}
	return len(t.Kind.L) == 0
}

func consFit(t *api.Term) bool {
	return conFits(t.Con, hasCon(t.Op)) && conFits(t.To, t.Op == api.EPack)
}

// conFits reports whether a constructor is well-formed, if it is used, and zero otherwise.
func conFits(c api.Con, used bool) bool {
	if used {
		return tycon.Valid(c)
	}
	return tycon.Equal(c, api.Con{})
}

func hasCon(op int) bool {
	switch op {
	case api.ELam, api.ETApp, api.EPack, api.EInject, api.ERoll, api.EFix, api.EFail:
		return true
	}
	return false
}

// consOf returns the places of the constructors of a node.
func consOf(t *api.Term) []*api.Con {
	switch {
	case t.Op == api.EPack:
		return []*api.Con{&t.Con, &t.To}
	case hasCon(t.Op):
		return []*api.Con{&t.Con}
	}
	return nil
}

func areLabels(l []string) bool {
	return len(l) <= api.MaxList && all(l, ident.IsLabel) && ident.Ascending(l)
}

func all[T any](l []T, ok func(T) bool) bool {
	for _, x := range l {
		if !ok(x) {
			return false
		}
	}
	return true
}
