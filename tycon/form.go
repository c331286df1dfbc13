package tycon

import (
	"strings"

	"pilaster/api"
	"pilaster/ident"
	"pilaster/kind"
)

// isWellFormed reports whether each node of c has its form, and there are at most as many as left says, and at most depth levels. It stops at these limits, so that neither a huge constructor nor one that contains itself is gone through.
func isWellFormed(c *api.Con, left *int, depth int) bool {
	if *left == 0 || depth == 0 || !hasForm(c) {
		return false
	}
	*left--
	for i := range c.L {
		if !isWellFormed(&c.L[i], left, depth-1) {
			return false
		}
	}
	return true
}

// hasForm reports whether the fields of a node are right, whatever its parts contain. The kind comes last, as it may be large.
func hasForm(c *api.Con) bool {
	return partsFit(c) && numberFits(c) && textFits(c) && namesFit(c) && kindFits(c)
}

func partsFit(c *api.Con) bool {
	switch n := len(c.L); c.Op {
	case api.CVar, api.CConst, api.CMeta, api.CInt, api.CText:
		return n == 0
	case api.CAll, api.CSome, api.CLam, api.CMu:
		return n == 1
	case api.CArrow, api.CApp:
		return n == 2
	case api.CRecord, api.CSum:
		return n == len(c.Names)
	}
	return false
}

func numberFits(c *api.Con) bool {
	switch c.Op {
	case api.CVar, api.CMeta:
		return 0 <= c.N && c.N <= api.MaxNodes
	}
	return c.N == 0
}

func textFits(c *api.Con) bool {
	if c.Op == api.CConst {
		return isConstName(c.S)
	}
	return c.S == ""
}

func namesFit(c *api.Con) bool {
	switch c.Op {
	case api.CRecord, api.CSum:
		return areLabels(c.Names)
	}
	return len(c.Names) == 0
}

func kindFits(c *api.Con) bool {
	if c.Op == api.CConst || isBinder(c.Op) {
		return kind.Valid(c.Kind)
	}
	return len(c.Kind.L) == 0
}

// isBinder reports whether nodes of a kind have one more variable in their part.
func isBinder(op int) bool {
	switch op {
	case api.CAll, api.CSome, api.CLam, api.CMu:
		return true
	}
	return false
}

func areLabels(l []string) bool {
	return len(l) <= api.MaxList && all(l, ident.IsLabel) && ident.Ascending(l)
}

// isConstName reports whether s is the name of a constant. Its length is tested first, so that no long text is gone through.
func isConstName(s string) bool {
	if len(s) > 2*api.MaxName {
		return false
	}
	// No upper name contains a full stop, so the first one ends it.
	name, number, found := strings.Cut(s, ".")
	_, e := ident.Number(number)
	return found && ident.IsUpper(name) && e == api.OK
}

func all[T any](l []T, ok func(T) bool) bool {
	for _, x := range l {
		if !ok(x) {
			return false
		}
	}
	return true
}
