package value

import (
	"slices"

	"pilaster/api"
)

// fits reports whether v fits c, or why that is not known.
func (t types) fits(v *api.Value, c *knownType) (bool, api.Errno) {
	switch op := c.con.Op; v.Op {
	case api.VInt:
		return op == api.CInt, api.OK
	case api.VText:
		return op == api.CText, api.OK
	case api.VRecord:
		return t.recordFits(v, c)
	case api.VInject:
		return t.labelledFits(v, c)
	case api.VRoll:
		return t.rolledFits(v, c)
	case api.VPack:
		return op == api.CSome, api.OK
	case api.VFun:
		return op == api.CArrow || op == api.CAll, api.OK
	}
	return false, api.OK
}

func (t types) recordFits(v *api.Value, c *knownType) (bool, api.Errno) {
	if c.con.Op != api.CRecord || isBlock(v) || !slices.Equal(v.Names, c.con.Names) {
		return false, api.OK
	}
	for i := range v.L {
		if ok, e := t.fits(&v.L[i], c.parts[i]); !ok {
			return false, e
		}
	}
	return true, api.OK
}

// labelledFits needs no case for tagged values: the empty text is the label of no type.
func (t types) labelledFits(v *api.Value, c *knownType) (bool, api.Errno) {
	part, exists := c.partOf(v.S)
	if c.con.Op != api.CSum || !exists {
		return false, api.OK
	}
	return t.fits(&v.L[0], part)
}

func (t types) rolledFits(v *api.Value, c *knownType) (bool, api.Errno) {
	u, e := t.unroll(c)
	switch e {
	case api.OK:
		return t.fits(&v.L[0], u)
	case api.ErrBudget:
		return false, e
	}
	return false, api.OK
}

// term returns the term of v, data that fits c. It shares memory with both, as large types may occur at many nodes.
func (t types) term(v *api.Value, c *knownType) api.Term {
	switch v.Op {
	case api.VInt:
		return api.Term{Op: api.EInt, N: v.N}
	case api.VText:
		return api.Term{Op: api.EText, S: v.S}
	case api.VInject:
		part, _ := c.partOf(v.S)
		return api.Term{Op: api.EInject, S: v.S, Con: c.con, L: []api.Term{t.term(&v.L[0], part)}}
	case api.VRoll:
		u, _ := t.unroll(c)
		return api.Term{Op: api.ERoll, Con: c.con, L: []api.Term{t.term(&v.L[0], u)}}
	}
	x := api.Term{Op: api.ERecord, Names: v.Names}
	for i := range v.L {
		x.L = append(x.L, t.term(&v.L[i], c.parts[i]))
	}
	return x
}
