package kinding

import (
	"pilaster/api"
	"pilaster/kind"
)

// kindOf returns the kind of c in the scope g, both of which are known to be valid, or the first fault and its place. The kind shares memory with them, so that large kinds need not be copied at each node.
func kindOf(g []api.Kind, c api.Con) (k api.Kind, at []int, e api.Errno) {
	inner := scopeOfParts(g, c)
	parts := make([]api.Kind, len(c.L))
	for i, part := range c.L {
		parts[i], at, e = kindOf(inner, part)
		if e != api.OK {
			return api.Kind{}, append([]int{i}, at...), e
		}
	}
	k, e = kindOfNode(g, c, parts)
	return k, nil, e
}

// scopeOfParts returns the scope that the parts of c have, where c has g. It never writes into memory behind the end of g, which belongs to others.
func scopeOfParts(g []api.Kind, c api.Con) []api.Kind {
	switch c.Op {
	case api.CAll, api.CSome, api.CLam, api.CMu:
		return append(g[:len(g):len(g)], c.Kind)
	}
	return g
}

// kindOfNode returns the kind of c, the parts of which have these kinds, or the fault of c itself.
func kindOfNode(g []api.Kind, c api.Con, parts []api.Kind) (api.Kind, api.Errno) {
	switch c.Op {
	case api.CVar:
		return variable(g, c.N)
	case api.CConst:
		return c.Kind, api.OK
	case api.CLam:
		return function(c.Kind, parts[0])
	case api.CApp:
		return application(parts[0], parts[1])
	case api.CMu:
		return recursive(c.Kind, parts[0])
	}
	return typeOf(parts)
}

// variable returns the kind of the variable with the free index i: that with the index 0 comes last.
func variable(g []api.Kind, i int) (api.Kind, api.Errno) {
	if i >= len(g) {
		return api.Kind{}, api.ErrName
	}
	return g[len(g)-1-i], api.OK
}

// function is the only rule that makes a kind out of smaller ones, and so the only one whose kind may be too large.
func function(from, to api.Kind) (api.Kind, api.Errno) {
	k := api.Kind{L: []api.Kind{from, to}}
	if !kind.Valid(k) {
		return api.Kind{}, api.ErrBig
	}
	return k, api.OK
}

func application(f, a api.Kind) (api.Kind, api.Errno) {
	if isStar(f) || !kind.Equal(f.L[0], a) {
		return api.Kind{}, api.ErrKind
	}
	return f.L[1], api.OK
}

func recursive(k, part api.Kind) (api.Kind, api.Errno) {
	if !kind.Equal(k, part) {
		return api.Kind{}, api.ErrKind
	}
	return k, api.OK
}

// typeOf is the rule of all nodes that are types, and have types as parts, if they have any.
func typeOf(parts []api.Kind) (api.Kind, api.Errno) {
	for _, k := range parts {
		if !isStar(k) {
			return api.Kind{}, api.ErrKind
		}
	}
	return kind.Star(), api.OK
}

func isStar(k api.Kind) bool { return len(k.L) == 0 }
