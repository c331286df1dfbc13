package tycon

import (
	"maps"
	"slices"

	"pilaster/api"
	"pilaster/kind"
)

// Consts returns the constants of c with their kinds.
func Consts(c api.Con) ([]api.Const, api.Errno) {
	if !Valid(c) {
		return nil, api.ErrArg
	}
	kinds := map[string]api.Kind{}
	for leaf := range leaves(c) {
		if leaf.Op != api.CConst {
			continue
		}
		if k, found := kinds[leaf.S]; found && !kind.Equal(k, leaf.Kind) {
			return nil, api.ErrKind
		}
		kinds[leaf.S] = leaf.Kind
	}
	var l []api.Const
	for _, name := range slices.Sorted(maps.Keys(kinds)) {
		l = append(l, api.Const{Name: name, Kind: copiedKind(kinds[name])})
	}
	return l, api.OK
}

// Bind returns c with variables for the constants with the names.
func Bind(c api.Con, names []string) (api.Con, api.Errno) {
	if !Valid(c) || !all(names, isConstName) {
		return api.Con{}, api.ErrArg
	}
	indices, e := indicesOf(names)
	if e != api.OK {
		return api.Con{}, e
	}
	b := newBuilder()
	return b.result(c, func(leaf api.Con, binders, depth int) (api.Con, bool) {
		if leaf.Op == api.CVar {
			leaf.N += len(names)
		} else if i, found := indices[leaf.S]; found {
			leaf = api.Con{Op: api.CVar, N: binders + i}
		}
		return b.node(leaf, depth)
	})
}

// Unbind returns c with the constants for variables.
func Unbind(c api.Con, names []api.Const) (api.Con, api.Errno) {
	if !Valid(c) || !all(names, isConst) {
		return api.Con{}, api.ErrArg
	}
	if _, e := indicesOf(namesOf(names)); e != api.OK {
		return api.Con{}, e
	}
	b := newBuilder()
	return b.result(c, func(leaf api.Con, binders, depth int) (api.Con, bool) {
		if leaf.Op == api.CVar {
			i := leaf.N - binders
			if i < len(names) {
				a := names[len(names)-1-i]
				return b.node(api.Con{Op: api.CConst, S: a.Name, Kind: a.Kind}, depth)
			}
			leaf.N -= len(names)
		}
		return b.node(leaf, depth)
	})
}

func isConst(a api.Const) bool { return isConstName(a.Name) && kind.Valid(a.Kind) }

func namesOf(l []api.Const) []string {
	var names []string
	for _, a := range l {
		names = append(names, a.Name)
	}
	return names
}

// indicesOf returns the free indices of the variables that bound constants become: the last one is the variable 0.
func indicesOf(names []string) (map[string]int, api.Errno) {
	if len(names) > api.MaxList {
		return nil, api.ErrFull
	}
	indices := make(map[string]int, len(names))
	for i, s := range names {
		indices[s] = len(names) - 1 - i
	}
	if len(indices) < len(names) {
		return nil, api.ErrTwice
	}
	return indices, api.OK
}
