package scope

import (
	"maps"
	"slices"

	"pilaster/api"
)

// freeLabels returns the free labels of a well-formed tree, in order. A label may be bound several times at a place, so bindings are counted: the end of an inner one does not end an outer one.
func freeLabels(t api.Syn) []string {
	bound, free := map[string]int{}, map[string]bool{}
	var walk func(api.Syn)
	walk = func(t api.Syn) {
		if s, refers := reference(t); refers && bound[s] == 0 {
			free[s] = true
		}
		var own []string
		for i, part := range t.L {
			for _, s := range boundFrom(t, i) {
				bound[s]++
				own = append(own, s)
			}
			walk(part)
		}
		for _, s := range own {
			bound[s]--
		}
	}
	walk(t)
	return slices.Sorted(maps.Keys(free))
}

// boundFrom returns what a tree binds in its part i and in all parts after it, but not in those before it.
func boundFrom(t api.Syn, i int) []string {
	switch t.Op {
	case api.XRule, api.XLet, api.MStruct, api.MLet, api.GSig:
		if i > 0 {
			return bindings(t.L[i-1])
		}
	case api.MFun, api.GFun:
		if i == 1 {
			return []string{label(api.LabelMod, t.S)}
		}
	case api.XFn, api.DFun, api.DData:
		if i == 0 {
			return boundInAll(t)
		}
	}
	return nil
}

// boundInAll returns what a function binds in its body, or a data type in its constructors.
func boundInAll(t api.Syn) []string {
	switch t.Op {
	case api.DData:
		return []string{label(api.LabelType, t.S)}
	case api.DFun:
		l := []string{label(api.LabelVal, t.S)}
		for _, s := range t.Names {
			l = append(l, label(api.LabelVal, s))
		}
		return l
	}
	// The function fn _ binds nothing.
	if t.S == "" {
		return nil
	}
	return []string{label(api.LabelVal, t.S)}
}

// firstFault returns the error at the first node of a well-formed tree that has one.
func firstFault(t api.Syn) api.Errno {
	var walk func(t api.Syn, permits func(string) bool) api.Errno
	walk = func(t api.Syn, permits func(string) bool) api.Errno {
		if bindsTwice(t) {
			return api.ErrTwice
		}
		switch t.Op {
		case api.TyVar:
			if !permits(t.S) {
				return api.ErrName
			}
		case api.DType, api.DData:
			permits = func(s string) bool { return slices.Contains(t.Names, s) }
		case api.SpVal:
			permits = func(string) bool { return true }
		}
		for _, part := range t.L {
			if e := walk(part, permits); e != api.OK {
				return e
			}
		}
		return api.OK
	}
	return walk(t, func(string) bool { return false })
}

// bindsTwice reports whether a rule, a function, or a signature binds a name twice at once. (A function may have the name of one of its parameters.)
func bindsTwice(t api.Syn) bool {
	switch t.Op {
	case api.XRule:
		return repeats(bindings(t.L[0]))
	case api.DFun:
		return repeats(t.Names)
	case api.GSig:
		return repeats(bindingsOf(t.L))
	}
	return false
}

// repeats reports whether a string occurs twice in l. A signature may bind thousands of labels, so they are not compared with each other.
func repeats(l []string) bool {
	seen := make(map[string]bool, len(l))
	for _, s := range l {
		if seen[s] {
			return true
		}
		seen[s] = true
	}
	return false
}
