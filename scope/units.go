package scope

import (
	"maps"
	"slices"

	"pilaster/api"
	"pilaster/ident"
	"pilaster/syntax"
)

// structure returns the declarations of a unit as one module.
func structure(u api.Unit) api.Syn { return api.Syn{Op: api.MStruct, L: u.Decls} }

// isUnit reports whether a unit is well-formed. The number of imports is tested first, so that no long list is gone through.
func isUnit(u api.Unit) bool {
	if len(u.Imports) > api.MaxUnits || !ident.IsUpper(u.Name) || slices.Contains(u.Imports, u.Name) {
		return false
	}
	for i, name := range u.Imports {
		if !ident.IsUpper(name) || slices.Contains(u.Imports[:i], name) {
			return false
		}
	}
	return syntax.Valid(api.CatMod, structure(u))
}

// isClosed reports whether all imports are units themselves.
func isClosed(imports map[string][]string) bool {
	for _, l := range imports {
		for _, name := range l {
			if _, found := imports[name]; !found {
				return false
			}
		}
	}
	return true
}

// ordered returns the names of units in the canonical order, if there is one.
func ordered(imports map[string][]string) ([]string, api.Errno) {
	rest := slices.Sorted(maps.Keys(imports))
	var taken []string
	for len(rest) > 0 {
		next := slices.IndexFunc(rest, func(name string) bool { return areAmong(imports[name], taken) })
		if next < 0 {
			return nil, api.ErrCycle
		}
		taken = append(taken, rest[next])
		rest = slices.Delete(rest, next, next+1)
	}
	return taken, api.OK
}

func areAmong(names, l []string) bool {
	return !slices.ContainsFunc(names, func(s string) bool { return !slices.Contains(l, s) })
}
