package scope

import (
	"slices"
	"strings"
	"testing"

	"pilaster/api"
	"pilaster/ident"
)

// P7.6: the free labels of a tree are among those to which its paths refer.
func TestFreeLabelsHavePaths(t *testing.T) {
	for _, x := range samples(6, 500) {
		var l []string
		eachNode(x.t, nil, func(p api.Syn, _ []step) { l = append(l, wantReference(p)) })
		for _, s := range free(t, x.cat, x.t) {
			if !slices.Contains(l, s) {
				t.Fatalf("%+v: %s", x, s)
			}
		}
	}
}

// without returns the labels of a list that are not in another one.
func without(l, other []string) []string {
	return slices.DeleteFunc(slices.Clone(l), func(s string) bool { return slices.Contains(other, s) })
}

// P7.6: a declaration, or a specification, in front takes away only what it binds.
func TestDeclarationsInFront(t *testing.T) {
	taken := 0
	check := func(cat int, front, rest, both api.Syn, frontCat int) {
		t.Helper()
		before := free(t, cat, rest)
		left := without(before, binds(t, front))
		taken += len(before) - len(left)
		if got := free(t, cat, both); !slices.Equal(got, sorted(append(left, free(t, frontCat, front)...))) {
			t.Fatalf("%+v before %+v: %v; %v alone", front, rest, got, before)
		}
	}
	byCat := map[int][]api.Syn{}
	for _, x := range samples(7, 1500) {
		byCat[x.cat] = append(byCat[x.cat], x.t)
	}
	for i, d := range byCat[api.CatDecl] {
		rest := []api.Syn{byCat[api.CatDecl][(i+1)%1500], byCat[api.CatDecl][(i+7)%1500]}
		check(api.CatMod, d, node(api.MStruct, rest...), node(api.MStruct, append([]api.Syn{d}, rest...)...), api.CatDecl)
		m := byCat[api.CatMod][i]
		check(api.CatMod, d, m, node(api.MLet, d, m), api.CatDecl)
		if d.Op == api.DVal || d.Op == api.DFun || d.Op == api.DUnpack {
			x := byCat[api.CatExpr][i]
			check(api.CatExpr, d, x, node(api.XLet, d, x), api.CatDecl)
		}
		s := byCat[api.CatSpec][i]
		specs := []api.Syn{byCat[api.CatSpec][(i+1)%1500], byCat[api.CatSpec][(i+7)%1500]}
		check(api.CatSig, s, node(api.GSig, specs...), node(api.GSig, append([]api.Syn{s}, specs...)...), api.CatSpec)
		p, x := byCat[api.CatPat][i], byCat[api.CatExpr][i]
		got := free(t, api.CatExpr, node(api.XCase, node(api.XTuple), node(api.XRule, p, x)))
		if want := sorted(append(without(free(t, api.CatExpr, x), binds(t, p)), free(t, api.CatPat, p)...)); !slices.Equal(got, want) {
			t.Fatalf("%+v => %+v: %v; want %v", p, x, got, want)
		}
	}
	if taken < 1000 {
		t.Error(taken)
	}
}

// declared returns declarations without free labels that bind labels.
func declared(labels []string) []api.Syn {
	var l []api.Syn
	for _, s := range labels {
		prefix, name, _ := strings.Cut(s, ".")
		l = append(l, map[string]api.Syn{
			"val":  named(api.DVal, name, node(api.XTuple)),
			"type": named(api.DType, name, named(api.TyVar, "'a")),
			"con":  named(api.DData, "other", named(api.DCtor, name)),
			"mod":  named(api.DStruct, name, node(api.MStruct)),
			"sig":  named(api.DSig, name, node(api.GSig)),
		}[prefix])
	}
	return l
}

// asDeclaration returns a declaration with the free labels of a tree.
func asDeclaration(x sample) api.Syn {
	switch x.cat {
	case api.CatType:
		return named(api.DType, "unused", x.t)
	case api.CatPat:
		return named(api.DVal, "unused", node(api.XCase, node(api.XTuple), node(api.XRule, x.t, node(api.XTuple))))
	case api.CatExpr:
		return named(api.DVal, "unused", x.t)
	case api.CatSpec:
		return named(api.DSig, "Unused", node(api.GSig, x.t))
	case api.CatSig:
		return named(api.DSig, "Unused", x.t)
	case api.CatMod:
		return named(api.DStruct, "Unused", x.t)
	}
	return x.t
}

// P7.6: binding everything that is free leaves nothing free.
func TestBindingEverything(t *testing.T) {
	for _, x := range samples(8, 500) {
		labels := free(t, x.cat, x.t)
		d := asDeclaration(x)
		if !slices.Equal(free(t, api.CatDecl, d), labels) {
			t.Fatalf("%+v: %v", x, free(t, api.CatDecl, d))
		}
		l := append(declared(labels), d)
		if left := free(t, api.CatMod, node(api.MStruct, l...)); len(left) != 0 {
			t.Fatalf("%+v: %v", x, left)
		}
		if left := free(t, api.CatMod, node(api.MLet, append(l, node(api.MStruct))...)); len(left) != 0 {
			t.Fatalf("%+v: %v", x, left)
		}
		// Each one of the declarations is needed.
		for i, s := range labels {
			fewer := slices.Delete(slices.Clone(l), i, i+1)
			if left := free(t, api.CatMod, node(api.MStruct, fewer...)); !slices.Equal(left, []string{s}) {
				t.Fatalf("%+v without %s: %v", x, s, left)
			}
		}
		u := api.Unit{Name: "Z", Decls: l}
		if left, e := Unbound(u); len(left) != 0 || e != api.OK {
			t.Fatalf("%+v: %v, %d", x, left, e)
		}
	}
}

// The labels of results ascend, so that each one is there once.
func TestResultsAscend(t *testing.T) {
	for _, x := range samples(9, 500) {
		d := asDeclaration(x)
		unbound, e := Unbound(api.Unit{Name: "Z", Decls: []api.Syn{d}})
		if e != api.OK {
			t.Fatal(x, e)
		}
		for _, l := range [][]string{free(t, x.cat, x.t), binds(t, d), unbound} {
			if !ident.Ascending(l) {
				t.Fatalf("%+v: %v", x, l)
			}
		}
	}
}
