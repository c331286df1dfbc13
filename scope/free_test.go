package scope

import (
	"testing"

	"pilaster/api"
)

// P7.1: what is free in sources, written by hand.

func expectFree(t *testing.T, cat int, sources map[string]string) {
	t.Helper()
	for s, want := range sources {
		l, e := Free(cat, parsed(t, cat, s))
		expectLabels(t, s, want, l, e)
	}
}

func TestPathsOfTypes(t *testing.T) {
	expectFree(t, api.CatType, map[string]string{
		"'a":                                 "",
		"t":                                  "type.t",
		"M.t":                                "mod.M",
		"M.N.t":                              "mod.M",
		"int -> t":                           "type.int type.t",
		"'a t * (u, M.v) N.w":                "mod.M mod.N type.t type.u",
		"(module S)":                         "sig.S",
		"(module M.S) * (module S.M)":        "mod.M mod.S",
		"t * t * t":                          "type.t",
		"z -> y -> x -> b10 -> b9 -> z -> a": "type.a type.b10 type.b9 type.x type.y type.z",
	})
}

func TestPathsOfPatterns(t *testing.T) {
	expectFree(t, api.CatPat, map[string]string{
		"_":                     "",
		"x":                     "",
		"7":                     "",
		"()":                    "",
		"C":                     "con.C",
		"M.C":                   "mod.M",
		"M.N.C":                 "mod.M",
		"C (x, D, M.E (F _))":   "con.C con.D con.F mod.M",
		"(True, (C x, y, C x))": "con.C con.True",
	})
}

func TestPathsOfExpressions(t *testing.T) {
	expectFree(t, api.CatExpr, map[string]string{
		"1":                    "",
		"\"x M.x\"":            "",
		"()":                   "",
		"x":                    "val.x",
		"M.x":                  "mod.M",
		"M.N.x":                "mod.M",
		"C":                    "con.C",
		"M.C":                  "mod.M",
		"f x":                  "val.f val.x",
		"x x":                  "val.x",
		"(x, M.x, C, M.C)":     "con.C mod.M val.x",
		"if x then y else z":   "val.x val.y val.z",
		"a + b * ~ c orelse d": "val.a val.b val.c val.d",
		"(x : t)":              "type.t val.x",
		"(x : (module M.S))":   "mod.M val.x",
		"(x : (module S))":     "sig.S val.x",
		"(pack M : S)":         "mod.M sig.S",
		"(pack M.N : T.S)":     "mod.M mod.T",
		"(pack M : M)":         "mod.M sig.M",
		"print (show 1)":       "val.print val.show",
		"x = True":             "con.True val.x",
	})
}

func TestScopesOfFunctionsAndRules(t *testing.T) {
	expectFree(t, api.CatExpr, map[string]string{
		"fn x => x":                                "",
		"fn _ => x":                                "val.x",
		"fn x => y x":                              "val.y",
		"fn x => fn y => x y z":                    "val.z",
		"(fn x => x) x":                            "val.x",
		"x (fn x => x)":                            "val.x",
		"(fn x => x, x)":                           "val.x",
		"fn x => ((fn x => x) x, x)":               "",
		"fn x => fn x => x":                        "",
		"(fn x => (fn x => x, x), x)":              "val.x",
		"fn x => M.x":                              "mod.M",
		"fn x => (x : x)":                          "type.x",
		"fn x => X":                                "con.X",
		"case x of y => y end":                     "val.x",
		"case x of x => x end":                     "val.x",
		"case () of x => x | y => x end":           "val.x",
		"case () of x => y | y => x end":           "val.x val.y",
		"case () of _ => x end":                    "val.x",
		"case () of C x => x end":                  "con.C",
		"case () of C x => C x end":                "con.C",
		"case () of M.C (x, D y) => (x, y, z) end": "con.D mod.M val.z",
		"fn x => case x of y => (case y of x => x end, x) end":  "",
		"fn x => (case () of x => x | _ => x end, x)":           "",
		"case () of x => (case () of (x, y) => x y end, y) end": "val.y",
		"case () of (x, (y, (z, 1, _))) => (x, y, z, w) end":    "val.w",
		"case case () of x => x end of y => (x, y) end":         "val.x",
	})
}

func TestScopesOfLet(t *testing.T) {
	expectFree(t, api.CatExpr, map[string]string{
		"let in x end":                                "val.x",
		"let val x = () in x end":                     "",
		"let val x = x in x end":                      "val.x",
		"let val y = x in fn z => M.f z y end":        "mod.M val.x",
		"let val x = () val y = x in y end":           "",
		"let val y = x val x = () in y end":           "val.x",
		"let val x = () val x = x in x end":           "",
		"(let val x = () in x end, x)":                "val.x",
		"fn x => (let val x = x in x end, x)":         "",
		"let fun f x = f x in f end":                  "",
		"let fun f x = f x in f x end":                "val.x",
		"let fun f x y = (f, x, y, z) in (f, y) end":  "val.y val.z",
		"let fun f f = f in f end":                    "",
		"let fun f x = g x fun g x = f x in g end":    "val.g",
		"let val f = fn x => f x in f end":            "val.f",
		"let structure M = unpack M.x : S in M.y end": "mod.M sig.S",
		"let structure M = unpack x : M.S in M.y end": "mod.M val.x",
		"let structure S = unpack x : S in S.y end":   "sig.S val.x",
		"let structure M = unpack x : T.S in (M.y, M.C, (z : M.t), (pack M : M.S), (pack M.N : M.S)) end": "mod.T val.x val.z",
		"let structure M = unpack x : T.S in (M, (pack N : M)) end":                                       "con.M mod.N mod.T sig.M val.x",
	})
}

func TestScopesOfDeclarations(t *testing.T) {
	expectFree(t, api.CatDecl, map[string]string{
		"val x = x":                 "val.x",
		"fun f x = f x y":           "val.y",
		"fun f x y z = x y z w":     "val.w",
		"type t = t":                "type.t",
		"type 'a t = 'a t":          "type.t",
		"type t = M.t * (module S)": "mod.M sig.S",
		"data t = C of t":           "",
		"data t = C":                "",
		"data 'a t = C | D of 'a t * u | E of u M.t": "mod.M type.u",
		"structure M = M":                 "mod.M",
		"structure M = M.N":               "mod.M",
		"structure M = struct open M end": "mod.M",
		"signature S = S":                 "sig.S",
		"signature S = M.S":               "mod.M",
		"open M":                          "mod.M",
		"open M.N":                        "mod.M",
		"include M":                       "mod.M",
		"include M.N":                     "mod.M",
	})
	expectFree(t, api.CatMod, map[string]string{
		"struct end":                                                 "",
		"struct val x = () val y = x end":                            "",
		"struct val x = y val y = x end":                             "val.y",
		"struct fun x y = x y val z = (x, y) end":                    "val.y",
		"struct type t = u type v = t end":                           "type.u",
		"struct type v = t type t = u end":                           "type.t type.u",
		"struct val t = () type v = t end":                           "type.t",
		"struct type t = u val v = t end":                            "type.u val.t",
		"struct data t = C | D of u val x = (C, D, E, (F : t)) end":  "con.E con.F type.u",
		"struct val x = C data t = C val y = C end":                  "con.C",
		"struct data t = C val x = fn y => case y of C => D end end": "con.D",
		"struct structure M = N val x = M.x val y = N.y end":         "mod.N",
		"struct val x = M.x structure M = N end":                     "mod.M mod.N",
		"struct structure M = struct val x = () end val y = x end":   "val.x",
		"struct signature S = T structure M = N : S end":             "mod.N sig.T",
		"struct structure M = N : S signature S = T end":             "mod.N sig.S sig.T",
		"struct structure S = N structure M = S :> S end":            "mod.N sig.S",
		"struct open M val y = x end":                                "mod.M val.x",
		"struct include M val y = x end":                             "mod.M val.x",
		"struct structure M = N open M include M end":                "mod.N",
	})
}

func TestScopesOfModules(t *testing.T) {
	expectFree(t, api.CatMod, map[string]string{
		"M":                           "mod.M",
		"M.N":                         "mod.M",
		"functor (X : S) => X":        "sig.S",
		"generative (X : S) => X":     "sig.S",
		"functor (X : X.S) => X":      "mod.X",
		"generative (X : X.S) => X.Y": "mod.X",
		"functor (X : X) => X : X":    "sig.X",
		"functor (X : S) => functor (Y : X.S) => X (Y) (Z)": "mod.Z sig.S",
		"(functor (X : S) => X) (X)":                        "mod.X sig.S",
		"M (N (O.P))":                                       "mod.M mod.N mod.O",
		"M : S":                                             "mod.M sig.S",
		"M :> S":                                            "mod.M sig.S",
		"M : N.S :> T":                                      "mod.M mod.N sig.T",
		"struct val x = () end :> sig val y : x end": "type.x",
		"let in M end":                                   "mod.M",
		"let structure M = N in M (O) end":               "mod.N mod.O",
		"let structure M = M in M.M end":                 "mod.M",
		"(let structure M = N in M end) (M)":             "mod.M mod.N",
		"let structure M = N structure O = M in O.P end": "mod.N",
		"let open M in N end":                            "mod.M mod.N",
		"let signature S = sig end in M : S end":         "mod.M",
		"let val x = y in struct val z = x end end":      "val.y",
		"unpack x : S":                                   "sig.S val.x",
		"unpack (M.x y) : N.S":                           "mod.M mod.N val.y",
	})
}

func TestScopesOfSignatures(t *testing.T) {
	expectFree(t, api.CatSig, map[string]string{
		"S":                                                           "sig.S",
		"M.S":                                                         "mod.M",
		"sig end":                                                     "",
		"sig type t val x : t end":                                    "",
		"sig val x : t type t end":                                    "type.t",
		"sig type t = u val x : t end":                                "type.u",
		"sig type t = t end":                                          "type.t",
		"sig type 'a t val x : 'a t -> 'a u end":                      "type.u",
		"sig data t = C of t * u val x : t end":                       "type.u",
		"sig val t : u val x : t end":                                 "type.t type.u",
		"sig structure M : M.S val x : M.t end":                       "mod.M",
		"sig structure M : S structure N : M.S end":                   "sig.S",
		"sig structure M : sig type t end val x : t end":              "type.t",
		"sig signature S = S structure M : S end":                     "sig.S",
		"sig structure M : S signature S = T end":                     "sig.S sig.T",
		"sig include S val x : t end":                                 "sig.S type.t",
		"sig include sig type t end val x : t end":                    "type.t",
		"sig type t type u sharing type t = u end":                    "",
		"sig type t sharing type t = u end":                           "type.u",
		"sig type u sharing type t = u end":                           "type.t",
		"sig structure M : S sharing type M.t = N.t end":              "mod.N sig.S",
		"sig structure M : S sharing type N.t = M.M.t end":            "mod.N sig.S",
		"S with type t = t":                                           "sig.S type.t",
		"S with type t = u with type M.v = N.w":                       "mod.N sig.S type.u",
		"sig type t end with type t = u":                              "type.u",
		"sig type t end with type 'a t = t":                           "type.t",
		"functor (X : S) => T":                                        "sig.S sig.T",
		"functor (X : X.S) => X.S":                                    "mod.X",
		"generative (X : X.S) => sig val x : X.t structure Y : X end": "mod.X sig.X",
		"functor (X : S) => functor (Y : X.S) => sig type t = X.t val x : Y.t * t * u end": "sig.S type.u",
		"functor (X : S) => S with type t = X.t":                                           "sig.S",
	})
}

func TestPathsOfSpecifications(t *testing.T) {
	expectFree(t, api.CatSpec, map[string]string{
		"val x : 'a -> t":          "type.t",
		"type 'a t":                "",
		"type t = t":               "type.t",
		"data t = C of t * M.t":    "mod.M",
		"structure M : M.S":        "mod.M",
		"structure M : M":          "sig.M",
		"signature S = S":          "sig.S",
		"include S":                "sig.S",
		"include M.S":              "mod.M",
		"sharing type t = u":       "type.t type.u",
		"sharing type M.t = N.O.u": "mod.M mod.N",
	})
}

// A DUnpack outside of a let comes from no source, but is a declaration like the others.
func TestScopesOfDUnpack(t *testing.T) {
	d := named(api.DUnpack, "M", path(api.XVar, "M.x"), path(api.GPath, "S"))
	l, e := Free(api.CatDecl, d)
	expectLabels(t, "DUnpack", "mod.M sig.S", l, e)
	l, e = Free(api.CatMod, node(api.MStruct, d, path(api.DOpen, "M.N")))
	expectLabels(t, "MStruct", "mod.M sig.S", l, e)
	d.L[0] = path(api.XVar, "x")
	l, e = Free(api.CatMod, node(api.MLet, d, path(api.MPath, "M")))
	expectLabels(t, "MLet", "sig.S val.x", l, e)
}

// P7.1: a tree that is not well-formed, or of another category.
func TestFreeRefuses(t *testing.T) {
	x, ty := path(api.XVar, "x"), path(api.TyPath, "t")
	for cat := -1; cat < 10; cat++ {
		for _, w := range append(malformed(), api.Syn{}, node(api.XRule, node(api.PtAny), x), named(api.DCtor, "C")) {
			l, e := Free(cat, w)
			expectError(t, w, api.ErrArg, l, e)
		}
		for right, s := range map[int]api.Syn{api.CatExpr: x, api.CatType: ty, api.CatPat: node(api.PtAny), api.CatMod: node(api.MStruct), api.CatSig: node(api.GSig)} {
			if l, e := Free(cat, s); cat != right {
				expectError(t, s, api.ErrArg, l, e)
			} else if e != api.OK {
				t.Error(cat, s, e)
			}
		}
	}
	both := named(api.DType, "t", ty)
	for cat := -1; cat < 10; cat++ {
		l, e := Free(cat, both)
		if cat == api.CatDecl || cat == api.CatSpec {
			expectLabels(t, "type", "type.t", l, e)
		} else {
			expectError(t, cat, api.ErrArg, l, e)
		}
	}
}

// malformed returns trees that belong to categories, but are not well-formed.
func malformed() []api.Syn {
	x, ty := path(api.XVar, "x"), path(api.TyPath, "t")
	return []api.Syn{
		{Op: api.XVar}, path(api.XVar, "X"), path(api.XVar, "end"), path(api.XVar, "x.y"), path(api.XCtor, "x"), path(api.MPath, "x"), path(api.GPath, ""),
		{Op: api.XVar, Names: []string{"x"}, N: 1}, path(api.XVar, "x", x), node(api.XApp, x), node(api.XTuple, x), node(api.XCase, x), node(api.XLet),
		node(api.XLet, named(api.DType, "t", ty), x), node(api.XApp, x, node(api.XApp)), named(api.XFn, "X", x), named(api.PtVar, "X"), named(api.PtVar, ""),
		path(api.PtCtor, "c"), {Op: api.PtCtor}, node(api.PtTuple, named(api.PtVar, "x")), node(api.PtTuple, named(api.PtVar, "x"), path(api.PtCtor, "x")),
		named(api.DVal, "x"), named(api.DVal, "X", x), named(api.DFun, "f", x), {Op: api.DFun, S: "f", Names: []string{"X"}, L: []api.Syn{x}},
		node(api.DType, ty), named(api.DData, "t"), named(api.DData, "t", named(api.DCtor, "C"), named(api.DCtor, "C")), named(api.DData, "t", named(api.DCtor, "c")),
		{Op: api.DOpen}, path(api.DOpen, "x"), path(api.DInclude, "M.x"), named(api.DStruct, "M"), named(api.DSig, "S", x), named(api.DUnpack, "M", x, node(api.GSig)),
		named(api.SpVal, "x"), named(api.SpType, ""), {Op: api.SpType, S: "t", Names: []string{"'a", "'a"}}, path(api.SpShare, "t", path(api.TyPath, "t", ty)), path(api.SpShare, "t"),
		node(api.GSig, named(api.DVal, "x", x)), path(api.GWith, "t", node(api.GSig), named(api.DType, "t", ty)), named(api.GFun, "X", node(api.GSig)),
		node(api.MStruct, named(api.SpType, "t")), node(api.MStruct, node(api.MStruct)), named(api.MFun, "x", node(api.GSig), node(api.MStruct)), node(api.MLet), node(api.MLet, path(api.DOpen, "M")),
		named(api.TyVar, "a"), {Op: api.TyPath}, node(api.TyTuple, ty), node(api.TyPack),
	}
}
