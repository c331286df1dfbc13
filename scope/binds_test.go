package scope

import (
	"testing"

	"pilaster/api"
)

// P7.2: what is bound, written by hand.
func TestBindings(t *testing.T) {
	for cat, sources := range map[int]map[string]string{
		api.CatPat: {
			"_":                             "",
			"7":                             "",
			"()":                            "",
			"x":                             "val.x",
			"C":                             "",
			"M.C":                           "",
			"C x":                           "val.x",
			"(x, y)":                        "val.x val.y",
			"(y, x)":                        "val.x val.y",
			"(x, x)":                        "val.x",
			"(b, (a, C (c, M.D (a, 1))))":   "val.a val.b val.c",
			"(z, y10, y9, b, z, y, a_, aB)": "val.aB val.a_ val.b val.y val.y10 val.y9 val.z",
		},
		api.CatDecl: {
			"val x = y":                           "val.x",
			"val x = let val y = () in y end":     "val.x",
			"fun f x y = z":                       "val.f",
			"type t = u":                          "type.t",
			"type 'a t = 'a":                      "type.t",
			"data t = C":                          "con.C type.t",
			"data 'a t = D of 'a | C | B of 'a u": "con.B con.C con.D type.t",
			"structure M = struct val x = () end": "mod.M",
			"structure M = N":                     "mod.M",
			"signature S = sig type t end":        "sig.S",
			"open M":                              "",
			"include M":                           "",
		},
		api.CatSpec: {
			"val x : t":                        "val.x",
			"type t":                           "type.t",
			"type 'a t":                        "type.t",
			"type t = u":                       "type.t",
			"data t = D | C of t":              "con.C con.D type.t",
			"structure M : sig type t end":     "mod.M",
			"signature S = sig type t end":     "sig.S",
			"include S":                        "",
			"include sig type t val x : t end": "",
			"sharing type t = u":               "",
		},
	} {
		for s, want := range sources {
			l, e := Binds(parsed(t, cat, s))
			expectLabels(t, s, want, l, e)
		}
	}
	l, e := Binds(named(api.DUnpack, "M", path(api.XVar, "x"), path(api.GPath, "S")))
	expectLabels(t, "DUnpack", "mod.M", l, e)
}

// P7.2: other trees, and those that are not well-formed.
func TestBindsRefuses(t *testing.T) {
	for cat, sources := range map[int][]string{
		api.CatType: {"t", "'a", "t -> u"},
		api.CatExpr: {"x", "fn x => x", "let val x = () in x end", "case x of y => y end"},
		api.CatSig:  {"S", "sig type t end", "functor (X : S) => T", "S with type t = u"},
		api.CatMod:  {"M", "struct val x = () end", "functor (X : S) => X", "let val x = () in M end", "unpack x : S"},
	} {
		for _, s := range sources {
			l, e := Binds(parsed(t, cat, s))
			expectError(t, s, api.ErrArg, l, e)
		}
	}
	rule := node(api.XRule, named(api.PtVar, "x"), path(api.XVar, "x"))
	for _, x := range append(malformed(), api.Syn{}, rule, named(api.DCtor, "C"), api.Syn{Op: -1}, api.Syn{Op: 45}, api.Syn{Op: 1 << 40}) {
		l, e := Binds(x)
		expectError(t, x, api.ErrArg, l, e)
	}
}
