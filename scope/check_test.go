package scope

import (
	"testing"

	"pilaster/api"
)

// expectChecked compares the results of Check for sources with errors.
func expectChecked(t *testing.T, cat int, sources map[string]api.Errno) {
	t.Helper()
	for s, want := range sources {
		if e := Check(cat, parsed(t, cat, s)); e != want {
			t.Errorf("%s: %d; want %d", s, e, want)
		}
	}
}

// P7.3: names that are bound twice.

func TestPatternsTwice(t *testing.T) {
	expectChecked(t, api.CatPat, map[string]api.Errno{
		"_":                          api.OK,
		"(_, _)":                     api.OK,
		"(x, y)":                     api.OK,
		"(x, x)":                     api.ErrTwice,
		"(C, C)":                     api.OK,
		"(1, 1)":                     api.OK,
		"C (x, D (y, x))":            api.ErrTwice,
		"C (x, D (y, z))":            api.OK,
		"((x, y), (z, (w, (v, y))))": api.ErrTwice,
		"((x, y), (z, (w, (v, u))))": api.OK,
	})
	expectChecked(t, api.CatExpr, map[string]api.Errno{
		"case () of (x, x) => 1 end":                                api.ErrTwice,
		"case () of (x, y) => 1 end":                                api.OK,
		"case () of C (x, (_, x)) => 1 end":                         api.ErrTwice,
		"case () of _ => 1 | (x, x) => 2 end":                       api.ErrTwice,
		"case () of x => 1 | x => 2 end":                            api.OK,
		"case () of (x, y) => case () of (x, y) => x end end":       api.OK,
		"case () of (x, y) => case () of (z, z) => x end end":       api.ErrTwice,
		"case case () of (x, x) => x end of _ => 1 end":             api.ErrTwice,
		"fn x => fn x => x":                                         api.OK,
		"fn f => let val x = case f of (y, 1, y) => 2 end in x end": api.ErrTwice,
	})
}

func TestFunctionsTwice(t *testing.T) {
	expectChecked(t, api.CatDecl, map[string]api.Errno{
		"fun f x = x":                                  api.OK,
		"fun f x y = x":                                api.OK,
		"fun f x x = x":                                api.ErrTwice,
		"fun f x y z x = x":                            api.ErrTwice,
		"fun f a b c d e f g h i = x":                  api.OK,
		"fun f a b c d e f g h a = x":                  api.ErrTwice,
		"fun f f = f":                                  api.OK,
		"fun f f g f = f":                              api.ErrTwice,
		"val y = let fun f x x = x in f end":           api.ErrTwice,
		"val y = let fun f x = x fun f x = x in f end": api.OK,
		"structure M = struct structure N = struct fun f x x = 1 end end": api.ErrTwice,
	})
}

func TestSpecificationsTwice(t *testing.T) {
	expectChecked(t, api.CatSig, map[string]api.Errno{
		"sig end":                     api.OK,
		"sig val x : t val y : t end": api.OK,
		"sig val x : t val x : u end": api.ErrTwice,
		"sig val x : t type x structure X : S signature X = S end": api.OK,
		"sig type t type t end":                                       api.ErrTwice,
		"sig type t type 'a t end":                                    api.ErrTwice,
		"sig type t type t = u end":                                   api.ErrTwice,
		"sig type t = u type t = u end":                               api.ErrTwice,
		"sig type t data t = C end":                                   api.ErrTwice,
		"sig data t = C type u data t = D end":                        api.ErrTwice,
		"sig data t = C data u = D end":                               api.OK,
		"sig data t = C | D data u = E | D end":                       api.ErrTwice,
		"sig data t = C structure C : S signature C = S end":          api.OK,
		"sig structure M : S structure M : T end":                     api.ErrTwice,
		"sig structure M : S structure N : S end":                     api.OK,
		"sig signature S = T signature S = T end":                     api.ErrTwice,
		"sig include S include S end":                                 api.OK,
		"sig type t include sig type t end end":                       api.OK,
		"sig type t sharing type t = t sharing type t = t end":        api.OK,
		"sig type t structure M : sig type t end end":                 api.OK,
		"sig structure M : sig type t type t end end":                 api.ErrTwice,
		"sig signature S = sig val x : t val y : t val x : t end end": api.ErrTwice,
		"sig include sig type t type t end end":                       api.ErrTwice,
		"sig type t type t end with type t = u":                       api.ErrTwice,
		"sig type t end with type t = u":                              api.OK,
		"functor (X : sig type t type t end) => S":                    api.ErrTwice,
		"functor (X : S) => sig type t type t end":                    api.ErrTwice,
		"functor (X : sig type t end) => sig type t end":              api.OK,
		"functor (X : S) => functor (X : S) => S":                     api.OK,
	})
}

// P7.3: only specifications, patterns, and parameters may not be repeated.
func TestWhatMayBeRepeated(t *testing.T) {
	expectChecked(t, api.CatMod, map[string]api.Errno{
		"struct val x = 1 val x = x end":                           api.OK,
		"struct type t = u type t = t end":                         api.OK,
		"struct data t = C data t = C end":                         api.OK,
		"struct structure M = N structure M = M end":               api.OK,
		"struct signature S = T signature S = S open M open M end": api.OK,
		"let val x = 1 val x = x in M end":                         api.OK,
		"functor (X : S) => functor (X : S) => X":                  api.OK,
		"M : sig type t type t end":                                api.ErrTwice,
		"M :> sig type t type t end":                               api.ErrTwice,
		"struct signature S = sig val x : t val x : t end end":     api.ErrTwice,
		"let fun f x x = 1 in M end":                               api.ErrTwice,
		"unpack (case x of (x, x) => x end) : S":                   api.ErrTwice,
		"(struct end) (let fun f x x = 1 in M end)":                api.ErrTwice,
	})
	expectChecked(t, api.CatExpr, map[string]api.Errno{"let val x = 1 val x = x fun x y = y in x end": api.OK})
}

// P7.3: type variables.
func TestTypeVariables(t *testing.T) {
	expectChecked(t, api.CatType, map[string]api.Errno{
		"t":            api.OK,
		"'a":           api.ErrName,
		"t -> 'a":      api.ErrName,
		"('a * t) M.u": api.ErrName,
		"(t, u, 'a) v": api.ErrName,
		"(module M.S)": api.OK,
	})
	expectChecked(t, api.CatExpr, map[string]api.Errno{
		"(x : 'a)":                             api.ErrName,
		"(x : t)":                              api.OK,
		"fn y => f ((x : t), (y : t -> 'a u))": api.ErrName,
	})
	expectChecked(t, api.CatDecl, map[string]api.Errno{
		"type t = 'a":                                api.ErrName,
		"type 'a t = 'a":                             api.OK,
		"type 'a t = 'b":                             api.ErrName,
		"type 'a t = t":                              api.OK,
		"type ('a, 'b) t = 'a -> 'b * 'a":            api.OK,
		"type ('a, 'b, 'c, 'd) t = ('d, 'c) u -> 'b": api.OK,
		"type ('a, 'b) t = 'a -> 'b * 'c":            api.ErrName,
		"data t = C":                                 api.OK,
		"data t = C of 'a":                           api.ErrName,
		"data 'a t = C of 'a":                        api.OK,
		"data 'a t = C | D of t -> 'a t | E":         api.OK,
		"data 'a t = C of 'a | D of 'b":              api.ErrName,
		"data ('a, 'b) t = C of 'a | D of 'b * 'a":   api.OK,
		"val x = (y : 'a)":                           api.ErrName,
		"fun f x = (x : 'a)":                         api.ErrName,
	})
	expectChecked(t, api.CatSpec, map[string]api.Errno{
		"val x : 'a":               api.OK,
		"val x : 'a -> ('b, 'c) t": api.OK,
		"type ('a, 'b) t":          api.OK,
		"type 'a t = 'a":           api.OK,
		"type 'a t = 'b":           api.ErrName,
		"data 'a t = C of 'a":      api.OK,
		"data 'a t = C of 'b":      api.ErrName,
		"structure M : sig val x : 'a type t = 'a end":    api.ErrName,
		"structure M : sig val x : 'a type 'a t = 'a end": api.OK,
	})
	expectChecked(t, api.CatSig, map[string]api.Errno{
		"S with type t = 'a":                              api.ErrName,
		"S with type 'a t = 'a":                           api.OK,
		"S with type 'a t = 'a with type u = 'a":          api.ErrName,
		"S with type 'a t = 'a with type 'b u = 'b":       api.OK,
		"sig type 'a t val x : 'a t end with type t = 'a": api.ErrName,
	})
	expectChecked(t, api.CatMod, map[string]api.Errno{
		"struct type 'a t = 'a type u = 'a end":                             api.ErrName,
		"struct type 'a t = 'a val x = (y : 'a) end":                        api.ErrName,
		"struct end : sig val x : 'a end":                                   api.OK,
		"functor (X : sig val x : 'a end) => struct val y = (X.x : 'a) end": api.ErrName,
	})
}

// P7.3: a node comes before its parts, and one part after the other.
func TestOrderOfFaults(t *testing.T) {
	expectChecked(t, api.CatExpr, map[string]api.Errno{
		"case () of (x, x) => (x : 'a) end":                      api.ErrTwice,
		"case (y : 'a) of (x, x) => x end":                       api.ErrName,
		"case () of x => (x : 'a) | (x, x) => x end":             api.ErrName,
		"case () of (x, x) => x | x => (x : 'a) end":             api.ErrTwice,
		"(case () of (x, x) => x end : 'a)":                      api.ErrTwice,
		"((x : 'a), case () of (x, x) => x end)":                 api.ErrName,
		"(case () of (x, x) => x end, (x : 'a))":                 api.ErrTwice,
		"let fun f x x = (x : 'a) in f end":                      api.ErrTwice,
		"let fun f x = (x : 'a) fun g x x = x in f end":          api.ErrName,
		"let fun g x x = x fun f x = (x : 'a) in f end":          api.ErrTwice,
		"let val x = (x : 'a) in case () of (x, x) => 1 end end": api.ErrName,
	})
	expectChecked(t, api.CatSig, map[string]api.Errno{
		"sig type t = 'a type t end":                                 api.ErrTwice,
		"sig type t = 'a type u = v end":                             api.ErrName,
		"sig type t = 'a structure M : sig type u type u end end":    api.ErrName,
		"sig structure M : sig type u type u end type t = 'a end":    api.ErrTwice,
		"functor (X : sig type t = 'a end) => sig type u type u end": api.ErrName,
		"functor (X : sig type u type u end) => sig type t = 'a end": api.ErrTwice,
		"sig type t type t end with type t = 'a":                     api.ErrTwice,
		"sig type t = 'a end with type t = u":                        api.ErrName,
	})
}

// P7.3: ErrArg comes first.
func TestCheckRefuses(t *testing.T) {
	twice := node(api.PtTuple, named(api.PtVar, "x"), named(api.PtVar, "x"))
	for cat := -1; cat < 10; cat++ {
		wrong := append(malformed(), api.Syn{}, node(api.XRule, twice, path(api.XVar, "x")), named(api.DCtor, "C", named(api.TyVar, "'a")),
			node(api.PtTuple, twice, named(api.PtVar, "X")), node(api.TyArrow, named(api.TyVar, "'a"), named(api.TyVar, "a")),
			node(api.GSig, named(api.SpType, "t"), named(api.SpType, "t"), named(api.SpType, "T")))
		for _, x := range wrong {
			if e := Check(cat, x); e != api.ErrArg {
				t.Error(cat, x, e)
			}
		}
		for right, x := range map[int]api.Syn{api.CatPat: twice, api.CatSig: node(api.GSig, named(api.SpType, "t"), named(api.SpType, "t"))} {
			if e := Check(cat, x); cat == right && e != api.ErrTwice || cat != right && e != api.ErrArg {
				t.Error(cat, x, e)
			}
		}
		if e := Check(cat, named(api.TyVar, "'a")); cat == api.CatType && e != api.ErrName || cat != api.CatType && e != api.ErrArg {
			t.Error(cat, e)
		}
		d := named(api.DType, "t", named(api.TyVar, "'a"))
		want := api.ErrArg
		if cat == api.CatDecl || cat == api.CatSpec {
			want = api.ErrName
		}
		if e := Check(cat, d); e != want {
			t.Error(cat, e)
		}
	}
}
