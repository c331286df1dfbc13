package printer

import (
	"testing"

	"pilaster/api"
	"pilaster/parsemod"
)

// expectAll compares the texts of sources, a category each, with the texts that are written by hand.
func expectAll(t *testing.T, cat int, texts map[string]string) {
	t.Helper()
	for s, want := range texts {
		x, e := parse(cat, s)
		if e != api.OK {
			t.Errorf("%q: %d", s, e)
			continue
		}
		if text, e := Print(cat, x); text != want || e != api.OK {
			t.Errorf("%q: %q, %d; want %q", s, text, e, want)
		}
	}
}

func TestTypes(t *testing.T) {
	expectAll(t, api.CatType, map[string]string{
		"'a":                          "'a",
		"(t)":                         "t",
		"M . N.t":                     "M.N.t",
		"(int list)M.t":               "int list M.t",
		"(a->b)t":                     "(a -> b) t",
		"(a*b)t":                      "(a * b) t",
		"(a,b*c,d->e)t":               "(a, b * c, d -> e) t",
		"((a,b)t,c)u v":               "((a, b) t, c) u v",
		"a->(b->c)":                   "a -> b -> c",
		"(a->b)->c":                   "(a -> b) -> c",
		"(a*b)->(c*d)":                "a * b -> c * d",
		"a*(b*c)":                     "a * (b * c)",
		"(a*b)*c":                     "(a * b) * c",
		"a*b*c":                       "a * b * c",
		"(a->b)*c":                    "(a -> b) * c",
		"(a t)*(module M.S)":          "a t * (module M.S)",
		"((module S))t":               "(module S) t",
		"((module S),(module T))t->u": "((module S), (module T)) t -> u",
	})
}

func TestPatterns(t *testing.T) {
	expectAll(t, api.CatPat, map[string]string{
		"_":                    "_",
		"(x)":                  "x",
		"0":                    "0",
		"~0":                   "0",
		"~ 4503599627370496":   "~ 4503599627370496",
		"M.A":                  "M.A",
		"A(B)":                 "A B",
		"A(B C)":               "A (B C)",
		"A(~ 1)":               "A ~ 1",
		"A()":                  "A ()",
		"A(x,_)":               "A (x, _)",
		"( )":                  "()",
		"(A,B 1,(C(_,(x,y))))": "(A, B 1, C (_, (x, y)))",
		"((x,y),())":           "((x, y), ())",
	})
}

func TestExpressions(t *testing.T) {
	expectAll(t, api.CatExpr, map[string]string{
		"(1 + 2)* ~x":                        "(1 + 2) * ~ x",
		"(0)":                                "0",
		`"a ( b" ^ ")" ^ ", ;"`:              `"a ( b" ^ ")" ^ ", ;"`,
		`"\"\\\n"`:                           `"\"\\\n"`,
		`f "("x")" `:                         `f "(" x ")"`,
		"M.x M.N.C":                          "M.x M.N.C",
		"fn x=>fn _=>(x,y)":                  "fn x => fn _ => (x, y)",
		"f x(y)(z w)":                        "f x y (z w)",
		"f(g)(fn x=>x)":                      "f g (fn x => x)",
		"f(if a then b else c)":              "f (if a then b else c)",
		"(f x)y":                             "f x y",
		"(~x)y":                              "(~ x) y",
		"~(x y)":                             "~ x y",
		"~(~x)":                              "~ ~ x",
		"~(x*y)":                             "~ (x * y)",
		"(~x)*(~y)":                          "~ x * ~ y",
		"()":                                 "()",
		"((),())":                            "((), ())",
		"(fn x=>x,(y:t),if a then b else c)": "(fn x => x, (y : t), if a then b else c)",
		"if(if a then b else c)then(fn x=>x)else(a orelse b)": "if if a then b else c then fn x => x else a orelse b",
		"(if a then b else c)orelse d":                        "(if a then b else c) orelse d",
		"a andalso(b andalso c)orelse(d)":                     "a andalso b andalso c orelse d",
		"(a andalso b)andalso c":                              "(a andalso b) andalso c",
		"a andalso(b orelse c)":                               "a andalso (b orelse c)",
		"(a=b)andalso(a<b)":                                   "a = b andalso a < b",
		"(a<=b)<=(b=c)":                                       "(a <= b) <= (b = c)",
		"(a^b)=(a^b)":                                         "a ^ b = a ^ b",
		"a^(b^c)":                                             "a ^ b ^ c",
		"(a^b)^c":                                             "(a ^ b) ^ c",
		"(a+b)^(a-b)":                                         "a + b ^ a - b",
		"(a+b)-c":                                             "a + b - c",
		"a+(b-c)":                                             "a + (b - c)",
		"(a*b)+(c div d)":                                     "a * b + c div d",
		"(a*b)mod c":                                          "a * b mod c",
		"a div(b mod c)":                                      "a div (b mod c)",
		"(a+b)div c":                                          "(a + b) div c",
		"(f a)*(f b)":                                         "f a * f b",
		"case a of _=>1|A x=>2|(x,y)=>(fn x=>x)end": "case a of _ => 1 | A x => 2 | (x, y) => fn x => x end",
		"(case a of x=>x end)(case a of x=>x end)":  "case a of x => x end case a of x => x end",
		"let in x end":                                           "let in x end",
		"(let in x end)(let in x end)":                           "let in x end let in x end",
		"let val x=1 val y=(fn _=>x)in(x,y)end":                  "let val x = 1 val y = fn _ => x in (x, y) end",
		"let fun f x y=1 structure X=unpack(f x):M.S in X.x end": "let fun f x y = 1 structure X = unpack (f x) : M.S in X.x end",
		"(x:a->b)":                "(x : a -> b)",
		"((fn x=>x:t):u)":         "((fn x => x : t) : u)",
		"((fn x=>x):u)":           "(fn x => x : u)",
		"((fn x=>(x:t)):u)":       "(fn x => (x : t) : u)",
		"f(x:t)(pack M.N:M.S)":    "f (x : t) (pack M.N : M.S)",
		"((x:t):u)":               "((x : t) : u)",
		"(pack M:S)":              "(pack M : S)",
		"((pack M:S),(pack N:T))": "((pack M : S), (pack N : T))",
		"(1-2)-(3-4)-5":           "1 - 2 - (3 - 4) - 5",
		"1<(2<3)":                 "1 < (2 < 3)",
		"a orelse(b orelse c)":    "a orelse b orelse c",
		"(a orelse b)orelse c":    "(a orelse b) orelse c",
		"(* one *)x(* two *)+y":   "x + y",
	})
}

func TestDeclarationsByHand(t *testing.T) {
	expectAll(t, api.CatDecl, map[string]string{
		"val x=(fn y=>y)":                          "val x = fn y => y",
		"fun f x y=(x)":                            "fun f x y = x",
		"type t=(a->b)":                            "type t = a -> b",
		"type 'a t='a":                             "type 'a t = 'a",
		"type('a,'b)t='a*'b":                       "type ('a, 'b) t = 'a * 'b",
		"data t=A|B of(a*b)|C of(a->b)|D":          "data t = A | B of a * b | C of a -> b | D",
		"data('a,'b,'c)t=A of('a,'b,'c)t":          "data ('a, 'b, 'c) t = A of ('a, 'b, 'c) t",
		"structure X=(functor(Y:S)=>Y)":            "structure X = functor (Y : S) => Y",
		"structure X=(unpack(x y):M.S)":            "structure X = unpack (x y) : M.S",
		"signature S=(T)":                          "signature S = T",
		"open M.N":                                 "open M.N",
		"include M.N":                              "include M.N",
		"structure M=struct end":                   "structure M = struct end",
		"structure M=let open N in(struct end)end": "structure M = let open N in struct end end",
	})
}

func TestSpecifications(t *testing.T) {
	expectAll(t, api.CatSpec, map[string]string{
		"val x:(a->b)":                       "val x : a -> b",
		"type t":                             "type t",
		"type 'a t":                          "type 'a t",
		"type('a,'b)t":                       "type ('a, 'b) t",
		"type('a,'b)t='a":                    "type ('a, 'b) t = 'a",
		"data 'a t=A|B of 'a":                "data 'a t = A | B of 'a",
		"structure X:(S with type t=int)":    "structure X : S with type t = int",
		"signature S=(functor(X:T)=>(U))":    "signature S = functor (X : T) => U",
		"include(S with type t=(u))":         "include S with type t = u",
		"sharing type t=M.N.u":               "sharing type t = M.N.u",
		"sharing type M.t=u":                 "sharing type M.t = u",
		"include sig include sig end end":    "include sig include sig end end",
		"structure X:functor(X:S)=>(M.S)":    "structure X : functor (X : S) => M.S",
		"structure X:(generative(X:S)=>M.S)": "structure X : generative (X : S) => M.S",
	})
}

func TestSignatures(t *testing.T) {
	expectAll(t, api.CatSig, map[string]string{
		"sig end": "sig end",
		"((M.S))": "M.S",
		"sig type t val x:t sharing type t=u end":               "sig type t val x : t sharing type t = u end",
		"functor(X:(S))=>(functor(Y:T)=>U)":                     "functor (X : S) => functor (Y : T) => U",
		"generative(X:(functor(Y:S)=>T))=>U":                    "generative (X : functor (Y : S) => T) => U",
		"functor(X:S)=>S with type t=int":                       "functor (X : S) => S with type t = int",
		"(functor(X:S)=>S)with type t=int":                      "(functor (X : S) => S) with type t = int",
		"(S with type t=int)with type 'a M.u=('a->'a)":          "S with type t = int with type 'a M.u = 'a -> 'a",
		"sig end with type('a,'b)t=('a,'b)u":                    "sig end with type ('a, 'b) t = ('a, 'b) u",
		"functor(X:(S with type t=int))=>(T with type t=X.t u)": "functor (X : S with type t = int) => T with type t = X.t u",
	})
}

func TestModules(t *testing.T) {
	expectAll(t, api.CatMod, map[string]string{
		"struct val x=1 structure M=struct end end": "struct val x = 1 structure M = struct end end",
		"((M.N))":                            "M.N",
		"functor(X:S)=>(generative(Y:T)=>M)": "functor (X : S) => generative (Y : T) => M",
		"functor(X:S)=>(X:>T)":               "functor (X : S) => X :> T",
		"(functor(X:S)=>X):>T":               "(functor (X : S) => X) :> T",
		"(functor(X:S)=>X)(M)":               "(functor (X : S) => X) (M)",
		"F(X)(Y)":                            "F (X) (Y)",
		"(F(X))(F(Y))":                       "F (X) (F (Y))",
		"F(functor(X:S)=>X)":                 "F (functor (X : S) => X)",
		"F(M:S)":                             "F (M : S)",
		"(M:S)(N)":                           "(M : S) (N)",
		"(M:S):>T:U":                         "M : S :> T : U",
		"M:>(S with type t=int)":             "M :> (S with type t = int)",
		"M:(functor(X:S)=>T)":                "M : (functor (X : S) => T)",
		"M:sig end":                          "M : sig end",
		"let in M end":                       "let in M end",
		"(let open M structure X=unpack x:S in(M:S)end)(M)": "let open M structure X = unpack x : S in M : S end (M)",
		"unpack(f x):S":         "unpack (f x) : S",
		"unpack(x):M.S":         "unpack x : M.S",
		"(unpack x:S):T":        "unpack x : S : T",
		"(unpack x:S)(M)":       "unpack x : S (M)",
		"unpack(fn x=>x):S":     "unpack (fn x => x) : S",
		"unpack(x:t):S":         "unpack (x : t) : S",
		"F(unpack(pack M:S):S)": "F (unpack (pack M : S) : S)",
	})
}

// A list of parts may be nil or empty.
func TestEmptyLists(t *testing.T) {
	for want, x := range map[string]sample{
		"t":          {api.CatType, api.Syn{Op: api.TyPath, Names: []string{"t"}, L: []api.Syn{}}},
		"A":          {api.CatPat, api.Syn{Op: api.PtCtor, Names: []string{"A"}, L: []api.Syn{}}},
		"()":         {api.CatExpr, api.Syn{Op: api.XTuple, L: []api.Syn{}}},
		"sig end":    {api.CatSig, api.Syn{Op: api.GSig, L: []api.Syn{}}},
		"struct end": {api.CatMod, api.Syn{Op: api.MStruct, L: []api.Syn{}}},
		"type t":     {api.CatSpec, api.Syn{Op: api.SpType, S: "t", Names: []string{}}},
	} {
		if s, e := Print(x.cat, x.t); s != want || e != api.OK {
			t.Error(x, s, e)
		}
	}
	for _, l := range [][]api.Syn{nil, {}} {
		if s, e := Decls(l); s != "" || e != api.OK {
			t.Error(s, e)
		}
		for _, imports := range [][]string{nil, {}} {
			if s, e := Unit(api.Unit{Name: "A", Imports: imports, Decls: l}); s != "" || e != api.OK {
				t.Error(s, e)
			}
		}
	}
}

func TestUnitsByHand(t *testing.T) {
	for s, want := range map[string]string{
		"":                                   "",
		" (* nothing *) ":                    "",
		"import A;":                          "import A;\n",
		"import B , A;open A":                "import B, A;\nopen A\n",
		"import U;":                          "import U;\n",
		"val x=1 val y=(\"\\n\")":            "val x = 1\nval y = \"\\n\"\n",
		"structure X=(unpack x:S)type t=a*b": "structure X = unpack x : S\ntype t = a * b\n",
	} {
		u, _, e := parsemod.Unit("U", s)
		if e != api.OK {
			t.Error(s, e)
			continue
		}
		if text, e := Unit(u); text != want || e != api.OK {
			t.Errorf("%q: %q, %d", s, text, e)
		}
		if len(u.Imports) > 0 {
			continue
		}
		if text, e := Decls(u.Decls); text != want || e != api.OK {
			t.Errorf("%q: %q, %d", s, text, e)
		}
	}
}

// The name of a unit is no part of its text.
func TestNamesOfUnits(t *testing.T) {
	d := api.Syn{Op: api.DOpen, Names: []string{"M"}}
	for _, name := range []string{"A", "B", "M", "Zz_9"} {
		u := api.Unit{Name: name, Imports: []string{"M"}, Decls: []api.Syn{d}}
		if s, e := Unit(u); s != "import M;\nopen M\n" || e != api.OK {
			t.Error(name, s, e)
		}
	}
}
