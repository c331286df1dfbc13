package parsemod

import (
	"testing"

	"pilaster/api"
)

type example struct {
	s string
	t api.Syn
}

func checkExamples(t *testing.T, rule string, l []example) {
	t.Helper()
	for _, x := range l {
		expect(t, rule, x.s, result{trees: []api.Syn{x.t}})
		check(t, rule, x.s)
	}
}

func TestSignaturesOrdinary(t *testing.T) {
	s, u, empty := path(api.GPath, "S"), path(api.GPath, "T"), node(api.GSig)
	a, b := named(api.TyVar, "'a"), named(api.TyVar, "'b")
	with := func(t api.Syn, path, params string, as api.Syn) api.Syn {
		return api.Syn{Op: api.GWith, Names: typ(path).Names, L: []api.Syn{t, family(api.DType, params, "", as)}}
	}
	checkExamples(t, "signature", []example{
		{"S", s},
		{"M.N.S", path(api.GPath, "M.N.S")},
		{"(S)", s},
		{"((( M . S )))", path(api.GPath, "M.S")},
		{"sig end", empty},
		{"(sig end)", empty},
		{"S with type t = int", with(s, "t", "", typ("int"))},
		{"S with type M.N.t = int list", with(s, "M.N.t", "", typ("list", typ("int")))},
		{"S with type 'a t = 'a M.u", with(s, "t", "'a", typ("M.u", a))},
		{"S with type ('a, 'b) M.t = 'a -> 'b", with(s, "M.t", "'a 'b", node(api.TyArrow, a, b))},
		{"S with type ('a, 'b, 'c, 'd) t = int", with(s, "t", "'a 'b 'c 'd", typ("int"))},
		{"S with type t = int with type u = t", with(with(s, "t", "", typ("int")), "u", "", typ("t"))},
		{"S with type t = a * b with type u = (module T) with type v = 'a", with(with(with(s, "t", "", node(api.TyTuple, typ("a"), typ("b"))),
			"u", "", path(api.TyPack, "T")), "v", "", a)},
		{"sig end with type t = int", with(empty, "t", "", typ("int"))},
		{"(S with type t = int)", with(s, "t", "", typ("int"))},
		{"(S with type t = int) with type u = t", with(with(s, "t", "", typ("int")), "u", "", typ("t"))},
		{"functor (X : S) => T", binder(api.GFun, 1, "X", s, u)},
		{"generative (X : S) => T", binder(api.GFun, 0, "X", s, u)},
		{"functor (X : sig end) => sig end", binder(api.GFun, 1, "X", empty, empty)},
		{"functor (X : S with type t = int) => T with type u = X.t", binder(api.GFun, 1, "X", with(s, "t", "", typ("int")), with(u, "u", "", typ("X.t")))},
		{"functor (X : functor (Y : S) => T) => generative (Z : T) => S", binder(api.GFun, 1, "X", binder(api.GFun, 1, "Y", s, u), binder(api.GFun, 0, "Z", u, s))},
		{"(generative (X : (S)) => (T))", binder(api.GFun, 0, "X", s, u)},
		{"(functor (X : S) => T) with type t = int", with(binder(api.GFun, 1, "X", s, u), "t", "", typ("int"))},
		{"functor (X : S) => sig type t = X.u val f : t -> int end", binder(api.GFun, 1, "X", s,
			node(api.GSig, family(api.DType, "", "t", typ("X.u")), named(api.SpVal, "f", node(api.TyArrow, typ("t"), typ("int")))))},
	})
}

func TestSpecificationsOrdinary(t *testing.T) {
	s, a := path(api.GPath, "S"), named(api.TyVar, "'a")
	ctor := func(s string, l ...api.Syn) api.Syn { return named(api.DCtor, s, l...) }
	for _, x := range []struct {
		s string
		l []api.Syn
	}{
		{"val x : int", []api.Syn{named(api.SpVal, "x", typ("int"))}},
		{"val f : 'a M.t -> (module S) * 'a", []api.Syn{named(api.SpVal, "f", node(api.TyArrow, typ("M.t", a), node(api.TyTuple, path(api.TyPack, "S"), a)))}},
		{"type t", []api.Syn{named(api.SpType, "t")}},
		{"type 'a t", []api.Syn{family(api.SpType, "'a", "t")}},
		{"type ('a, 'b, 'c) t", []api.Syn{family(api.SpType, "'a 'b 'c", "t")}},
		{"type t = int", []api.Syn{family(api.DType, "", "t", typ("int"))}},
		{"type ('a, 'b) t = 'a", []api.Syn{family(api.DType, "'a 'b", "t", a)}},
		{"type t type u = t type v", []api.Syn{named(api.SpType, "t"), named(api.DType, "u", typ("t")), named(api.SpType, "v")}},
		{"data t = A", []api.Syn{family(api.DData, "", "t", ctor("A"))}},
		{"data 'a t = A | B of 'a | C of int * 'a t", []api.Syn{family(api.DData, "'a", "t", ctor("A"), ctor("B", a), ctor("C", node(api.TyTuple, typ("int"), typ("t", a))))}},
		{"data ('a, 'b) t = A of t -> t | B data u = C", []api.Syn{family(api.DData, "'a 'b", "t", ctor("A", node(api.TyArrow, typ("t"), typ("t"))), ctor("B")),
			family(api.DData, "", "u", ctor("C"))}},
		{"structure X : S", []api.Syn{named(api.SpStruct, "X", s)}},
		{"structure X : functor (Y : S) => S", []api.Syn{named(api.SpStruct, "X", binder(api.GFun, 1, "Y", s, s))}},
		{"structure X : sig type t end with type t = int val x : X.t", []api.Syn{named(api.SpStruct, "X",
			path(api.GWith, "t", node(api.GSig, named(api.SpType, "t")), node(api.DType, typ("int")))), named(api.SpVal, "x", typ("X.t"))}},
		{"signature T = S", []api.Syn{named(api.SpSig, "T", s)}},
		{"signature T = sig signature T = S end", []api.Syn{named(api.SpSig, "T", node(api.GSig, named(api.SpSig, "T", s)))}},
		{"include S", []api.Syn{node(api.SpInclude, s)}},
		{"include S with type t = int include (sig end)", []api.Syn{node(api.SpInclude, path(api.GWith, "t", s, node(api.DType, typ("int")))), node(api.SpInclude, node(api.GSig))}},
		{"sharing type t = u", []api.Syn{path(api.SpShare, "t", typ("u"))}},
		{"sharing type M.N.t = N.u sharing type t = t", []api.Syn{path(api.SpShare, "M.N.t", typ("N.u")), path(api.SpShare, "t", typ("t"))}},
	} {
		checkExamples(t, "signature", []example{
			{"sig " + x.s + " end", node(api.GSig, x.l...)},
			{"S with type t = int list", path(api.GWith, "t", s, node(api.DType, typ("list", typ("int"))))},
			{"sig structure X : sig " + x.s + " end " + x.s + " end", node(api.GSig, append([]api.Syn{named(api.SpStruct, "X", node(api.GSig, x.l...))}, x.l...)...)},
		})
	}
}

func TestModulesOrdinary(t *testing.T) {
	m, n, empty := path(api.MPath, "M"), path(api.MPath, "N"), node(api.MStruct)
	s, u := path(api.GPath, "S"), path(api.GPath, "T")
	apply := func(l ...api.Syn) api.Syn {
		t := l[0]
		for _, x := range l[1:] {
			t = node(api.MApp, t, x)
		}
		return t
	}
	p := value("p")
	checkExamples(t, "module", []example{
		{"M", m},
		{"M.N.C", path(api.MPath, "M.N.C")},
		{"(M)", m},
		{"((( M . N )))", path(api.MPath, "M.N")},
		{"struct end", empty},
		{"(struct end)", empty},
		{"M (N)", apply(m, n)},
		{"M(N)(M)", apply(m, n, m)},
		{"M ((N))", apply(m, n)},
		{"M (N (M))", apply(m, apply(n, m))},
		{"(M) (N)", apply(m, n)},
		{"(M (N)) (M.N)", apply(m, n, path(api.MPath, "M.N"))},
		{"struct end (struct end)", apply(empty, empty)},
		{"M (N : S)", apply(m, node(api.MShow, n, s))},
		{"M (functor (X : S) => X)", apply(m, binder(api.MFun, 1, "X", s, path(api.MPath, "X")))},
		{"M : S", node(api.MShow, m, s)},
		{"M :> S", node(api.MSeal, m, s)},
		{"M : S :> T", node(api.MSeal, node(api.MShow, m, s), u)},
		{"M :> S : T : S", node(api.MShow, node(api.MShow, node(api.MSeal, m, s), u), s)},
		{"M :> sig end", node(api.MSeal, m, node(api.GSig))},
		{"M :> (S with type t = int)", node(api.MSeal, m, path(api.GWith, "t", s, node(api.DType, typ("int"))))},
		{"M :> (functor (X : S) => T)", node(api.MSeal, m, binder(api.GFun, 1, "X", s, u))},
		{"(M :> S) (N)", apply(node(api.MSeal, m, s), n)},
		{"M (N) :> S", node(api.MSeal, apply(m, n), s)},
		{"functor (X : S) => M", binder(api.MFun, 1, "X", s, m)},
		{"generative (X : S) => M", binder(api.MFun, 0, "X", s, m)},
		{"functor (X : S) => M (X) :> T", binder(api.MFun, 1, "X", s, node(api.MSeal, apply(m, path(api.MPath, "X")), u))},
		{"(functor (X : S) => M) (N)", apply(binder(api.MFun, 1, "X", s, m), n)},
		{"generative (X : S with type t = int) => functor (Y : T) => Y", binder(api.MFun, 0, "X", path(api.GWith, "t", s, node(api.DType, typ("int"))),
			binder(api.MFun, 1, "Y", u, path(api.MPath, "Y")))},
		{"let in M end", node(api.MLet, m)},
		{"let val x = 1 open M in M :> S end", node(api.MLet, named(api.DVal, "x", number(1)), path(api.DOpen, "M"), node(api.MSeal, m, s))},
		{"let in functor (X : S) => M end (N)", apply(node(api.MLet, binder(api.MFun, 1, "X", s, m)), n)},
		{"let structure X = let in M end in X end", node(api.MLet, named(api.DStruct, "X", node(api.MLet, m)), path(api.MPath, "X"))},
		{"let val x = let val y = 1 in y end in M end", node(api.MLet, named(api.DVal, "x", node(api.XLet, named(api.DVal, "y", number(1)), value("y"))), m)},
		{"unpack p : S", node(api.MUnpack, p, s)},
		{"unpack M.p : M.N.S", node(api.MUnpack, value("M.p"), path(api.GPath, "M.N.S"))},
		{"unpack M.C : S", node(api.MUnpack, path(api.XCtor, "M.C"), s)},
		{"unpack C : S", node(api.MUnpack, path(api.XCtor, "C"), s)},
		{"unpack (p) : S", node(api.MUnpack, p, s)},
		{"unpack (p p) : S", node(api.MUnpack, node(api.XApp, p, p), s)},
		{"unpack 1 : S", node(api.MUnpack, number(1), s)},
		{`unpack "p" : S`, node(api.MUnpack, named(api.XText, "p"), s)},
		{"unpack () : S", node(api.MUnpack, node(api.XTuple), s)},
		{"unpack (pack M : S) : T", node(api.MUnpack, path(api.XPack, "M", s), u)},
		{"unpack (p : (module S)) : S", node(api.MUnpack, node(api.XAnnot, p, path(api.TyPack, "S")), s)},
		{"unpack let in p end : S", node(api.MUnpack, node(api.XLet, p), s)},
		{"unpack case p of _ => p end : S :> T", node(api.MSeal, node(api.MUnpack, node(api.XCase, p, node(api.XRule, node(api.PtAny), p)), s), u)},
		{"unpack p : S (M)", apply(node(api.MUnpack, p, s), m)},
		{"(unpack p : S) (M)", apply(node(api.MUnpack, p, s), m)},
		{"unpack p : S.F (M) : T", node(api.MShow, apply(node(api.MUnpack, p, path(api.GPath, "S.F")), m), u)},
	})
}

func TestDeclarationsOrdinary(t *testing.T) {
	x, one := value("x"), number(1)
	m, s, a := path(api.MPath, "M"), path(api.GPath, "S"), named(api.TyVar, "'a")
	fun := func(s, names string, x api.Syn) api.Syn { return family(api.DFun, names, s, x) }
	for _, c := range []struct {
		s string
		l []api.Syn
	}{
		{"", nil},
		{"val x = 1", []api.Syn{named(api.DVal, "x", one)}},
		{"val x = x = x val y = fn x => x", []api.Syn{named(api.DVal, "x", api.Syn{Op: api.XOp, N: api.OpEqual, L: []api.Syn{x, x}}), named(api.DVal, "y", named(api.XFn, "x", x))}},
		{"val x = x x val x = if x then 1 else x", []api.Syn{named(api.DVal, "x", node(api.XApp, x, x)), named(api.DVal, "x", node(api.XIf, x, one, x))}},
		{"fun f x = 1", []api.Syn{fun("f", "x", one)}},
		{"fun f x y x = x fun x x = x", []api.Syn{fun("f", "x y x", x), fun("x", "x", x)}},
		{"type t = int", []api.Syn{family(api.DType, "", "t", typ("int"))}},
		{"type 'a t = 'a M.u type ('a, 'b) u = 'a", []api.Syn{family(api.DType, "'a", "t", typ("M.u", a)), family(api.DType, "'a 'b", "u", a)}},
		{"data t = A", []api.Syn{family(api.DData, "", "t", named(api.DCtor, "A"))}},
		{"data ('a, 'b) t = A of 'a | B data 'a u = C", []api.Syn{family(api.DData, "'a 'b", "t", named(api.DCtor, "A", a), named(api.DCtor, "B")), family(api.DData, "'a", "u", named(api.DCtor, "C"))}},
		{"structure X = M", []api.Syn{named(api.DStruct, "X", m)}},
		{"structure X = M :> S structure Y = X (M)", []api.Syn{named(api.DStruct, "X", node(api.MSeal, m, s)), named(api.DStruct, "Y", node(api.MApp, path(api.MPath, "X"), m))}},
		{"structure X = struct structure Y = struct end end", []api.Syn{named(api.DStruct, "X", node(api.MStruct, named(api.DStruct, "Y", node(api.MStruct))))}},
		{"structure X = unpack x : S", []api.Syn{named(api.DStruct, "X", node(api.MUnpack, x, s))}},
		{"val x = let structure X = unpack x : S in x end", []api.Syn{named(api.DVal, "x", node(api.XLet, named(api.DUnpack, "X", x, s), x))}},
		{"signature T = S", []api.Syn{named(api.DSig, "T", s)}},
		{"signature T = S with type t = int signature U = sig val x : int end", []api.Syn{named(api.DSig, "T", path(api.GWith, "t", s, node(api.DType, typ("int")))),
			named(api.DSig, "U", node(api.GSig, named(api.SpVal, "x", typ("int"))))}},
		{"open M", []api.Syn{path(api.DOpen, "M")}},
		{"open M.N include M include M.N", []api.Syn{path(api.DOpen, "M.N"), path(api.DInclude, "M"), path(api.DInclude, "M.N")}},
		{"include M val x = 1 open M type t = int", []api.Syn{path(api.DInclude, "M"), named(api.DVal, "x", one), path(api.DOpen, "M"), named(api.DType, "t", typ("int"))}},
	} {
		want := result{trees: c.l}
		for _, rule := range []string{"decls", "unit"} {
			expect(t, rule, c.s, want)
			check(t, rule, c.s)
		}
		want.imports = []string{"A", "B"}
		expect(t, "unit", "import A, B; "+c.s, want)
		checkExamples(t, "module", []example{
			{"struct " + c.s + " end", node(api.MStruct, c.l...)},
			{"let " + c.s + " in M end", node(api.MLet, append(c.l[:len(c.l):len(c.l)], m)...)},
		})
	}
}

func TestImports(t *testing.T) {
	for _, x := range []struct {
		s string
		l []string
	}{
		{"", nil}, {"import A;", []string{"A"}}, {"import B,A,C;", []string{"B", "A", "C"}}, {"(* import *) import\nU\n;", []string{"U"}},
	} {
		expect(t, "unit", x.s, result{imports: x.l})
		check(t, "unit", x.s)
		one := []api.Syn{path(api.DOpen, "A")}
		expect(t, "unit", x.s+"open A", result{imports: x.l, trees: one})
	}
	expect(t, "decls", "import A;", column(1, api.ErrForm))
	expect(t, "module", "struct import A; end", column(8, api.ErrForm))
}

func TestNamesOfUnits(t *testing.T) {
	for _, name := range []string{"U", "Unit_1", "Val", "Abcdefghijklmnopqrstuvwx"} {
		if u, at, e := Unit(name, "open M"); u.Name != name || len(u.Decls) != 1 || at != (api.Pos{}) || e != api.OK {
			t.Error(name, u, at, e)
		}
	}
	// A wrong name counts before a wrong source.
	for _, name := range []string{"", "u", "val", "1", "U.V", "U ", " U", "_U", "É", "'U", "Abcdefghijklmnopqrstuvwxy", "U\x00"} {
		for _, s := range []string{"", "val x = 1", "val", "!", "\"", "import A, A;"} {
			if u, at, e := Unit(name, s); u.Name != "" || u.Imports != nil || u.Decls != nil || at != (api.Pos{}) || e != api.ErrArg {
				t.Error(name, s, u, at, e)
			}
		}
	}
}
