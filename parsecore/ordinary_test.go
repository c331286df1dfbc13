package parsecore

import (
	"testing"

	"pilaster/api"
)

type example struct {
	s string
	t api.Syn
}

func checkExamples(t *testing.T, rule string, l []example) {
	t.Helper()
	for _, x := range l {
		expectSource(t, rule, x.s, x.t, api.Pos{}, api.OK)
		expectAt(t, rule, tokens(x.s), 0, x.t, len(tokens(x.s))-1, api.OK)
		checkSource(t, rule, x.s)
	}
}

func TestTypesOrdinary(t *testing.T) {
	a, b, c := typ("a"), typ("b"), typ("c")
	checkExamples(t, "type", []example{
		{"int", typ("int")},
		{"M.N.t", typ("M.N.t")},
		{"M . t", typ("M.t")},
		{"'a", named(api.TyVar, "'a")},
		{"'end", named(api.TyVar, "'end")},
		{"(module S)", path(api.TyPack, "S")},
		{"( module M.N.S )", path(api.TyPack, "M.N.S")},
		{"a -> b", node(api.TyArrow, a, b)},
		{"a -> b -> c", node(api.TyArrow, a, node(api.TyArrow, b, c))},
		{"(a -> b) -> c", node(api.TyArrow, node(api.TyArrow, a, b), c)},
		{"a * b", node(api.TyTuple, a, b)},
		{"a * b * c", node(api.TyTuple, a, b, c)},
		{"(a * b) * c", node(api.TyTuple, node(api.TyTuple, a, b), c)},
		{"a * (b * c)", node(api.TyTuple, a, node(api.TyTuple, b, c))},
		{"a * b -> b * c", node(api.TyArrow, node(api.TyTuple, a, b), node(api.TyTuple, b, c))},
		{"a * (b -> c)", node(api.TyTuple, a, node(api.TyArrow, b, c))},
		{"a b", typ("b", a)},
		{"a b c", typ("c", typ("b", a))},
		{"'a M.b c", typ("c", typ("M.b", named(api.TyVar, "'a")))},
		{"(a) b", typ("b", a)},
		{"(a, b) c", typ("c", a, b)},
		{"(a, b) c a", typ("a", typ("c", a, b))},
		{"(a, b, c, 'a) M.N.t", typ("M.N.t", a, b, c, named(api.TyVar, "'a"))},
		{"((a, b) c, a -> b) c", typ("c", typ("c", a, b), node(api.TyArrow, a, b))},
		{"(a * b) c", typ("c", node(api.TyTuple, a, b))},
		{"a b * c", node(api.TyTuple, typ("b", a), c)},
		{"(module S) a", typ("a", path(api.TyPack, "S"))},
		{"((module S))", path(api.TyPack, "S")},
		{"(((a)))", a},
		{"((a)b)", typ("b", a)},
	})
}

func TestPatternsOrdinary(t *testing.T) {
	x, y, null := named(api.PtVar, "x"), named(api.PtVar, "y"), path(api.PtCtor, "Nil")
	checkExamples(t, "pattern", []example{
		{"_", node(api.PtAny)},
		{"x", x},
		{"0", number(api.PtInt, 0)},
		{"4503599627370496", number(api.PtInt, api.MaxNumber)},
		{"~ 7", number(api.PtInt, -7)},
		{"~0", number(api.PtInt, 0)},
		{"~4503599627370496", number(api.PtInt, -api.MaxNumber)},
		{"Nil", null},
		{"M.N.Nil", path(api.PtCtor, "M.N.Nil")},
		{"Some x", path(api.PtCtor, "Some", x)},
		{"Some _", path(api.PtCtor, "Some", node(api.PtAny))},
		{"Some 7", path(api.PtCtor, "Some", number(api.PtInt, 7))},
		{"M.Some ~7", path(api.PtCtor, "M.Some", number(api.PtInt, -7))},
		{"Some ()", path(api.PtCtor, "Some", node(api.PtTuple))},
		{"Some Nil", path(api.PtCtor, "Some", null)},
		{"M.Some M.Nil", path(api.PtCtor, "M.Some", path(api.PtCtor, "M.Nil"))},
		{"Some (Some x)", path(api.PtCtor, "Some", path(api.PtCtor, "Some", x))},
		{"Cons (x, y)", path(api.PtCtor, "Cons", node(api.PtTuple, x, y))},
		{"()", node(api.PtTuple)},
		{"(x)", x},
		{"(Some x)", path(api.PtCtor, "Some", x)},
		{"(x, y)", node(api.PtTuple, x, y)},
		{"(x, y, Some x)", node(api.PtTuple, x, y, path(api.PtCtor, "Some", x))},
		{"((x, y), (), (x))", node(api.PtTuple, node(api.PtTuple, x, y), node(api.PtTuple), x)},
		{"((()))", node(api.PtTuple)},
	})
}

func TestExpressionsOrdinary(t *testing.T) {
	x, y, f, one := value("x"), value("y"), value("f"), number(api.XInt, 1)
	sig := path(api.GPath, "N.S")
	checkExamples(t, "expression", []example{
		{"1", one},
		{"4503599627370496", number(api.XInt, api.MaxNumber)},
		{`"a\"\n"`, named(api.XText, "a\"\n")},
		{`""`, named(api.XText, "")},
		{`"("`, named(api.XText, "(")},
		{"x", x},
		{"M.N.x", value("M.N.x")},
		{"M", path(api.XCtor, "M")},
		{"M.N.C", path(api.XCtor, "M.N.C")},
		{"()", node(api.XTuple)},
		{"(x)", x},
		{"(((x)))", x},
		{"(x, y)", node(api.XTuple, x, y)},
		{"(x, (), (y, 1))", node(api.XTuple, x, node(api.XTuple), node(api.XTuple, y, one))},
		{"(x : int)", node(api.XAnnot, x, typ("int"))},
		{"((x : int) : M.t -> int)", node(api.XAnnot, node(api.XAnnot, x, typ("int")), node(api.TyArrow, typ("M.t"), typ("int")))},
		{"(fn x => x : int)", node(api.XAnnot, named(api.XFn, "x", x), typ("int"))},
		{"(pack M : N.S)", path(api.XPack, "M", sig)},
		{"(pack M.C : N.S)", path(api.XPack, "M.C", sig)},
		{"f x", apply(f, x)},
		{"f x y 1", apply(f, x, y, one)},
		{"f (x y) ()", apply(f, apply(x, y), node(api.XTuple))},
		{`M.f M N.C "a" x`, apply(value("M.f"), path(api.XCtor, "M"), path(api.XCtor, "N.C"), named(api.XText, "a"), x)},
		{"f let in x end case x of _ => y end (pack M : N.S)", apply(f, node(api.XLet, x),
			node(api.XCase, x, node(api.XRule, node(api.PtAny), y)), path(api.XPack, "M", sig))},
		{"fn x => y", named(api.XFn, "x", y)},
		{"fn _ => y", named(api.XFn, "", y)},
		{"fn x => fn y => f x", named(api.XFn, "x", named(api.XFn, "y", apply(f, x)))},
		{"if x then y else 1", node(api.XIf, x, y, one)},
		{"if if x then x else y then fn x => x else if x then y else 1", node(api.XIf, node(api.XIf, x, x, y),
			named(api.XFn, "x", x), node(api.XIf, x, y, one))},
		{"case x of y => 1 end", node(api.XCase, x, node(api.XRule, named(api.PtVar, "y"), one))},
		{"case fn x => x of 1 => x | ~1 => fn _ => y | Some x => if x then x else y end", node(api.XCase, named(api.XFn, "x", x),
			node(api.XRule, number(api.PtInt, 1), x), node(api.XRule, number(api.PtInt, -1), named(api.XFn, "", y)),
			node(api.XRule, path(api.PtCtor, "Some", named(api.PtVar, "x")), node(api.XIf, x, x, y)))},
		{"case x of _ => case y of _ => 1 | () => x end | (x) => y end", node(api.XCase, x,
			node(api.XRule, node(api.PtAny), node(api.XCase, y, node(api.XRule, node(api.PtAny), one), node(api.XRule, node(api.PtTuple), x))),
			node(api.XRule, named(api.PtVar, "x"), y))},
	})
}

func TestOperators(t *testing.T) {
	a, b, c, d := value("a"), value("b"), value("c"), value("d")
	op := func(n int, l ...api.Syn) api.Syn { return number(api.XOp, n, l...) }
	checkExamples(t, "expression", []example{
		{"1 + 2 * x", op(api.OpAdd, number(api.XInt, 1), op(api.OpMul, number(api.XInt, 2), value("x")))},
		{"a orelse b", op(api.OpOr, a, b)},
		{"a andalso b", op(api.OpAnd, a, b)},
		{"a = b", op(api.OpEqual, a, b)},
		{"a < b", op(api.OpLess, a, b)},
		{"a <= b", op(api.OpAtMost, a, b)},
		{"a ^ b", op(api.OpConcat, a, b)},
		{"a + b", op(api.OpAdd, a, b)},
		{"a - b", op(api.OpSub, a, b)},
		{"a * b", op(api.OpMul, a, b)},
		{"a div b", op(api.OpDiv, a, b)},
		{"a mod b", op(api.OpMod, a, b)},
		{"~ a", op(api.OpNeg, a)},
		{"~1", op(api.OpNeg, number(api.XInt, 1))},
		{"~ ~ a", op(api.OpNeg, op(api.OpNeg, a))},
		{"~ f a", op(api.OpNeg, apply(value("f"), a))},
		{"~ a * ~ b", op(api.OpMul, op(api.OpNeg, a), op(api.OpNeg, b))},
		{"a - ~ b", op(api.OpSub, a, op(api.OpNeg, b))},
		{"f (~ a) b", apply(value("f"), op(api.OpNeg, a), b)},
		{"f a + f b", op(api.OpAdd, apply(value("f"), a), apply(value("f"), b))},
		{"a orelse b orelse c", op(api.OpOr, a, op(api.OpOr, b, c))},
		{"a andalso b andalso c", op(api.OpAnd, a, op(api.OpAnd, b, c))},
		{"a ^ b ^ c", op(api.OpConcat, a, op(api.OpConcat, b, c))},
		{"a + b - c + d", op(api.OpAdd, op(api.OpSub, op(api.OpAdd, a, b), c), d)},
		{"a * b div c mod d", op(api.OpMod, op(api.OpDiv, op(api.OpMul, a, b), c), d)},
		{"a - (b - c)", op(api.OpSub, a, op(api.OpSub, b, c))},
		{"a orelse b andalso c", op(api.OpOr, a, op(api.OpAnd, b, c))},
		{"a andalso b orelse c andalso d", op(api.OpOr, op(api.OpAnd, a, b), op(api.OpAnd, c, d))},
		{"a = b andalso c < d", op(api.OpAnd, op(api.OpEqual, a, b), op(api.OpLess, c, d))},
		{"a ^ b = c ^ d", op(api.OpEqual, op(api.OpConcat, a, b), op(api.OpConcat, c, d))},
		{"a + b <= c * d", op(api.OpAtMost, op(api.OpAdd, a, b), op(api.OpMul, c, d))},
		{"a + b ^ c - d", op(api.OpConcat, op(api.OpAdd, a, b), op(api.OpSub, c, d))},
		{"a mod b + c * d", op(api.OpAdd, op(api.OpMod, a, b), op(api.OpMul, c, d))},
		{"(a = b) = c", op(api.OpEqual, op(api.OpEqual, a, b), c)},
		{"(a orelse b) andalso c", op(api.OpAnd, op(api.OpOr, a, b), c)},
		{"fn x => a + b", named(api.XFn, "x", op(api.OpAdd, a, b))},
		{"if a = b then a + b else a - b", node(api.XIf, op(api.OpEqual, a, b), op(api.OpAdd, a, b), op(api.OpSub, a, b))},
	})
}

func TestDeclarations(t *testing.T) {
	x, y, p := value("x"), value("y"), value("p")
	fun := func(s string, names []string, x api.Syn) api.Syn {
		return api.Syn{Op: api.DFun, S: s, Names: names, L: []api.Syn{x}}
	}
	equal := number(api.XOp, api.OpEqual, x, y)
	checkExamples(t, "expression", []example{
		{"let in x end", node(api.XLet, x)},
		{"let val x = y in x end", node(api.XLet, named(api.DVal, "x", y), x)},
		{"let val x = x = y in x = y end", node(api.XLet, named(api.DVal, "x", equal), equal)},
		{"let fun f x = y in x end", node(api.XLet, fun("f", []string{"x"}, y), x)},
		{"let fun f x x y = x y in x end", node(api.XLet, fun("f", []string{"x", "x", "y"}, apply(x, y)), x)},
		{"let structure S = unpack p : M in x end", node(api.XLet, named(api.DUnpack, "S", p, path(api.GPath, "M")), x)},
		{"let structure S = unpack (p x) : M.N in x end", node(api.XLet, named(api.DUnpack, "S", apply(p, x), path(api.GPath, "M.N")), x)},
		{"let structure S = unpack M.p : M val x = fn x => y fun f x = x in fn x => y end", node(api.XLet,
			named(api.DUnpack, "S", value("M.p"), path(api.GPath, "M")), named(api.DVal, "x", named(api.XFn, "x", y)), fun("f", []string{"x"}, x),
			named(api.XFn, "x", y))},
		{"let val x = let val x = y in x end in x end y", apply(node(api.XLet, named(api.DVal, "x", node(api.XLet, named(api.DVal, "x", y), x)), x), y)},
	})
}

// wrong is a text with the column of the token that cannot stand there.
type wrong struct {
	s      string
	column int
	e      api.Errno
}

func checkWrong(t *testing.T, rule string, l []wrong) {
	t.Helper()
	for _, x := range l {
		expectSource(t, rule, x.s, api.Syn{}, api.Pos{Line: 1, Column: x.column}, x.e)
		checkSource(t, rule, x.s)
	}
}

func TestWrongTypes(t *testing.T) {
	checkWrong(t, "type", []wrong{
		{"", 1, api.ErrEnd}, {"M", 2, api.ErrEnd}, {"M.", 3, api.ErrEnd}, {"a M", 4, api.ErrEnd}, {"a ->", 5, api.ErrEnd}, {"a *", 4, api.ErrEnd},
		{"(", 2, api.ErrEnd}, {"(a", 3, api.ErrEnd}, {"(a,", 4, api.ErrEnd}, {"(a, b)", 7, api.ErrEnd}, {"(module", 8, api.ErrEnd},
		{"(module M", 10, api.ErrEnd}, {"(module M.", 11, api.ErrEnd}, {"(* *)", 6, api.ErrEnd},
		{"M -> a", 3, api.ErrForm}, {"M * a", 3, api.ErrForm}, {"M M.t", 3, api.ErrForm}, {"M.(a)", 3, api.ErrForm}, {"a.t", 2, api.ErrForm},
		{"a M.N b", 7, api.ErrForm}, {"a 'b", 3, api.ErrForm}, {"a (b)", 3, api.ErrForm}, {"a 1", 3, api.ErrForm}, {"1", 1, api.ErrForm},
		{"\"a\"", 1, api.ErrForm}, {"()", 2, api.ErrForm}, {"(a,)", 4, api.ErrForm}, {"(, a) t", 2, api.ErrForm}, {"(a b, c) -> d", 10, api.ErrForm},
		{"(a, b) * c", 8, api.ErrForm}, {"(a, b) 'c", 8, api.ErrForm}, {"((a, b))", 8, api.ErrForm}, {"(a))", 4, api.ErrForm},
		{"-> a", 1, api.ErrForm}, {"a -> -> b", 6, api.ErrForm}, {"a ** b", 4, api.ErrForm}, {"module M", 1, api.ErrForm},
		{"(module a)", 9, api.ErrForm}, {"(module M.t)", 11, api.ErrForm}, {"(module M, a) t", 10, api.ErrForm}, {"(module (M))", 9, api.ErrForm},
		{"(module M -> a)", 11, api.ErrForm}, {"_", 1, api.ErrForm}, {"a = b", 3, api.ErrForm}, {"a, b", 2, api.ErrForm}, {"end", 1, api.ErrForm},
	})
}

func TestWrongPatterns(t *testing.T) {
	checkWrong(t, "pattern", []wrong{
		{"", 1, api.ErrEnd}, {"~", 2, api.ErrEnd}, {"M.", 3, api.ErrEnd}, {"C M.", 5, api.ErrEnd}, {"C ~", 4, api.ErrEnd}, {"(", 2, api.ErrEnd},
		{"(x", 3, api.ErrEnd}, {"(x,", 4, api.ErrEnd}, {"(C", 3, api.ErrEnd},
		{"C D E", 5, api.ErrForm}, {"C x y", 5, api.ErrForm}, {"C (D) E", 7, api.ErrForm}, {"C (D E) F", 9, api.ErrForm}, {"(C) x", 5, api.ErrForm},
		{"x y", 3, api.ErrForm}, {"x C", 3, api.ErrForm}, {"_ _", 3, api.ErrForm}, {"7 7", 3, api.ErrForm}, {"() ()", 4, api.ErrForm},
		{"M.x", 3, api.ErrForm}, {"C M.x", 5, api.ErrForm}, {"x.y", 2, api.ErrForm}, {"M.N.7", 5, api.ErrForm}, {"(x,)", 4, api.ErrForm}, {"(,)", 2, api.ErrForm},
		{"(x y)", 4, api.ErrForm}, {"x, y", 2, api.ErrForm}, {"~ x", 3, api.ErrForm}, {"~ ~ 7", 3, api.ErrForm}, {"~ (7)", 3, api.ErrForm},
		{"\"a\"", 1, api.ErrForm}, {"C \"a\"", 3, api.ErrForm}, {"'a", 1, api.ErrForm}, {"fn", 1, api.ErrForm}, {"(x : int)", 4, api.ErrForm},
		{"C = x", 3, api.ErrForm}, {"x | y", 3, api.ErrForm}, {")", 1, api.ErrForm},
	})
}

func TestWrongExpressions(t *testing.T) {
	checkWrong(t, "expression", []wrong{
		{"", 1, api.ErrEnd}, {"if a then b", 12, api.ErrEnd}, {"if", 3, api.ErrEnd}, {"if a", 5, api.ErrEnd}, {"fn", 3, api.ErrEnd}, {"fn x", 5, api.ErrEnd},
		{"fn x =>", 8, api.ErrEnd}, {"M.", 3, api.ErrEnd}, {"f M.N.", 7, api.ErrEnd}, {"a +", 4, api.ErrEnd}, {"~", 2, api.ErrEnd}, {"(", 2, api.ErrEnd},
		{"(a", 3, api.ErrEnd}, {"(a :", 5, api.ErrEnd}, {"(a : int", 9, api.ErrEnd}, {"(a : M", 7, api.ErrEnd}, {"(pack", 6, api.ErrEnd},
		{"(pack M", 8, api.ErrEnd}, {"(pack M :", 10, api.ErrEnd}, {"(pack M : S", 12, api.ErrEnd}, {"let", 4, api.ErrEnd}, {"let val x = 1", 14, api.ErrEnd},
		{"let in", 7, api.ErrEnd}, {"let in a", 9, api.ErrEnd}, {"case", 5, api.ErrEnd}, {"case a of", 10, api.ErrEnd}, {"case a of b => c", 17, api.ErrEnd},
		{"a = b = c", 7, api.ErrForm}, {"a < b <= c", 7, api.ErrForm}, {"(a = b = c)", 8, api.ErrForm}, {"a ^ b = c = d", 11, api.ErrForm},
		{"a + fn x => x", 5, api.ErrForm}, {"a orelse if b then c else d", 10, api.ErrForm}, {"~ fn x => x", 3, api.ErrForm}, {"f fn x => x", 3, api.ErrForm},
		{"f if a then b else c", 3, api.ErrForm}, {"f ~ 1", 3, api.ErrForm}, {"~ ~", 4, api.ErrEnd}, {"+ a", 1, api.ErrForm}, {"a * * b", 5, api.ErrForm},
		{"a div", 6, api.ErrEnd}, {"a mod mod b", 7, api.ErrForm}, {"fn M => a", 4, api.ErrForm}, {"fn (x) => a", 4, api.ErrForm}, {"fn 1 => a", 4, api.ErrForm},
		{"fn x y => a", 6, api.ErrForm}, {"fn => a", 4, api.ErrForm}, {"fn x -> a", 6, api.ErrForm}, {"_", 1, api.ErrForm}, {"x.y", 2, api.ErrForm},
		{"M.x.y", 4, api.ErrForm}, {"M.1", 3, api.ErrForm}, {"M.(x)", 3, api.ErrForm}, {"(a,)", 4, api.ErrForm}, {"(a, b : int)", 7, api.ErrForm},
		{"(a : int, b)", 9, api.ErrForm}, {"(a : int : int)", 10, api.ErrForm}, {"(a : 1)", 6, api.ErrForm}, {"(: int)", 2, api.ErrForm}, {"a : int", 3, api.ErrForm},
		{"(pack m : S)", 7, api.ErrForm}, {"(pack M.x : S)", 9, api.ErrForm}, {"(pack M : s)", 11, api.ErrForm}, {"(pack M)", 8, api.ErrForm},
		{"(pack M : S.t)", 13, api.ErrForm}, {"(pack M : S -> a)", 13, api.ErrForm}, {"pack M : S", 1, api.ErrForm}, {"f (pack (M) : S)", 9, api.ErrForm},
		{"(pack M :> S)", 9, api.ErrForm}, {"if a else b", 6, api.ErrForm}, {"if then", 4, api.ErrForm}, {"if a then b end", 13, api.ErrForm},
		{"case a of end", 11, api.ErrForm}, {"case a of | b => c end", 11, api.ErrForm}, {"case a of b => c |", 19, api.ErrEnd},
		{"case a of b => c | end", 20, api.ErrForm}, {"case a of b = c end", 13, api.ErrForm}, {"case a of \"b\" => c end", 11, api.ErrForm},
		{"case a of B C D => c end", 15, api.ErrForm}, {"case of b => c end", 6, api.ErrForm}, {"let a in b end", 5, api.ErrForm}, {"let end", 5, api.ErrForm},
		{"let in end", 8, api.ErrForm}, {"let val X = 1 in 2 end", 9, api.ErrForm}, {"let val x y = 1 in 2 end", 11, api.ErrForm}, {"let val _ = 1 in 2 end", 9, api.ErrForm},
		{"let val x = in 2 end", 13, api.ErrForm}, {"let fun f = 1 in 2 end", 11, api.ErrForm}, {"let fun f X = 1 in 2 end", 11, api.ErrForm},
		{"let fun f x M = 1 in 2 end", 13, api.ErrForm}, {"let fun F x = 1 in 2 end", 9, api.ErrForm}, {"let fun f _ = 1 in 2 end", 11, api.ErrForm},
		{"let structure s = unpack p : M in 1 end", 15, api.ErrForm}, {"let structure S = M in 1 end", 19, api.ErrForm}, {"let structure S = unpack p in 1 end", 28, api.ErrForm},
		{"let structure S = unpack p x : M in 1 end", 28, api.ErrForm}, {"let structure S = unpack p : M.t in 1 end", 32, api.ErrForm},
		{"let structure S = unpack ~ p : M in 1 end", 26, api.ErrForm}, {"let structure S = unpack fn", 26, api.ErrForm}, {"let structure S : M", 17, api.ErrForm},
		{"let type t = int in 1 end", 5, api.ErrForm}, {"let open M in 1 end", 5, api.ErrForm}, {"let val x = 1; in 1 end", 14, api.ErrForm},
		{"a b )", 5, api.ErrForm}, {"a end", 3, api.ErrForm}, {"a => b", 3, api.ErrForm}, {"a | b", 3, api.ErrForm}, {"a, b", 2, api.ErrForm}, {"a; b", 2, api.ErrForm},
		{"a > b", 3, api.ErrForm}, {"'a", 1, api.ErrForm}, {"sig", 1, api.ErrForm}, {"import", 1, api.ErrForm},
	})
}

func TestPlacesOfWrongTokens(t *testing.T) {
	for _, x := range []struct {
		s            string
		line, column int
		e            api.Errno
	}{
		{"a\n = b\n  = c", 3, 3, api.ErrForm},
		{"a +\n", 2, 1, api.ErrEnd},
		{"a + (* \n *)  ", 2, 6, api.ErrEnd},
		{"(* a\n *) )", 2, 5, api.ErrForm},
		{"\n\t\"a\" \"b\" :", 2, 10, api.ErrForm},
	} {
		expectSource(t, "expression", x.s, api.Syn{}, api.Pos{Line: x.line, Column: x.column}, x.e)
		checkSource(t, "expression", x.s)
	}
}

// What the lexer refuses comes before any token that cannot stand there, with the place that the lexer says.
func TestErrorsOfTheLexer(t *testing.T) {
	long := "abcdefghijklmnopqrstuvwxy"
	for _, x := range []wrong{
		{"= = 007", 5, api.ErrForm}, {"= !", 3, api.ErrForm}, {") 9007199254740992", 3, api.ErrBig}, {"+ \"a", 3, api.ErrEnd}, {"= (* a", 3, api.ErrEnd},
		{"= " + long, 3, api.ErrFull}, {"a\r", 2, api.ErrForm},
	} {
		for rule := range sourceFunctions() {
			checkWrong(t, rule, []wrong{x})
		}
	}
}
