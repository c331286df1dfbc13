package kernel

import (
	"testing"

	"pilaster/api"
)

// P13.1: the kinds of terms one by one, with what is right, and with each fault.

func typeIs(x api.Term, want string) typing { return typing{x, want, api.OK} }

func faultIs(x api.Term, e api.Errno) typing { return typing{x, "", e} }

func TestExamples(t *testing.T) {
	expectTypings(t, api.Context{}, []typing{
		typeIs(tlam(star(), lam("#0", v(0))), "(all *. (#0 -> #0))"),
		faultIs(lam("int", app(v(0), v(0))), api.ErrType),
		faultIs(unpack(pack("int", "(some *. #0)", num(1)), v(0)), api.ErrEscape),
	})
}

func TestLeaves(t *testing.T) {
	expectTypings(t, api.Context{}, []typing{
		typeIs(num(0), "int"), typeIs(num(-api.MaxNumber), "int"), typeIs(str(""), "text"), typeIs(str("\xff"), "text"), faultIs(v(0), api.ErrName), faultIs(v(api.MaxNodes), api.ErrName),
		typeIs(fail("text"), "text"), typeIs(api.Term{Op: api.EFail, N: 1000000, Con: con("((fn *. {a: #0}) int)")}, "{a: int}"), faultIs(fail("#0"), api.ErrName), faultIs(fail("(fn *. int)"), api.ErrKind), faultIs(failed(wild()), api.ErrBudget), faultIs(fail("A.0{* -> *}"), api.ErrKind), typeIs(fail("A.0{*}"), "A.0{*}"),
	})
	// Variables have the types of the context, in their normal forms, from the last one on.
	expectTypings(t, in("*,* -> *", "#1", "(#0 #1)", "((fn *. (#0 -> #2)) int)", "(all *. (#1 #0))", "{a: ((fn * -> *. (#0 text)) (fn *. (#1 #0)))}"), []typing{
		typeIs(v(4), "#1"), typeIs(v(3), "(#0 #1)"), typeIs(v(2), "(int -> #1)"), typeIs(v(1), "(all *. (#1 #0))"), typeIs(v(0), "{a: (#0 text)}"), faultIs(v(5), api.ErrName), faultIs(v(6), api.ErrName),
	})
}

// Types of variables are shifted for each kind that has been added since, but not for those before.
func TestShiftedVariables(t *testing.T) {
	expectTypings(t, in("*", "#0"), []typing{
		typeIs(v(0), "#0"), typeIs(tlam(star(), v(0)), "(all *. #1)"), typeIs(tlam(one(), tlam(star(), v(0))), "(all * -> *. (all *. #2))"), typeIs(tlam(star(), lam("#0", v(1))), "(all *. (#0 -> #1))"), typeIs(tlam(star(), lam("#0", v(0))), "(all *. (#0 -> #0))"),
		typeIs(tlam(star(), lam("(#0 -> #1)", tlam(star(), lam("(#0 -> (#1 -> #2))", record("a b c", v(0), v(1), v(2)))))), "(all *. ((#0 -> #1) -> (all *. ((#0 -> (#1 -> #2)) -> {a: (#0 -> (#1 -> #2)), b: (#1 -> #2), c: #2}))))"),
		typeIs(tlam(star(), let(v(0), tlam(star(), v(0)))), "(all *. (all *. #2))"),
		// In and out again.
		typeIs(record("a b c d e", v(0), tlam(star(), v(0)), v(0), tlam(star(), tlam(star(), v(0))), tlam(star(), v(0))), "{a: #0, b: (all *. #1), c: #0, d: (all *. (all *. #2)), e: (all *. #1)}"),
		typeIs(tlam(star(), lam("(#0 -> #1)", record("a b c d", tlam(star(), v(0)), v(0), tlam(star(), record("1 2", v(1), v(0))), v(1)))), "(all *. ((#0 -> #1) -> {a: (all *. (#1 -> #2)), b: (#0 -> #1), c: (all *. {1: #2, 2: (#1 -> #2)}), d: #1}))"),
		typeIs(tlam(star(), fix("(#1 -> #0)", lam("#1", app(v(1), v(2))))), "(all *. (#1 -> #0))"),
		typeIs(tlam(star(), cases("A B", inject("A", "[A: #1 | B: #0]", v(0)), tlam(star(), v(0)), tlam(star(), v(1)))), "(all *. (all *. #2))"),
		typeIs(unpack(pack("int", "(some *. {a: #0, b: #1})", record("a b", num(1), v(0))), record("a b", v(1), proj("b", v(0)))), "{a: #0, b: #0}"),
		typeIs(unpack(pack("int", "(some *. {a: #0, b: (#0 -> #1)})", record("a b", num(1), lam("int", v(1)))), app(proj("b", v(0)), proj("a", v(0)))), "#0"),
	})
}

func TestFunctions(t *testing.T) {
	id := tlam(star(), lam("#0", v(0)))
	expectTypings(t, in("", "(int -> text)", "int", "((int -> text) -> {})"), []typing{
		// ELam
		typeIs(lam("int", v(0)), "(int -> int)"), typeIs(lam("int", v(1)), "(int -> ((int -> text) -> {}))"), typeIs(lam("((fn *. (#0 -> #0)) text)", v(0)), "((text -> text) -> (text -> text))"), typeIs(lam("int", lam("text", v(1))), "(int -> (text -> int))"),
		faultIs(lam("#0", num(1)), api.ErrName), faultIs(lam("(fn *. #0)", num(1)), api.ErrKind), faultIs(lam("A.0{* -> *}", v(0)), api.ErrKind), faultIs(typed(api.ELam, wild(), num(1)), api.ErrBudget), faultIs(lam("int", v(4)), api.ErrName),
		// EApp
		typeIs(app(v(2), v(1)), "text"), typeIs(app(v(0), v(2)), "{}"), typeIs(app(lam("((fn *. #0) int)", v(0)), num(1)), "int"), faultIs(app(v(1), v(1)), api.ErrType), faultIs(app(v(2), v(2)), api.ErrType), faultIs(app(v(2), str("x")), api.ErrType), faultIs(app(v(0), v(0)), api.ErrType), faultIs(app(id, num(1)), api.ErrType),
		typeIs(app(lam("(mu *. #0)", v(0)), fail("(mu *. #0)")), "(mu *. #0)"), faultIs(app(lam("(mu *. int)", v(0)), num(1)), api.ErrType), faultIs(app(lam("[A: int]", v(0)), fail("{A: int}")), api.ErrType), faultIs(app(lam("(all *. int)", v(0)), fail("(some *. int)")), api.ErrType), faultIs(app(lam("(all *. int)", v(0)), fail("(all * -> *. int)")), api.ErrType),
		// ETLam
		typeIs(id, "(all *. (#0 -> #0))"), typeIs(tlam(one(), fail("(#0 int)")), "(all * -> *. (#0 int))"), typeIs(tlam(star(), num(1)), "(all *. int)"), typeIs(tlam(kindOf("(* -> *) -> *"), fail("(#0 (fn *. #0))")), "(all (* -> *) -> *. (#0 (fn *. #0)))"), faultIs(tlam(star(), fail("#1")), api.ErrName), faultIs(tlam(one(), fail("#0")), api.ErrKind),
		// ETApp
		typeIs(tapp(id, "int"), "(int -> int)"), typeIs(tapp(id, "(all *. (#0 -> #0))"), "((all *. (#0 -> #0)) -> (all *. (#0 -> #0)))"), typeIs(tapp(tlam(one(), fail("(#0 int)")), "(fn *. (#0 -> text))"), "(int -> text)"), typeIs(tapp(id, "((fn *. #0) int)"), "(int -> int)"), typeIs(tapp(tlam(star(), tlam(star(), lam("#0", lam("#1", v(1))))), "int"), "(all *. (#0 -> (int -> #0)))"),
		faultIs(tapp(lam("int", v(0)), "int"), api.ErrType), faultIs(tapp(num(1), "int"), api.ErrType), faultIs(tapp(fail("(some *. #0)"), "int"), api.ErrType), faultIs(tapp(id, "(fn *. #0)"), api.ErrKind), faultIs(tapp(tlam(one(), num(1)), "int"), api.ErrKind), faultIs(tapp(tlam(one(), num(1)), "(fn *. #1)"), api.ErrName), faultIs(tapp(id, "#0"), api.ErrName),
	})
}

func TestPackages(t *testing.T) {
	to := "(some *. {a: #0, b: (#0 -> int)})"
	pair := record("a b", num(1), lam("int", v(0)))
	higher := "(some * -> *. (#0 int))"
	expectTypings(t, api.Context{}, []typing{
		// EPack
		typeIs(pack("int", to, pair), to), typeIs(pack("((fn *. #0) int)", "((fn *. (some *. {a: #0, b: (#0 -> #1)})) int)", pair), to), typeIs(pack("(fn *. (#0 -> #0))", higher, lam("int", v(0))), higher), typeIs(pack("(fn *. {})", higher, record("")), higher), typeIs(pack("{}", "(some *. int)", num(1)), "(some *. int)"),
		faultIs(pack("int", "(some *. #1)", num(1)), api.ErrName), faultIs(pack("int", "(some * -> *. #0)", num(1)), api.ErrKind), faultIs(packed(number(), wild(), num(1)), api.ErrBudget), faultIs(pack("int", "int", num(1)), api.ErrType), faultIs(pack("int", "(all *. #0)", num(1)), api.ErrType),
		faultIs(pack("#0", to, pair), api.ErrName), faultIs(pack("(fn *. #0)", to, pair), api.ErrKind), faultIs(pack("int", higher, num(1)), api.ErrKind), faultIs(pack("text", to, pair), api.ErrType), faultIs(pack("int", to, num(1)), api.ErrType), faultIs(pack("(fn *. text)", higher, num(1)), api.ErrType), faultIs(pack("int", to, pack("int", to, pair)), api.ErrType),
	})
	expectTypings(t, in("*", "#0"), []typing{
		// EUnpack
		typeIs(unpack(pack("int", to, pair), app(proj("b", v(0)), proj("a", v(0)))), "int"), typeIs(unpack(pack("int", to, pair), pack("#0", to, v(0))), to), typeIs(unpack(pack("int", to, pair), num(1)), "int"), typeIs(unpack(pack("int", to, pair), v(1)), "#0"), typeIs(unpack(pack("int", to, pair), fail("(#1 -> (all *. (#0 -> #2)))")), "(#0 -> (all *. (#0 -> #1)))"),
		// A type that does not depend on the variable may name it.
		typeIs(unpack(pack("int", to, pair), fail("((fn *. text) #0)")), "text"), typeIs(unpack(fail(higher), let(fail("(#0 text)"), num(1))), "int"),
		faultIs(unpack(num(1), num(1)), api.ErrType), faultIs(unpack(fail("(all *. #0)"), num(1)), api.ErrType), faultIs(unpack(pair, num(1)), api.ErrType), faultIs(unpack(fail("(mu *. (some *. #0))"), num(1)), api.ErrType),
		faultIs(unpack(pack("int", to, pair), v(0)), api.ErrEscape), faultIs(unpack(pack("int", to, pair), proj("b", v(0))), api.ErrEscape), faultIs(unpack(fail(higher), tlam(star(), lam("(#1 #0)", v(0)))), api.ErrEscape), faultIs(unpack(pack("int", to, pair), v(2)), api.ErrName), faultIs(unpack(pack("int", to, pair), fail("#2")), api.ErrName), faultIs(unpack(fail(higher), fail("#0")), api.ErrKind),
		// The next package may contain what the first one is about, but both are closed in the end.
		typeIs(unpack(pack("int", "(some *. #0)", num(1)), unpack(pack("#0", "(some *. {a: #0, b: #1})", record("a b", v(0), v(0))), num(3))), "int"), faultIs(unpack(pack("int", "(some *. #0)", num(1)), unpack(pack("#0", "(some *. {a: #0, b: #1})", record("a b", v(0), v(0))), proj("b", v(0)))), api.ErrEscape), faultIs(unpack(pack("int", "(some *. #0)", num(1)), unpack(pack("#0", "(some *. {a: #0, b: #1})", record("a b", v(0), v(0))), proj("a", v(0)))), api.ErrEscape),
	})
}

func TestRecordsAndSums(t *testing.T) {
	sum, three := "[A: int | B: text]", "[A: int | B: {} | C: int]"
	expectTypings(t, in("*", "#0", sum, three), []typing{
		// ERecord and EProj
		typeIs(record(""), "{}"), typeIs(record("a", num(1)), "{a: int}"), typeIs(record("1 2 b", num(1), str("x"), v(2)), "{1: int, 2: text, b: #0}"), faultIs(record("a b", num(1), v(3)), api.ErrName), typeIs(proj("b", record("a b", num(1), str("x"))), "text"), typeIs(proj("a", record("a b", num(1), str("x"))), "int"), typeIs(proj("A", proj("b", record("a b", num(1), record("A", v(2))))), "#0"),
		faultIs(proj("c", record("a b", num(1), str("x"))), api.ErrType), faultIs(proj("a", record("")), api.ErrType), faultIs(proj("A", v(1)), api.ErrType), faultIs(proj("a", num(1)), api.ErrType), faultIs(proj("a", fail("(mu *. {a: int})")), api.ErrType), faultIs(proj("a", v(3)), api.ErrName),
		// EInject
		typeIs(inject("A", sum, num(1)), sum), typeIs(inject("B", "((fn *. [A: #0 | B: text]) int)", str("x")), sum), typeIs(inject("A", "[A: (all *. (#0 -> #1))]", fail("(all *. (#0 -> #1))")), "[A: (all *. (#0 -> #1))]"), faultIs(inject("C", sum, num(1)), api.ErrType), faultIs(inject("A", "{A: int}", num(1)), api.ErrType), faultIs(inject("A", "int", num(1)), api.ErrType), faultIs(inject("A", "[]", num(1)), api.ErrType), faultIs(inject("A", "(mu *. [A: int])", num(1)), api.ErrType),
		faultIs(inject("A", sum, str("x")), api.ErrType), faultIs(inject("B", sum, num(1)), api.ErrType), faultIs(inject("A", "[A: #1]", num(1)), api.ErrName), faultIs(inject("A", "(fn *. [A: #0])", num(1)), api.ErrKind), faultIs(injected("A", wild(), num(1)), api.ErrBudget), faultIs(inject("A", sum, v(3)), api.ErrName),
		// ECase
		typeIs(cases("A B", v(1), v(0), num(1)), "int"), typeIs(cases("A B", v(1), v(3), v(3)), "#0"), typeIs(cases("A B C", v(0), v(0), num(1), v(0)), "int"), typeIs(cases("A", inject("A", "[A: int]", num(1)), record("a", v(0))), "{a: int}"), typeIs(cases("A B", v(1), lam("int", v(1)), lam("((fn *. #0) int)", v(0))), "(int -> int)"),
		faultIs(cases("A", v(1), v(0)), api.ErrType), faultIs(cases("B", v(1), v(0)), api.ErrType), faultIs(cases("A C", v(1), v(0), num(1)), api.ErrType), faultIs(cases("A B C", v(1), num(1), num(1), num(1)), api.ErrType), faultIs(cases("A B", v(0), num(1), num(1)), api.ErrType), faultIs(cases("A", fail("[]"), num(1)), api.ErrType), faultIs(cases("A", record("A", num(1)), num(1)), api.ErrType), faultIs(cases("A", fail("(mu *. [A: int])"), num(1)), api.ErrType), faultIs(cases("A B", num(1), num(1), num(1)), api.ErrType),
		faultIs(cases("A B", v(1), v(0), v(0)), api.ErrType), faultIs(cases("A B C", v(0), v(0), v(0), v(0)), api.ErrType), faultIs(cases("A B C", v(0), num(1), num(1), str("x")), api.ErrType), faultIs(cases("A B", v(1), v(4), num(1)), api.ErrName), faultIs(cases("A B", v(1), num(1), v(4)), api.ErrName), faultIs(cases("A B", v(3), num(1), num(1)), api.ErrName),
	})
}

func TestRecursion(t *testing.T) {
	nat, list := "(mu *. [S: #0 | Z: {}])", "(mu * -> *. (fn *. [Cons: {1: #0, 2: (#1 #0)} | Nil: {}]))"
	inner := "[S: (mu *. [S: #0 | Z: {}]) | Z: {}]"
	ints := "(" + list + " int)"
	innerInts := "[Cons: {1: int, 2: " + ints + "} | Nil: {}]"
	zero := roll(nat, inject("Z", inner, record("")))
	expectTypings(t, in("", nat, "(int -> int)"), []typing{
		// ERoll and EUnroll
		typeIs(zero, nat), typeIs(roll(nat, inject("S", inner, zero)), nat), typeIs(roll("((fn *. #0) "+nat+")", inject("S", inner, v(1))), nat), typeIs(unroll(v(1)), inner), typeIs(unroll(zero), inner), typeIs(roll(ints, inject("Nil", innerInts, record(""))), ints), typeIs(unroll(fail(ints)), innerInts), typeIs(unroll(fail("(mu *. #0)")), "(mu *. #0)"), typeIs(roll("(mu *. int)", num(1)), "(mu *. int)"), typeIs(unroll(unroll(fail("(mu *. (mu *. (#0 -> #1)))"))), "((mu *. (#0 -> (mu *. (mu *. (#0 -> #1))))) -> (mu *. (mu *. (#0 -> #1))))"),
		faultIs(roll("#0", num(1)), api.ErrName), faultIs(roll(list, num(1)), api.ErrKind), faultIs(typed(api.ERoll, wild(), num(1)), api.ErrBudget), faultIs(roll("int", num(1)), api.ErrType), faultIs(roll("(all *. #0)", num(1)), api.ErrType), faultIs(roll(nat, num(1)), api.ErrType), faultIs(roll(nat, zero), api.ErrType), faultIs(roll(nat, v(2)), api.ErrName), faultIs(unroll(num(1)), api.ErrType), faultIs(unroll(v(0)), api.ErrType), faultIs(unroll(v(2)), api.ErrName), faultIs(unroll(inject("Z", inner, record(""))), api.ErrType),
		// EFix
		typeIs(fix("(int -> int)", lam("int", app(v(1), v(0)))), "(int -> int)"), typeIs(fix("(int -> int)", lam("int", v(0))), "(int -> int)"), typeIs(fix("((fn *. (#0 -> #0)) int)", lam("int", app(v(2), v(0)))), "(int -> int)"), typeIs(fix("(all *. (#0 -> #0))", tlam(star(), lam("#0", app(tapp(v(1), "#0"), v(0))))), "(all *. (#0 -> #0))"), typeIs(fix("(int -> "+nat+")", lam("int", v(3))), "(int -> "+nat+")"),
		faultIs(fix("#0", lam("int", v(0))), api.ErrName), faultIs(fix("(fn *. #0)", lam("int", v(0))), api.ErrKind), faultIs(typed(api.EFix, wild(), lam("int", v(0))), api.ErrBudget), faultIs(fix("int", num(1)), api.ErrType), faultIs(fix("(int -> int)", v(0)), api.ErrType), faultIs(fix("(int -> int)", v(1)), api.ErrType), faultIs(fix("(int -> int)", let(num(1), lam("int", v(0)))), api.ErrType), faultIs(fix("{}", record("")), api.ErrType), faultIs(fix("(int -> int)", fix("(int -> int)", lam("int", v(0)))), api.ErrType),
		faultIs(fix("(int -> text)", lam("int", v(0))), api.ErrType), faultIs(fix("int", lam("int", v(0))), api.ErrType), faultIs(fix("(all *. #0)", tlam(star(), num(1))), api.ErrType), faultIs(fix("(int -> int)", tlam(star(), num(1))), api.ErrType), faultIs(fix("(int -> int)", lam("int", v(4))), api.ErrName), faultIs(fix("(int -> int)", lam("int", v(1))), api.ErrType),
		// ELet
		typeIs(let(num(1), v(0)), "int"), typeIs(let(num(1), v(1)), "(int -> int)"), typeIs(let(num(1), let(str("x"), record("a b", v(0), v(1)))), "{a: text, b: int}"), faultIs(let(v(2), num(1)), api.ErrName), faultIs(let(num(1), v(3)), api.ErrName), faultIs(let(num(1), app(v(0), v(0))), api.ErrType),
	})
}

func TestOperations(t *testing.T) {
	some := map[string]api.Term{"int": num(1), "text": str("x"), "{}": record(""), "bool": fail("(mu *. [False: {} | True: {}])")}
	for n := api.PAdd; n <= api.PPrint; n++ {
		want := wantPrim(n)
		for a, x := range some {
			if len(want) == 2 {
				if alike(con("int"), want[1]) && a == "int" || alike(con("text"), want[1]) && a == "text" {
					expectType(t, n, api.Context{}, prim(n, x), want[0])
				} else {
					expectFault(t, n, api.Context{}, prim(n, x), api.ErrType)
				}
				continue
			}
			for b, y := range some {
				if a == b && (alike(con("int"), want[1]) && a == "int" || alike(con("text"), want[1]) && a == "text") {
					expectType(t, n, api.Context{}, prim(n, x, y), want[0])
				} else {
					expectFault(t, n, api.Context{}, prim(n, x, y), api.ErrType)
				}
			}
		}
	}
	expectTypings(t, api.Context{}, []typing{
		typeIs(prim(api.PAdd, num(1), num(2)), "int"), typeIs(prim(api.PEqual, num(1), num(2)), "(mu *. [False: {} | True: {}])"), typeIs(prim(api.PPrint, prim(api.PShow, num(1))), "{}"), typeIs(cases("False True", unroll(prim(api.PSame, str("x"), str("y"))), num(0), num(1)), "int"),
		faultIs(prim(api.PAdd, str("x"), v(0)), api.ErrName), faultIs(prim(api.PAdd, v(0), str("x")), api.ErrName), faultIs(prim(api.PNeg, prim(api.PSize, num(1))), api.ErrType),
	})
}
