package kernel

import (
	"slices"
	"testing"

	"pilaster/api"
)

// P13.1: of several faults the first one counts.

// option is what may stand in a place of a node. It brings a fault with it, unless this is OK: that which is found in the step of the rule for the node.
type option struct {
	c     api.Con
	x     api.Term
	step  int
	fault api.Errno
}

func goodCon(s string) option { return option{c: con(s)} }

func badCon(c api.Con, step int, e api.Errno) option { return option{c: c, step: step, fault: e} }

func good(x api.Term) option { return option{x: x} }

func bad(x api.Term, step int, e api.Errno) option { return option{x: x, step: step, fault: e} }

// noTypes are options for what is asked for the kind of types in a step.
func noTypes(step int) []option {
	return []option{badCon(con("#9"), step, api.ErrName), badCon(con("(fn *. #0)"), step, api.ErrKind), badCon(wild(), step, api.ErrBudget)}
}

// noTerms are options for a part that is checked in a step.
func noTerms(step int) []option {
	return []option{bad(nameless(), step, api.ErrName), bad(illKinded(), step, api.ErrKind), bad(illTyped(), step, api.ErrType), bad(untame(), step, api.ErrBudget), bad(escaping(), step, api.ErrEscape)}
}

func all(l ...[]option) []option { return slices.Concat(l...) }

func some(l ...option) []option { return l }

// expectFirst builds a node with all combinations of options for its places.
func expectFirst(t *testing.T, op int, places [][]option, build func(l []option) api.Term) {
	t.Helper()
	fine := 0
	var choose func(l []option)
	choose = func(l []option) {
		if len(l) < len(places) {
			for _, o := range places[len(l)] {
				choose(append(l[:len(l):len(l)], o))
			}
			return
		}
		first, want := 99, api.OK
		for _, o := range l {
			if o.fault != api.OK && o.step < first {
				first, want = o.step, o.fault
			}
		}
		if _, e := Type(api.Context{}, build(l)); e != want {
			t.Fatalf("%d: %s: %d, not %d", op, brief(build(l)), e, want)
		}
		if want == api.OK {
			fine++
		}
	}
	choose(nil)
	if fine == 0 {
		t.Error(op, "never has a type")
	}
}

// built returns a function for nodes with a constructor and a part, or with two parts.
func built(op int) func(l []option) api.Term {
	return func(l []option) api.Term {
		if op == api.EApp || op == api.EUnpack || op == api.ELet {
			return node(op, l[0].x, l[1].x)
		}
		return typed(op, l[0].c, l[1].x)
	}
}

func TestFirstFaultOfFunctions(t *testing.T) {
	id := tlam(star(), lam("#0", v(0)))
	expectFirst(t, api.ELam, [][]option{all(noTypes(0), some(goodCon("int"))), all(noTerms(1), some(good(v(0))))}, built(api.ELam))
	expectFirst(t, api.EApp, [][]option{
		all(noTerms(0), some(good(lam("int", v(0))), bad(num(1), 2, api.ErrType), bad(id, 2, api.ErrType))),
		all(noTerms(1), some(good(num(2)), bad(str("x"), 2, api.ErrType))),
	}, built(api.EApp))
	expectFirst(t, api.ETApp, [][]option{
		some(goodCon("int"), badCon(con("#9"), 2, api.ErrName), badCon(con("(fn *. #0)"), 2, api.ErrKind), badCon(wild(), 3, api.ErrBudget)),
		all(noTerms(0), some(good(id), bad(num(1), 1, api.ErrType), bad(lam("int", v(0)), 1, api.ErrType))),
	}, built(api.ETApp))
	expectFirst(t, api.EFix, [][]option{
		all(noTypes(0), some(goodCon("(int -> int)"))),
		some(good(lam("int", v(0))), bad(num(1), 1, api.ErrType), bad(nameless(), 1, api.ErrType), bad(untame(), 1, api.ErrType), bad(escaping(), 1, api.ErrType), bad(let(nameless(), lam("int", v(0))), 1, api.ErrType),
			bad(lam("int", nameless()), 2, api.ErrName), bad(lam("(fn *. #0)", v(0)), 2, api.ErrKind), bad(tlam(star(), untame()), 2, api.ErrBudget), bad(tlam(star(), escaping()), 2, api.ErrEscape), bad(lam("text", v(0)), 3, api.ErrType), bad(tlam(star(), num(1)), 3, api.ErrType)),
	}, built(api.EFix))
	expectFirst(t, api.ELet, [][]option{all(noTerms(0), some(good(num(1)))), all(noTerms(1), some(good(v(0))))}, built(api.ELet))
}

func TestFirstFaultOfPackages(t *testing.T) {
	expectFirst(t, api.EPack, [][]option{
		all(noTypes(0), some(goodCon("(some *. (#0 -> int))"), badCon(con("int"), 1, api.ErrType), badCon(con("(all *. (#0 -> int))"), 1, api.ErrType))),
		some(goodCon("text"), badCon(con("#9"), 2, api.ErrName), badCon(con("(fn *. #0)"), 2, api.ErrKind), badCon(wild(), 4, api.ErrBudget), badCon(con("int"), 5, api.ErrType)),
		all(noTerms(3), some(good(lam("text", num(1))), bad(num(1), 5, api.ErrType))),
	}, func(l []option) api.Term { return packed(l[1].c, l[0].c, l[2].x) })
	expectFirst(t, api.EUnpack, [][]option{
		all(noTerms(0), some(good(fail("(some *. (#0 -> int))")), bad(num(1), 1, api.ErrType), bad(fail("(all *. #0)"), 1, api.ErrType))),
		all(noTerms(2), some(good(num(1)), bad(fail("#0"), 3, api.ErrEscape), bad(fail("(int -> (all *. #1))"), 3, api.ErrEscape))),
	}, built(api.EUnpack))
}

func TestFirstFaultOfData(t *testing.T) {
	l := func(step int) []option { return all(noTerms(step), some(good(num(1)))) }
	expectFirst(t, api.ERecord, [][]option{l(0), l(1), l(2)}, func(l []option) api.Term { return record("a b c", l[0].x, l[1].x, l[2].x) })
	expectFirst(t, api.EProj, [][]option{all(noTerms(0), some(good(record("a", num(1))), bad(record("b", num(1)), 1, api.ErrType), bad(num(1), 1, api.ErrType)))}, func(l []option) api.Term { return proj("a", l[0].x) })
	expectFirst(t, api.EInject, [][]option{
		all(noTypes(0), some(goodCon("[A: int]"), goodCon("[A: int | B: text]"), badCon(con("[B: int]"), 1, api.ErrType), badCon(con("{A: int}"), 1, api.ErrType), badCon(con("int"), 1, api.ErrType))),
		all(noTerms(2), some(good(num(1)), bad(str("x"), 3, api.ErrType))),
	}, func(l []option) api.Term { return injected("A", l[0].c, l[1].x) })
	expectFirst(t, api.ECase, [][]option{
		all(noTerms(0), some(good(fail("[A: int | B: text | C: {}]")), bad(fail("[A: int | B: text]"), 1, api.ErrType), bad(fail("[A: int | B: text | D: {}]"), 1, api.ErrType), bad(num(1), 1, api.ErrType))),
		all(noTerms(2)[:4], some(good(v(0)))),
		all(noTerms(3)[1:], some(good(num(1)), bad(v(0), 3, api.ErrType))),
		all(noTerms(4)[:3], some(good(num(1)), bad(v(0), 4, api.ErrType))),
	}, func(l []option) api.Term { return cases("A B C", l[0].x, l[1].x, l[2].x, l[3].x) })
	expectFirst(t, api.ERoll, [][]option{
		all(noTypes(0), some(goodCon("(mu *. {a: int})"), badCon(con("{a: int}"), 1, api.ErrType), badCon(con("(all *. #0)"), 1, api.ErrType), badCon(vast(), 1, api.ErrBudget))),
		all(noTerms(2), some(good(record("a", num(1))), bad(num(1), 3, api.ErrType))),
	}, built(api.ERoll))
	expectFirst(t, api.EUnroll, [][]option{all(noTerms(0), some(good(fail("(mu *. #0)")), bad(failed(vast()), 1, api.ErrBudget), bad(num(1), 1, api.ErrType)))}, func(l []option) api.Term { return unroll(l[0].x) })
	expectFirst(t, api.EPrim, [][]option{
		all(noTerms(0), some(good(num(1)), bad(str("x"), 2, api.ErrType))),
		all(noTerms(1), some(good(num(1)), bad(str("x"), 2, api.ErrType))),
	}, func(l []option) api.Term { return prim(api.PLess, l[0].x, l[1].x) })
	expectFirst(t, api.EPrim, [][]option{all(noTerms(0), some(good(num(1)), bad(str("x"), 1, api.ErrType)))}, func(l []option) api.Term { return prim(api.PShow, l[0].x) })
	expectFirst(t, api.EFail, [][]option{all(noTypes(0), some(goodCon("int")))}, func(l []option) api.Term { return failed(l[0].c) })
}

// P13.1, P13.2: a malformed part comes before all faults, wherever it stands.
func TestInvalidFirst(t *testing.T) {
	for i, x := range invalidTerms() {
		for _, g := range []api.Context{{}, in("*", "#0", "int")} {
			expectFault(t, i, g, x, api.ErrArg)
			if e := Check(g, x, number()); e != api.ErrArg || Closed(x, number()) {
				t.Fatal(i, e)
			}
		}
	}
	for i, g := range invalidContexts() {
		for _, x := range []api.Term{num(1), v(0), nameless(), illTyped(), {}} {
			expectFault(t, i, g, x, api.ErrArg)
			if e := Check(g, x, number()); e != api.ErrArg {
				t.Fatal(i, e)
			}
		}
	}
}
