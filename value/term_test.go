package value

import (
	"math/rand"
	"slices"
	"testing"

	"pilaster/api"
	"pilaster/kernel"
	"pilaster/normal"
	"pilaster/term"
)

// P14.4

func expectTerm(t *testing.T, v api.Value, c api.Con, want api.Term) {
	t.Helper()
	if x, e := Term(v, c); e != api.OK || !alike(x, want) {
		t.Fatalf("%s and %s: %s, %d; want %s", brief(v), brief(c), brief(x), e, brief(want))
	}
}

func expectNoTerm(t *testing.T, v api.Value, c api.Con, want api.Errno) {
	t.Helper()
	if x, e := Term(v, c); e != want || !alike(x, api.Term{}) {
		t.Fatalf("%s and %s: %s, %d; want %d", brief(v), brief(c), brief(x), e, want)
	}
}

func TestTermsByHand(t *testing.T) {
	empty := api.Term{Op: api.ERecord}
	expectTerm(t, num(-3), con("int"), api.Term{Op: api.EInt, N: -3})
	expectTerm(t, str("a\xff"), con("((fn *. #0) text)"), api.Term{Op: api.EText, S: "a\xff"})
	expectTerm(t, unit(), con("{}"), empty)
	expectTerm(t, record("a b", num(1), unit()), con("{a: int, b: {}}"), api.Term{Op: api.ERecord, Names: []string{"a", "b"}, L: []api.Term{{Op: api.EInt, N: 1}, empty}})
	expectTerm(t, inject("B", unit()), con("[A: ((fn *. #0) int) | B: {}]"), api.Term{Op: api.EInject, S: "B", Con: con("[A: int | B: {}]"), L: []api.Term{empty}})
	expectTerm(t, inject("B", unit()), con("((fn *. [A: #0 | B: {}]) ?3)"), api.Term{Op: api.EInject, S: "B", Con: con("[A: ?3 | B: {}]"), L: []api.Term{empty}})
	nil_ := func(element string) api.Term {
		list := "(" + listOf + " " + element + ")"
		return api.Term{Op: api.ERoll, Con: con(list), L: []api.Term{{Op: api.EInject, S: "Nil", Con: con("[Cons: {1: " + element + ", 2: " + list + "} | Nil: {}]"), L: []api.Term{empty}}}}
	}
	expectTerm(t, roll(inject("Nil", unit())), con("("+listOf+" int)"), nil_("int"))
	expectTerm(t, roll(inject("Nil", unit())), con("((fn *. ("+listOf+" #0)) ((fn *. #0) text))"), nil_("text"))
	cons := nil_("int")
	cons.L = []api.Term{{Op: api.EInject, S: "Cons", Con: cons.L[0].Con, L: []api.Term{{Op: api.ERecord, Names: []string{"1", "2"}, L: []api.Term{{Op: api.EInt, N: 9}, nil_("int")}}}}}
	expectTerm(t, roll(inject("Cons", record("1 2", num(9), roll(inject("Nil", unit()))))), con("("+listOf+" int)"), cons)
	node := "(" + perfectOf + " {1: {}, 2: {}})"
	inner := api.Term{Op: api.ERoll, Con: con(node), L: []api.Term{{Op: api.EInject, S: "Leaf", Con: con("[Leaf: {1: {}, 2: {}} | Node: (" + perfectOf + " {1: {1: {}, 2: {}}, 2: {1: {}, 2: {}}})]"), L: []api.Term{{Op: api.ERecord, Names: []string{"1", "2"}, L: []api.Term{empty, empty}}}}}}
	expectTerm(t, roll(inject("Node", roll(inject("Leaf", record("1 2", unit(), unit()))))), con("("+perfectOf+" {})"), api.Term{Op: api.ERoll, Con: con("(" + perfectOf + " {})"), L: []api.Term{{Op: api.EInject, S: "Node", Con: con("[Leaf: {} | Node: " + node + "]"), L: []api.Term{inner}}}})
}

// Errors come in their order.
func TestTermRefuses(t *testing.T) {
	notData := []api.Value{fun(), pack(num(1)), block(num(1)), tagged(0, num(1)), record("a b", num(1), fun()), roll(inject("A", pack(unit()))), inject("A", tagged(1, unit())), record("a", block(unit()))}
	for i, c := range noTypes() {
		for _, v := range append(notData, num(1), unit(), api.Value{}, roll(num(1))) {
			if x, e := Term(v, c); e != api.ErrArg || !alike(x, api.Term{}) {
				t.Error(i, brief(v), e)
			}
		}
	}
	types := append(handTypes(), wild(), vast(), capp(con("(fn *. int)"), wild()))
	for i, c := range types {
		for j, v := range invalidValues() {
			if x, e := Term(v, c); e != api.ErrArg || !alike(x, api.Term{}) {
				t.Error(i, j, e)
			}
		}
		for _, v := range notData {
			expectNoTerm(t, v, c, api.ErrClass)
		}
	}
	for _, v := range []api.Value{num(1), str(""), unit(), roll(num(1)), inject("A", unit()), ofSize(api.MaxNodes)} {
		expectNoTerm(t, v, wild(), api.ErrBudget)
		expectNoTerm(t, v, capp(con("(fn *. int)"), wild()), api.ErrBudget)
	}
	for _, v := range []api.Value{num(1), unit(), roll(roll(unit())), roll(inject("C", unit())), ofSize(api.MaxNodes)} {
		expectNoTerm(t, v, con("text"), api.ErrType)
		expectNoTerm(t, v, con("?0"), api.ErrType)
		expectNoTerm(t, v, con("(int -> int)"), api.ErrType)
		expectNoTerm(t, v, con(boolText), api.ErrType)
	}
	expectNoTerm(t, roll(num(1)), vast(), api.ErrBudget)
	expectNoTerm(t, num(1), vast(), api.ErrType)
	expectNoTerm(t, record("a b", num(1), roll(num(1))), named(api.CRecord, "a b", number(), vast()), api.ErrBudget)
	expectNoTerm(t, record("a b", unit(), roll(num(1))), named(api.CRecord, "a b", number(), vast()), api.ErrType)
	// What does not fit may not be looked at beyond the first fault.
	large := mu(named(api.CSum, "A Z", named(api.CRecord, ""), conOfSize(9999)))
	expectNoTerm(t, record("a b", roll(inject("A", unit())), num(1)), named(api.CRecord, "a b", large, named(api.CRecord, "")), api.ErrType)
	expectNoTerm(t, record("a b", roll(inject("A", unit())), roll(num(1))), named(api.CRecord, "a b", large, vast()), api.ErrBudget)
	expectNoTerm(t, record("a b", roll(inject("A", unit())), num(1)), named(api.CRecord, "a b", large, number()), api.ErrBig)
}

// Terms are counted with the constructors in them, on both sides of the limit.
func TestLargestTerms(t *testing.T) {
	for _, n := range []int{9980, 9994, 9995, 9996} {
		c := mu(named(api.CSum, "A Z", named(api.CRecord, ""), conOfSize(n)))
		// ERoll with n + 3 nodes, EInject with n + 2, two records, and the numbers.
		fewest := 1 + (n + 3) + 1 + (n + 2) + 1 + 1
		for more := max(0, api.MaxNodes-fewest-2); more <= api.MaxNodes-fewest+2; more++ {
			v := api.Value{Op: api.VRecord, Names: labels(more + 1), L: append([]api.Value{roll(inject("A", unit()))}, slices.Repeat([]api.Value{num(1)}, more)...)}
			r := api.Con{Op: api.CRecord, Names: v.Names, L: append([]api.Con{c}, slices.Repeat([]api.Con{number()}, more)...)}
			if fewest+more > api.MaxNodes {
				expectNoTerm(t, v, r, api.ErrBig)
				continue
			}
			if x, e := Term(v, r); e != api.OK || term.Size(x) != fewest+more {
				t.Fatal(n, more, e, term.Size(x))
			}
		}
	}
	// The nodes and levels of a value alone are never too many.
	c := number()
	for range 399 {
		c = mu(c)
	}
	x, e := Term(rolls(10, num(1)), mu(mu(mu(mu(mu(mu(mu(mu(mu(mu(number())))))))))))
	if e != api.OK || term.Size(x) != 11+10+9+8+7+6+5+4+3+2+11 {
		t.Error(e, term.Size(x))
	}
	expectNoTerm(t, rolls(399, num(1)), c, api.ErrBig)
	v, r := num(1), number()
	for range 399 {
		v, r = record("a", v), named(api.CRecord, "a", r)
	}
	expectTerm(t, v, r, wantTerm(v, r))
	many := wide(1000, wide(18, num(1)))
	if x, e := Term(many, wideCon(api.CRecord, 1000, wideCon(api.CRecord, 18, number()))); e != api.OK || term.Size(x) != 19001 {
		t.Error(e, term.Size(x))
	}
}

// P14.6: the term of data has the type that it fits, if no CMeta occurs in it.
func TestTermsOfAny(t *testing.T) {
	r := rand.New(rand.NewSource(1431))
	made, typed := 0, 0
	for _, c := range slices.Concat(handTypes(), randomTypes(1432, 3000, false)) {
		for range 6 {
			v, ok := randomFit(r, c, 2+r.Intn(8))
			if !ok || r.Intn(4) == 0 {
				v = changed(r, v)
			}
			fits, e := wantFits(v, c)
			switch {
			case !wantValid(v):
				expectNoTerm(t, v, c, api.ErrArg)
			case !wantData(v):
				expectNoTerm(t, v, c, api.ErrClass)
			case e != api.OK:
				expectNoTerm(t, v, c, e)
			case !fits:
				expectNoTerm(t, v, c, api.ErrType)
			default:
				want := wantTerm(v, c)
				expectTerm(t, v, c, want)
				made++
				if !hasUnknown(c) {
					typed++
					n, _ := normal.Normal(c)
					if got, e := kernel.Type(api.Context{}, want); e != api.OK || !alike(got, n) || !kernel.Closed(want, c) || !term.Value(want) {
						t.Fatal(brief(v), brief(c), brief(got), e)
					}
				}
			}
		}
	}
	if made < 2500 || typed < 2000 {
		t.Error(made, typed)
	}
}

// Types that look much alike are never taken for each other.
func TestSimilarTypes(t *testing.T) {
	var l []api.Con
	for _, s := range []string{"?1", "?2", "?12", "A.0{*}", "A.1{*}", "B.0{*}", "{ab: int, c: int}", "{a: int, bc: int}", "{abc: int}", "[ab: int | c: int]", "(all *. int)", "(all * -> *. int)", "(all (* -> *) -> *. int)", "(all * -> * -> *. int)", "(some *. int)", "(some * -> * -> *. int)", "(mu *. int)", "(all *. (all *. #0))", "(all *. (all *. #1))", "(mu *. (mu *. [A: #0 | C: {}]))", "(mu *. (mu *. [A: #1 | C: {}]))", "(K.0{* -> *} int)", "(K.0{* -> *} text)", "(K.0{(* -> *) -> *} (fn *. int))", "(K.0{(* -> *) -> *} (fn *. text))", "(int -> text)", "(text -> int)", "{}", "[]"} {
		l = append(l, con(s))
	}
	// All pairs of them look alike, too.
	var pairs []api.Con
	for _, a := range l {
		for _, b := range l {
			pairs = append(pairs, named(api.CRecord, "1 2", a, b))
		}
	}
	for _, types := range [][]api.Con{l, pairs} {
		c := api.Con{Op: api.CRecord, Names: labels(len(types))}
		v := api.Value{Op: api.VRecord, Names: c.Names}
		for _, part := range types {
			c.L = append(c.L, named(api.CSum, "C P", named(api.CRecord, ""), part))
			v.L = append(v.L, inject("C", unit()))
		}
		expectTerm(t, v, c, wantTerm(v, c))
	}
	// Only one of the parts that look alike is fitted.
	first, second := con("(mu *. (mu *. [A: #0 | C: {}]))"), con("(mu *. (mu *. [A: #1 | C: {}]))")
	inner, outer := roll(roll(inject("A", roll(inject("C", unit()))))), roll(roll(inject("A", roll(roll(inject("C", unit()))))))
	for i, c := range []api.Con{first, second} {
		for j, d := range []api.Con{first, second} {
			for k, v := range []api.Value{inner, outer} {
				for n, w := range []api.Value{inner, outer} {
					expectFits(t, record("a b", v, w), named(api.CRecord, "a b", c, d), i == k && j == n, api.OK)
				}
			}
		}
	}
}

func hasUnknown(c api.Con) bool {
	return c.Op == api.CMeta || slices.ContainsFunc(c.L, hasUnknown)
}
