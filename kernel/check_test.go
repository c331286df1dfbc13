package kernel

import (
	"math"
	"slices"
	"testing"

	"pilaster/api"
	"pilaster/kinding"
)

// P13.2

func TestCheck(t *testing.T) {
	g := in("*,* -> *", "#1", "(#0 #1)")
	for i, c := range []struct {
		x    api.Term
		c    string
		want api.Errno
	}{
		{v(0), "(#0 #1)", api.OK}, {v(1), "#1", api.OK}, {v(1), "((fn *. #0) #1)", api.OK}, {v(0), "((fn *. (#1 #0)) #1)", api.OK}, {v(0), "((fn *. (#0 #2)) int)", api.ErrKind}, {v(0), "#1", api.ErrType}, {v(1), "(#0 #1)", api.ErrType}, {v(1), "int", api.ErrType}, {num(1), "int", api.OK}, {num(1), "text", api.ErrType}, {num(1), "((fn *. (fn *. #1)) int)", api.ErrKind}, {num(1), "(((fn *. (fn *. #1)) int) text)", api.OK},
		{v(0), "#0", api.ErrKind}, {v(0), "#2", api.ErrName}, {v(0), "(fn *. #0)", api.ErrKind}, {v(0), "A.0{* -> *}", api.ErrKind}, {v(2), "int", api.ErrName}, {v(2), "#7", api.ErrName}, {v(2), "#0", api.ErrKind}, {illTyped(), "int", api.ErrType}, {escaping(), "int", api.ErrEscape}, {escaping(), "text", api.ErrEscape}, {untame(), "int", api.ErrBudget},
		{fail("(mu *. #0)"), "(mu *. #0)", api.OK}, {fail("(mu *. int)"), "int", api.ErrType}, {num(1), "(mu *. int)", api.ErrType}, {fail("(fn *. (A.0{* -> *} #0))"), "int", api.ErrKind}, {fail("(A.0{(* -> *) -> *} (fn *. (#1 #0)))"), "(A.0{(* -> *) -> *} #0)", api.OK}, {fail("{}"), "[]", api.ErrType}, {fail("(all *. #0)"), "(all * -> *. int)", api.ErrType},
		{num(1), "?0", api.ErrArg}, {num(1), "(fn *. ?0)", api.ErrArg}, {num(1), "((fn *. int) ?2)", api.ErrArg}, {nameless(), "(#9 -> ?1)", api.ErrArg},
	} {
		if e := Check(g, c.x, con(c.c)); e != c.want {
			t.Error(i, e)
		}
	}
}

// The first error counts: that of the context, of the term, or of the type, if it is malformed; that of the kind; that of the term; that of the normal form; and that of the comparison.
func TestOrderOfErrors(t *testing.T) {
	type choice struct {
		step int
		e    api.Errno
	}
	none := choice{9, api.OK}
	contexts := map[int]choice{0: none, 1: none, 2: {0, api.ErrArg}}
	for i, g := range []api.Context{{}, in("* -> *", "int"), {Types: cons("#5")}} {
		terms := []api.Term{num(1), str("x"), nameless(), illKinded(), illTyped(), untame(), escaping(), {}, fail("?1")}
		kinds := []choice{none, {4, api.ErrType}, {2, api.ErrName}, {2, api.ErrKind}, {2, api.ErrType}, {2, api.ErrBudget}, {2, api.ErrEscape}, {0, api.ErrArg}, {0, api.ErrArg}}
		for j, x := range terms {
			types := []api.Con{number(), con("((fn *. #0) int)"), {}, con("?0"), capp(con("?0"), wild()), con("#9"), con("(int -> (fn *. #0))"), wild(), tooManySteps(), capp(wild(), number())}
			asked := []choice{none, none, {0, api.ErrArg}, {0, api.ErrArg}, {0, api.ErrArg}, {1, api.ErrName}, {1, api.ErrKind}, {3, api.ErrBudget}, {3, api.ErrBudget}, {1, api.ErrKind}}
			for k, c := range types {
				first := none
				for _, now := range []choice{contexts[i], kinds[j], asked[k]} {
					if now.step < first.step {
						first = now
					}
				}
				if e := Check(g, x, c); e != first.e {
					t.Fatal(i, j, k, e, first.e)
				}
			}
		}
	}
	for i, c := range slices.Concat(malformedCons(), unknownCons()) {
		for _, x := range []api.Term{num(1), nameless()} {
			if e := Check(api.Context{}, x, c); e != api.ErrArg || Closed(x, c) {
				t.Error(i, e)
			}
		}
	}
}

func TestCheckOfAny(t *testing.T) {
	m := newMaker(141)
	seen := map[api.Errno]int{}
	for i, s := range samples(142, 4000) {
		other := m.con(s.g.Kinds, star(), 3)
		for _, c := range []api.Con{m.disguised(s.g.Kinds, s.c), other} {
			want := api.OK
			if !alike(normalForm(c), s.c) {
				want = api.ErrType
			}
			if e := Check(s.g, s.x, c); e != want {
				t.Fatal(i, brief(s.x), brief(c), e)
			}
			seen[want]++
			if closed := Closed(s.x, c); closed != (Check(api.Context{}, s.x, c) == api.OK) || closed && want != api.OK {
				t.Fatal(i, brief(s.x), closed)
			}
		}
		m.change(&s.x)
		if c, e := Type(s.g, s.x); e != api.OK && Check(s.g, s.x, s.c) != e || e == api.OK && (Check(s.g, s.x, c) != api.OK || (Check(s.g, s.x, s.c) == api.OK) != alike(c, s.c)) {
			t.Fatal(i, brief(s.x), e)
		}
	}
	if seen[api.OK] < 4000 || seen[api.ErrType] < 1000 {
		t.Error(seen)
	}
}

func TestClosed(t *testing.T) {
	for i, c := range []struct {
		x    api.Term
		c    string
		want bool
	}{
		{num(1), "int", true}, {num(1), "text", false}, {v(0), "int", false}, {num(1), "#0", false}, {num(1), "?0", false}, {num(1), "(fn *. #0)", false}, {tlam(star(), lam("#0", v(0))), "(all *. (#0 -> #0))", true}, {tlam(star(), lam("#0", v(0))), "((fn *. (all *. (#0 -> #0))) int)", true}, {tlam(star(), lam("#0", v(0))), "(all *. (#0 -> int))", false}, {fail("A.0{*}"), "A.0{*}", true}, {fail("A.0{*}"), "A.1{*}", false}, {illTyped(), "int", false}, {untame(), "int", false},
	} {
		if Closed(c.x, con(c.c)) != c.want {
			t.Error(i)
		}
	}
	if Closed(num(1), capp(con("(fn *. int)"), wild())) || Closed(num(1), api.Con{}) || Closed(api.Term{}, number()) {
		t.Error("closed")
	}
}

// P13.3

func TestContext(t *testing.T) {
	list := api.MaxList
	ints := slices.Repeat([]api.Con{number()}, list)
	deepKind := star()
	for range api.MaxDepth - 1 {
		deepKind = api.Kind{L: []api.Kind{star(), deepKind}}
	}
	for i, g := range []api.Context{
		{}, {Kinds: []api.Kind{}, Types: []api.Con{}}, in("*"), in("* -> *,*", "#0", "(#1 #0)"), in("", "int", "(all *. #0)", "((fn *. #0) int)", "A.0{*}"), {Types: ints}, {Kinds: make([]api.Kind, list)}, {Kinds: make([]api.Kind, list), Types: with(ints[1:], cvar(list-1))}, {Kinds: []api.Kind{deepKind}, Types: ints[:3]}, holding(wild(), tooManySteps(), balanced(api.MaxNodes), deep(api.MaxDepth-1, text()), vast()), in("*", "(some * -> *. (#0 #1))"),
	} {
		if !Context(g) {
			t.Error(i, "refused")
		}
		expectType(t, i, g, num(1), number())
	}
	for i, g := range append(invalidContexts(), api.Context{Kinds: []api.Kind{{L: []api.Kind{star(), deepKind}}}}, api.Context{Kinds: make([]api.Kind, list), Types: with(ints[1:], cvar(list))}, in("* -> *", "#0"), in("*", "(#0 #0)"), in("*", "#1"), in("*,*", "#0", "#1", "#2"), api.Context{Kinds: make([]api.Kind, list+1), Types: cons("#0")}, api.Context{Types: with(ints, number())}) {
		if Context(g) {
			t.Error(i, "accepted")
		}
	}
}

func TestContextOfAny(t *testing.T) {
	m := newMaker(143)
	seen := map[bool]int{}
	for range 5000 {
		g := m.context()
		if !Context(g) {
			t.Fatal(g)
		}
		kinds := append([]api.Kind{}, g.Kinds...)
		for i := range kinds {
			if m.Intn(3) == 0 {
				kinds[i] = m.kind(2)
			}
		}
		kinds = kinds[m.Intn(len(kinds)+1):]
		want := true
		for _, c := range g.Types {
			want = want && kinding.Check(kinds, c, star()) == api.OK
		}
		if Context(api.Context{Kinds: kinds, Types: g.Types}) != want {
			t.Fatal(kinds, g)
		}
		seen[want]++
	}
	if seen[true] < 1000 || seen[false] < 1000 {
		t.Error(seen)
	}
}

func TestPrim(t *testing.T) {
	for n := 1; n <= 14; n++ {
		args, result, e := Prim(n)
		if want := wantPrim(n); e != api.OK || !alike(result, want[0]) || !alike(args, want[1:]) {
			t.Error(n, args, result, e)
		}
	}
	wrong := []int{1 << 20, 1<<32 + 1, math.MaxInt, math.MinInt}
	for n := range 300 {
		wrong = append(wrong, -n, 15+n)
	}
	for _, n := range wrong {
		if args, result, e := Prim(n); e != api.ErrRange || len(args) > 0 || !isZero(result) {
			t.Error(n, args, result, e)
		}
	}
}
