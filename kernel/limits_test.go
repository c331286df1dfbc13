package kernel

import (
	"slices"
	"testing"

	"pilaster/api"
	"pilaster/tycon"
)

// holding returns a context with these types.
func holding(l ...api.Con) api.Context { return api.Context{Types: l} }

// P13.1: a type that is too large is none, at the node that makes it.
func TestTooManyNodes(t *testing.T) {
	n := api.MaxNodes
	for i, c := range []struct {
		g    api.Context
		x    api.Term
		want int // the nodes of the type, or 0 if there are too many
	}{
		{holding(balanced(n)), v(0), n}, {holding(balanced(n)), let(v(0), v(0)), n}, {holding(balanced(n - 2)), lam("int", v(1)), n}, {holding(balanced(n - 1)), lam("int", v(1)), 0}, {holding(balanced(9999)), lam("{}", lam("{}", v(2))), 10003}, {holding(balanced(n - 3)), lam("int", lam("int", v(2))), 0},
		{api.Context{}, typed(api.ELam, balanced(n/2-1), v(0)), n - 1}, {api.Context{}, typed(api.ELam, balanced(n/2), v(0)), 0}, {holding(balanced(n - 1)), tlam(star(), v(0)), n}, {holding(balanced(n)), tlam(star(), v(0)), 0}, {holding(balanced(n - 1)), tlam(star(), tlam(star(), v(0))), 0}, {holding(balanced(n - 1)), tlam(kindOf("* -> * -> *"), v(0)), n},
		{holding(balanced(n - 1)), record("a", v(0)), n}, {holding(balanced(n)), record("a", v(0)), 0}, {holding(balanced(9999), balanced(10000)), record("a b", v(0), v(1)), n}, {holding(balanced(10000)), record("a b", v(0), v(0)), 0}, {holding(balanced(9999)), record("a b c", v(0), v(0), num(1)), n}, {holding(balanced(9999)), record("a b c d", v(0), v(0), num(1), num(1)), 0}, {holding(balanced(21)), api.Term{Op: api.ERecord, Names: manyLabels(952), L: slices.Repeat([]api.Term{v(0)}, 952)}, 952*21 + 1}, {holding(balanced(20)), api.Term{Op: api.ERecord, Names: manyLabels(999), L: slices.Repeat([]api.Term{v(0)}, 999)}, 19981}, {holding(balanced(20)), api.Term{Op: api.ERecord, Names: manyLabels(1000), L: slices.Repeat([]api.Term{v(0)}, 1000)}, 0},
		// What is only a part of something too large is too large, whatever becomes of it.
		{holding(balanced(n)), proj("a", record("a", v(0))), 0}, {holding(balanced(n)), app(lam("int", num(1)), app(lam("int", v(1)), num(1))), 0}, {holding(balanced(n)), let(record("a", v(0)), num(1)), 0},
		{holding(balanced(n)), cases("A B", inject("A", "[A: int | B: int]", num(1)), v(1), v(1)), n}, {holding(balanced(n)), unpack(pack("int", "(some *. #0)", num(1)), v(1)), n}, {holding(balanced(n), to(balanced(n/2), balanced(9000))), app(v(0), failed(balanced(n/2))), 9000},
	} {
		if got, e := Type(c.g, c.x); c.want == 0 {
			expectFault(t, i, c.g, c.x, api.ErrBudget)
		} else if e != api.OK || tycon.Size(got) != c.want {
			t.Error(i, e, tycon.Size(got))
		}
	}
}

func TestTooManyLevels(t *testing.T) {
	d := api.MaxDepth
	deepest := deep(d-1, number())
	for i, c := range []struct {
		g    api.Context
		x    api.Term
		want api.Errno
	}{
		{holding(deepest), v(0), api.OK}, {holding(deep(d-2, number())), lam("int", v(1)), api.OK}, {holding(deepest), lam("int", v(1)), api.ErrBudget}, {holding(), typed(api.ELam, deep(d-2, number()), num(1)), api.OK}, {holding(), typed(api.ELam, deepest, num(1)), api.ErrBudget},
		{holding(deep(d-2, number())), tlam(star(), v(0)), api.OK}, {holding(deepest), tlam(star(), v(0)), api.ErrBudget}, {holding(deep(d-2, number())), record("a b", v(0), v(0)), api.OK}, {holding(deepest), record("a b", num(1), v(0)), api.ErrBudget}, {holding(deepest), record("a b", v(0), num(1)), api.ErrBudget}, {holding(deepest), let(v(0), v(0)), api.OK},
		// A function with as many arguments as a term can have.
		{holding(), tlams(d-1, num(1)), api.OK}, {holding(text()), tlams(d-1, v(0)), api.OK}, {holding(con("(int -> text)")), tlams(d-2, v(0)), api.OK}, {holding(con("(int -> text)")), tlams(d-1, v(0)), api.ErrBudget}, {holding(con("{}")), tlams(d-3, app(lam("int", num(1)), num(1))), api.OK}, {holding(), tlams(d-2, record("a", num(1))), api.OK}, {holding(), tlams(d-2, record("a", record("a", num(1)))), api.ErrArg},
	} {
		if _, e := Type(c.g, c.x); e != c.want {
			t.Error(i, e)
		}
	}
}

// What is substituted is counted as it is, and so are its steps.
func TestTooLargeInstances(t *testing.T) {
	n := api.MaxNodes
	twice, never, applied := con("(all *. (#0 -> #0))"), con("(all *. int)"), con("(all * -> *. {a: (#0 int), b: (#0 int)})")
	constant := func(nodes int) api.Con {
		return capp(con("(fn *. (fn *. int))"), balanced(nodes-4))
	}
	for i, c := range []struct {
		f, a api.Con
		want api.Con
		e    api.Errno
	}{
		{twice, balanced(9999), to(balanced(9999), balanced(9999)), api.OK}, {twice, balanced(10000), api.Con{}, api.ErrBudget}, {never, balanced(n - 10), number(), api.OK}, {never, wild(), number(), api.OK}, {never, tooManySteps(), number(), api.OK}, {twice, wild(), api.Con{}, api.ErrBudget}, {con("(all *. #0)"), tooManySteps(), api.Con{}, api.ErrBudget}, {con("(all *. #0)"), manySteps(), fewSteps(), api.OK}, {twice, manySteps(), api.Con{}, api.ErrBudget}, {con("(all *. #0)"), doubled(13), normalForm(doubled(13)), api.OK}, {twice, doubled(13), api.Con{}, api.ErrBudget},
		// The constructor is small in the end, but not when it is put in.
		{applied, constant(9997), con("{a: int, b: int}"), api.OK}, {applied, constant(9998), api.Con{}, api.ErrBudget}, {con("(all * -> *. (#0 int))"), constant(19000), number(), api.OK}, {con("(all * -> *. (#0 int))"), con("(fn *. #0)"), number(), api.OK},
		{binder(api.CAll, star(), deep(200, cvar(0))), deep(199, number()), deep(399, number()), api.OK}, {binder(api.CAll, star(), deep(200, cvar(0))), deep(200, number()), api.Con{}, api.ErrBudget},
	} {
		x := typed(api.ETApp, c.a, v(0))
		if c.e != api.OK {
			expectFault(t, i, holding(c.f), x, c.e)
		} else {
			expectType(t, i, holding(c.f), x, c.want)
		}
		// A package has such a type inside.
		some := c.f
		some.Op = api.CSome
		inside := c.want
		if c.e != api.OK {
			inside = number()
		}
		if tycon.Size(c.a)+tycon.Size(some) > n-2 {
			continue
		}
		if _, e := Type(holding(inside), packed(c.a, some, v(0))); e != c.e {
			t.Fatal(i, e)
		}
	}
}

// Where a type is asked for, it has to be tame, even if this would not matter.
func TestUntame(t *testing.T) {
	tame := []api.Con{manySteps(), doubled(13), balanced(6000)}
	for i, c := range []api.Con{wild(), tooManySteps(), capp(con("(fn *. int)"), wild()), doubled(20)} {
		sum := func(c api.Con) api.Con { return named(api.CSum, "A B", number(), c) }
		some := func(c api.Con) api.Con { return binder(api.CSome, star(), to(cvar(0), c)) }
		mu := func(c api.Con) api.Con { return binder(api.CMu, star(), sum(c)) }
		for j, x := range []func(c api.Con) api.Term{
			func(c api.Con) api.Term { return typed(api.ELam, c, num(1)) }, failed, func(c api.Con) api.Term { return injected("A", sum(c), num(1)) }, func(c api.Con) api.Term { return injected("B", sum(c), failed(c)) },
			func(c api.Con) api.Term { return packed(number(), some(c), failed(to(number(), c))) }, func(c api.Con) api.Term { return typed(api.ERoll, mu(c), failed(sum(c))) }, func(c api.Con) api.Term { return typed(api.EFix, to(number(), c), lam("int", failed(c))) },
		} {
			expectFault(t, []int{i, j}, api.Context{}, x(c), api.ErrBudget)
			for _, c := range tame {
				if _, e := Type(api.Context{}, x(c)); e != api.OK {
					t.Fatal(i, j, e)
				}
			}
		}
		// A context may have such types, as long as they are not looked up.
		g := holding(number(), c, text())
		if !Context(g) {
			t.Error(i)
		}
		expectTypings(t, g, []typing{typeIs(v(0), "text"), typeIs(v(2), "int"), faultIs(v(1), api.ErrBudget), faultIs(let(v(1), num(1)), api.ErrBudget), faultIs(app(nameless(), v(1)), api.ErrName), faultIs(app(v(1), nameless()), api.ErrBudget), typeIs(tlam(star(), v(2)), "(all *. int)"), faultIs(tlam(star(), v(1)), api.ErrBudget), typeIs(let(num(1), v(1)), "text"), faultIs(let(num(1), v(2)), api.ErrBudget)})
	}
	g := holding(tame...)
	expectType(t, "many steps", g, v(2), fewSteps())
	expectType(t, "many nodes", g, tlam(star(), v(1)), binder(api.CAll, star(), normalForm(doubled(13))))
	// Each type has steps of its own.
	expectType(t, "many steps twice", g, record("a b", v(2), failed(manySteps())), named(api.CRecord, "a b", fewSteps(), fewSteps()))
}

func TestTooLargeUnrolled(t *testing.T) {
	fits := binder(api.CMu, star(), wideCon(api.CRecord, 140, cvar(0)))
	inner := wideCon(api.CRecord, 140, fits)
	expectType(t, "roll", holding(inner), typed(api.ERoll, fits, v(0)), fits)
	expectType(t, "unroll", holding(fits), unroll(v(0)), inner)
	expectFault(t, "roll", api.Context{}, typed(api.ERoll, vast(), num(1)), api.ErrBudget)
	expectFault(t, "unroll", holding(vast()), unroll(v(0)), api.ErrBudget)
	expectType(t, "not unrolled", holding(vast()), v(0), vast())
	expectFault(t, "steps", holding(), unroll(failed(tooManySteps())), api.ErrBudget)
}

func TestManyVariables(t *testing.T) {
	g := api.Context{Kinds: make([]api.Kind, api.MaxList)}
	for i := range api.MaxList {
		g.Types = append(g.Types, cvar(i))
	}
	expectTypings(t, g, []typing{
		typeIs(v(0), "#999"), typeIs(v(999), "#0"), typeIs(v(400), "#599"), faultIs(v(1000), api.ErrName), typeIs(fail("#999"), "#999"), faultIs(fail("#1000"), api.ErrName), typeIs(lam("#5", v(1000)), "(#5 -> #0)"), faultIs(lam("#5", v(1001)), api.ErrName), typeIs(let(v(3), let(v(5), record("a b", v(0), v(1)))), "{a: #995, b: #996}"),
		// More kinds may be added than a scope can have, but then nothing has a kind.
		typeIs(tlam(star(), v(0)), "(all *. #1000)"), typeIs(tlam(star(), tlam(one(), v(999))), "(all *. (all * -> *. #2))"), faultIs(tlam(star(), fail("int")), api.ErrArg), faultIs(tlam(star(), lam("#0", v(0))), api.ErrArg), faultIs(tlam(star(), app(nameless(), fail("int"))), api.ErrName),
	})
	g.Kinds = g.Kinds[1:]
	g.Types = g.Types[:999]
	expectTypings(t, g, []typing{typeIs(tlam(star(), lam("#999", v(1))), "(all *. (#999 -> #999))"), faultIs(tlam(star(), lam("#1000", v(1))), api.ErrName), faultIs(tlam(star(), tlam(star(), lam("#0", v(1)))), api.ErrArg)})
	// The last variable comes before a binder, and the first one after all of them.
	x := tlams(398, v(0))
	want := binder(api.CAll, star(), cvar(399))
	for range 397 {
		want = binder(api.CAll, star(), want)
	}
	expectType(t, "far", in("*,*", "#1"), x, want)
}

// Large arguments do not take long.
func TestLargeTerms(t *testing.T) {
	l := slices.Repeat([]api.Term{let(v(3), let(v(5), prim(api.PAdd, v(0), v(1))))}, 900)
	l = slices.Repeat([]api.Term{{Op: api.ERecord, Names: manyLabels(900), L: l}}, 3)
	g := holding(slices.Repeat([]api.Con{number()}, 1000)...)
	g.Kinds = make([]api.Kind, 900)
	expectType(t, "wide", g, record("a b c", l...), named(api.CRecord, "a b c", slices.Repeat([]api.Con{wideCon(api.CRecord, 900, number())}, 3)...))
	x := num(1)
	for range 199 {
		x = let(x, tlam(star(), v(0)))
	}
	if _, e := Type(g, x); e != api.OK {
		t.Error(e)
	}
	x = v(0)
	for range 13 {
		x = let(record("a b", v(0), v(0)), x)
	}
	if c, e := Type(holding(number()), x); e != api.OK || tycon.Size(c) != 1<<14-1 {
		t.Error(e)
	}
	for range 300 {
		x = let(record("a b", v(0), v(0)), x)
	}
	expectFault(t, "doubled", holding(number()), x, api.ErrBudget)
}
