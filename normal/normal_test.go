package normal

import (
	"slices"
	"testing"

	"pilaster/api"
	"pilaster/tycon"
)

// P11.1 to P11.4

func expectNormal(t *testing.T, c, want api.Con) {
	t.Helper()
	n, e := Normal(c)
	expectCon(t, c, n, e, want)
	if !Is(n) || Is(c) != alike(c, want) {
		t.Fatal(brief(c), Is(n), Is(c))
	}
}

// expectWild tests that c is well-formed, but not tame.
func expectWild(t *testing.T, about any, c api.Con) {
	t.Helper()
	if !tycon.Valid(c) {
		t.Fatal(about, "is not well-formed")
	}
	n, e := Normal(c)
	expectNone(t, about, n, e, api.ErrBudget)
	if Is(c) {
		t.Fatal(about, "is normal")
	}
}

func TestExamples(t *testing.T) {
	for s, want := range map[string]string{
		"((fn *. (#0 -> int)) text)": "(text -> int)",
		"(fn *. (A.1{* -> *} #0))":   "A.1{* -> *}",
		"((fn *. (#0 -> #0)) int)":   "(int -> int)",
	} {
		expectNormal(t, read(t, s), read(t, want))
	}
	list := read(t, "(mu *. [Cons: #0 | Nil: {}])")
	u, e := Unroll(list)
	expectCon(t, "list", u, e, fields(api.CSum, "Cons Nil", list, fields(api.CRecord, "")))
}

func TestNormalByHand(t *testing.T) {
	for s, want := range map[string]string{
		// Each node, with steps in its parts.
		"#3": "#3", "?7": "?7", "A.0{*}": "A.0{*}", "int": "int", "text": "text", "{}": "{}", "[]": "[]",
		"(((fn *. #0) int) -> ((fn *. #0) text))": "(int -> text)", "{a: ((fn *. #0) int), b: ((fn *. #0) text)}": "{a: int, b: text}", "[a: ((fn *. #0) int) | b: ((fn *. #0) text)]": "[a: int | b: text]",
		"(all * -> *. ((fn *. #0) int))": "(all * -> *. int)", "(some *. ((fn *. #0) #0))": "(some *. #0)", "(fn *. ((fn *. #0) int))": "(fn *. int)", "(mu *. ((fn *. #1) int))": "(mu *. #0)", "(#0 ((fn *. #0) int))": "(#0 int)", "(((fn *. #0) #0) int)": "(#0 int)",
		// A mu is never unrolled, nor applied.
		"(mu *. #0)": "(mu *. #0)", "((mu * -> *. (fn *. (#1 #0))) int)": "((mu * -> *. #0) int)", "((mu * -> *. (fn *. int)) text)": "((mu * -> *. (fn *. int)) text)", "((all *. #0) int)": "((all *. #0) int)",
		// Variables from outside, under binders, and beside those that are replaced.
		"((fn *. #1) int)": "#0", "((fn *. #7) int)": "#6", "((fn *. (fn *. (#0 -> (#1 -> #2)))) #5)": "(fn *. (#0 -> (#6 -> #1)))", "((fn *. (all *. (#1 -> #0))) (some *. (#0 -> #3)))": "(all *. ((some *. (#0 -> #4)) -> #0))", "(fn *. ((fn *. (#0 -> #1)) #3))": "(fn *. (#3 -> #0))",
		"(((fn *. (fn *. #0)) int) text)": "text", "(((fn *. (fn *. #1)) int) text)": "int", "((fn *. (#0 -> #0)) ((fn *. (#0 -> #0)) int))": "((int -> int) -> (int -> int))",
		// A step makes another one possible.
		"((fn * -> *. (#0 int)) (fn *. {a: #0}))": "{a: int}", "((fn *. (#0 (#0 int))) (fn *. {a: #0}))": "{a: {a: int}}", "((fn *. {a: (#0 int), b: #0}) (fn *. #0))": "{a: int, b: (fn *. #0)}", "((fn *. (fn *. (#1 #0))) (fn *. {a: #0}))": "(fn *. {a: #0})", "(((fn *. (fn *. (#1 (#0 #1)))) (fn *. #0)) (fn *. int))": "int",
		// Eta.
		"(fn *. (#1 #0))": "#0", "(fn *. (#5 #0))": "#4", "(fn *. (int #0))": "int", "(fn *. ((#1 #2) #0))": "(#0 #1)", "(fn * -> *. ((fn *. (#2 #0)) #0))": "#0", "(fn *. (fn *. ((#2 #1) #0)))": "#0", "(fn *. (fn *. ((#5 #1) #0)))": "#3", "(fn *. ((all *. (#0 -> #2)) #0))": "(all *. (#0 -> #1))", "(fn *. ((mu * -> *. #0) #0))": "(mu * -> *. #0)",
		"(fn *. (#0 #0))": "(fn *. (#0 #0))", "(fn *. (#1 #1))": "(fn *. (#1 #1))", "(fn *. (#0 #1))": "(fn *. (#0 #1))", "(fn *. ((#1 #0) #0))": "(fn *. ((#1 #0) #0))", "(fn *. ((fn *. #1) #0))": "(fn *. #0)", "(fn *. (#1 (#1 #0)))": "(fn *. (#1 (#1 #0)))", "(fn *. ((all *. #1) #0))": "(fn *. ((all *. #1) #0))", "(fn *. (#1 -> #0))": "(fn *. (#1 -> #0))", "(all *. (#1 #0))": "(all *. (#1 #0))", "(mu *. (#1 #0))": "(mu *. (#1 #0))",
		// Eta because of a step inside, or for a step around.
		"(fn *. (((fn *. #2) #0) #0))": "#0", "(fn *. (#1 ((fn *. #0) #0)))": "#0", "(fn *. ((fn *. (#2 #0)) #0))": "#0", "(fn *. ((fn *. (#2 #1)) int))": "#0", "((fn *. (#1 #0)) int)": "(#0 int)", "((fn *. (#0 int)) (fn *. (#1 #0)))": "(#0 int)", "((fn *. (fn *. (#1 #0))) A.0{* -> *})": "A.0{* -> *}", "(fn *. (((fn *. (fn *. #0)) int) (#1 #0)))": "#0",
	} {
		expectNormal(t, read(t, s), read(t, want))
	}
}

// The kind of a binder does not matter, nor whether there is one at all.
func TestNormalWithoutKinds(t *testing.T) {
	for _, k := range []api.Kind{star(), one(), chain(50)} {
		expectNormal(t, app(lam(k, to(v(0), v(0))), num()), to(num(), num()))
		expectNormal(t, lam(k, app(v(1), v(0))), v(0))
		expectNormal(t, lam(k, app(num(), v(0))), num())
		for _, op := range []int{api.CAll, api.CSome, api.CMu} {
			c := binder(op, k, v(0))
			expectNormal(t, app(id(), c), c)
			expectNormal(t, app(c, c), app(c, c))
		}
		expectNormal(t, app(id(), con("A.0", k)), con("A.0", k))
	}
	expectNormal(t, app(num(), app(id(), num())), app(num(), num()))
}

// P11.1 to P11.4, for any constructors: compared with the second description.
func expectModel(t *testing.T, c api.Con) (tame bool) {
	t.Helper()
	if Is(c) != wantIs(c) {
		t.Fatal(brief(c), Is(c))
	}
	n, e := Normal(c)
	want, _, tame := wantNormal(c)
	if tame {
		expectCon(t, c, n, e, want)
	} else {
		expectNone(t, c, n, e, api.ErrBudget)
	}
	h, e := Head(c)
	if want, _, ok := wantHead(c); ok {
		expectCon(t, c, h, e, want)
	} else {
		expectNone(t, c, h, e, api.ErrBudget)
	}
	return tame
}

func TestAllLambdas(t *testing.T) {
	for _, c := range lambdas(9) {
		expectModel(t, c)
	}
}

func TestAllSmall(t *testing.T) {
	for _, c := range smallCons(4) {
		expectModel(t, c)
		expectModel(t, app(lam(star(), c), lam(star(), app(v(1), v(0)))))
		expectModel(t, lam(star(), app(c, v(0))))
	}
}

func TestAny(t *testing.T) {
	steps := 0
	for i, c := range randomCons(201, 8000) {
		if n, made, _ := wantNormal(c); made > 0 && tycon.Size(n) > 1 {
			steps++
		}
		if !expectModel(t, c) && i%10 == 0 {
			expectWild(t, c, c)
		}
	}
	if steps < 2000 {
		t.Error("only", steps, "have steps")
	}
}

func TestKinded(t *testing.T) {
	steps, tame := 0, 0
	for _, s := range randomSamples(202, 4000) {
		if !expectModel(t, s.c) {
			continue
		}
		tame++
		if !wantIs(s.c) {
			steps++
		}
	}
	if steps < 2000 || tame < 3990 {
		t.Error(steps, "have steps,", tame, "are tame")
	}
}

// What never ends, whether it grows or not.
func TestWithoutEnd(t *testing.T) {
	for _, s := range []string{"(#0 #0)", "((#0 #0) #0)", "(#0 (#0 #0))", "((#0 #0) -> int)", "(int -> (#0 #0))", "{a: (#0 #0), b: (#0 #0)}", "(all *. (#1 #1))", "(fn *. (#1 #1))", "(fn *. ((#1 #1) #0))", "(mu *. (#1 #1))", "((#0 #0) int)", "(?0 (#0 #0))", "(#0 {a: (#0 #0)})", "((fn *. (#1 #1)) int)"} {
		f := lam(star(), read(t, s))
		c := app(f, f)
		expectWild(t, s, c)
		expectWild(t, s, fields(api.CRecord, "a b", num(), c))
		// Everything is normalized, even if it is not needed.
		expectWild(t, s, app(lam(star(), num()), c))
		expectWild(t, s, app(lam(star(), app(lam(star(), num()), c)), num()))
	}
	f := read(t, "(fn *. ((fn *. int) (#0 #0)))")
	expectNormal(t, app(f, f), num())
}

// What grows with each step nests deeper than constructors do, and may hold much.
func TestGrowsWithoutEnd(t *testing.T) {
	large := balanced(6000, num())
	loop := app(v(0), v(0))
	for i, part := range []api.Con{
		to(large, loop), to(loop, large), lam(star(), to(large, app(v(1), v(1)))), app(num(), to(large, loop)), deep(190, loop),
		app(v(0), deep(50, loop)), app(loop, slices.Repeat([]api.Con{num()}, 50)...),
	} {
		f := lam(star(), part)
		expectWild(t, i, app(f, f))
	}
}

// P11.3, P11.4
func TestWild(t *testing.T) {
	f := lam(star(), app(v(0), v(0)))
	for i, c := range []api.Con{app(f, f), app(id(), app(f, f)), mu(star(), app(f, f)), app(lam(star(), num()), app(f, f)), app(mu(one(), v(0)), app(f, f))} {
		u, e := Unroll(c)
		expectNone(t, i, u, e, api.ErrBudget)
		for _, l := range [][2]api.Con{{c, c}, {c, num()}, {num(), c}} {
			if same, e := Equal(l[0], l[1]); same || e != api.ErrBudget {
				t.Error(i, same, e)
			}
		}
	}
}

// manySteps returns a constructor that is normalized in 10,000 steps: in each of 4 fields, the 49 fields of a function are applied to another one, which makes 50 steps.
func manySteps() api.Con {
	f := lam(arrow(one(), star()), wide(49, app(v(0), id())))
	g := lam(one(), nested(50, v(0), num()))
	return wide(4, app(f, g))
}

func TestMostSteps(t *testing.T) {
	c := manySteps()
	want := wide(4, wide(49, num()))
	if n, steps, ok := wantNormal(c); steps != 10000 || !ok || !alike(n, want) {
		t.Fatal(steps, ok)
	}
	expectNormal(t, c, want)
	expectNormal(t, lam(star(), app(v(1), app(c, v(0)))), lam(star(), app(v(1), app(want, v(0)))))
	// Eta steps do not count.
	expectNormal(t, to(c, lam(star(), app(v(1), v(0)))), to(want, v(0)))
	expectNormal(t, to(lams(100, nested(3, v(2), num())), c), to(lams(100, nested(3, v(2), num())), want))
	more := app(id(), num())
	for i, c := range []api.Con{to(c, more), to(more, c), app(id(), c), app(c, more), app(lam(star(), num()), c), lam(star(), to(more, c)), app(lam(star(), v(1)), c)} {
		expectWild(t, i, c)
	}
	// Equal counts the steps of both by themselves.
	if same, e := Equal(c, c); !same || e != api.OK {
		t.Error(same, e)
	}
}

// manyHeadSteps returns a constructor that has its head form after 9,998 steps, and one for each of n functions around it: to apply a function n times takes 2 more steps than it takes itself.
func manyHeadSteps(n int) api.Con {
	times := func(n int) api.Con { return lam(one(), lam(star(), nested(n, v(1), v(0)))) }
	f := lam(star(), app(times(7), id(), v(0)))
	g := lam(star(), app(times(8), f, v(0)))
	h := lam(star(), app(times(10), g, v(0)))
	return nested(n, id(), app(times(12), h, num()))
}

func TestMostHeadSteps(t *testing.T) {
	c := manyHeadSteps(2)
	if h, steps, ok := wantHead(c); steps != 10000 || !ok || !alike(h, num()) {
		t.Fatal(steps, ok)
	}
	h, e := Head(c)
	expectCon(t, "most", h, e, num())
	h, e = Head(to(manyHeadSteps(3), num()))
	expectCon(t, "no step", h, e, to(manyHeadSteps(3), num()))
	h, e = Head(manyHeadSteps(3))
	expectNone(t, "one more", h, e, api.ErrBudget)
	// Steps elsewhere are not made, so that they do not count.
	h, e = Head(app(lam(star(), lam(star(), fields(api.CRecord, "a b", v(0), v(1)))), c, c))
	expectCon(t, "not at the head", h, e, fields(api.CRecord, "a b", c, c))
}

func text() api.Con { return api.Con{Op: api.CText} }

// Each constructor on the way has at most MaxNodes nodes, and MaxDepth levels.
func TestTooManyNodes(t *testing.T) {
	double := lam(star(), to(v(0), v(0)))
	half := balanced(9998, num())
	expectNormal(t, app(double, half), to(half, half))
	expectNormal(t, app(double, balanced(9999, num())), balanced(19999, num()))
	expectWild(t, "step", app(double, balanced(10000, num())))
	// So is what would become small again.
	f, drop := lam(star(), to(app(v(0), balanced(9990, num())), app(v(0), balanced(9990, num())))), lam(star(), num())
	expectNormal(t, app(f, drop), to(num(), num()))
	expectWild(t, "step", app(f, lam(star(), balanced(9, num()))))
	// A node with normal parts is too large, though each of them is not.
	quarter := balanced(4999, num())
	part := app(double, quarter)
	expectNormal(t, to(part, part), balanced(19999, num()))
	expectNormal(t, fields(api.CRecord, "a b", part, app(double, quarter)), fields(api.CRecord, "a b", to(quarter, quarter), to(quarter, quarter)))
	expectNormal(t, fields(api.CRecord, "a b c", part, part, v(0)), fields(api.CRecord, "a b c", to(quarter, quarter), to(quarter, quarter), v(0)))
	for i, c := range []api.Con{to(part, to(part, num())), fields(api.CSum, "a b c d", part, part, num(), num()), to(to(num(), part), part), app(app(v(0), part), part), app(app(id(), v(0)), to(part, part)), lam(star(), to(num(), to(part, part)))} {
		expectWild(t, i, c)
	}
	// This holds for nodes that are steps, too.
	expectNormal(t, app(drop, app(double, balanced(9998, num()))), num())
	expectNormal(t, app(app(lam(star(), lam(star(), num())), part), part), num())
	expectWild(t, "application", app(drop, app(double, balanced(9999, num()))))
	one := fields(api.CRecord, "a", num())
	expectNormal(t, app(lam(star(), one), app(double, balanced(9997, num()))), one)
	expectWild(t, "application", app(lam(star(), one), app(double, balanced(9998, num()))))
	expectWild(t, "eta", lam(star(), app(fields(api.CRecord, "a", app(double, balanced(9998, num()))), v(0))))
	eta := lam(star(), app(app(double, balanced(9998, num())), v(0)))
	expectNormal(t, eta, to(balanced(9998, num()), balanced(9998, num())))
	expectWild(t, "eta", lam(star(), app(app(double, balanced(9999, num())), v(0))))
}

func TestTooManyLevels(t *testing.T) {
	f := lam(star(), deep(200, v(0)))
	expectNormal(t, app(f, deep(199, num())), deep(399, num()))
	expectWild(t, "step", app(f, deep(200, num())))
	expectNormal(t, app(lam(star(), deep(397, v(0))), deep(2, num())), deep(399, num()))
	expectWild(t, "step", app(lam(star(), deep(397, v(0))), deep(3, num())))
	// A node with normal parts.
	expectNormal(t, to(num(), app(f, deep(198, num()))), deep(399, num()))
	for i, c := range []api.Con{to(app(f, deep(199, num())), num()), lam(star(), app(f, deep(199, num()))), fields(api.CSum, "A", app(f, deep(199, num()))), binder(api.CAll, star(), app(f, deep(199, num()))), app(v(0), app(f, deep(199, num()))), deep(10, app(f, deep(190, num()))), to(num(), app(lam(star(), app(f, v(0))), deep(199, num())))} {
		expectWild(t, i, c)
	}
	// Nodes that are steps.
	expectNormal(t, app(lam(star(), num()), app(f, deep(198, num()))), num())
	expectWild(t, "application", app(lam(star(), num()), app(f, deep(199, num()))))
	expectNormal(t, lam(star(), app(app(f, deep(197, num())), v(0))), deep(397, num()))
	expectWild(t, "eta", lam(star(), app(app(f, deep(198, num())), v(0))))
	// Eta steps take levels away before they are counted.
	thin := nested(1, id(), lam(star(), app(app(f, deep(196, num())), v(0))))
	expectNormal(t, deep(3, thin), deep(399, num()))
	expectWild(t, "eta", deep(4, thin))
	expectNormal(t, fields(api.CRecord, "a", lams(3, app(deep(5, num()), v(2), v(1), v(0)))), fields(api.CRecord, "a", deep(5, num())))
}

// What stands beside a node, or around it, leaves room for its normal form only, whatever it is on the way, and wherever it stands.
func TestRoom(t *testing.T) {
	double, drop := lam(star(), to(v(0), v(0))), lam(star(), num())
	f := lam(star(), deep(200, v(0)))
	eta := func(c api.Con) api.Con { return lam(star(), app(c, v(0))) }
	// Of 8,001 nodes, and of 301 levels, after an eta step.
	nodes, levels := eta(app(double, balanced(4000, num()))), eta(app(f, deep(100, num())))
	half := balanced(4000, num())
	expectNormal(t, to(nodes, balanced(11998, num())), to(to(half, half), balanced(11998, num())))
	expectNormal(t, to(balanced(11998, num()), nodes), to(balanced(11998, num()), to(half, half)))
	expectNormal(t, deep(99, levels), deep(399, num()))
	expectNormal(t, lams(99, levels), lams(99, deep(300, num())))
	for i, c := range []api.Con{to(nodes, balanced(11999, num())), to(balanced(11999, num()), nodes), to(lam(star(), nodes), balanced(11998, num())), to(balanced(11998, num()), lam(star(), nodes)), deep(100, levels), lams(100, levels), to(deep(99, levels), num())} {
		expectWild(t, i, c)
	}
	// A CLam to which no eta step applies.
	same := func(c api.Con) api.Con { return lam(star(), app(c, v(1))) }
	expectNormal(t, to(balanced(11995, num()), same(app(double, half))), to(balanced(11995, num()), same(to(half, half))))
	expectNormal(t, deep(97, same(app(f, deep(100, num())))), deep(97, same(deep(300, num()))))
	for n := range 3 {
		expectWild(t, n, to(balanced(11996+n, num()), same(app(double, half))))
		expectWild(t, n, deep(98+n, same(app(f, deep(100, num())))))
	}
	// A beta step makes room again: of its argument, or of its function, nothing is left.
	large := balanced(14990, num())
	wide := lam(star(), lam(star(), app(v(0), to(v(1), v(1)))))
	expectNormal(t, to(large, app(drop, app(double, half))), to(large, num()))
	expectNormal(t, to(large, app(wide, balanced(3000, num()), drop)), to(large, num()))
	expectNormal(t, deep(150, app(drop, app(f, deep(90, num())))), deep(150, num()))
	expectNormal(t, deep(150, app(lam(star(), lam(star(), app(v(0), app(f, v(1))))), deep(90, num()), drop)), deep(150, num()))
	// An application that stays needs room for both of its parts.
	expectNormal(t, to(balanced(11996, num()), app(app(double, half), num())), to(balanced(11996, num()), app(to(half, half), num())))
	expectNormal(t, to(balanced(11996, num()), app(num(), app(double, half))), to(balanced(11996, num()), app(num(), to(half, half))))
	for i, c := range []api.Con{to(balanced(11997, num()), app(app(double, half), num())), to(balanced(11997, num()), app(num(), app(double, half))), deep(99, app(app(f, deep(100, num())), num())), deep(99, app(num(), app(f, deep(100, num()))))} {
		expectWild(t, i, c)
	}
	expectNormal(t, deep(98, app(app(f, deep(100, num())), num())), deep(98, app(deep(300, num()), num())))
	expectNormal(t, deep(98, app(num(), app(f, deep(100, num())))), deep(98, app(num(), deep(300, num()))))
}

func TestTooGreatAnIndex(t *testing.T) {
	last := api.MaxNodes
	f := lam(star(), lam(star(), to(v(0), v(1))))
	expectNormal(t, app(f, v(last-1)), lam(star(), to(v(0), v(last))))
	expectWild(t, "variable", app(f, v(last)))
	// The step after it would make the index smaller again.
	expectWild(t, "variable", app(lam(star(), binder(api.CAll, star(), app(v(1), num()))), lam(star(), v(last))))
	expectNormal(t, app(lam(star(), binder(api.CAll, star(), app(v(1), num()))), lam(star(), v(last-1))), binder(api.CAll, star(), v(last-1)))
	expectWild(t, "under a binder", app(f, lam(star(), to(v(0), v(last)))))
	expectNormal(t, app(f, lam(star(), to(v(0), v(last-1)))), lam(star(), to(v(0), lam(star(), to(v(0), v(last))))))
	expectNormal(t, app(lam(star(), lams(397, num())), v(last)), lams(397, num()))
	expectNormal(t, lam(star(), app(v(last), v(0))), v(last-1))
	// Those that are not shifted may be as great as they can be.
	expectNormal(t, app(id(), v(last)), v(last))
	expectNormal(t, app(lam(star(), v(last)), num()), v(last-1))
	h, e := Head(app(f, v(last)))
	expectNone(t, "head", h, e, api.ErrBudget)
	h, e = Head(app(f, v(last-1)))
	expectCon(t, "head", h, e, lam(star(), to(v(0), v(last))))
	// The step at the head replaces nothing by the variable that would be too great.
	c := app(lam(star(), lam(star(), v(0))), v(last))
	h, e = Head(c)
	expectCon(t, "head", h, e, id())
}

// P11.2

func TestHeadByHand(t *testing.T) {
	for s, want := range map[string]string{
		"((fn *. (#0 -> int)) text)": "(text -> int)", "(((fn *. (fn *. (#1 -> #0))) int) text)": "(int -> text)", "((fn *. #1) int)": "#0", "((fn *. (fn *. (#1 -> #2))) #4)": "(fn *. (#5 -> #1))",
		// The head goes on with what the step yields.
		"((fn *. (#0 int)) (fn *. (#0 -> text)))": "(int -> text)", "(((fn *. (#0 int)) (fn *. (fn *. #1))) text)": "int", "((fn *. ((#1 #0) #0)) int)": "((#0 int) int)", "(((fn *. #0) (fn *. {a: #0})) int)": "{a: int}", "((((fn *. (fn *. #1)) (fn *. #0)) int) text)": "text",
		// Nothing else is touched.
		"((fn *. {a: #0, b: ((fn *. #0) #0)}) ((fn *. #0) int))": "{a: ((fn *. #0) int), b: ((fn *. #0) ((fn *. #0) int))}", "(#0 ((fn *. #0) int))": "(#0 ((fn *. #0) int))", "((#0 ((fn *. #0) int)) ((fn *. #0) int))": "((#0 ((fn *. #0) int)) ((fn *. #0) int))", "(fn *. ((fn *. #0) #0))": "(fn *. ((fn *. #0) #0))", "(fn *. (#1 #0))": "(fn *. (#1 #0))", "((fn *. (fn *. (#1 #0))) #0)": "(fn *. (#1 #0))",
		"{a: ((fn *. #0) int)}": "{a: ((fn *. #0) int)}", "(((fn *. #0) int) -> int)": "(((fn *. #0) int) -> int)", "((mu * -> *. (fn *. ((fn *. #0) #0))) int)": "((mu * -> *. (fn *. ((fn *. #0) #0))) int)", "(mu *. ((fn *. #0) int))": "(mu *. ((fn *. #0) int))", "((all *. ((fn *. #0) int)) int)": "((all *. ((fn *. #0) int)) int)",
		// What is dropped need not be tame.
		"((fn *. int) ((fn *. (#0 #0)) (fn *. (#0 #0))))": "int", "((fn *. (int -> #0)) ((fn *. (#0 #0)) (fn *. (#0 #0))))": "(int -> ((fn *. (#0 #0)) (fn *. (#0 #0))))",
	} {
		h, e := Head(read(t, s))
		expectCon(t, s, h, e, read(t, want))
	}
}

func TestHeadLimits(t *testing.T) {
	double := lam(star(), to(v(0), v(0)))
	h, e := Head(app(double, balanced(9999, num())))
	expectCon(t, "nodes", h, e, balanced(19999, num()))
	f := lam(star(), deep(200, v(0)))
	h, e = Head(app(f, deep(199, num())))
	expectCon(t, "levels", h, e, deep(399, num()))
	three := lam(star(), lam(star(), to(v(1), to(v(1), v(1)))))
	twist := lam(star(), app(v(0), v(0), v(0)))
	self := read(t, "(fn *. (#0 #0))")
	for i, c := range []api.Con{
		app(double, balanced(10000, num())), app(f, deep(200, num())), app(lam(star(), lam(star(), v(1))), v(0), app(double, balanced(12000, num())), app(double, num())),
		// With its arguments, what the step yields is too large.
		app(double, balanced(9900, num()), balanced(500, num())), app(f, deep(198, num()), num(), num()),
		app(three, balanced(6666, num()), num()), app(self, self), app(twist, twist), app(self, self, num()), app(lam(star(), app(v(0), v(0))), lam(star(), app(v(0), v(0), num()))),
	} {
		h, e := Head(c)
		if i == 2 {
			expectCon(t, i, h, e, app(v(0), app(double, num())))
			continue
		}
		expectNone(t, i, h, e, api.ErrBudget)
	}
	h, e = Head(app(double, balanced(9900, num()), balanced(198, num())))
	expectCon(t, "nodes", h, e, app(to(balanced(9900, num()), balanced(9900, num())), balanced(198, num())))
	h, e = Head(app(f, deep(197, num()), num(), num()))
	expectCon(t, "levels", h, e, app(deep(397, num()), num(), num()))
}

// P11.3

func TestEqual(t *testing.T) {
	for _, l := range [][2]string{
		{"((fn *. (#0 -> #0)) int)", "(int -> int)"}, {"(fn *. (#1 #0))", "#0"}, {"(fn *. (fn *. ((#2 #1) #0)))", "((fn *. #0) #0)"}, {"((fn *. int) text)", "((fn *. #0) int)"}, {"{}", "((fn *. #0) {})"}, {"(mu *. (#0 -> ((fn *. #0) int)))", "(mu *. (#0 -> int))"},
	} {
		a, b := read(t, l[0]), read(t, l[1])
		for _, c := range [][2]api.Con{{a, b}, {b, a}, {a, a}, {b, b}} {
			if same, e := Equal(c[0], c[1]); !same || e != api.OK {
				t.Error(l, same, e)
			}
		}
	}
	different := []string{"#0", "#1", "?0", "?1", "int", "text", "{}", "[]", "{a: int}", "{b: int}", "[a: int]", "{a: text}", "{a: int, b: int}", "A.0{*}", "A.1{*}", "A.0{* -> *}", "(int -> text)", "(text -> int)", "(int int)", "(mu *. #0)", "(all *. #0)", "(some *. #0)", "(fn *. #0)", "(fn * -> *. #0)", "(all * -> *. #0)", "(mu *. (mu *. #0))", "(fn *. (#0 #0))", "(fn *. (fn *. #0))", "(fn *. (fn *. #1))"}
	for i, a := range different {
		for j, b := range different {
			c, d := read(t, a), app(id(), read(t, b))
			if same, e := Equal(c, d); same != (i == j) || e != api.OK {
				t.Error(a, b, same, e)
			}
		}
	}
}

// Constructors are equal if their normal forms are, and for no other reason.
func TestEqualOfAny(t *testing.T) {
	l := slices.Concat(lambdas(4), randomCons(203, 300))
	normals := make([]string, len(l))
	for i, c := range l {
		if n, _, ok := wantNormal(c); ok {
			normals[i] = wantText(n)
		}
	}
	for i, a := range l {
		for j, b := range l {
			if i%3 != j%3 {
				continue
			}
			same, e := Equal(a, b)
			wild := normals[i] == "" || normals[j] == ""
			if wild != (e == api.ErrBudget) || !wild && e != api.OK || same != (!wild && normals[i] == normals[j]) {
				t.Fatal(brief(a), brief(b), same, e)
			}
		}
	}
}

// P11.4

func TestUnroll(t *testing.T) {
	list := "(mu * -> *. (fn *. [C: {1: #0, 2: (#1 #0)} | N: {}]))"
	for s, want := range map[string]string{
		"(mu *. #0)": "(mu *. #0)", "(mu *. int)": "int", "(mu *. #3)": "#2", "(mu *. (#0 -> #1))": "((mu *. (#0 -> #1)) -> #0)", "(mu * -> *. (fn *. int))": "(fn *. int)", "(mu *. (all *. (#1 -> #2)))": "(all *. ((mu *. (all *. (#1 -> #3))) -> #1))",
		// With arguments, and what these make of it.
		"(" + list + " int)": "[C: {1: int, 2: (" + list + " int)} | N: {}]", "((mu * -> *. (fn *. int)) text)": "int", "((mu * -> *. #0) int)": "((mu * -> *. #0) int)", "(((mu * -> * -> *. (fn *. (fn *. {1: #0, 2: #1, 3: #2, 4: #3}))) int) #0)": "{1: #0, 2: int, 3: (mu * -> * -> *. (fn *. (fn *. {1: #0, 2: #1, 3: #2, 4: #3}))), 4: #0}",
		"((mu * -> *. (fn *. {a: (#0 int)})) (fn *. {b: #0}))": "{a: {b: int}}", "(mu * -> *. #1)": "#0", "((mu *. #1) int)": "(#0 int)", "((mu *. (int #0)) text)": "((int (mu *. (int #0))) text)",
		// Only the normal form counts.
		"((fn *. #0) (mu *. (#0 -> ((fn *. #0) text))))": "((mu *. (#0 -> text)) -> text)", "(((fn *. #0) " + list + ") ((fn *. #0) int))": "[C: {1: int, 2: (" + list + " int)} | N: {}]", "(fn *. ((mu * -> *. (fn *. (#1 #0))) #0))": "(mu * -> *. #0)", "(fn *. (" + list + " #0))": "(fn *. [C: {1: #0, 2: (" + list + " #0)} | N: {}])", "((fn *. (#0 int)) (mu * -> *. (fn *. {a: #0})))": "{a: int}", "((fn *. (mu *. (#0 -> #1))) (fn *. (#1 #0)))": "((mu *. (#0 -> #1)) -> #0)",
	} {
		u, e := Unroll(read(t, s))
		expectCon(t, s, u, e, read(t, want))
	}
	for _, s := range []string{"int", "#0", "?0", "A.0{*}", "{}", "[a: (mu *. #0)]", "(int -> (mu *. #0))", "(all *. #0)", "(some *. (mu *. #0))", "(fn *. (mu *. #0))", "(#0 (mu *. #0))", "(int (mu *. #0))", "((fn *. int) (mu *. #0))", "((fn *. (fn *. #0)) (mu *. #0))", "((all *. #0) (mu *. #0))"} {
		u, e := Unroll(read(t, s))
		expectNone(t, s, u, e, api.ErrType)
	}
}

func TestUnrollTooLarge(t *testing.T) {
	most := mu(star(), to(v(0), balanced(9998, num())))
	u, e := Unroll(most)
	expectCon(t, "nodes", u, e, to(most, balanced(9998, num())))
	deepest := mu(star(), deep(199, v(0)))
	u, e = Unroll(deepest)
	expectCon(t, "levels", u, e, deep(199, deepest))
	self := lam(star(), app(v(0), v(0)))
	last := v(api.MaxNodes - 2)
	u, e = Unroll(mu(star(), binder(api.CAll, star(), to(v(1), last))))
	expectCon(t, "index", u, e, binder(api.CAll, star(), to(mu(star(), binder(api.CAll, star(), to(v(1), v(api.MaxNodes-1)))), v(api.MaxNodes-3))))
	for i, c := range []api.Con{
		mu(star(), to(v(0), balanced(10001, num()))), mu(star(), deep(200, v(0))), mu(star(), binder(api.CAll, star(), to(v(1), v(api.MaxNodes)))), mu(star(), fields(api.CRecord, "a b", v(0), wide(999, deep(9, num())))),
		// The part alone would fit, but not with its arguments.
		app(mu(star(), to(v(0), balanced(9900, num()))), balanced(300, num())), app(mu(star(), deep(198, v(0))), num(), num(), num()),
		// The constructor that is asked for is not tame.
		app(mu(one(), self), self), app(mu(one(), self), self, num()), app(mu(one(), lam(star(), to(v(0), v(0)))), balanced(10000, num())), app(mu(one(), lam(star(), app(v(0), num()))), lam(star(), app(self, self))),
	} {
		u, e := Unroll(c)
		expectNone(t, i, u, e, api.ErrBudget)
		if n, f := Normal(c); i < 9 && (f != api.OK || tycon.Size(n) == 0) {
			t.Error(i, f)
		}
	}
}

// ErrArg comes first, and then ErrBudget.
func TestInvalid(t *testing.T) {
	self := lam(star(), app(v(0), v(0)))
	wild := app(self, self)
	for i, c := range invalid() {
		for name, f := range map[string]func(api.Con) (api.Con, api.Errno){"Normal": Normal, "Head": Head, "Unroll": Unroll} {
			r, e := f(c)
			expectNone(t, []any{name, i}, r, e, api.ErrArg)
			r, e = f(to(wild, c))
			expectNone(t, []any{name, i}, r, e, api.ErrArg)
		}
		if Is(c) {
			t.Error(i, "is normal")
		}
		for _, other := range []api.Con{num(), wild, c} {
			same, e := Equal(c, other)
			again, f := Equal(other, c)
			if same || again || e != api.ErrArg || f != api.ErrArg {
				t.Error(i, e, f)
			}
		}
		if s, e := Text(c); s != "" || e != api.ErrArg {
			t.Error(i, s, e)
		}
	}
}
