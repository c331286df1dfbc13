package value

import (
	"math/rand"
	"slices"
	"testing"

	"pilaster/api"
	"pilaster/normal"
)

// P14.3

func expectFits(t *testing.T, v api.Value, c api.Con, want bool, e api.Errno) {
	t.Helper()
	if ok, f := Fits(v, c); ok != want || f != e {
		t.Fatalf("%s and %s: %v, %d; want %v, %d", brief(v), brief(c), ok, f, want, e)
	}
}

func TestFitsByHand(t *testing.T) {
	yes := roll(inject("True", unit()))
	cell := func(v, rest api.Value) api.Value { return roll(inject("Cons", record("1 2", v, rest))) }
	empty := roll(inject("Nil", unit()))
	for i, c := range []struct {
		v    api.Value
		c    string
		want bool
	}{
		{num(0), "int", true}, {num(-api.MaxNumber), "int", true}, {str(""), "text", true}, {str("\xff"), "text", true}, {num(0), "text", false}, {str("0"), "int", false}, {num(0), "((fn *. #0) int)", true}, {num(0), "((fn *. int) text)", true}, {str("a"), "((fn *. int) text)", false}, {num(0), "((fn * -> *. (#0 int)) (fn *. #0))", true},
		{unit(), "{}", true}, {unit(), "[]", false}, {unit(), "{a: int}", false}, {record("a", num(1)), "{}", false}, {record("a", num(1)), "{a: int}", true}, {record("a", num(1)), "{b: int}", false}, {record("a", num(1)), "{a: text}", false}, {record("a", num(1)), "{a: int, b: int}", false}, {record("a b", num(1), num(1)), "{a: int}", false}, {record("a b", num(1), str("")), "{a: int, b: text}", true}, {record("a b", num(1), str("")), "{a: int, b: int}", false}, {record("a b", num(1), str("")), "{a: text, b: text}", false}, {record("a c", num(1), str("")), "{a: int, b: text}", false}, {record("a", num(1)), "[a: int]", false}, {record("a", num(1)), "int", false}, {record("a", unit()), "{a: ((fn *. {}) int)}", true},
		{block(num(1)), "{}", false}, {block(num(1)), "{a: int}", false}, {block(num(1)), "{1: int}", false}, {block(unit()), "[a: {}]", false}, {block(num(1)), "int", false}, {record("a", block(num(1))), "{a: {}}", false}, {block(num(1)), "?0", false},
		{inject("A", num(1)), "[A: int]", true}, {inject("A", num(1)), "[A: int | B: text]", true}, {inject("B", num(1)), "[A: int | B: text]", false}, {inject("B", str("")), "[A: int | B: text]", true}, {inject("C", num(1)), "[A: int | B: text]", false}, {inject("A", num(1)), "[]", false}, {inject("A", num(1)), "{A: int}", false}, {inject("A", num(1)), "int", false}, {inject("A", inject("A", unit())), "[A: [A: {}]]", true}, {inject("A", num(1)), "[a: int]", false},
		{tagged(0, num(1)), "[A: int]", false}, {tagged(0, num(1)), "[0: int]", false}, {tagged(1, num(1)), "[0: int | 1: int]", false}, {tagged(0, num(1)), "int", false}, {tagged(0, unit()), "(mu *. [A: {}])", false}, {inject("0", num(1)), "[0: int]", true},
		{yes, boolText, true}, {roll(inject("None", unit())), boolText, false}, {roll(inject("True", num(0))), boolText, false}, {inject("True", unit()), boolText, false}, {inject("True", unit()), "[False: {} | True: {}]", true}, {yes, "[False: {} | True: {}]", false}, {roll(yes), boolText, false}, {roll(num(1)), "(mu *. int)", true}, {roll(roll(num(1))), "(mu *. (mu *. int))", true}, {roll(roll(num(1))), "(mu *. int)", false}, {num(1), "(mu *. int)", false}, {roll(num(1)), "int", false}, {roll(roll(roll(num(1)))), emptyMu, false}, {roll(unit()), "{}", false}, {roll(num(1)), "(all *. #0)", false}, {roll(num(1)), "(int -> int)", false}, {roll(num(1)), "(some *. #0)", false}, {roll(num(1)), "A.0{*}", false}, {roll(num(1)), "?0", false}, {roll(num(1)), "(A.0{* -> *} (mu *. int))", false}, {roll(fun()), "(mu *. (#0 -> #0))", true},
		{empty, listText, true}, {cell(num(1), cell(num(2), empty)), listText, true}, {cell(num(1), cell(str("2"), empty)), listText, false}, {cell(num(1), num(2)), listText, false}, {cell(str("1"), empty), "(" + listOf + " text)", true}, {cell(num(1), empty), "(" + listOf + " text)", false}, {cell(empty, cell(cell(num(1), empty), empty)), "(" + listOf + " (" + listOf + " int))", true}, {cell(empty, empty), "(" + listOf + " int)", false}, {cell(num(1), cell(yes, empty)), "((fn *. (" + listOf + " #0)) int)", false},
		{roll(inject("Node", roll(inject("Leaf", record("1 2", yes, yes))))), "(" + perfectOf + " " + boolText + ")", true}, {roll(inject("Node", roll(inject("Leaf", yes)))), "(" + perfectOf + " " + boolText + ")", false}, {roll(inject("Leaf", yes)), "(" + perfectOf + " " + boolText + ")", true},
		{pack(num(1)), "(some *. #0)", true}, {pack(num(1)), "(some * -> *. text)", true}, {pack(fun()), "(some *. #0)", true}, {pack(block(tagged(0, unit()))), "(some *. {a: #0})", true}, {num(1), "(some *. int)", false}, {pack(num(1)), "int", false}, {pack(num(1)), "(all *. #0)", false}, {pack(num(1)), "{}", false}, {pack(num(1)), "(mu *. (some *. #0))", false}, {roll(pack(num(1))), "(mu *. (some *. #1))", true}, {pack(num(1)), "?0", false}, {pack(num(1)), "A.0{*}", false},
		{fun(), "(int -> text)", true}, {fun(), "(all *. int)", true}, {fun(), "(all * -> *. (#0 text))", true}, {fun(), "(some *. (#0 -> #0))", false}, {fun(), "int", false}, {fun(), "{}", false}, {fun(), "[A: (int -> int)]", false}, {fun(), "?0", false}, {fun(), "A.0{*}", false}, {fun(), "(A.0{* -> *} int)", false}, {fun(), "(mu *. (int -> #0))", false}, {num(1), "(int -> int)", false}, {fun(), "((fn *. (#0 -> #0)) int)", true},
		{num(1), "?0", false}, {num(1), "A.0{*}", false}, {unit(), "A.0{*}", false}, {unit(), "?7", false}, {record("a b", unit(), num(1)), "{a: ?1, b: int}", false}, {inject("B", num(1)), "[A: ?1 | B: int]", true}, {inject("A", num(1)), "[A: ?1 | B: int]", false},
	} {
		ok, e := Fits(c.v, con(c.c))
		if ok != c.want || e != api.OK {
			t.Error(i, brief(c.v), c.c, ok, e)
		}
	}
}

func TestFitsRefuses(t *testing.T) {
	for i, c := range noTypes() {
		for _, v := range []api.Value{num(1), unit(), fun(), roll(num(1)), {}} {
			if ok, e := Fits(v, c); ok || e != api.ErrArg {
				t.Error(i, brief(v), ok, e)
			}
		}
	}
	for _, v := range invalidValues() {
		for _, c := range []api.Con{number(), con("{}"), con(listText), wild(), vast(), con("#0")} {
			if ok, e := Fits(v, c); ok || e != api.ErrArg {
				t.Error(ok, e)
			}
		}
	}
	// A type that is not tame is refused, even if nothing in the value asks for it.
	hidden := capp(con("(fn *. int)"), wild())
	for _, v := range []api.Value{num(1), unit(), fun(), roll(num(1)), pack(num(1)), tagged(0, unit()), record("a", num(1))} {
		for _, c := range []api.Con{wild(), hidden, named(api.CRecord, "a", wild()), named(api.CSum, "A B", number(), wild()), mu(wild()), to(number(), wild())} {
			expectFits(t, v, c, false, api.ErrBudget)
		}
	}
}

func TestFitsWhereNothingIsUnrolled(t *testing.T) {
	for _, c := range []struct {
		v    api.Value
		c    api.Con
		want bool
		e    api.Errno
	}{
		{roll(num(1)), vast(), false, api.ErrBudget}, {num(1), vast(), false, api.OK}, {unit(), vast(), false, api.OK}, {inject("A", roll(num(1))), vast(), false, api.OK}, {pack(roll(num(1))), vast(), false, api.OK}, {fun(), vast(), false, api.OK}, {block(roll(num(1))), vast(), false, api.OK},
		// Fields are looked at in order, up to the first one that does not fit.
		{record("a b", roll(num(1)), num(1)), named(api.CRecord, "a b", vast(), number()), false, api.ErrBudget}, {record("a b", roll(num(1)), str("")), named(api.CRecord, "a b", vast(), number()), false, api.ErrBudget}, {record("a b", num(1), roll(num(1))), named(api.CRecord, "a b", number(), vast()), false, api.ErrBudget}, {record("a b", str(""), roll(num(1))), named(api.CRecord, "a b", number(), vast()), false, api.OK}, {record("a b", num(1), num(1)), named(api.CRecord, "a b", vast(), vast()), false, api.OK}, {record("a c", roll(num(1)), num(1)), named(api.CRecord, "a b", vast(), number()), false, api.OK}, {record("a b", roll(num(1)), num(1)), named(api.CRecord, "a b c", vast(), number(), number()), false, api.OK},
		{inject("A", roll(num(1))), named(api.CSum, "A B", number(), vast()), false, api.OK}, {inject("B", roll(num(1))), named(api.CSum, "A B", number(), vast()), false, api.ErrBudget}, {inject("A", num(1)), named(api.CSum, "A B", number(), vast()), true, api.OK}, {inject("C", roll(num(1))), named(api.CSum, "A B", number(), vast()), false, api.OK}, {tagged(0, roll(num(1))), named(api.CSum, "A", vast()), false, api.OK}, {roll(roll(num(1))), mu(vast()), false, api.ErrBudget}, {roll(num(1)), mu(vast()), false, api.OK},
		{pack(roll(num(1))), api.Con{Op: api.CSome, L: []api.Con{vast()}}, true, api.OK}, {fun(), to(vast(), vast()), true, api.OK}, {fun(), api.Con{Op: api.CAll, L: []api.Con{vast()}}, true, api.OK}, {roll(pack(roll(num(1)))), mu(api.Con{Op: api.CSome, L: []api.Con{vast()}}), true, api.OK},
	} {
		expectFits(t, c.v, c.c, c.want, c.e)
	}
	// A type that grows whenever it is unrolled, until it is too large.
	perfect := con("(" + perfectOf + " {})")
	v, tooLarge := unit(), false
	for n := range 20 {
		x := roll(inject("Leaf", v))
		for range n {
			x = roll(inject("Node", x))
		}
		ok, e := Fits(x, perfect)
		tooLarge = tooLarge || e == api.ErrBudget
		if want, f := wantFits(x, perfect); ok != want || e != f || ok == tooLarge {
			t.Error(n, ok, e, want, f)
		}
		if n < 12 {
			v = record("1 2", v, v)
		}
	}
	if !tooLarge {
		t.Error("never too large")
	}
}

func TestFitsOfAny(t *testing.T) {
	r := rand.New(rand.NewSource(1421))
	values := slices.Concat(randomValues(1422, 300), dataUpTo(3))
	yes, no, unknown := 0, 0, 0
	for _, c := range slices.Concat(handTypes(), randomTypes(1423, 3000, false), randomTypes(1424, 1000, true)) {
		var l []api.Value
		for range 8 {
			v, ok := randomFit(r, c, 2+r.Intn(9))
			if ok {
				expectFits(t, v, c, true, api.OK)
				l = append(l, v, changed(r, v), changed(r, v), changed(r, changed(r, v)))
			}
			l = append(l, pick(r, values...))
		}
		for _, v := range l {
			want, e := wantFits(v, c)
			expectFits(t, v, c, want, e)
			switch {
			case e != api.OK:
				unknown++
			case want:
				yes++
			default:
				no++
			}
		}
	}
	if yes < 5000 || no < 5000 {
		t.Error(yes, no, unknown)
	}
}

// Large values and types take no long time, as no type is unrolled twice.
func TestFitsOfLarge(t *testing.T) {
	c := con(treeText)
	c.L[0].Names = append(c.L[0].Names, "Z")
	c.L[0].L = append(c.L[0].L, conOfSize(6000))
	leaf := roll(inject("Leaf", unit()))
	trees := []api.Value{leaf}
	for n := range 12 {
		trees = append(trees, roll(inject("Node", record("1 2", trees[n], trees[n]))))
	}
	v := trees[11]
	expectFits(t, v, c, true, api.OK)
	if _, e := Term(v, c); e != api.ErrBig {
		t.Error(e)
	}
	*nodeAtEnd(&v) = num(1)
	expectFits(t, v, c, false, api.OK)
	// Each field has a type of its own.
	wideType, wideValue := api.Con{Op: api.CRecord}, api.Value{Op: api.VRecord}
	for i, s := range labels(900) {
		wideType.Names, wideValue.Names = append(wideType.Names, s), append(wideValue.Names, s)
		wideType.L = append(wideType.L, mu(named(api.CSum, "A B", conOfSize(1+i%15), api.Con{Op: api.CVar})))
		wideValue.L = append(wideValue.L, rolls(0, roll(inject("B", roll(inject("B", roll(inject("C", unit()))))))))
	}
	wideType.L[0] = conOfSize(1)
	wideValue.L[0] = num(1)
	expectFits(t, wideValue, wideType, false, api.OK)
}

// nodeAtEnd returns the last node of a value, which has memory of its own.
func nodeAtEnd(v *api.Value) *api.Value {
	*v = clone(*v)
	for len(v.L) > 0 {
		v = &v.L[len(v.L)-1]
	}
	return v
}

// P14.6: equal types are fitted by the same values.
func TestEqualTypes(t *testing.T) {
	r := rand.New(rand.NewSource(1425))
	for i, c := range slices.Concat(handTypes(), randomTypes(1426, 1500, false)) {
		n, e := normal.Normal(c)
		if e != api.OK {
			t.Fatal(i, e)
		}
		d := disguised(r, c)
		if same, e := normal.Equal(c, d); !same || e != api.OK {
			t.Fatal(i, brief(c), brief(d), e)
		}
		for range 6 {
			v, ok := randomFit(r, c, 2+r.Intn(8))
			if !ok || r.Intn(3) == 0 {
				v = changed(r, v)
			}
			want, e := Fits(v, c)
			expectFits(t, v, n, want, e)
			expectFits(t, v, d, want, e)
		}
		for depth := range 5 {
			l, e := All(c, depth)
			for _, same := range []api.Con{n, d} {
				if m, f := All(same, depth); e != f || !alike(l, m) {
					t.Fatal(i, brief(c), depth, e, f)
				}
			}
		}
	}
}

// disguised returns a type with the same normal form as c, a type. What is below a binder of a kind stays in its scope.
func disguised(r *rand.Rand, c api.Con) api.Con {
	if c.Op == api.CApp || c.Op == api.CLam {
		return c
	}
	if c.Op != api.CMu || len(c.Kind.L) == 0 {
		c.L = eachOf(c.L, func(part api.Con) api.Con { return disguised(r, part) })
	}
	switch r.Intn(3) {
	case 0:
		return capp(con("(fn *. #0)"), c)
	case 1:
		return capp(capp(con("(fn *. (fn * -> *. #1))"), c), con("(fn *. int)"))
	}
	return c
}
