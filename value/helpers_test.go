package value

import (
	"fmt"
	"math/rand"
	"reflect"
	"slices"
	"strconv"
	"strings"
	"testing"

	"pilaster/api"
	"pilaster/normal"
)

// Values of all kinds.

func num(n int) api.Value { return api.Value{Op: api.VInt, N: n} }

func str(s string) api.Value { return api.Value{Op: api.VText, S: s} }

func record(names string, l ...api.Value) api.Value {
	return api.Value{Op: api.VRecord, Names: strings.Fields(names), L: l}
}

func unit() api.Value { return api.Value{Op: api.VRecord} }

func block(l ...api.Value) api.Value { return api.Value{Op: api.VRecord, L: l} }

func inject(s string, v api.Value) api.Value {
	return api.Value{Op: api.VInject, S: s, L: []api.Value{v}}
}

func tagged(n int, v api.Value) api.Value {
	return api.Value{Op: api.VInject, N: n, L: []api.Value{v}}
}

func roll(v api.Value) api.Value { return api.Value{Op: api.VRoll, L: []api.Value{v}} }

func pack(v api.Value) api.Value { return api.Value{Op: api.VPack, L: []api.Value{v}} }

func fun() api.Value { return api.Value{Op: api.VFun} }

// rolls puts n VRoll around v.
func rolls(n int, v api.Value) api.Value {
	for range n {
		v = roll(v)
	}
	return v
}

// labels returns n labels that ascend.
func labels(n int) []string {
	var l []string
	for i := range n {
		l = append(l, "l"+strconv.Itoa(1<<20+i))
	}
	return l
}

func wide(n int, v api.Value) api.Value {
	return api.Value{Op: api.VRecord, Names: labels(n), L: slices.Repeat([]api.Value{v}, n)}
}

// ofSize returns data with n nodes and little depth.
func ofSize(n int) api.Value {
	switch n {
	case 1:
		return num(7)
	case 2:
		return roll(num(7))
	}
	return record("a b", ofSize((n-1)/2), ofSize(n-1-(n-1)/2))
}

// Types.

// con returns the constructor with a text that is known to have one.
func con(s string) api.Con {
	c, e := normal.Parse(s)
	if e != api.OK {
		panic(s)
	}
	return c
}

func number() api.Con { return api.Con{Op: api.CInt} }

func capp(f, a api.Con) api.Con { return api.Con{Op: api.CApp, L: []api.Con{f, a}} }

func to(a, b api.Con) api.Con { return api.Con{Op: api.CArrow, L: []api.Con{a, b}} }

func mu(c api.Con) api.Con { return api.Con{Op: api.CMu, L: []api.Con{c}} }

func named(op int, names string, l ...api.Con) api.Con {
	return api.Con{Op: op, Names: strings.Fields(names), L: l}
}

func wideCon(op, n int, c api.Con) api.Con {
	return api.Con{Op: op, Names: labels(n), L: slices.Repeat([]api.Con{c}, n)}
}

// conOfSize returns a type of small depth without binders with n nodes.
func conOfSize(n int) api.Con {
	switch n {
	case 1:
		return number()
	case 2:
		return named(api.CRecord, "a", number())
	}
	return to(conOfSize(n/2), conOfSize(n-1-n/2))
}

const (
	boolText   = "(mu *. [False: {} | True: {}])"
	natText    = "(mu *. [S: #0 | Z: {}])"
	listText   = "(mu *. [Cons: {1: int, 2: #0} | Nil: {}])"
	treeText   = "(mu *. [Leaf: {} | Node: {1: #0, 2: #0}])"
	listOf     = "(mu * -> *. (fn *. [Cons: {1: #0, 2: (#1 #0)} | Nil: {}]))"
	perfectOf  = "(mu * -> *. (fn *. [Leaf: #0 | Node: (#1 {1: #0, 2: #0})]))"
	emptyMu    = "(mu *. #0)"
	mixedText  = "{a: int, b: [A: text | B: {c: int}], c: (mu *. [A: int | B: {x: #0, y: #0}])}"
	higherText = "((mu (* -> *) -> *. (fn * -> *. [More: (#1 (fn *. (#1 {1: #0}))) | This: (#0 int)])) (fn *. [A: #0 | B: {}]))"
)

// wild returns a type that is not tame: its normal form would have 2^15 - 1 nodes.
func wild() api.Con {
	c := number()
	for range 14 {
		c = capp(con("(fn *. (#0 -> #0))"), c)
	}
	return c
}

// vast returns a recursive type that is tame, but its unrolling is too large.
func vast() api.Con { return mu(wideCon(api.CRecord, 150, api.Con{Op: api.CVar})) }

// choice returns a type with n values of depth 2.
func choice(n int) api.Con { return wideCon(api.CSum, n, named(api.CRecord, "")) }

// brief shows the beginning of anything.
func brief(x any) string {
	switch y := x.(type) {
	case api.Con:
		if s, e := normal.Text(y); e == api.OK {
			x = s
		}
	case api.Value:
		x = wantText(y)
	}
	return fmt.Sprintf("%.300s", fmt.Sprintf("%v", x))
}

// alike compares what is not endless in all fields, nil and empty lists being the same.
func alike(a, b any) bool { return sameIn(reflect.ValueOf(a), reflect.ValueOf(b)) }

func sameIn(a, b reflect.Value) bool {
	switch {
	case a.Kind() == reflect.Slice:
		if a.Len() != b.Len() {
			return false
		}
		for i := range a.Len() {
			if !sameIn(a.Index(i), b.Index(i)) {
				return false
			}
		}
		return true
	case a.Kind() == reflect.Struct:
		for i := range a.NumField() {
			if !sameIn(a.Field(i), b.Field(i)) {
				return false
			}
		}
		return true
	}
	return a.Equal(b)
}

func isZero(v api.Value) bool { return alike(v, api.Value{}) }

// clone and cloneCon return what is equal with memory of its own, with room for more elements, as arguments may have.
func clone(v api.Value) api.Value {
	v.L, v.Names = eachOf(v.L, clone), eachOf(v.Names, strings.Clone)
	return v
}

func cloneKind(k api.Kind) api.Kind { return api.Kind{L: eachOf(k.L, cloneKind)} }

func cloneCon(c api.Con) api.Con {
	c.Kind, c.L, c.Names = cloneKind(c.Kind), eachOf(c.L, cloneCon), eachOf(c.Names, strings.Clone)
	return c
}

func eachOf[A, B any](l []A, f func(A) B) []B {
	r := make([]B, 0, len(l)+3)
	for _, x := range l {
		r = append(r, f(x))
	}
	return r
}

func pick[T any](r *rand.Rand, l ...T) T { return l[r.Intn(len(l))] }

// randomValue returns a valid value of any kind.
func randomValue(r *rand.Rand, levels int) api.Value {
	if levels <= 1 {
		return pick(r, num(r.Intn(5)-2), num(r.Intn(1<<50)), str(""), str("ab c"), str(string([]byte{byte(r.Intn(256)), byte(r.Intn(256))})), unit(), fun(), unit())
	}
	part := func() api.Value { return randomValue(r, 1+r.Intn(levels-1)) }
	switch r.Intn(9) {
	case 0:
		return randomValue(r, 1)
	case 1:
		return record(pick(r, "a b", "1 2", "A fn"), part(), part())
	case 2:
		return record(pick(r, "a", "val.x", "0"), part())
	case 3:
		return inject(pick(r, "A", "fn", "1", "B.2_c"), part())
	case 4:
		return tagged(r.Intn(api.MaxList+1), part())
	case 5:
		return block(slices.Repeat([]api.Value{part()}, 1+r.Intn(3))...)
	case 6:
		return pack(part())
	}
	return roll(part())
}

func randomValues(seed int64, n int) []api.Value {
	r := rand.New(rand.NewSource(seed))
	var l []api.Value
	for range n {
		l = append(l, randomValue(r, 1+r.Intn(6)))
	}
	return l
}

// randomType returns a type, closed but for the first variables, which are types. Only what is finite occurs if finite is set.
func randomType(r *rand.Rand, variables, levels int, finite bool) api.Con {
	part := func() api.Con { return randomType(r, variables, 1+r.Intn(max(levels-1, 1)), finite) }
	under := func() api.Con { return randomType(r, variables+1, max(levels-1, 1), finite) }
	switch n := r.Intn(16); {
	case n < 3 && variables > 0:
		return api.Con{Op: api.CVar, N: r.Intn(variables)}
	case levels <= 1 && finite:
		return named(pick(r, api.CRecord, api.CRecord, api.CSum), "")
	case levels <= 1:
		return pick(r, number(), api.Con{Op: api.CText}, named(api.CRecord, ""), named(api.CSum, ""), api.Con{Op: api.CMeta, N: 3}, con("A.0{*}"), con("(int -> int)"), con("(all *. #0)"), con("(some *. #0)"), con("(A.1{* -> *} int)"))
	case n < 6:
		return named(api.CRecord, pick(r, "a b", "1 2"), part(), part())
	case n < 8:
		return named(pick(r, api.CRecord, api.CSum), pick(r, "a", "A"), part())
	case n < 11:
		return named(api.CSum, "A B", part(), part())
	case n < 12:
		return capp(con("(fn *. #0)"), part())
	case n < 13:
		return capp(api.Con{Op: api.CLam, L: []api.Con{under()}}, part())
	}
	return mu(under())
}

func randomTypes(seed int64, n int, finite bool) []api.Con {
	r := rand.New(rand.NewSource(seed))
	var l []api.Con
	for range n {
		l = append(l, randomType(r, 0, 1+r.Intn(6), finite))
	}
	return l
}

// handTypes are types of all forms that values have, and some that are fitted by few values or by none.
func handTypes() []api.Con {
	var l []api.Con
	for _, s := range []string{"int", "text", "{}", "[]", "{a: int, b: text}", "[A: int | B: {}]", boolText, natText, listText, treeText, emptyMu, mixedText, higherText,
		"(" + listOf + " int)", "(" + listOf + " (" + listOf + " " + boolText + "))", "(" + perfectOf + " " + boolText + ")", "((fn *. {1: #0, 2: #0}) " + boolText + ")", "(mu *. {1: #0, 2: #0})", "(mu *. (mu *. [A: #0 | B: #1 | C: {}]))", "{f: (int -> int), p: (some *. #0), q: (all *. #0)}", "(mu *. [F: (#0 -> #0) | P: (some *. {1: #0, 2: #1}) | Q: (all * -> *. (#0 #1))])",
		"(some *. #0)", "(all *. #0)", "(int -> text)", "?0", "A.0{*}", "(A.1{* -> *} int)", "{a: ?1, b: A.0{*}}", "[A: ?1 | B: (A.1{* -> *} int)]"} {
		l = append(l, con(s))
	}
	return append(l, vast())
}

// randomFit returns a value that fits a type of this form, if one is found within so many levels.
func randomFit(r *rand.Rand, c api.Con, levels int) (api.Value, bool) {
	c, e := normal.Normal(c)
	if e != api.OK || levels == 0 {
		return api.Value{}, false
	}
	switch c.Op {
	case api.CInt:
		return num(r.Intn(200) - 100), true
	case api.CText:
		return str(pick(r, "", "x", "a\"b", "\x00\xff")), true
	case api.CArrow, api.CAll:
		return fun(), true
	case api.CSome:
		return pack(randomValue(r, min(levels, 3))), true
	case api.CRecord:
		v := api.Value{Op: api.VRecord, Names: c.Names}
		for _, part := range c.L {
			x, ok := randomFit(r, part, levels-1)
			if !ok {
				return api.Value{}, false
			}
			v.L = append(v.L, x)
		}
		return v, true
	case api.CSum:
		for _, i := range r.Perm(len(c.L)) {
			if x, ok := randomFit(r, c.L[i], levels-1); ok {
				return inject(c.Names[i], x), true
			}
		}
		return api.Value{}, false
	}
	u, e := normal.Unroll(c)
	if e != api.OK {
		return api.Value{}, false
	}
	x, ok := randomFit(r, u, levels-1)
	return roll(x), ok
}

// changed returns v with one node that is another one.
func changed(r *rand.Rand, v api.Value) api.Value {
	v = clone(v)
	node := &v
	for len(node.L) > 0 && r.Intn(3) > 0 {
		node = &node.L[r.Intn(len(node.L))]
	}
	*node = pick(r, randomValue(r, 2), roll(*node), unit(), num(1), str("x"), fun(), pack(*node), inject("A", *node), inject("B", unit()), tagged(0, *node), block(*node), record("a b", *node, unit()))
	return v
}

// invalidValues returns values that are not valid: malformed ones, too large ones, and some that could not be gone through.
func invalidValues() []api.Value {
	endless, shared := record("a b", num(1), num(2)), num(1)
	endless.L[0], endless.L[1] = endless, endless
	for range 63 {
		shared = record("a b", shared, shared)
	}
	l := []api.Value{endless, shared, rolls(api.MaxDepth, num(1)), ofSize(api.MaxNodes + 1), wide(api.MaxList+1, num(1)), block(slices.Repeat([]api.Value{num(1)}, api.MaxList+1)...)}
	for _, wrong := range []api.Value{{}, {Op: -1}, {Op: 8}, {Op: api.VRoll}, {Op: api.VInt, N: api.MaxNumber + 1}, {Op: api.VText, N: 1}, {Op: api.VInject, S: "A", N: 1, L: []api.Value{num(1)}}, {Op: api.VFun, S: "x"}, record("b a", num(1), num(2)), tagged(-1, num(1))} {
		l = append(l, wrong, roll(wrong), record("a b", num(1), wrong), inject("A", wrong), pack(roll(wrong)), block(wrong, endless))
	}
	return l
}

// noTypes returns constructors that are not well-formed, or have another kind than *, or none, in the empty scope.
func noTypes() []api.Con {
	endless, shared := to(number(), number()), number()
	endless.L[0], endless.L[1] = endless, endless
	for range 63 {
		shared = to(shared, shared)
	}
	l := []api.Con{{}, {Op: 14}, {Op: api.CInt, N: 1}, {Op: api.CVar}, {Op: api.CMu}, endless, shared, capp(wild(), number()), wideCon(api.CRecord, api.MaxList+1, number()), conOfSize(api.MaxNodes + 1), named(api.CRecord, "b a", number(), number())}
	for _, s := range []string{"#0", "(fn *. #0)", "(#0 -> int)", "A.0{* -> *}", "(int int)", "(all *. #1)", "(mu * -> *. #0)", "(mu *. (fn *. #0))", listOf, "{a: int, b: #3}", "((fn *. int) (fn *. #0))"} {
		l = append(l, con(s))
	}
	return l
}

func expectValue(t *testing.T, about any, v api.Value, e api.Errno, want api.Value) {
	t.Helper()
	if e != api.OK || !alike(v, want) {
		t.Fatalf("%s: %s, %d; want %s", brief(about), brief(v), e, brief(want))
	}
}
