package kernel

import (
	"fmt"
	"math/rand"
	"slices"
	"strconv"
	"strings"
	"testing"

	"pilaster/api"
	"pilaster/normal"
)

// con returns the constructor with a text that is known to have one.
func con(s string) api.Con {
	c, e := normal.Parse(s)
	if e != api.OK {
		panic(s)
	}
	return c
}

func cons(l ...string) []api.Con {
	var r []api.Con
	for _, s := range l {
		r = append(r, con(s))
	}
	return r
}

// in returns a context: its kinds with commas between them, and the types.
func in(kinds string, types ...string) api.Context {
	g := api.Context{Types: cons(types...)}
	for _, s := range strings.FieldsFunc(kinds, func(r rune) bool { return r == ',' }) {
		g.Kinds = append(g.Kinds, kindOf(s))
	}
	return g
}

// kindOf returns the kind that a constant has in the text of a constructor.
func kindOf(s string) api.Kind { return con("A.0{" + s + "}").Kind }

// one is the kind * -> *.
func one() api.Kind { return api.Kind{L: []api.Kind{star(), star()}} }

// Constructors that have no short texts.

func cvar(n int) api.Con { return api.Con{Op: api.CVar, N: n} }

func capp(f, a api.Con) api.Con { return api.Con{Op: api.CApp, L: []api.Con{f, a}} }

func to(a, b api.Con) api.Con { return api.Con{Op: api.CArrow, L: []api.Con{a, b}} }

func binder(op int, k api.Kind, c api.Con) api.Con { return api.Con{Op: op, Kind: k, L: []api.Con{c}} }

func named(op int, names string, l ...api.Con) api.Con {
	return api.Con{Op: op, Names: strings.Fields(names), L: l}
}

// deep returns c, the result of a function of n arguments: so it is n levels deeper.
func deep(n int, c api.Con) api.Con {
	for range n {
		c = to(number(), c)
	}
	return c
}

// balanced returns a type of small depth without binders with n nodes.
func balanced(n int) api.Con {
	switch n {
	case 1:
		return number()
	case 2:
		return named(api.CRecord, "a", number())
	}
	return to(balanced(n/2), balanced(n-1-n/2))
}

// manyLabels returns labels that ascend.
func manyLabels(n int) []string {
	var l []string
	for i := range n {
		l = append(l, "l"+strconv.Itoa(1<<20+i))
	}
	return l
}

func wideCon(op, n int, c api.Con) api.Con {
	return api.Con{Op: op, Names: manyLabels(n), L: slices.Repeat([]api.Con{c}, n)}
}

// doubled returns the type that a function from types to their functions makes of int, if it is applied n times.
func doubled(n int) api.Con {
	c := number()
	for range n {
		c = capp(con("(fn *. (#0 -> #0))"), c)
	}
	return c
}

// wild returns a type that is not tame: the normal form of doubled(13) has 2^14 - 1 nodes, and that of wild() would have too many.
func wild() api.Con { return doubled(14) }

// vast returns a recursive type that is tame, but its unrolling is too large.
func vast() api.Con { return binder(api.CMu, star(), wideCon(api.CRecord, 150, cvar(0))) }

// manySteps returns a type that is normalized in 10,000 steps: in each of 4 fields, the 49 fields of a function are applied to another one, which makes 50 steps. Its normal form is fewSteps().
func manySteps() api.Con {
	id := con("(fn *. #0)")
	f := binder(api.CLam, api.Kind{L: []api.Kind{one(), star()}}, wideCon(api.CRecord, 49, capp(cvar(0), id)))
	part := number()
	for range 50 {
		part = capp(cvar(0), part)
	}
	return wideCon(api.CRecord, 4, capp(f, binder(api.CLam, one(), part)))
}

func fewSteps() api.Con { return wideCon(api.CRecord, 4, wideCon(api.CRecord, 49, number())) }

func tooManySteps() api.Con { return capp(con("(fn *. #0)"), manySteps()) }

// Terms of all kinds.

func v(n int) api.Term { return api.Term{Op: api.EVar, N: n} }

func num(n int) api.Term { return api.Term{Op: api.EInt, N: n} }

func str(s string) api.Term { return api.Term{Op: api.EText, S: s} }

func node(op int, l ...api.Term) api.Term { return api.Term{Op: op, L: l} }

func app(f, a api.Term) api.Term { return node(api.EApp, f, a) }

func let(a, b api.Term) api.Term { return node(api.ELet, a, b) }

func unpack(a, b api.Term) api.Term { return node(api.EUnpack, a, b) }

func unroll(t api.Term) api.Term { return node(api.EUnroll, t) }

func typed(op int, c api.Con, l ...api.Term) api.Term { return api.Term{Op: op, Con: c, L: l} }

func lam(c string, t api.Term) api.Term { return typed(api.ELam, con(c), t) }

func fix(c string, t api.Term) api.Term { return typed(api.EFix, con(c), t) }

func roll(c string, t api.Term) api.Term { return typed(api.ERoll, con(c), t) }

func tapp(t api.Term, c string) api.Term { return typed(api.ETApp, con(c), t) }

func tlam(k api.Kind, t api.Term) api.Term {
	return api.Term{Op: api.ETLam, Kind: k, L: []api.Term{t}}
}

func packed(c, to api.Con, t api.Term) api.Term {
	return api.Term{Op: api.EPack, Con: c, To: to, L: []api.Term{t}}
}

func pack(c, to string, t api.Term) api.Term { return packed(con(c), con(to), t) }

func proj(s string, t api.Term) api.Term {
	return api.Term{Op: api.EProj, S: s, L: []api.Term{t}}
}

func injected(s string, c api.Con, t api.Term) api.Term {
	return api.Term{Op: api.EInject, S: s, Con: c, L: []api.Term{t}}
}

func inject(s, c string, t api.Term) api.Term { return injected(s, con(c), t) }

func record(names string, l ...api.Term) api.Term {
	return api.Term{Op: api.ERecord, Names: strings.Fields(names), L: l}
}

func cases(names string, l ...api.Term) api.Term {
	return api.Term{Op: api.ECase, Names: strings.Fields(names), L: l}
}

func prim(n int, l ...api.Term) api.Term { return api.Term{Op: api.EPrim, N: n, L: l} }

func fail(c string) api.Term { return failed(con(c)) }

func failed(c api.Con) api.Term { return api.Term{Op: api.EFail, N: 1, Con: c} }

// tlams puts n binders of types around t.
func tlams(n int, t api.Term) api.Term {
	for range n {
		t = tlam(star(), t)
	}
	return t
}

// Terms with a fault of their own each, wherever they stand.

func nameless() api.Term { return v(api.MaxNodes) }

func illKinded() api.Term { return fail("(fn *. #0)") }

func illTyped() api.Term { return app(num(1), num(2)) }

func untame() api.Term { return failed(wild()) }

func escaping() api.Term { return unpack(pack("int", "(some *. #0)", num(1)), v(0)) }

// brief shows the beginning of anything.
func brief(x any) string {
	if c, isCon := x.(api.Con); isCon {
		if s, e := normal.Text(c); e == api.OK {
			x = s
		}
	}
	return fmt.Sprintf("%.600s", fmt.Sprintf("%v", x))
}

// alike compares what is not endless in all fields, nil and empty lists being the same.
func alike(a, b any) bool { return fmt.Sprint(a) == fmt.Sprint(b) }

func isZero(c api.Con) bool { return alike(c, api.Con{}) }

func expectType(t *testing.T, about any, g api.Context, x api.Term, want api.Con) {
	t.Helper()
	if c, e := Type(g, x); e != api.OK || !alike(c, want) {
		t.Fatalf("%v: %s, %d; want %s", about, brief(c), e, brief(want))
	}
	if e := Check(g, x, want); e != api.OK {
		t.Fatalf("%v: checked: %d", about, e)
	}
}

func expectFault(t *testing.T, about any, g api.Context, x api.Term, want api.Errno) {
	t.Helper()
	if c, e := Type(g, x); e != want || !isZero(c) {
		t.Fatalf("%v: %s, %d; want %d", about, brief(c), e, want)
	}
}

// typing is a term with its type, or with a fault.
type typing struct {
	x    api.Term
	want string
	e    api.Errno
}

func expectTypings(t *testing.T, g api.Context, l []typing) {
	t.Helper()
	for i, c := range l {
		if c.e != api.OK {
			expectFault(t, i, g, c.x, c.e)
		} else {
			expectType(t, i, g, c.x, con(c.want))
		}
	}
}

// cloneKind, cloneCon, clone and cloneContext return what is equal with memory of its own, with room for more elements, as arguments may have.
func cloneKind(k api.Kind) api.Kind { return api.Kind{L: eachOf(k.L, cloneKind)} }

func cloneCon(c api.Con) api.Con {
	c.Kind, c.L, c.Names = cloneKind(c.Kind), eachOf(c.L, cloneCon), eachOf(c.Names, strings.Clone)
	return c
}

func clone(t api.Term) api.Term {
	t.Con, t.To, t.Kind = cloneCon(t.Con), cloneCon(t.To), cloneKind(t.Kind)
	t.L, t.Names = eachOf(t.L, clone), eachOf(t.Names, strings.Clone)
	return t
}

func cloneContext(g api.Context) api.Context {
	return api.Context{Kinds: eachOf(g.Kinds, cloneKind), Types: eachOf(g.Types, cloneCon)}
}

func eachOf[A, B any](l []A, f func(A) B) []B {
	r := make([]B, 0, len(l)+3)
	for _, x := range l {
		r = append(r, f(x))
	}
	return r
}

func pick[T any](r *rand.Rand, l ...T) T { return l[r.Intn(len(l))] }

// malformedCons returns constructors that are not well-formed: small ones, too large ones, and some that could not be gone through.
func malformedCons() []api.Con {
	endless, shared := to(number(), number()), number()
	endless.L[0], endless.L[1] = endless, endless
	for range 63 {
		shared = to(shared, shared)
	}
	k := api.Kind{L: make([]api.Kind, 2)}
	k.L[0], k.L[1] = k, k
	return []api.Con{{}, {Op: 14}, cvar(-1), cvar(api.MaxNodes + 1), {Op: api.CInt, N: 1}, to(number(), api.Con{}), {Op: api.CAll, L: make([]api.Con, 1)}, {Op: api.CConst, S: "a"}, endless, shared, binder(api.CLam, k, number()), balanced(api.MaxNodes + 1), deep(api.MaxDepth, number())}
}

// unknownCons returns constructors in which an unknown type occurs. Some would have other faults, too.
func unknownCons() []api.Con {
	meta := api.Con{Op: api.CMeta, N: 3}
	l := []api.Con{{Op: api.CMeta}, meta, to(number(), meta), to(meta, number()), capp(number(), meta), capp(con("(fn *. int)"), meta), wideCon(api.CRecord, 3, meta), to(cvar(9), meta), capp(wild(), meta), deep(399, meta)}
	for op := api.CAll; op <= api.CMu; op++ {
		if op != api.CApp {
			l = append(l, binder(op, star(), meta))
		}
	}
	return l
}

// around returns terms that contain a constructor.
func around(c api.Con) []api.Term {
	l := []api.Term{typed(api.ELam, c, v(0)), typed(api.ETApp, c, num(1)), packed(c, number(), v(0)), packed(number(), c, v(0)), injected("A", c, v(0)), typed(api.ERoll, c, v(0)), typed(api.EFix, c, v(0)), failed(c)}
	for _, t := range l[:8:8] {
		l = append(l, let(illTyped(), t), tlam(star(), unpack(nameless(), t)), cases("A B", num(1), num(1), t))
	}
	return l
}

// invalidTerms returns terms that are refused with ErrArg in any context.
func invalidTerms() []api.Term {
	endless, shared := app(num(1), num(2)), num(1)
	endless.L[0], endless.L[1] = endless, endless
	for range 63 {
		shared = app(shared, shared)
	}
	deepest := num(1)
	for range api.MaxDepth {
		deepest = unroll(deepest)
	}
	l := []api.Term{{}, {Op: 20}, v(-1), v(api.MaxNodes + 1), node(api.EApp, v(0)), node(api.ELam, v(0)), {Op: api.EInt, S: "x"}, prim(0, v(0), v(0)), prim(15, v(0), v(0)), prim(api.PNeg, v(0), v(0)), cases("", v(0)), record("b a", num(1), num(2)), {Op: api.EFail, Con: number()}, endless, shared, let(num(1), endless), deepest, failed(balanced(api.MaxNodes))}
	for _, c := range slices.Concat(malformedCons(), unknownCons()) {
		l = append(l, around(c)...)
	}
	return l
}

// invalidContexts returns contexts that are not valid.
func invalidContexts() []api.Context {
	k := api.Kind{L: make([]api.Kind, 2)}
	k.L[0], k.L[1] = k, k
	ints := slices.Repeat([]api.Con{number()}, api.MaxList+1)
	l := []api.Context{{Kinds: []api.Kind{k}}, {Kinds: []api.Kind{{L: make([]api.Kind, 1)}}}, {Kinds: []api.Kind{{L: make([]api.Kind, 3)}, {}}}, {Kinds: make([]api.Kind, api.MaxList+1)}, {Types: ints}, {Kinds: make([]api.Kind, api.MaxList+1), Types: ints[:1]}, {Types: slices.Repeat(ints, 20)}}
	for _, c := range slices.Concat(malformedCons(), unknownCons(), cons("#0", "(fn *. #0)", "(#0 -> int)", "A.0{* -> *}", "(int int)", "(all *. #1)")) {
		l = append(l, api.Context{Types: []api.Con{c}}, api.Context{Types: []api.Con{c, number()}}, api.Context{Types: []api.Con{number(), c}}, api.Context{Kinds: []api.Kind{one()}, Types: []api.Con{number(), c, number()}})
	}
	return l
}
