package kernel

import (
	"fmt"
	"slices"
	"strings"
	"sync"
	"testing"
	"unsafe"

	"pilaster/api"
	"pilaster/kinding"
	"pilaster/normal"
	"pilaster/term"
	"pilaster/tycon"
)

// P13.4: the type of a term is a normal type.
func TestTypesAreNormal(t *testing.T) {
	m := newMaker(151)
	for i, s := range samples(152, 3000) {
		for range 3 {
			if c, e := Type(s.g, s.x); e == api.OK && (!normal.Is(c) || !kinding.Type(s.g.Kinds, c) || Check(s.g, s.x, c) != api.OK) {
				t.Fatal(i, brief(s.x), brief(c))
			}
			m.change(&s.x)
		}
	}
}

// withTypeAt adds a type that does not occur, as the variable of terms with an index.
func withTypeAt(s sample, c api.Con, index int) sample {
	n := len(s.g.Types) - index
	x := sure(term.Shift(sure(term.Lams(slices.Repeat([]api.Con{number()}, index), s.x)), 0, 1))
	for range index {
		x = x.L[0]
	}
	return sample{api.Context{Kinds: s.g.Kinds, Types: slices.Insert(slices.Clone(s.g.Types), n, c)}, x, s.c}
}

// withKindAt adds a kind that does not occur, as the variable of constructors with an index.
func withKindAt(s sample, k api.Kind, index int) sample {
	shifted := func(c api.Con) api.Con { return sure(tycon.Shift(c, 1, index)) }
	n := len(s.g.Kinds) - index
	x := sure(term.Shift(tlams(index, s.x), 1, 0))
	for range index {
		x = x.L[0]
	}
	return sample{api.Context{Kinds: slices.Insert(slices.Clone(s.g.Kinds), n, k), Types: eachOf(s.g.Types, shifted)}, x, shifted(s.c)}
}

// P13.4: a term keeps its type if variables are added that do not occur.
func TestWeakening(t *testing.T) {
	m := newMaker(153)
	for i, s := range samples(154, 4000) {
		for range 2 {
			s = withTypeAt(s, m.con(s.g.Kinds, star(), 3), m.Intn(len(s.g.Types)+1))
			expectType(t, i, s.g, s.x, s.c)
			s = withKindAt(s, m.kind(2), m.Intn(len(s.g.Kinds)+1))
			expectType(t, i, s.g, s.x, s.c)
		}
		// It keeps its fault, too.
		m.change(&s.x)
		if !term.Valid(s.x) {
			continue
		}
		c, e := Type(s.g, s.x)
		s.c = c
		if e != api.OK {
			s.c = number()
		}
		for _, more := range []sample{withTypeAt(s, m.con(s.g.Kinds, star(), 3), m.Intn(len(s.g.Types)+1)), withKindAt(s, m.kind(2), m.Intn(len(s.g.Kinds)+1))} {
			if e != api.OK {
				expectFault(t, i, more.g, more.x, e)
			} else {
				expectType(t, i, more.g, more.x, more.c)
			}
		}
	}
}

// P13.4: a term keeps its type if a term of the type of a variable is substituted for it.
func TestSubstitutedTerms(t *testing.T) {
	m := newMaker(155)
	for i, s := range samples(156, 4000) {
		n := len(s.g.Types)
		if n == 0 {
			continue
		}
		g := api.Context{Kinds: s.g.Kinds, Types: s.g.Types[:n-1]}
		by := m.term(g, normalForm(s.g.Types[n-1]), 5)
		if x, e := term.Subst(s.x, by); e == api.OK {
			expectType(t, i, g, x, s.c)
			expectType(t, i, g, let(by, s.x), s.c)
			expectType(t, i, g, app(typed(api.ELam, s.g.Types[n-1], s.x), by), s.c)
		} else if term.Size(s.x)*term.Size(by) < 20000 {
			t.Fatal(i, e)
		}
	}
}

// P13.4: a term keeps its type if constructors of the kinds of variables are substituted for them.
func TestSubstitutedConstructors(t *testing.T) {
	m := newMaker(157)
	for i, s := range samples(158, 4000) {
		n := m.Intn(len(s.g.Kinds) + 1)
		rest := s.g.Kinds[:len(s.g.Kinds)-n]
		var l []api.Con
		for i := range n {
			l = append(l, m.con(rest, s.g.Kinds[len(s.g.Kinds)-1-i], 3))
		}
		substituted := func(c api.Con) api.Con { return sure(tycon.Subst(c, l)) }
		x, e := term.SubstCons(s.x, l)
		if e != api.OK {
			t.Fatal(i, e)
		}
		want := normalForm(substituted(s.c))
		expectType(t, i, api.Context{Kinds: rest, Types: eachOf(s.g.Types, substituted)}, x, want)
		// So does a function of constructors that is applied to them.
		if n > 0 && len(s.g.Types) == 0 {
			k := s.g.Kinds[len(s.g.Kinds)-1]
			first := m.con(s.g.Kinds[:len(s.g.Kinds)-1], k, 3)
			expectType(t, i, api.Context{Kinds: s.g.Kinds[:len(s.g.Kinds)-1]}, typed(api.ETApp, first, tlam(k, s.x)), normalForm(sure(tycon.Subst(s.c, []api.Con{first}))))
		}
	}
}

// A type does not depend on how the constructors of a term are written, as long as their normal forms are the same.
func TestSameNormalForms(t *testing.T) {
	m := newMaker(159)
	for i, s := range samples(160, 2000) {
		var change func(kinds []api.Kind, x api.Term) api.Term
		change = func(kinds []api.Kind, x api.Term) api.Term {
			if x.Con.Op > 0 {
				x.Con = m.disguised(kinds, x.Con)
			}
			if x.To.Op > 0 {
				x.To = m.disguised(kinds, x.To)
			}
			if x.Op == api.ETLam {
				kinds = with(kinds, x.Kind)
			}
			// What is below an EUnpack has a kind that is not written.
			if x.Op != api.EUnpack {
				x.L = eachOf(x.L, func(part api.Term) api.Term { return change(kinds, part) })
			}
			return x
		}
		expectType(t, i, s.g, change(s.g.Kinds, s.x), s.c)
	}
}

// P1: any arguments, and nothing but zeros beside an error.
func TestAnyArguments(t *testing.T) {
	terms := append(invalidTerms(), num(1), v(0), illTyped(), escaping(), tlams(399, v(0)))
	types := append(malformedCons(), number(), con("#0"), con("?0"), wild())
	contexts := append(invalidContexts(), api.Context{}, in("*", "#0"), in("* -> *,*", "#0", "int"))
	for i, g := range contexts {
		Context(g)
		for j, x := range terms {
			if i%37 != j%37 {
				continue
			}
			c, e := Type(g, x)
			if e != api.OK && !isZero(c) || e == api.OK && !tycon.Valid(c) {
				t.Fatal(i, j, e)
			}
			for k, c := range types {
				if f := Check(g, x, c); f == api.OK && e != api.OK || e == api.ErrArg && f != e || k < len(types)-4 && f != api.ErrArg {
					t.Fatal(i, j, k, f)
				}
				Closed(x, c)
			}
		}
	}
}

// outcomes returns what all functions say.
func outcomes(l []sample) string {
	var b strings.Builder
	for _, s := range l {
		c, e := Type(s.g, s.x)
		fmt.Fprint(&b, c, e, Check(s.g, s.x, s.c), Closed(s.x, s.c), Context(s.g))
		args, result, e := Prim(s.x.N)
		fmt.Fprint(&b, args, result, e)
	}
	return b.String()
}

// P3: equal arguments have equal results, also at the same time: nobody writes into the memory of an argument.
func TestSameResults(t *testing.T) {
	m := newMaker(161)
	var l, copies []sample
	for i, s := range samples(162, 500) {
		if i%3 == 0 {
			m.change(&s.x)
		}
		l = append(l, sample{cloneContext(s.g), s.x, s.c})
		copies = append(copies, sample{cloneContext(s.g), clone(s.x), cloneCon(s.c)})
	}
	want := outcomes(l)
	var wait sync.WaitGroup
	for range 8 {
		wait.Go(func() {
			if outcomes(l) != want || outcomes(copies) != want {
				t.Error("different results")
			}
		})
	}
	wait.Wait()
}

// A memory knows for each element of a list where it was seen.
type memory map[unsafe.Pointer]string

// seeList sees all elements of a list, and those that an append could reach.
func seeList[T any](t *testing.T, m memory, l []T, where string) {
	t.Helper()
	l = l[:cap(l)]
	for i := range l {
		p := unsafe.Pointer(&l[i])
		if other, found := m[p]; found {
			t.Fatal(where, "shares memory with", other)
		}
		m[p] = where
	}
}

func (m memory) seeKinds(t *testing.T, l []api.Kind, where string) {
	t.Helper()
	seeList(t, m, l, where)
	for _, k := range l {
		m.seeKinds(t, k.L, where)
	}
}

func (m memory) seeCons(t *testing.T, l []api.Con, where string) {
	t.Helper()
	seeList(t, m, l, where)
	for _, c := range l {
		seeList(t, m, c.Names, where)
		m.seeKinds(t, c.Kind.L, where)
		m.seeCons(t, c.L, where)
	}
}

func (m memory) seeTerm(t *testing.T, x api.Term, where string) {
	t.Helper()
	seeList(t, m, x.Names, where)
	m.seeKinds(t, x.Kind.L, where)
	m.seeCons(t, []api.Con{x.Con, x.To}, where)
	seeList(t, m, x.L, where)
	for _, part := range x.L {
		m.seeTerm(t, part, where)
	}
}

// written shows all that an append could reach, too.
func written(x any) string {
	var b strings.Builder
	var kinds func(l []api.Kind)
	kinds = func(l []api.Kind) {
		fmt.Fprint(&b, len(l), "(")
		for _, k := range l[:cap(l)] {
			kinds(k.L)
		}
		b.WriteString(")")
	}
	var cons func(l []api.Con)
	cons = func(l []api.Con) {
		fmt.Fprint(&b, len(l), "[")
		for _, c := range l[:cap(l)] {
			fmt.Fprint(&b, c.Op, c.N, c.S, c.Names[:cap(c.Names)])
			kinds(c.Kind.L)
			cons(c.L)
		}
		b.WriteString("]")
	}
	switch x := x.(type) {
	case api.Context:
		kinds(x.Kinds)
		cons(x.Types)
	case api.Term:
		fmt.Fprint(&b, x.Op, x.N, x.S, x.Names[:cap(x.Names)], len(x.L))
		kinds(x.Kind.L)
		cons([]api.Con{x.Con, x.To})
		for _, part := range x.L[:cap(x.L)] {
			b.WriteString(written(part))
		}
	case api.Con:
		cons([]api.Con{x})
	}
	return b.String()
}

// No argument is modified, and no result shares memory with an argument, or with another result, or with itself.
func TestMemory(t *testing.T) {
	k, list := kindOf("(* -> *) -> * -> *"), "(mu * -> *. (fn *. [Cons: {1: #0, 2: (#1 #0)} | Nil: {}]))"
	g := in("*", "(some (* -> *) -> * -> *. {a: ((#0 (fn *. #0)) int)})", "{a: ((K.1{(* -> *) -> * -> *} (fn *. #0)) int), b: [A: {} | B: #0]}", "(all (* -> *) -> *. ((all *. {A: #0}) -> (#0 (fn *. #0))))")
	l := samples(163, 500)
	for _, x := range []api.Term{
		v(0), v(1), v(2), record("a b c", v(0), v(0), let(v(0), v(0))), lam("(all (* -> *) -> * -> *. {a: int})", v(0)), lam("int", v(1)), tlam(k, v(1)), tlam(k, lam("((#0 (fn *. #0)) #1)", record("x y", v(0), v(2)))), tapp(v(0), "(fn * -> *. (#0 {a: int}))"), proj("b", v(1)), proj("a", v(1)), app(lam("{a: int}", v(0)), fail("{a: int}")),
		unpack(v(2), tlam(k, v(2))), unpack(v(2), v(3)), pack("(fn * -> *. (fn *. {}))", "(some (* -> *) -> * -> *. {a: ((#0 (fn *. #0)) int)})", record("a", record(""))), cases("A B", proj("b", v(1)), v(2), v(2)), inject("A", "[A: {} | B: {x: text}]", record("")), roll("("+list+" {})", inject("Nil", "[Cons: {1: {}, 2: ("+list+" {})} | Nil: {}]", record(""))), unroll(fail("(" + list + " {x: int})")), fail("(" + list + " {x: int})"),
		fix("({x: int} -> {x: int})", lam("{x: int}", v(0))), let(record("a b", num(1), num(2)), record("a b", v(0), v(0))), prim(api.PLess, num(1), num(2)), prim(api.PPrint, str("x")), record("a b", prim(api.PLess, num(1), num(2)), prim(api.PLess, num(1), num(2))), illTyped(), nameless(),
	} {
		l = append(l, sample{g, x, number()})
	}
	for i, s := range l {
		g, x, c := cloneContext(s.g), clone(s.x), cloneCon(s.c)
		before := written(g) + written(x) + written(c)
		m := memory{}
		m.seeKinds(t, g.Kinds, "the kinds")
		m.seeCons(t, g.Types, "the types")
		m.seeTerm(t, x, "the term")
		m.seeCons(t, []api.Con{c}, "the type")
		for round := range 3 {
			where := fmt.Sprint(i, " in round ", round)
			r, e := Type(g, x)
			if e == api.OK && i >= 500 && len(r.L) == 0 && r.Op != api.CRecord {
				t.Fatal(where, r)
			}
			m.seeCons(t, []api.Con{r}, where)
			Check(g, x, c)
			Closed(x, c)
			Context(g)
		}
		if written(g)+written(x)+written(c) != before {
			t.Fatal(i, "modified")
		}
	}
	m := memory{}
	for n := range 2 * 15 {
		args, result, _ := Prim(n % 15)
		m.seeCons(t, args, fmt.Sprint(n))
		m.seeCons(t, []api.Con{result}, fmt.Sprint(n))
	}
}

// What stands twice in the arguments has memory of its own in each place of the result.
func TestMemoryOfSharedParts(t *testing.T) {
	c := con("{a: K.1{* -> * -> *}, b: {}}")
	c.L[0] = con("((K.1{* -> * -> *} int) (all * -> *. (#0 int)))")
	g := holding(c, c, to(c, c))
	for i, x := range []api.Term{v(0), record("a b c", v(0), v(1), v(2)), typed(api.ELam, c, typed(api.ELam, c, v(0))), tlam(star(), record("a b", v(0), v(1))), app(v(0), v(1)), typed(api.ETApp, c, fail("(all *. {a: #0, b: (#0 -> #0)})"))} {
		m := memory{}
		m.seeCons(t, []api.Con{c}, "the type")
		r, e := Type(g, x)
		if e != api.OK {
			t.Fatal(i, e)
		}
		m.seeCons(t, []api.Con{r}, fmt.Sprint(i))
	}
}
