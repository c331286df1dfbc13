package kinding

import (
	"fmt"
	"math/rand"
	"slices"
	"strings"
	"sync"
	"testing"
	"unsafe"

	"pilaster/api"
	"pilaster/tycon"
)

// outcome shows what all functions say about a constructor.
func outcome(g []api.Kind, c api.Con) string {
	k, e := Of(g, c)
	at, f := Where(g, c)
	return fmt.Sprint(code(k), e, Check(g, c, star()), Check(g, c, one()), Check(g, c, k), Type(g, c), at, f)
}

// P10.4: kinds do not depend on variables that do not occur.
func TestOtherVariables(t *testing.T) {
	r := rand.New(rand.NewSource(103))
	for _, s := range randomSamples(104, 3000) {
		want := outcome(s.g, s.c)
		free, _ := tycon.Free(s.c)
		other := slices.Clone(s.g)
		for i := range other {
			if !slices.Contains(free, len(other)-1-i) {
				other[i] = randomKind(r, 2)
			}
		}
		if got := outcome(other, s.c); got != want {
			t.Fatal(s.c, got, "not", want)
		}
		// There is room for one more variable anywhere.
		from := r.Intn(len(s.g) + 1)
		shifted, e := tycon.Shift(s.c, 1, from)
		longer := slices.Insert(slices.Clone(s.g), len(s.g)-from, randomKind(r, 2))
		if got := outcome(longer, shifted); e != api.OK || got != want {
			t.Fatal(s.c, got, "not", want, e)
		}
	}
}

// P10.4: a constructor keeps its kind if constructors with the kinds of its variables are substituted for them: for all of them, in any scope, or for the last ones, in the scope of the others.
func TestSubstitutes(t *testing.T) {
	r := rand.New(rand.NewSource(105))
	for i, s := range randomSamples(106, 5000) {
		k, e := Of(s.g, s.c)
		if e != api.OK {
			continue
		}
		rest, n := randomScope(r), len(s.g)
		if i%2 == 0 {
			n = r.Intn(len(s.g) + 1)
			rest = s.g[:len(s.g)-n]
		}
		var l []api.Con
		for i := range n {
			l = append(l, wellKinded(r, rest, s.g[len(s.g)-1-i], 4))
		}
		c, e := tycon.Subst(s.c, l)
		if e != api.OK {
			t.Fatal(e)
		}
		expectKind(t, s.c, rest, c, k)
	}
}

// P10.4: constants may become variables of their kinds, and variables constants.
func TestConstantsAsVariables(t *testing.T) {
	for _, s := range randomSamples(109, 3000) {
		want := outcome(s.g, s.c)
		consts, e := tycon.Consts(s.c)
		if e != api.OK {
			t.Fatal(e)
		}
		var names []string
		g := slices.Clone(s.g)
		for _, a := range consts {
			names = append(names, a.Name)
			g = append(g, a.Kind)
		}
		c, e := tycon.Bind(s.c, names)
		if got := outcome(g, c); e != api.OK || got != want {
			t.Fatal(s.c, got, "not", want, e)
		}
		if len(s.g) == 0 {
			continue
		}
		last := len(s.g) - 1
		c, e = tycon.Unbind(s.c, []api.Const{{Name: "New.0", Kind: s.g[last]}})
		if got := outcome(s.g[:last], c); e != api.OK || got != want {
			t.Fatal(s.c, got, "not", want, e)
		}
	}
}

// P10.4: the parts of the node that Where finds have kinds, but it has none.
func TestPartsOfTheFault(t *testing.T) {
	faults := 0
	for _, s := range randomSamples(110, 3000) {
		at, e := Where(s.g, s.c)
		if e != api.OK {
			continue
		}
		faults++
		g, c := s.g, s.c
		inner := func() []api.Kind {
			if binds(c.Op) {
				return append(slices.Clone(g), c.Kind)
			}
			return g
		}
		for _, i := range at {
			g, c = inner(), c.L[i]
		}
		_, want := Of(s.g, s.c)
		expectFault(t, s.c, g, c, want, nil)
		g = inner()
		for _, part := range c.L {
			if _, e := Of(g, part); e != api.OK {
				t.Fatal(s.c, at, e)
			}
		}
	}
	if faults < 500 {
		t.Error("only", faults, "faults")
	}
}

// Samples that are made well-kinded are.
func TestWellKinded(t *testing.T) {
	r := rand.New(rand.NewSource(111))
	for range 3000 {
		g, k := randomScope(r), randomKind(r, 3)
		c := wellKinded(r, g, k, 1+r.Intn(9))
		expectKind(t, c, g, c, k)
	}
}

// P1: any arguments, and nothing but zeros beside an error.
func TestAnyArguments(t *testing.T) {
	cons := slices.Concat(invalidCons(), smallCons(2), []api.Con{lams(399, v(399)), wide(api.MaxList, v(3))})
	wrong := len(invalidKinds())
	kinds := append(invalidKinds(), star(), one(), chain(api.MaxDepth))
	for i, g := range append(scopes(), invalidScopes()...) {
		for j, c := range cons {
			if i >= len(scopes()) && i%9 != j%9 {
				continue
			}
			k, e := Of(g, c)
			at, none := Where(g, c)
			if e != api.OK && len(k.L) > 0 || none != api.OK && len(at) > 0 {
				t.Fatal(i, j, k, at)
			}
			found := e == api.ErrName || e == api.ErrKind || e == api.ErrBig
			if found != (none == api.OK) || (e == api.OK) != (none == api.ErrNone) || (e == api.ErrArg) != (none == api.ErrArg) {
				t.Fatal(i, j, e, none)
			}
			for n := (i + j) % 5; n < len(kinds); n += 5 {
				if f := Check(g, c, kinds[n]); n < wrong && f != api.ErrArg || e != api.OK && f != api.ErrArg && f != e {
					t.Fatal(i, j, n, f)
				}
			}
		}
	}
}

func outcomes(l []sample) string {
	var b strings.Builder
	for _, s := range l {
		b.WriteString(outcome(s.g, s.c))
	}
	return b.String()
}

// P3: equal arguments have equal results, also at the same time: nobody writes into the memory of a scope.
func TestSameResults(t *testing.T) {
	var l, copies []sample
	for _, s := range append(randomSamples(112, 500), sample{nil, api.Con{}}, sample{[]api.Kind{{L: make([]api.Kind, 1)}}, num()}) {
		room := append(make([]api.Kind, 0, len(s.g)+9), s.g...)
		l = append(l, sample{room, s.c})
		copies = append(copies, sample{cloneKinds(s.g), clone(s.c)})
	}
	want := outcomes(l)
	var wait sync.WaitGroup
	for range 8 {
		wait.Go(func() {
			if outcomes(l) != want || outcomes(copies) != want {
				t.Error("different results")
			}
		})
	}
	wait.Wait()
}

// A memory knows for each element of a list where it was seen.
type memory map[unsafe.Pointer]string

// seeList sees all elements of a list, and those that an append could reach.
func seeList[T any](t *testing.T, m memory, l []T, where string) {
	t.Helper()
	l = l[:cap(l)]
	for i := range l {
		p := unsafe.Pointer(&l[i])
		if other, found := m[p]; found {
			t.Fatal(where, "shares memory with", other)
		}
		m[p] = where
	}
}

func (m memory) seeKinds(t *testing.T, l []api.Kind, where string) {
	t.Helper()
	seeList(t, m, l, where)
	for _, k := range l {
		m.seeKinds(t, k.L, where)
	}
}

func (m memory) seeCon(t *testing.T, c api.Con, where string) {
	t.Helper()
	m.seeKinds(t, c.Kind.L, where)
	seeList(t, m, c.L, where)
	for _, part := range c.L {
		m.seeCon(t, part, where)
	}
}

// spacious gives all lists of kinds room for more elements, as arguments may have.
func spacious(l []api.Kind) []api.Kind {
	copies := make([]api.Kind, 0, len(l)+3)
	for _, k := range l {
		copies = append(copies, api.Kind{L: spacious(k.L)})
	}
	return copies
}

func spaciousCon(c api.Con) api.Con {
	c.Kind.L = spacious(c.Kind.L)
	l := make([]api.Con, 0, len(c.L)+2)
	for _, part := range c.L {
		l = append(l, spaciousCon(part))
	}
	c.L = l
	return c
}

// all shows all that an append could reach, too.
func all(g []api.Kind, c api.Con) string {
	var b strings.Builder
	var kinds func(l []api.Kind)
	kinds = func(l []api.Kind) {
		fmt.Fprint(&b, len(l), "(")
		for _, k := range l[:cap(l)] {
			kinds(k.L)
		}
		b.WriteString(")")
	}
	var con func(c api.Con)
	con = func(c api.Con) {
		fmt.Fprint(&b, c.Op, c.N, c.S, c.Names, len(c.L), "[")
		kinds(c.Kind.L)
		for _, part := range c.L[:cap(c.L)] {
			con(part)
		}
		b.WriteString("]")
	}
	kinds(g)
	con(c)
	return b.String()
}

// No argument is modified, and no result shares memory with an argument, or with another result, or with itself.
func TestMemory(t *testing.T) {
	k := arrow(one(), chain(4))
	samples := append(randomSamples(113, 1000), sample{[]api.Kind{k}, v(0)}, sample{nil, con("A.0", k)}, sample{nil, mu(k, v(0))}, sample{nil, lam(k, v(0))}, sample{nil, lam(k, lam(one(), v(1)))}, sample{[]api.Kind{k, one()}, app(v(1), v(0))})
	for i, s := range samples {
		g, c := spacious(s.g), spaciousCon(s.c)
		before := all(g, c)
		m := memory{}
		m.seeKinds(t, g, "the scope")
		m.seeCon(t, c, "the constructor")
		for round := range 3 {
			found, _ := Of(g, c)
			m.seeKinds(t, found.L, fmt.Sprint(i, " the kind ", round))
			at, _ := Where(g, c)
			seeList(t, m, at, fmt.Sprint(i, " the place ", round))
			Check(g, c, found)
			Type(g, c)
		}
		if all(g, c) != before {
			t.Fatal(i, "modified")
		}
	}
}

// Kinds that stand twice in the arguments stand in two places of a result.
func TestMemoryOfSharedKinds(t *testing.T) {
	k := chain(4)
	for i, s := range []sample{{nil, lam(k, v(0))}, {[]api.Kind{k, k}, lam(k, v(2))}, {nil, lam(k, lam(k, con("A.0", k)))}, {[]api.Kind{arrow(k, arrow(k, k))}, app(v(0), con("A.0", k))}} {
		m := memory{}
		m.seeKinds(t, k.L, "the argument")
		found, e := Of(s.g, s.c)
		if e != api.OK || len(found.L) == 0 {
			t.Fatal(i, e)
		}
		m.seeKinds(t, found.L, fmt.Sprint(i))
	}
}
