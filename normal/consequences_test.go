package normal

import (
	"fmt"
	"math/rand"
	"slices"
	"strings"
	"sync"
	"testing"
	"unsafe"

	"pilaster/api"
	"pilaster/kinding"
	"pilaster/tycon"
)

// P11.6

func TestNormalFormsAreNormal(t *testing.T) {
	l := slices.Concat(lambdas(8), smallCons(4), randomCons(401, 5000))
	for _, s := range randomSamples(402, 3000) {
		l = append(l, s.c)
	}
	for _, c := range l {
		n, e := Normal(c)
		if e != api.OK {
			continue
		}
		if !Is(n) || !wantIs(n) || !tycon.Valid(n) {
			t.Fatal(brief(c), brief(n))
		}
		again, e := Normal(n)
		expectCon(t, c, again, e, n)
		h, e := Head(n)
		expectCon(t, c, h, e, n)
		if Is(c) && !alike(c, n) {
			t.Fatal(brief(c), "is normal, but not its own normal form")
		}
		if same, e := Equal(c, n); !same || e != api.OK {
			t.Fatal(brief(c), e)
		}
	}
}

func TestKindsAreKept(t *testing.T) {
	for _, s := range randomSamples(403, 5000) {
		if e := kinding.Check(s.g, s.c, s.k); e != api.OK {
			t.Fatal(brief(s.c), e)
		}
		for _, f := range []func(api.Con) (api.Con, api.Errno){Normal, Head} {
			r, e := f(s.c)
			if e == api.OK {
				e = kinding.Check(s.g, r, s.k)
			}
			if e != api.OK && e != api.ErrBudget {
				t.Fatal(brief(s.c), brief(r), e)
			}
		}
		if u, e := Unroll(s.c); e == api.OK {
			if e := kinding.Check(s.g, u, s.k); e != api.OK {
				t.Fatal(brief(s.c), brief(u), e)
			}
		}
	}
}

// Steps anywhere, one after the other, lead to the normal form.
func TestStepsAnywhere(t *testing.T) {
	r := rand.New(rand.NewSource(404))
	stepped := 0
	for _, s := range randomSamples(405, 3000) {
		n, e := Normal(s.c)
		if e != api.OK {
			continue
		}
		c := s.c
		for i := 0; i < 60 && tycon.Valid(c); i++ {
			var m model
			x := m.named(c, nil)
			l := append(spots(x, isBeta), spots(x, isEta)...)
			if len(l) == 0 {
				expectCon(t, s.c, c, api.OK, n)
				break
			}
			c = stepAt(c, l[r.Intn(len(l))])
			stepped++
			if again, e := Normal(c); e == api.OK || tycon.Valid(c) && e != api.ErrBudget {
				expectCon(t, s.c, again, e, n)
			}
		}
	}
	if stepped < 5000 {
		t.Error("only", stepped, "steps")
	}
}

// A function of constructors is equal to its expansion by eta.
func TestExpansions(t *testing.T) {
	functions := 0
	for _, s := range randomSamples(406, 5000) {
		n, e := Normal(s.c)
		if len(s.k.L) == 0 || e != api.OK {
			continue
		}
		functions++
		c, e := tycon.Shift(s.c, 1, 0)
		if e != api.OK {
			t.Fatal(e)
		}
		c = lam(s.k.L[0], app(c, v(0)))
		if same, e := Equal(s.c, c); !same || e != api.OK {
			t.Fatal(brief(s.c), e)
		}
		again, e := Normal(c)
		expectCon(t, s.c, again, e, n)
	}
	if functions < 500 {
		t.Error("only", functions, "functions")
	}
}

// A head form has the same normal form, and no step at its head.
func TestHeadForms(t *testing.T) {
	for _, s := range randomSamples(407, 3000) {
		n, e := Normal(s.c)
		h, f := Head(s.c)
		if e != api.OK || f != api.OK {
			continue
		}
		again, e := Normal(h)
		expectCon(t, s.c, again, e, n)
		head, args, _ := tycon.Spine(h)
		if head.Op == api.CLam && len(args) > 0 {
			t.Fatal(brief(s.c), brief(h))
		}
		twice, e := Head(h)
		expectCon(t, s.c, twice, e, h)
	}
}

// A recursive constructor has the unrolling of whatever is equal to it.
func TestUnrollings(t *testing.T) {
	unrolled := 0
	for _, s := range randomSamples(408, 6000) {
		n, e := Normal(s.c)
		if e != api.OK {
			continue
		}
		u, e := Unroll(s.c)
		again, f := Unroll(n)
		head, args, _ := tycon.Spine(n)
		if e != f || !alike(u, again) || head.Op != api.CMu && e != api.ErrType {
			t.Fatal(brief(s.c), e, f)
		}
		if head.Op != api.CMu {
			continue
		}
		unrolled++
		once, _ := tycon.Subst(head.L[0], []api.Con{head})
		once, _ = tycon.Apps(once, args)
		want, f := Normal(once)
		if e != f || !alike(u, want) {
			t.Fatal(brief(s.c), e, f)
		}
	}
	if unrolled < 200 {
		t.Error("only", unrolled)
	}
}

// A call has a name, and what it returns.
type call struct {
	name string
	c    api.Con
	rest any
	e    api.Errno
}

func calls(a, b api.Con) []call {
	var l []call
	for name, f := range map[string]func(api.Con) (api.Con, api.Errno){"Normal": Normal, "Head": Head, "Unroll": Unroll} {
		c, e := f(a)
		l = append(l, call{name, c, nil, e})
	}
	slices.SortFunc(l, func(x, y call) int { return strings.Compare(x.name, y.name) })
	same, e := Equal(a, b)
	s, f := Text(a)
	c, g := Parse(s)
	return append(l, call{"Equal", api.Con{}, same, e}, call{"Text", api.Con{}, s, f}, call{"Parse", c, nil, g}, call{"Is", api.Con{}, Is(a), api.OK})
}

// results returns all results for some constructors as a text.
func results(l []api.Con) string {
	var b strings.Builder
	for i, a := range l {
		fmt.Fprint(&b, calls(a, l[(i*7+3)%len(l)]))
	}
	return b.String()
}

// P3: equal arguments have equal results, also at the same time.
func TestSameResults(t *testing.T) {
	l := append(randomCons(409, 300), v(-1), api.Con{}, balanced(500, v(1)))
	var copies []api.Con
	for _, c := range l {
		copies = append(copies, clone(c))
	}
	want := results(l)
	var wait sync.WaitGroup
	for range 8 {
		wait.Go(func() {
			if results(l) != want || results(copies) != want {
				t.Error("different results")
			}
		})
	}
	wait.Wait()
}

// A memory knows for each element of a list where it was seen.
type memory map[unsafe.Pointer]string

// seeList sees all elements of a list, and those that an append could reach.
func seeList[T any](t *testing.T, m memory, l []T, where string) {
	t.Helper()
	l = l[:cap(l)]
	for i := range l {
		p := unsafe.Pointer(&l[i])
		if other, found := m[p]; found {
			t.Fatal(where, "shares memory with", other)
		}
		m[p] = where
	}
}

func (m memory) seeKinds(t *testing.T, l []api.Kind, where string) {
	t.Helper()
	seeList(t, m, l, where)
	for _, k := range l {
		m.seeKinds(t, k.L, where)
	}
}

func (m memory) seeCon(t *testing.T, c api.Con, where string) {
	t.Helper()
	seeList(t, m, c.Names, where)
	seeList(t, m, c.L, where)
	m.seeKinds(t, c.Kind.L, where)
	for _, part := range c.L {
		m.seeCon(t, part, where)
	}
}

// spacious gives all lists room for more elements, as arguments may have.
func spacious(c api.Con) api.Con {
	c.Names = append(make([]string, 0, len(c.Names)+2), c.Names...)
	c.Kind.L = append(make([]api.Kind, 0, len(c.Kind.L)+2), cloneKind(c.Kind).L...)
	l := make([]api.Con, 0, len(c.L)+2)
	for _, part := range c.L {
		l = append(l, spacious(part))
	}
	c.L = l
	return c
}

// all shows all that an append could reach, too.
func all(c api.Con) string {
	var b strings.Builder
	var show func(c api.Con)
	show = func(c api.Con) {
		fmt.Fprint(&b, c.Op, c.N, c.S, c.Kind.L[:cap(c.Kind.L)], c.Names[:cap(c.Names)], len(c.L), "[")
		for _, part := range c.L[:cap(c.L)] {
			show(part)
		}
		b.WriteString("]")
	}
	show(c)
	return b.String()
}

// No argument is modified, and no result shares memory with an argument, or with another result, or with itself.
func TestMemory(t *testing.T) {
	k := arrow(one(), chain(4))
	twice := lam(k, fields(api.CRecord, "a b c", v(0), app(v(0), con("A.0", k)), v(0)))
	l := []api.Con{
		app(twice, con("B.0", k)), app(twice, lam(k, fields(api.CSum, "A B", con("A.0", k), v(0)))), app(lam(star(), app(con("A.0", k), v(0))), num()), lam(k, app(binder(api.CAll, k, con("A.0", k)), v(0))),
		mu(k, fields(api.CSum, "A B", v(0), con("A.0", k))), app(mu(one(), lam(k, fields(api.CRecord, "a b", v(0), v(1)))), fields(api.CRecord, "c", con("A.0", k))), fields(api.CRecord, "a", con("A.0", k)), con("A.0", k),
	}
	for i, c := range append(l, randomCons(410, 500)...) {
		a, b := spacious(c), spacious(app(id(), c))
		before := all(a) + all(b)
		m := memory{}
		m.seeCon(t, a, "an argument")
		m.seeCon(t, b, "an argument")
		for round := range 2 {
			for _, x := range append(calls(a, b), calls(b, a)...) {
				m.seeCon(t, x.c, fmt.Sprint(i, " ", x.name, " ", round))
			}
		}
		if all(a)+all(b) != before {
			t.Fatal(i, "modified")
		}
	}
}

// What stands twice in an argument stands in two places of a result.
func TestMemoryOfParts(t *testing.T) {
	k := arrow(one(), chain(3))
	part := fields(api.CSum, "A B", con("A.0", k), lam(k, v(0)))
	for i, c := range []api.Con{part, to(part, part), app(id(), to(part, part)), app(lam(k, to(v(0), to(v(0), part))), part), lam(k, app(to(part, part), v(0))), mu(k, to(part, part)), app(mu(k, to(v(0), part)), part, part)} {
		m := memory{}
		for _, x := range calls(c, c) {
			m.seeCon(t, x.c, fmt.Sprint(i, " ", x.name))
		}
	}
}
