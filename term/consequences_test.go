package term

import (
	"fmt"
	"slices"
	"strings"
	"sync"
	"testing"
	"unsafe"

	"pilaster/api"
	"pilaster/tycon"
)

// must returns the result of a call that has no error.
func must(t *testing.T) func(api.Term, api.Errno) api.Term {
	return func(x api.Term, e api.Errno) api.Term {
		t.Helper()
		if e != api.OK || !Valid(x) {
			t.Fatal(x, e)
		}
		return x
	}
}

func shiftedCon(t *testing.T, c api.Con, by int) api.Con {
	t.Helper()
	r, e := tycon.Shift(c, by, 0)
	if e != api.OK {
		t.Fatal(c, e)
	}
	return r
}

func substCon(t *testing.T, c api.Con, l []api.Con) api.Con {
	t.Helper()
	r, e := tycon.Subst(c, l)
	if e != api.OK {
		t.Fatal(c, e)
	}
	return r
}

// P12.6

func TestShiftingThereAndBack(t *testing.T) {
	ok := must(t)
	for _, x := range append(smallTerms(3), randomTerms(151, 1500)...) {
		cons, terms, _ := Free(x)
		for by := range 4 {
			for other := range 4 {
				there := ok(Shift(x, by, other))
				expectTerm(t, x, ok(Shift(there, -by, -other)), api.OK, x)
				expectTerm(t, x, ok(Shift(ok(Shift(x, by, 0)), 0, other)), api.OK, there)
				expectTerm(t, x, ok(Shift(there, 2, 1)), api.OK, ok(Shift(x, by+2, other+1)))
				// What is shifted has the free variables shifted.
				add := func(n int) func(int) int { return func(i int) int { return i + n } }
				c, v, e := Free(there)
				if e != api.OK || !slices.Equal(c, eachOf(cons, add(by))) || !slices.Equal(v, eachOf(terms, add(other))) {
					t.Fatal(x, by, other, c, v, e)
				}
			}
		}
	}
}

func TestSubstIntoShifted(t *testing.T) {
	ok := must(t)
	l := append(smallTerms(2), randomTerms(152, 1500)...)
	cons := randomCons(153, 100)
	for i, x := range append(smallTerms(3), l...) {
		expectTerm(t, x, ok(Subst(ok(Shift(x, 0, 1)), l[i*7%len(l)])), api.OK, x)
		for n := range 4 {
			at := i * 5 % (len(cons) - n)
			expectTerm(t, x, ok(SubstCons(ok(Shift(x, n, 0)), cons[at:at+n])), api.OK, x)
		}
		// Variables for themselves change nothing but those that come after them.
		expectTerm(t, x, ok(SubstCons(x, []api.Con{cvar(0), cvar(1), cvar(2)})), api.OK, wantSubstCons(x, []api.Con{cvar(0), cvar(1), cvar(2)}))
	}
}

func TestSubstitutionsCommute(t *testing.T) {
	ok := must(t)
	l := append(smallTerms(2), randomTerms(154, 300)...)
	cons := append(randomCons(155, 100), cint(), cvar(0))
	for i, x := range append(smallTerms(3), randomTerms(156, 3000)...) {
		by, other := l[i*7%len(l)], l[i*3%len(l)]
		if Size(x)*Size(by)*Size(other) > 20000 {
			continue
		}
		at, n := i%(len(cons)-3), i%4
		now := cons[at : at+n]
		// Constructors are substituted into both terms.
		first := ok(SubstCons(ok(Subst(x, by)), now))
		expectTerm(t, x, ok(Subst(ok(SubstCons(x, now)), ok(SubstCons(by, now)))), api.OK, first)
		// A term is substituted into another one, or before it: the second variable is reached below a binder.
		under := ok(Subst(lam(cint(), x), other)).L[0]
		expectTerm(t, x, ok(Subst(under, ok(Subst(by, other)))), api.OK, ok(Subst(ok(Subst(x, by)), other)))
		// All constructors at once, or the first one and then the others.
		if n > 0 {
			rest := now[1:]
			later := ok(SubstCons(tlam(star(), x), rest)).L[0]
			expectTerm(t, x, ok(SubstCons(later, now[:1])), api.OK, ok(SubstCons(x, now)))
			expectTerm(t, x, ok(SubstCons(ok(SubstCons(x, []api.Con{shiftedCon(t, now[0], n-1)})), rest)), api.OK, ok(SubstCons(x, append([]api.Con{substCon(t, shiftedCon(t, now[0], n-1), rest)}, rest...))))
		}
	}
}

func TestSubstOfNodes(t *testing.T) {
	ok := must(t)
	// The rules of evaluation substitute into the parts of binders: what is bound is the variable 0 there.
	x := app(v(0), app(v(1), tapp(v(0), cvar(0))))
	by := tlam(star(), tapp(v(3), cvar(1)))
	want := app(by, app(v(0), tapp(by, cvar(0))))
	for i, node := range []api.Term{lam(cint(), x), fix(cint(), x), let(num(0), x), cases("A", num(0), x)} {
		if r := ok(Subst(node.L[len(node.L)-1], by)); !Equal(r, want) {
			t.Error(i, r)
		}
	}
	opened := ok(SubstCons(ok(Subst(unpack(num(0), x).L[1], ok(Shift(by, 1, 0)))), []api.Con{cint()}))
	if want := app(by, app(v(0), tapp(by, cint()))); !Equal(opened, want) {
		t.Error(opened)
	}
}

func TestBuiltAndTakenApart(t *testing.T) {
	ok := must(t)
	l, cons := randomTerms(157, 300), randomCons(158, 100)
	for i, x := range l {
		n := i % 4
		types, args := cons[i%90:i%90+n], l[i/2:i/2+n]
		f, a := ok(Lams(types, x)), ok(Apps(x, args))
		for j, c := range types {
			if f.Op != api.ELam || !tycon.Equal(f.Con, c) {
				t.Fatal(i, j, f)
			}
			f = f.L[0]
		}
		for j := range args {
			if a.Op != api.EApp || !alike(a.L[1], args[n-1-j]) {
				t.Fatal(i, j, a)
			}
			a = a.L[0]
		}
		if !alike(f, x) || !alike(a, x) {
			t.Fatal(i, f, a)
		}
	}
}

// outcome is the result of a call with some arguments.
type outcome struct {
	name  string
	terms []api.Term
	ints  [][]int
	e     api.Errno
}

// outcomes returns what all functions that have an error say about two terms and a list of constructors.
func outcomes(a, b api.Term, l []api.Con) []outcome {
	cons, terms, e := Free(a)
	r := []outcome{{"Free", nil, [][]int{cons, terms}, e}}
	one := func(name string, x api.Term, e api.Errno) {
		r = append(r, outcome{name, []api.Term{x}, nil, e})
	}
	for by := -1; by <= 1; by++ {
		x, e := Shift(a, by, 2*by)
		one("Shift", x, e)
	}
	x, e := Subst(a, b)
	one("Subst", x, e)
	x, e = SubstCons(a, l)
	one("SubstCons", x, e)
	x, e = SubstCons(a, nil)
	one("SubstCons of none", x, e)
	x, e = Lams(l, a)
	one("Lams", x, e)
	x, e = Lams(nil, a)
	one("Lams of none", x, e)
	x, e = Apps(a, []api.Term{b, a, b})
	one("Apps", x, e)
	x, e = Apps(a, nil)
	one("Apps of none", x, e)
	return r
}

// P1: any arguments, and nothing but zeros beside an error.
func TestAnyArguments(t *testing.T) {
	l := slices.Concat(invalid(), smallTerms(1), []api.Term{record(""), lams(399, v(399)), balanced(api.MaxNodes, v(0)), fail(1, conOf(api.MaxNodes-1, cvar(0)))})
	lists := [][]api.Con{nil, {cint()}, {cvar(0), call(cvar(1))}, {{}}, malformedCons()}
	for i, a := range l {
		for j, b := range []api.Term{num(0), l[i*7%len(l)], l[i*13%len(l)]} {
			cons := lists[(i+j)%len(lists)]
			for _, x := range outcomes(a, b, cons) {
				if x.e == api.OK {
					continue
				}
				if slices.ContainsFunc(x.terms, func(x api.Term) bool { return !isZero(x) }) || slices.ContainsFunc(x.ints, func(l []int) bool { return len(l) > 0 }) {
					t.Fatal(i, j, x.name, x.e)
				}
				if x.e != api.ErrArg && (!Valid(a) || x.e != api.ErrBig && x.e != api.ErrRange) {
					t.Fatal(i, j, x.name, x.e)
				}
			}
		}
	}
}

// results returns all results for some terms as a text.
func results(l []api.Term, cons []api.Con) string {
	var b strings.Builder
	for i, a := range l {
		other := l[(i*7+3)%len(l)]
		fmt.Fprint(&b, Valid(a), Equal(a, other), Size(a), Value(a))
		fmt.Fprint(&b, outcomes(a, other, cons[i%(len(cons)-3):][:i%4]))
	}
	return b.String()
}

// P3: equal arguments have equal results, also at the same time.
func TestSameResults(t *testing.T) {
	l := append(randomTerms(161, 200), v(-1), api.Term{}, balanced(500, v(1)))
	cons := randomCons(162, 50)
	want := results(l, cons)
	var wait sync.WaitGroup
	for range 8 {
		wait.Go(func() {
			if results(l, cons) != want || results(eachOf(l, clone), eachOf(cons, cloneCon)) != want {
				t.Error("different results")
			}
		})
	}
	wait.Wait()
}

// A memory knows for each element of a list where it was seen.
type memory map[unsafe.Pointer]string

// seeList sees all elements of a list, and those that an append could reach.
func seeList[T any](t *testing.T, m memory, l []T, where string) {
	t.Helper()
	for i := range l[:cap(l)] {
		p := unsafe.Pointer(&l[:cap(l)][i])
		if other, found := m[p]; found {
			t.Fatal(where, "shares memory with", other)
		}
		m[p] = where
	}
}

func (m memory) seeKind(t *testing.T, k api.Kind, where string) {
	t.Helper()
	seeList(t, m, k.L, where)
	for _, part := range k.L {
		m.seeKind(t, part, where)
	}
}

func (m memory) seeCon(t *testing.T, c api.Con, where string) {
	t.Helper()
	seeList(t, m, c.Names, where)
	m.seeKind(t, c.Kind, where)
	seeList(t, m, c.L, where)
	for _, part := range c.L {
		m.seeCon(t, part, where)
	}
}

func (m memory) seeTerms(t *testing.T, l []api.Term, where string) {
	t.Helper()
	seeList(t, m, l, where)
	for _, x := range l {
		seeList(t, m, x.Names, where)
		m.seeKind(t, x.Kind, where)
		m.seeCon(t, x.Con, where)
		m.seeCon(t, x.To, where)
		m.seeTerms(t, x.L, where)
	}
}

// room returns the list with room for more elements, as arguments may have.
func room[T any](l []T) []T { return append(make([]T, 0, len(l)+2), l...) }

func roomyKind(k api.Kind) api.Kind { return api.Kind{L: room(eachOf(k.L, roomyKind))} }

func roomyCon(c api.Con) api.Con {
	c.Kind, c.Names, c.L = roomyKind(c.Kind), room(c.Names), room(eachOf(c.L, roomyCon))
	return c
}

func roomy(x api.Term) api.Term {
	x.Con, x.To, x.Kind = roomyCon(x.Con), roomyCon(x.To), roomyKind(x.Kind)
	x.Names, x.L = room(x.Names), room(eachOf(x.L, roomy))
	return x
}

// No argument is modified, and no result shares memory with an argument, or with another result, or with itself.
func TestMemory(t *testing.T) {
	cons := randomCons(163, 100)
	l := append(randomTerms(164, 400), tlam(arrow(star(), star()), app(v(0), tlam(arrow(star(), star()), fail(1, carrow(cvar(2), cconst("A.0", arrow(star(), star()))))))))
	for i, x := range l {
		a, b, c := roomy(x), roomy(randomTerms(int64(i), 1)[0]), eachOf(cons[i%97:i%97+i%4], roomyCon)
		m := memory{}
		m.seeTerms(t, []api.Term{a, b}, "an argument")
		for _, c := range c {
			m.seeCon(t, c, "a constructor")
		}
		before := written(a) + written(b) + fmt.Sprint(c)
		for round := range 2 {
			for _, x := range outcomes(a, b, c) {
				where := fmt.Sprint(x.name, " ", round)
				m.seeTerms(t, x.terms, where)
				for _, l := range x.ints {
					seeList(t, m, l, where)
				}
			}
		}
		if written(a)+written(b)+fmt.Sprint(c) != before {
			t.Fatal("modified", a, b)
		}
	}
}

// What stands twice in an argument, or is put in two places, has memory of its own in each of them.
func TestMemoryOfParts(t *testing.T) {
	k := arrow(star(), arrow(star(), star()))
	c := cbinder(api.CMu, k, api.Con{Op: api.CSum, Names: []string{"A", "B"}, L: []api.Con{cconst("A.0", k), cpair(api.CApp, cconst("A.0", k), cvar(1))}})
	x := tlam(k, pack(c, c, inject("A", c, tlam(k, app(v(0), cases("A B", v(0), v(1), tapp(v(0), carrow(c, c))))))))
	names := []string{"a", "b"}
	twice := api.Term{Op: api.ERecord, Names: names, L: []api.Term{x, let(x, api.Term{Op: api.ERecord, Names: names, L: []api.Term{x, lam(c, v(1))}})}}
	m := memory{}
	seeList(t, m, names, "the names")
	m.seeTerms(t, []api.Term{clone(x)}, "another term")
	m.seeKind(t, k, "the kind")
	for i, made := range []func() (api.Term, api.Errno){
		func() (api.Term, api.Errno) { return Shift(twice, 0, 0) },
		func() (api.Term, api.Errno) { return Shift(twice, 1, 2) },
		func() (api.Term, api.Errno) { return Subst(twice, x) },
		func() (api.Term, api.Errno) { return Subst(app(v(0), app(v(0), lam(c, v(1)))), twice) },
		func() (api.Term, api.Errno) { return SubstCons(twice, []api.Con{c, c}) },
		func() (api.Term, api.Errno) { return SubstCons(twice, nil) },
		func() (api.Term, api.Errno) {
			return SubstCons(tlam(k, pack(carrow(cvar(1), cvar(2)), cvar(1), num(0))), []api.Con{c, c})
		},
		func() (api.Term, api.Errno) { return Lams([]api.Con{c, c}, twice) },
		func() (api.Term, api.Errno) { return Apps(x, []api.Term{x, twice}) },
		func() (api.Term, api.Errno) { return Apps(twice, nil) },
	} {
		r, e := made()
		if e != api.OK || len(r.L) == 0 {
			t.Fatal(i, r, e)
		}
		m.seeTerms(t, []api.Term{r}, fmt.Sprint(i))
	}
}
