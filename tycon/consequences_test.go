package tycon

import (
	"fmt"
	"math/rand"
	"reflect"
	"slices"
	"strings"
	"sync"
	"testing"
	"unsafe"

	"pilaster/api"
)

// must returns the result of a call that has no error.
func must(t *testing.T) func(api.Con, api.Errno) api.Con {
	return func(c api.Con, e api.Errno) api.Con {
		t.Helper()
		if e != api.OK || !Valid(c) {
			t.Fatal(c, e)
		}
		return c
	}
}

// P9.8

func TestShiftingThereAndBack(t *testing.T) {
	ok := must(t)
	for _, c := range append(smallCons(3), randomCons(81, 1000)...) {
		for by := range 4 {
			for from := range 4 {
				there := ok(Shift(c, by, from))
				expectCon(t, c, ok(Shift(there, -by, from)), api.OK, c)
				expectCon(t, c, ok(Shift(ok(Shift(c, 2, from)), by, from+1)), api.OK, ok(Shift(c, by+2, from)))
			}
		}
	}
}

func TestSubstIntoShifted(t *testing.T) {
	ok := must(t)
	l := append(smallCons(2), randomCons(82, 500)...)
	for i, c := range l {
		for n := range 4 {
			at := i * 5 % (len(l) - n)
			expectCon(t, c, ok(Subst(ok(Shift(c, n, 0)), l[at:at+n])), api.OK, c)
		}
		vars := []api.Con{v(0), v(1), v(2), v(3)}
		// Variables for themselves change nothing, if there are enough of them.
		if free := wantFree(c); len(free) == 0 || free[len(free)-1] < 4 {
			expectCon(t, c, ok(Subst(c, vars)), api.OK, c)
		}
	}
}

func TestSubstitutionsCommute(t *testing.T) {
	ok := must(t)
	small := smallCons(2)
	for i, c := range append(smallCons(3), randomCons(83, 1500)...) {
		a := small[i%len(small)]
		l := []api.Con{small[i*7%len(small)], small[i*3%len(small)]}[:1+i%2]
		first := ok(Subst(ok(Subst(c, []api.Con{a})), l))
		under := ok(Subst(lam(c), l)).L[0]
		expectCon(t, c, ok(Subst(under, []api.Con{ok(Subst(a, l))})), api.OK, first)
	}
}

func TestBoundAndUnbound(t *testing.T) {
	ok := must(t)
	r := rand.New(rand.NewSource(84))
	for _, c := range append(smallCons(3), randomCons(85, 2000)...) {
		l, e := Consts(c)
		if e != api.OK {
			t.Fatal(c, e)
		}
		// The constants of c, and one more, in any order.
		l = append(l, api.Const{Name: "Unused.0"})
		r.Shuffle(len(l), func(i, j int) { l[i], l[j] = l[j], l[i] })
		bound := ok(Bind(c, namesOf(l)))
		if left, e := Consts(bound); len(left) > 0 || e != api.OK {
			t.Fatal(c, left, e)
		}
		expectCon(t, c, ok(Unbind(bound, l)), api.OK, c)
		expectCon(t, c, ok(Bind(ok(Unbind(bound, l)), namesOf(l))), api.OK, bound)
		// To unbind is to substitute the constants.
		var cs []api.Con
		for _, a := range slices.Backward(l) {
			cs = append(cs, con(a.Name, a.Kind))
		}
		expectCon(t, c, ok(Subst(bound, cs)), api.OK, c)
	}
}

func TestSpineOfApps(t *testing.T) {
	ok := must(t)
	l := randomCons(86, 500)
	for i, c := range l {
		f, args, e := Spine(c)
		expectCon(t, c, ok(Apps(f, args)), e, c)
		more := l[i/2 : i/2+i%4]
		g, all, e := Spine(ok(Apps(c, more)))
		if e != api.OK || !alike(f, g) || !slices.EqualFunc(all, slices.Concat(args, more), alike) {
			t.Fatal(c, g, all)
		}
	}
}

// call is a call with some arguments, and what it returns.
type call struct {
	name string
	cons []api.Con
	rest any
	e    api.Errno
}

// calls returns what all functions say about two constructors. Results are not kept if they are large.
func calls(a, b api.Con, consts []api.Const) []call {
	var l []call
	one := func(name string, c api.Con, e api.Errno) { l = append(l, call{name, []api.Con{c}, nil, e}) }
	free, e := Free(a)
	l = append(l, call{"Free", nil, free, e})
	cs, e := Consts(a)
	l = append(l, call{"Consts", nil, cs, e})
	for by := -1; by <= 1; by++ {
		c, e := Shift(a, by, 1)
		one("Shift", c, e)
	}
	c, e := Subst(a, []api.Con{b, b})
	one("Subst", c, e)
	c, e = Bind(a, namesOf(consts))
	one("Bind", c, e)
	c, e = Unbind(a, consts)
	one("Unbind", c, e)
	c, e = Apps(a, []api.Con{b, a, b})
	one("Apps", c, e)
	f, args, e := Spine(a)
	l = append(l, call{"Spine", append([]api.Con{f}, args...), nil, e})
	c, e = Tuple([]api.Con{a, b, a})
	one("Tuple", c, e)
	return append(l, call{"Unit", []api.Con{Unit(), Bool()}, nil, api.OK})
}

// P1: any arguments, and nothing but zeros beside an error.
func TestAnyArguments(t *testing.T) {
	l := slices.Concat(invalid(), smallCons(1), []api.Con{Bool(), lams(399, v(399)), balanced(api.MaxNodes, v(0))})
	consts := []api.Const{{Name: "A.0"}, {Name: "B.0", Kind: arrow(star(), star())}}
	for i, a := range l {
		for j, b := range l {
			if i%7 != j%5 {
				continue
			}
			for _, x := range calls(a, b, consts) {
				if x.e == api.OK {
					continue
				}
				rest := x.rest == nil || reflect.ValueOf(x.rest).Len() == 0
				if !rest || slices.ContainsFunc(x.cons, func(c api.Con) bool { return !isZero(c) }) {
					t.Fatal(i, j, x.name, x.e)
				}
				if x.e != api.ErrArg && (!Valid(a) || x.e != api.ErrBig && x.e != api.ErrRange) {
					t.Fatal(i, j, x.name, x.e)
				}
			}
		}
	}
}

// results returns all results for some constructors as a text.
func results(l []api.Con) string {
	var b strings.Builder
	for i, a := range l {
		other := l[(i*7+3)%len(l)]
		fmt.Fprint(&b, Valid(a), Equal(a, other), Size(a))
		fmt.Fprint(&b, calls(a, other, withKinds([]string{"B.0", "A.2", "A.0", "C.5"})))
	}
	return b.String()
}

// P3: equal arguments have equal results, also at the same time.
func TestSameResults(t *testing.T) {
	l := append(randomCons(87, 200), v(-1), api.Con{}, balanced(500, v(1)))
	want := results(l)
	var wait sync.WaitGroup
	for range 8 {
		wait.Go(func() {
			if results(l) != want || results(cloneAll(l)) != want {
				t.Error("different results")
			}
		})
	}
	wait.Wait()
}

// A memory knows for each element of a list where it was seen.
type memory map[unsafe.Pointer]string

func (m memory) see(t *testing.T, p unsafe.Pointer, where string) {
	t.Helper()
	if other, found := m[p]; found {
		t.Fatal(where, "shares memory with", other)
	}
	m[p] = where
}

// seeList sees all elements of a list, and those that an append could reach.
func seeList[T any](t *testing.T, m memory, l []T, where string) {
	t.Helper()
	for i := range l[:cap(l)] {
		m.see(t, unsafe.Pointer(&l[:cap(l)][i]), where)
	}
}

func (m memory) seeKind(t *testing.T, k api.Kind, where string) {
	t.Helper()
	seeList(t, m, k.L, where)
	for _, part := range k.L {
		m.seeKind(t, part, where)
	}
}

func (m memory) seeCons(t *testing.T, l []api.Con, where string) {
	t.Helper()
	seeList(t, m, l, where)
	for _, c := range l {
		seeList(t, m, c.Names, where)
		m.seeKind(t, c.Kind, where)
		m.seeCons(t, c.L, where)
	}
}

// spacious gives lists of constructors room for more elements, as arguments may have.
func spacious(c api.Con) api.Con {
	c = clone(c)
	everyNode(&c, func(node *api.Con) {
		node.Names = append(make([]string, 0, len(node.Names)+2), node.Names...)
		node.Kind.L = append(make([]api.Kind, 0, len(node.Kind.L)+2), node.Kind.L...)
	})
	var room func(c *api.Con)
	room = func(c *api.Con) {
		c.L = append(make([]api.Con, 0, len(c.L)+2), c.L...)
		for i := range c.L {
			room(&c.L[i])
		}
	}
	room(&c)
	return c
}

// No argument is modified, and no result shares memory with an argument, or with another result, or with itself.
func TestMemory(t *testing.T) {
	one := arrow(star(), star())
	for i, c := range append(randomCons(88, 300), app(con("A.0", one), lam(con("B.0", arrow(one, one))))) {
		a, b := spacious(c), spacious(randomCons(int64(i), 1)[0])
		consts := []api.Const{{Name: "A.0", Kind: cloneKind(one)}, {Name: "Zz_9.7"}, {Name: "B.0", Kind: cloneKind(arrow(one, one))}}
		m := memory{}
		m.seeCons(t, []api.Con{a, b}, "an argument")
		for _, k := range consts {
			m.seeKind(t, k.Kind, "a kind")
		}
		before := written(a) + written(b) + fmt.Sprint(consts)
		for round := range 2 {
			for _, x := range calls(a, b, consts) {
				where := fmt.Sprint(x.name, " ", round)
				m.seeCons(t, x.cons, where)
				switch rest := x.rest.(type) {
				case []int:
					seeList(t, m, rest, where)
				case []api.Const:
					seeList(t, m, rest, where)
					for _, k := range rest {
						m.seeKind(t, k.Kind, where)
					}
				}
			}
		}
		if written(a)+written(b)+fmt.Sprint(consts) != before {
			t.Fatal("modified", a, b)
		}
	}
}

// Kinds, and constructors, that stand twice in an argument stand in two places of a result.
func TestMemoryOfParts(t *testing.T) {
	k := arrow(star(), arrow(star(), star()))
	c := binder(api.CMu, k, fields(api.CSum, "A B", con("A.0", k), app(con("A.0", k), v(1))))
	twice := app(c, lam(app(v(0), v(1))))
	consts := []api.Const{{Name: "A.0", Kind: k}, {Name: "B.0", Kind: k}}
	m := memory{}
	m.seeKind(t, k, "the kind")
	everyNode(&c, func(node *api.Con) {
		seeList(t, m, node.L, "the argument")
		seeList(t, m, node.Names, "the argument")
	})
	for i, made := range []func() (api.Con, api.Errno){
		func() (api.Con, api.Errno) { return Subst(app(v(0), app(v(1), lam(v(1)))), []api.Con{c, c}) },
		func() (api.Con, api.Errno) { return Subst(twice, []api.Con{c}) },
		func() (api.Con, api.Errno) { return Shift(pair(api.CArrow, twice, twice), 1, 0) },
		func() (api.Con, api.Errno) { return Shift(pair(api.CArrow, twice, twice), 0, 0) },
		func() (api.Con, api.Errno) { return Subst(twice, nil) },
		func() (api.Con, api.Errno) { return Bind(app(twice, c), nil) },
		func() (api.Con, api.Errno) { return Bind(app(twice, c), []string{"A.0"}) },
		func() (api.Con, api.Errno) { return Unbind(app(v(0), app(v(1), lam(v(1)))), consts) },
		func() (api.Con, api.Errno) { return Apps(c, []api.Con{c, twice}) },
		func() (api.Con, api.Errno) { return Tuple([]api.Con{c, c, twice}) },
	} {
		r, e := made()
		if e != api.OK || len(r.L) == 0 {
			t.Fatal(i, r, e)
		}
		m.seeCons(t, []api.Con{r}, fmt.Sprint(i))
	}
}
