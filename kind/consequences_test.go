package kind

import (
	"fmt"
	"reflect"
	"slices"
	"strings"
	"sync"
	"testing"

	"pilaster/api"
)

// P8.5

func TestArrowOfParts(t *testing.T) {
	for _, k := range slices.Concat(allKinds(7), randomKinds(5, 500), []api.Kind{right(399), left(399), balanced(api.MaxNodes / 2)}) {
		l, last, e := Parts(k)
		if e != api.OK {
			t.Fatal(e)
		}
		again, e := Arrow(l, last)
		expectKind(t, wantText(k), again, e, k)
		f := k
		for _, a := range l {
			if f, e = Apply(f, a); e != api.OK {
				t.Fatal(k, a, e)
			}
		}
		expectKind(t, wantText(k), f, e, api.Kind{})
	}
}

func TestDifferentKindsHaveDifferentTexts(t *testing.T) {
	seen := map[string]api.Kind{}
	for _, k := range allKinds(9) {
		s, e := Text(k)
		if other, found := seen[s]; found || e != api.OK {
			t.Fatal(s, e, k, other)
		}
		seen[s] = k
		again, e := Parse(s)
		if e != api.OK || !Equal(again, k) {
			t.Fatal(s, e, again)
		}
	}
}

func TestExample(t *testing.T) {
	one, e := Arity(1)
	expectKind(t, "* -> *", one, e, node(api.Kind{}, api.Kind{}))
	k, _ := Arrow([]api.Kind{Star(), one}, Star())
	if s, e := Text(k); s != "* -> (* -> *) -> *" || e != api.OK {
		t.Error(s, e)
	}
	k, _ = Apply(k, Star())
	if s, e := Text(k); s != "(* -> *) -> *" || e != api.OK {
		t.Error(s, e)
	}
}

// P1: any arguments, and nothing but zeros beside an error.
func TestAnyArguments(t *testing.T) {
	l := slices.Concat(invalid(), allKinds(3), []api.Kind{right(399), balanced(api.MaxNodes / 2)})
	for i, f := range l {
		for j, a := range l {
			k, e := Apply(f, a)
			m, g := Arrow([]api.Kind{f, a, {}}, a)
			if e != api.OK && k.L != nil || g != api.OK && m.L != nil {
				t.Error(i, j, e, g)
			}
			if valid := Valid(f) && Valid(a); valid == (e == api.ErrArg) || valid == (g == api.ErrArg) || Equal(f, a) && !valid {
				t.Error(i, j, e, g)
			}
		}
	}
}

// results returns all results for some kinds as a text.
func results(l []api.Kind) string {
	var b strings.Builder
	for i, k := range l {
		other := l[(i*7+3)%len(l)]
		arrow, e := Arrow(l[i/2:min(i/2+3, len(l))], k)
		arity, f := Arity(i - 2)
		fmt.Fprint(&b, Valid(k), Equal(k, other), Star(), arrow, e, arity, f)
		parts, last, e := Parts(k)
		text, f := Text(k)
		fmt.Fprint(&b, parts, last, e, text, f)
		applied, e := Apply(node(other, k), other)
		parsed, f := Parse(text)
		fmt.Fprint(&b, applied, e, parsed, f)
	}
	return b.String()
}

// P3: equal arguments have equal results, also at the same time.
func TestSameResults(t *testing.T) {
	l := append(randomKinds(6, 200), node(api.Kind{}), node(right(1), node(api.Kind{})))
	want := results(l)
	var wait sync.WaitGroup
	for range 8 {
		wait.Go(func() {
			var own []api.Kind
			for _, k := range l {
				own = append(own, clone(k))
			}
			if results(l) != want || results(own) != want {
				t.Error("different results")
			}
		})
	}
	wait.Wait()
}

// No result shares memory with an argument, or with another result: whatever is done to one of them, the others stay.
func TestMemory(t *testing.T) {
	for _, k := range append(randomKinds(7, 300), right(3), left(3)) {
		args := []api.Kind{clone(k), right(1), left(2), clone(k), node(clone(k), clone(k))}
		var kept []api.Kind
		for _, a := range args {
			kept = append(kept, clone(a))
		}
		// A kind that stands twice in an argument stands in two places of a result.
		twice := []api.Kind{args[0], args[0], args[1]}
		made := func() []api.Kind {
			a, _ := Arrow(twice, args[0])
			b, _ := Arrow(nil, args[0])
			c, _ := Apply(args[4], args[3])
			d, last, _ := Parts(args[4])
			e, _ := Parse("(* -> *) -> (* -> *) -> *")
			f, _ := Arity(4)
			return append(d, last, a, b, c, e, f, Star())
		}
		fresh := func() []api.Kind {
			var l []api.Kind
			for _, x := range made() {
				l = append(l, clone(x))
			}
			return l
		}
		want := fresh()
		for i := range want {
			l := made()
			spoil(l[i])
			for j := range l {
				if j != i && !alike(l[j], want[j]) {
					t.Fatal(i, j, l[j], want[j])
				}
			}
			if !slices.EqualFunc(args, kept, alike) || !reflect.DeepEqual(fresh(), want) {
				t.Fatal(i, args, kept)
			}
		}
		l := made()
		for _, a := range args {
			spoil(a)
		}
		if !slices.EqualFunc(l, want, alike) {
			t.Fatal(l, want)
		}
	}
}

// The parts of one result share no memory with each other.
func TestMemoryOfParts(t *testing.T) {
	shared := left(2)
	for i, made := range []func() api.Kind{
		func() api.Kind { k, _ := Arrow([]api.Kind{shared, shared}, shared); return k },
		func() api.Kind { k, _ := Arrow(nil, node(shared, node(shared, shared))); return k },
		func() api.Kind { k, _ := Apply(node(shared, node(shared, node(shared, shared))), shared); return k },
		func() api.Kind {
			l, _, _ := Parts(node(shared, node(shared, shared)))
			return node(l[0], node(l[1], shared))
		},
	} {
		for place := range 2 {
			k := made()
			first, second := k.L[0], k.L[1].L[0]
			if place == 1 {
				first, second = second, first
			}
			spoil(first)
			if !alike(second, left(2)) {
				t.Error(i, place, second)
			}
		}
	}
}
