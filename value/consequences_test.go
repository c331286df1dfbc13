package value

import (
	"fmt"
	"math/rand"
	"slices"
	"strings"
	"sync"
	"testing"
	"unsafe"

	"pilaster/api"
	"pilaster/kernel"
)

// P14.6: values are read from their texts, and different ones have different texts.
func TestTextsAndValues(t *testing.T) {
	texts := map[string]api.Value{}
	for _, v := range slices.Concat(randomValues(1451, 10000), dataUpTo(3)) {
		s, e := Text(v)
		if e != api.OK {
			t.Fatal(brief(v), e)
		}
		w, e := Parse(s)
		if e != api.OK || !Equal(v, w) {
			t.Fatal(s, brief(w), e)
		}
		if other, exists := texts[s]; exists && !Equal(v, other) {
			t.Fatal(s)
		}
		texts[s] = v
	}
}

// P14.6: what All finds has terms of the type, which the kernel accepts, and which are as different as the values.
func TestTermsOfAll(t *testing.T) {
	found := 0
	for _, c := range append(randomTypes(1452, 1500, true), con(boolText), con(natText), con(treeText), con("{1: "+boolText+", 2: "+boolText+"}"), con("("+perfectOf+" "+boolText+")")) {
		l, e := All(c, 7)
		if e != api.OK || len(l) > 200 {
			continue
		}
		terms := map[string]bool{}
		for _, v := range l {
			x, e := Term(v, c)
			if e != api.OK || !kernel.Closed(x, c) {
				t.Fatal(brief(c), brief(v), e)
			}
			terms[fmt.Sprint(x)] = true
			found++
		}
		if len(terms) != len(l) {
			t.Fatal(brief(c), len(terms), len(l))
		}
	}
	if found < 500 {
		t.Error("only", found, "values")
	}
}

// P1: any arguments, and nothing but zeros beside an error.
func TestAnyArguments(t *testing.T) {
	values := append(invalidValues(), num(1), unit(), fun(), roll(roll(num(1))), ofSize(api.MaxNodes), rolls(399, num(1)), block(str(strings.Repeat("\x00", api.MaxText))), tagged(5, pack(num(1))))
	types := slices.Concat(noTypes(), handTypes(), []api.Con{wild(), conOfSize(api.MaxNodes), choice(api.MaxList), mu(choice(5))})
	for i, v := range values {
		valid := Valid(v)
		if Data(v) && !valid {
			t.Fatal(i)
		}
		if s, e := Text(v); e != api.OK && s != "" || valid == (e == api.ErrArg) {
			t.Fatal(i, s, e)
		}
		for j, c := range types {
			ok, e := Fits(v, c)
			x, f := Term(v, c)
			if ok && e != api.OK || f != api.OK && !alike(x, api.Term{}) || !valid && (e != api.ErrArg || f != api.ErrArg) || e == api.ErrArg && f != e || f == api.OK && !ok || f == api.ErrType && (ok || e != api.OK) {
				t.Fatal(i, j, ok, e, f)
			}
		}
	}
	for j, c := range types {
		for _, depth := range []int{-1 << 63, -1, 0, 1, 2, 5, 400, 401, 1<<63 - 1} {
			l, e := All(c, depth)
			if e != api.OK && len(l) > 0 || (depth < 0 || depth > 400) && e != api.ErrArg && e != api.ErrRange {
				t.Fatal(j, depth, len(l), e)
			}
		}
	}
	r := rand.New(rand.NewSource(1453))
	for range 20000 {
		b := make([]byte, r.Intn(12))
		for i := range b {
			b[i] = pick(r, []byte("{}<>()@%#\"\\-=, a0A1fn.\n\xff")...)
		}
		if v, e := Parse(string(b)); e != api.OK && (e != api.ErrForm || !isZero(v)) || e == api.OK && !Valid(v) {
			t.Fatalf("%q: %s, %d", b, brief(v), e)
		}
	}
}

// sample is a value, and a type that it may fit.
type sample struct {
	v api.Value
	c api.Con
}

func samples(seed int64, n int) []sample {
	r := rand.New(rand.NewSource(seed))
	var l []sample
	for _, c := range slices.Concat(handTypes()[:20], randomTypes(seed+1, n, false), randomTypes(seed+2, n, true)) {
		v, ok := randomFit(r, c, 2+r.Intn(8))
		if !ok || r.Intn(4) == 0 {
			v = changed(r, v)
		}
		l = append(l, sample{v, c})
	}
	return l
}

// outcomes returns what all functions say.
func outcomes(l []sample) string {
	var b strings.Builder
	for i, s := range l {
		fmt.Fprint(&b, Valid(s.v), Equal(s.v, l[i/2].v), Size(s.v), Data(s.v))
		text, e := Text(s.v)
		fmt.Fprint(&b, text, e)
		v, e := Parse(text)
		fmt.Fprint(&b, v, e)
		ok, e := Fits(s.v, s.c)
		fmt.Fprint(&b, ok, e)
		x, e := Term(s.v, s.c)
		fmt.Fprint(&b, x, e)
		all, e := All(s.c, 6)
		fmt.Fprint(&b, all, e)
	}
	return b.String()
}

// P3: equal arguments have equal results, also at the same time: nobody writes into the memory of an argument.
func TestSameResults(t *testing.T) {
	l := samples(1454, 150)
	copies := eachOf(l, func(s sample) sample { return sample{clone(s.v), cloneCon(s.c)} })
	want := outcomes(l)
	var wait sync.WaitGroup
	for range 8 {
		wait.Go(func() {
			if outcomes(l) != want || outcomes(copies) != want {
				t.Error("different results")
			}
		})
	}
	wait.Wait()
}

// A memory knows for each element of a list where it was seen.
type memory map[unsafe.Pointer]string

// seeList sees all elements of a list, and those that an append could reach.
func seeList[T any](t *testing.T, m memory, l []T, where string) {
	t.Helper()
	l = l[:cap(l)]
	for i := range l {
		p := unsafe.Pointer(&l[i])
		if other, exists := m[p]; exists {
			t.Fatal(where, "shares memory with", other)
		}
		m[p] = where
	}
}

func (m memory) seeValues(t *testing.T, l []api.Value, where string) {
	t.Helper()
	seeList(t, m, l, where)
	for _, v := range l {
		seeList(t, m, v.Names, where)
		m.seeValues(t, v.L, where)
	}
}

func (m memory) seeKinds(t *testing.T, l []api.Kind, where string) {
	t.Helper()
	seeList(t, m, l, where)
	for _, k := range l {
		m.seeKinds(t, k.L, where)
	}
}

func (m memory) seeCons(t *testing.T, l []api.Con, where string) {
	t.Helper()
	seeList(t, m, l, where)
	for _, c := range l {
		seeList(t, m, c.Names, where)
		m.seeKinds(t, c.Kind.L, where)
		m.seeCons(t, c.L, where)
	}
}

func (m memory) seeTerms(t *testing.T, l []api.Term, where string) {
	t.Helper()
	seeList(t, m, l, where)
	for _, x := range l {
		seeList(t, m, x.Names, where)
		m.seeCons(t, []api.Con{x.Con, x.To}, where)
		m.seeTerms(t, x.L, where)
	}
}

// shown shows all that an append could reach, too.
func shown(v api.Value, c api.Con) string {
	var b strings.Builder
	var values func(l []api.Value)
	values = func(l []api.Value) {
		fmt.Fprint(&b, len(l), "(")
		for _, v := range l[:cap(l)] {
			fmt.Fprint(&b, v.Op, v.N, v.S, v.Names[:cap(v.Names)])
			values(v.L)
		}
		b.WriteString(")")
	}
	var cons func(l []api.Con)
	cons = func(l []api.Con) {
		fmt.Fprint(&b, len(l), "[")
		for _, c := range l[:cap(l)] {
			fmt.Fprint(&b, c.Op, c.N, c.S, c.Names[:cap(c.Names)], c.Kind)
			cons(c.L)
		}
		b.WriteString("]")
	}
	values([]api.Value{v})
	cons([]api.Con{c})
	return b.String()
}

// No argument is modified, and no result shares memory with an argument, or with another result, or with itself.
func TestMemory(t *testing.T) {
	for i, s := range append(samples(1455, 300), sample{roll(inject("A", unit())), con("((mu (* -> *) -> *. (fn * -> *. [A: {} | B: (#0 int)])) A.1{* -> *})")}, sample{roll(inject("B", unit())), con("(mu *. [A: (K.1{(* -> *) -> * -> *} (fn *. #0)) | B: {}])")}) {
		v, c := clone(s.v), cloneCon(s.c)
		before := shown(v, c)
		m := memory{}
		m.seeValues(t, []api.Value{v}, "the value")
		m.seeCons(t, []api.Con{c}, "the type")
		for round := range 2 {
			where := fmt.Sprint(i, " in round ", round)
			text, _ := Text(v)
			w, _ := Parse(text)
			m.seeValues(t, []api.Value{w}, where)
			Fits(v, c)
			x, _ := Term(v, c)
			m.seeTerms(t, []api.Term{x}, where)
			l, _ := All(c, 7)
			m.seeValues(t, l, where)
		}
		if shown(v, c) != before {
			t.Fatal(i, "modified")
		}
	}
}

// What stands twice in the arguments, or in the values of a type, has memory of its own in each place of a result.
func TestMemoryOfParts(t *testing.T) {
	c := con("{a: " + boolText + ", b: (" + listOf + " " + boolText + ")}")
	c.L[0] = c.L[1]
	c = mu(named(api.CSum, "A B", c, named(api.CRecord, "a b", c, api.Con{Op: api.CVar})))
	empty := roll(inject("Nil", unit()))
	v := record("a b", empty, empty)
	v = roll(inject("B", record("a b", v, roll(inject("A", v)))))
	m := memory{}
	m.seeCons(t, []api.Con{cloneCon(c)}, "another type")
	for i := range 3 {
		x, e := Term(v, c)
		if e != api.OK {
			t.Fatal(e)
		}
		m.seeTerms(t, []api.Term{x}, fmt.Sprint("term ", i))
		l, e := All(c, 9)
		if e != api.OK || len(l) != 10 {
			t.Fatal(len(l), e)
		}
		m.seeValues(t, l, fmt.Sprint("list ", i))
	}
}
