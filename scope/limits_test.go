package scope

import (
	"fmt"
	"math/rand"
	"reflect"
	"slices"
	"strconv"
	"strings"
	"sync"
	"testing"

	"pilaster/api"
	"pilaster/syntax"
)

// nested puts a tree n times into another one.
func nested(n int, x api.Syn, around func(api.Syn) api.Syn) api.Syn {
	for range n {
		x = around(x)
	}
	return x
}

// endless returns a tree of shared memory with more nodes than could be gone through, one that contains itself, and one with very many parts.
func endless() []api.Syn {
	shared := node(api.XTuple)
	for range 63 {
		shared = node(api.XApp, shared, shared)
	}
	self := node(api.XApp, node(api.XTuple), node(api.XTuple))
	self.L[0] = self
	return []api.Syn{shared, self, node(api.MStruct, slices.Repeat([]api.Syn{path(api.DOpen, "M")}, 1<<20)...)}
}

// P7.1 to P7.3: trees of the greatest depth, and deeper ones.
func TestDepth(t *testing.T) {
	fn := func(x api.Syn) api.Syn { return named(api.XFn, "x", x) }
	for depth, want := range map[int]api.Errno{api.MaxDepth: api.OK, api.MaxDepth + 1: api.ErrArg} {
		x := nested(depth-1, path(api.XVar, "x"), fn)
		if _, e := Free(api.CatExpr, x); e != want {
			t.Error(depth, e)
		}
		if e := Check(api.CatExpr, x); e != want {
			t.Error(depth, e)
		}
		p := nested(depth-1, named(api.PtVar, "x"), func(p api.Syn) api.Syn { return path(api.PtCtor, "C", p) })
		if _, e := Binds(p); e != want {
			t.Error(depth, e)
		}
		// The structure of the declarations is a level, too.
		u := api.Unit{Name: "A", Decls: []api.Syn{named(api.DVal, "x", nested(depth-3, path(api.XVar, "y"), fn))}}
		if _, e := Unbound(u); e != want {
			t.Error(depth, e)
		}
		if _, e := Order([]api.Unit{u}); e != want {
			t.Error(depth, e)
		}
	}
}

// P7.1 to P7.5: trees of the greatest size, and larger ones.
func TestSize(t *testing.T) {
	for size, want := range map[int]api.Errno{api.MaxNodes: api.OK, api.MaxNodes + 1: api.ErrArg} {
		u := api.Unit{Name: "A", Decls: slices.Repeat([]api.Syn{path(api.DOpen, "M")}, size-1)}
		l, e := Unbound(u)
		if e != want || e == api.OK && !slices.Equal(l, []string{"mod.M"}) {
			t.Error(size, l, e)
		}
		if _, e := Order([]api.Unit{{Name: "B"}, u}); e != want {
			t.Error(size, e)
		}
		if _, e := Free(api.CatMod, node(api.MStruct, u.Decls...)); e != want {
			t.Error(size, e)
		}
	}
}

// wide returns n specifications of values, the last one of which has the name of the one with an index.
func wide(n, again int) api.Syn {
	var l []api.Syn
	for i := range n {
		if i == n-1 {
			i = again
		}
		l = append(l, named(api.SpVal, "x"+strconv.Itoa(i), path(api.TyPath, "t"+strconv.Itoa(i))))
	}
	return node(api.GSig, l...)
}

// P7.1, P7.3: very many labels, and very many that are bound at a time.
func TestManyLabels(t *testing.T) {
	n := api.MaxNodes/2 - 1
	for again, want := range map[int]api.Errno{0: api.ErrTwice, n / 2: api.ErrTwice, n - 2: api.ErrTwice, n - 1: api.OK} {
		if e := Check(api.CatSig, wide(n, again)); e != want {
			t.Error(again, e)
		}
	}
	if l := free(t, api.CatSig, wide(n, n-1)); len(l) != n || l[0] != "type.t0" || l[1] != "type.t1" || l[2] != "type.t10" || l[n-1] != "type.t9998" {
		t.Error(len(l), l[:3])
	}
	var decls []api.Syn
	for i := range n {
		decls = append(decls, named(api.DVal, "x"+strconv.Itoa(i), path(api.XVar, "x"+strconv.Itoa(max(i-1, 0)))))
	}
	if l := free(t, api.CatMod, node(api.MStruct, decls...)); !slices.Equal(l, []string{"val.x0"}) {
		t.Error(len(l))
	}
	slices.Reverse(decls)
	if l := free(t, api.CatMod, node(api.MStruct, decls...)); len(l) != n-1 {
		t.Error(len(l))
	}
	// A pattern of 9 * 9 * 9 * 9 names, and one more.
	i := 0
	p := tuples(4, func() api.Syn { i++; return named(api.PtVar, "x"+strconv.Itoa(i)) })
	if l := binds(t, p); len(l) != 6561 {
		t.Error(len(l))
	}
	if e := Check(api.CatPat, p); e != api.OK {
		t.Error(e)
	}
	if e := Check(api.CatPat, node(api.PtTuple, p, named(api.PtVar, "x6561"))); e != api.ErrTwice {
		t.Error(e)
	}
}

// tuples returns patterns that are nested on so many levels.
func tuples(levels int, one func() api.Syn) api.Syn {
	if levels == 0 {
		return one()
	}
	var l []api.Syn
	for range api.MaxTuple {
		l = append(l, tuples(levels-1, one))
	}
	return node(api.PtTuple, l...)
}

// P7.1, P7.4: the longest names.
func TestLongestNames(t *testing.T) {
	low, up := "x"+strings.Repeat("_", api.MaxName-1), "M"+strings.Repeat("0", api.MaxName-1)
	for _, c := range []struct {
		cat  int
		x    api.Syn
		want string
	}{
		{api.CatExpr, path(api.XVar, low), "val." + low},
		{api.CatType, path(api.TyPath, low), "type." + low},
		{api.CatExpr, path(api.XCtor, up), "con." + up},
		{api.CatMod, path(api.MPath, strings.Repeat(up+".", api.MaxPath-1)+up), "mod." + up},
		{api.CatSig, path(api.GPath, up), "sig." + up},
		{api.CatExpr, named(api.XFn, low, path(api.XVar, low)), ""},
		{api.CatMod, path(api.MPath, strings.Repeat("A.", api.MaxPath-1)+"B"), "mod.A"},
	} {
		l, e := Free(c.cat, c.x)
		expectLabels(t, c.want, c.want, l, e)
	}
}

// P1: any arguments, and nothing but zeros beside an error.
func TestAnyArguments(t *testing.T) {
	r := rand.New(rand.NewSource(10))
	var l []api.Syn
	for _, x := range samples(10, 300) {
		l = append(l, damaged(r, x.t))
	}
	codes := map[api.Errno]int{}
	for _, x := range append(l, endless()...) {
		for cat := -1; cat < 9; cat++ {
			valid := syntax.Valid(cat, x)
			labels, e := Free(cat, x)
			if !valid {
				expectError(t, "damaged", api.ErrArg, labels, e)
			}
			if f := Check(cat, x); valid != (f != api.ErrArg) || valid != (e == api.OK) {
				t.Fatal(cat, f)
			}
			codes[e]++
		}
		right := syntax.Valid(api.CatPat, x) || syntax.Valid(api.CatDecl, x) || syntax.Valid(api.CatSpec, x)
		if labels, e := Binds(x); right != (e == api.OK) || e != api.OK && len(labels) > 0 {
			t.Fatal(labels, e)
		}
		u := api.Unit{Name: "A", Imports: []string{"B"}, Decls: []api.Syn{x}}
		right = syntax.Valid(api.CatDecl, x)
		if labels, e := Unbound(u); right != (e == api.OK) || e != api.OK && len(labels) > 0 {
			t.Fatal(labels, e)
		}
		names, e := Order([]api.Unit{u, {Name: "B"}})
		if right && (e != api.OK || !slices.Equal(names, []string{"B", "A"})) || !right && (e != api.ErrArg || len(names) > 0) {
			t.Fatal(names, e)
		}
	}
	if codes[api.OK] < 100 || codes[api.ErrArg] < 100 {
		t.Error(codes)
	}
}

// damaged returns a tree with a change at a random place.
func damaged(r *rand.Rand, t api.Syn) api.Syn {
	if len(t.L) > 0 && r.Intn(4) > 0 {
		i := r.Intn(len(t.L))
		t.L = slices.Clone(t.L)
		t.L[i] = damaged(r, t.L[i])
		return t
	}
	switch r.Intn(6) {
	case 0:
		t.Op += r.Intn(7) - 3
	case 1:
		t.N += r.Intn(5) - 2
	case 2:
		t.S = []string{"", "x", "M", "end", "'a", "\x00"}[r.Intn(6)]
	case 3:
		t.Names = [][]string{nil, {"x"}, {"M"}, {"M", "x"}, {"x", "M"}, {"'a", "'a"}}[r.Intn(6)]
	case 4:
		t.L = t.L[:r.Intn(len(t.L)+1)]
	case 5:
		t.L = append(slices.Clone(t.L), api.Syn{Op: r.Intn(90)})
	}
	return t
}

// results returns all results for some trees and units as a text.
func results(l []sample) string {
	var b strings.Builder
	for i, x := range l {
		free, e := Free(x.cat, x.t)
		bound, f := Binds(x.t)
		fmt.Fprint(&b, free, e, bound, f, Check(x.cat, x.t))
		if x.cat != api.CatDecl {
			continue
		}
		u := api.Unit{Name: "A", Imports: []string{"M", "B"}, Decls: []api.Syn{x.t, l[(i+7)%len(l)].t}}
		left, e := Unbound(u)
		order, f := Order([]api.Unit{u, {Name: "M", Imports: []string{"B", "C"}}, {Name: "D"}, {Name: "C"}, {Name: "B"}})
		fmt.Fprint(&b, left, e, order, f)
	}
	return b.String()
}

// P3: equal arguments have equal results, also at the same time.
func TestSameResults(t *testing.T) {
	l := samples(11, 60)
	want := results(l)
	var wait sync.WaitGroup
	for range 8 {
		wait.Go(func() {
			var own []sample
			for _, x := range l {
				own = append(own, sample{x.cat, copied(x.t)})
			}
			if results(l) != want || results(own) != want {
				t.Error("different results")
			}
		})
	}
	wait.Wait()
}

// No argument is modified, also not through a result, and no result is modified through another one.
func TestArgumentsStay(t *testing.T) {
	for _, x := range samples(12, 200) {
		before, want := copied(x.t), results([]sample{x})
		for _, f := range []func() []string{
			func() []string { l, _ := Free(x.cat, x.t); return l },
			func() []string { l, _ := Binds(x.t); return l },
			func() []string { l, _ := Unbound(api.Unit{Name: "A", Decls: []api.Syn{asDeclaration(x)}}); return l },
		} {
			first, second := f(), f()
			kept := slices.Clone(second)
			for i := range first {
				first[i] = "changed"
			}
			if !slices.Equal(second, kept) {
				t.Fatalf("%+v: %v", x, second)
			}
		}
		if !reflect.DeepEqual(x.t, before) || results([]sample{x}) != want {
			t.Fatalf("%+v; before: %+v", x, before)
		}
	}
	l := units("B(C,A) A D C(A)")
	first, e := Order(l)
	if e != api.OK || !reflect.DeepEqual(l, units("B(C,A) A D C(A)")) {
		t.Error(l, e)
	}
	first[0] = "changed"
	if again, _ := Order(l); again[0] != "A" || !reflect.DeepEqual(l, units("B(C,A) A D C(A)")) {
		t.Error(again, l)
	}
	u := unitOf(t, "A", "import C, B; val x = (B.x, y, z, print, D.x, C.y)")
	before := copied(node(api.MStruct, u.Decls...))
	if _, e := Unbound(u); e != api.OK || !slices.Equal(u.Imports, []string{"C", "B"}) || !reflect.DeepEqual(node(api.MStruct, u.Decls...), before) {
		t.Error(u, e)
	}
}
