package syntax

import (
	"fmt"
	"math"
	"math/rand"
	"reflect"
	"slices"
	"strings"
	"sync"
	"testing"

	"pilaster/api"
)

// written shows all of a value, so that a change of it can be seen.
func written(v any) string { return fmt.Sprintf("%#v", v) }

// normal returns a new tree in which all empty lists are nil.
func normal(t api.Syn) api.Syn {
	t.Names = append([]string(nil), t.Names...)
	var l []api.Syn
	for _, p := range t.L {
		l = append(l, normal(p))
	}
	t.L = l
	return t
}

// memory calls f with the address of each list of a tree that is not empty.
func memory(t api.Syn, f func(any)) {
	if len(t.Names) > 0 {
		f(&t.Names[0])
	}
	if len(t.L) > 0 {
		f(&t.L[0])
	}
	for _, p := range t.L {
		memory(p, f)
	}
}

// garbage returns trees of any form.
func garbage(n int) []api.Syn {
	r := rand.New(rand.NewSource(4))
	var make func(left int) api.Syn
	make = func(left int) api.Syn {
		t := api.Syn{Op: r.Intn(95) - 3}
		if r.Intn(3) == 0 {
			t.N = numbers()[r.Intn(len(numbers()))]
		}
		if r.Intn(2) == 0 {
			t.S = []string{"x", "X", "'a", "end", "?", "\xff"}[r.Intn(6)]
		}
		for range r.Intn(3) {
			t.Names = append(t.Names, []string{"x", "M", "'a", ""}[r.Intn(4)])
		}
		if left > 0 {
			for range r.Intn(4) {
				t.L = append(t.L, make(left-1))
			}
		}
		return t
	}
	var l []api.Syn
	for range n {
		l = append(l, make(4))
	}
	return l
}

// changes returns trees that differ from t in one place.
func changes(t api.Syn) []api.Syn {
	var l []api.Syn
	for _, p := range places(t) {
		at := part(t, p)
		for _, change := range []func(c *api.Syn){
			func(c *api.Syn) { c.Op++ },
			func(c *api.Syn) { c.N-- },
			func(c *api.Syn) { c.S += "x" },
			func(c *api.Syn) { c.Names = append(slices.Clone(c.Names), "") },
			func(c *api.Syn) { c.Names = append([]string{"M"}, c.Names...) },
			func(c *api.Syn) { c.Names = strings.Split(strings.Join(c.Names, "."), ".") },
			func(c *api.Syn) { c.L = append(slices.Clone(c.L), api.Syn{}) },
			func(c *api.Syn) { c.L = append([]api.Syn{{}}, c.L...) },
			func(c *api.Syn) { c.L = c.L[:max(0, len(c.L)-1)] },
			func(c *api.Syn) { c.L = c.L[min(1, len(c.L)):] },
			func(c *api.Syn) { c.Names = c.Names[:max(0, len(c.Names)-1)] },
		} {
			c := at
			change(&c)
			l = append(l, with(t, p, c))
		}
	}
	return l
}

// P3.2

func TestEqual(t *testing.T) {
	x := path(api.XVar, "x")
	for i, c := range []struct {
		a, b api.Syn
		want bool
	}{
		{api.Syn{}, api.Syn{}, true},
		{api.Syn{Names: []string{}, L: []api.Syn{}}, api.Syn{}, true},
		{api.Syn{Names: []string{""}}, api.Syn{}, false},
		{api.Syn{L: []api.Syn{{}}}, api.Syn{}, false},
		{api.Syn{N: 1}, api.Syn{}, false},
		{x, path(api.XVar, "x"), true},
		{x, path(api.XVar, "y"), false},
		{x, path(api.XCtor, "x"), false},
		{path(api.XVar, "M", "x"), path(api.XVar, "M.x"), false},
		{path(api.XVar, "M", "x"), path(api.XVar, "x", "M"), false},
		{node(api.XApp, x, node(api.XTuple)), node(api.XApp, x, api.Syn{Op: api.XTuple, L: []api.Syn{}}), true},
		{node(api.XApp, x, node(api.XTuple)), node(api.XApp, node(api.XTuple), x), false},
	} {
		if Equal(c.a, c.b) != c.want || Equal(c.b, c.a) != c.want {
			t.Error(i)
		}
	}
}

func TestEqualOfAnyTrees(t *testing.T) {
	for _, tree := range append(samples(140), garbage(60)...) {
		if !Equal(tree, tree) || !Equal(tree, normal(tree)) || !Equal(normal(tree), tree) {
			t.Fatalf("%+v", tree)
		}
		if size, _ := measured(tree); size > 60 {
			continue
		}
		want := normal(tree)
		for _, c := range changes(tree) {
			if same := reflect.DeepEqual(want, normal(c)); Equal(tree, c) != same || Equal(c, tree) != same {
				t.Fatalf("%+v, %+v", tree, c)
			}
		}
	}
}

func TestSizeAndDepth(t *testing.T) {
	example := named(api.XFn, "x", number(api.XOp, api.OpAdd, path(api.XVar, "x"), number(api.XInt, 1)))
	if Size(example) != 4 || Depth(example) != 3 || !Valid(api.CatExpr, example) {
		t.Error("example")
	}
	if Size(api.Syn{}) != 1 || Depth(api.Syn{}) != 1 {
		t.Error("a node without parts")
	}
	for _, tree := range append(samples(1400), garbage(1000)...) {
		size, depth := measured(tree)
		if Size(tree) != size || Depth(tree) != depth {
			t.Fatalf("%+v: %d, %d", tree, Size(tree), Depth(tree))
		}
	}
}

// The trees of P3.2 may be of any size.
func TestHugeTrees(t *testing.T) {
	around := func(part api.Syn) api.Syn { return node(-1, api.Syn{}, part) }
	deep, same := chain(1<<16, api.Syn{}, around), chain(1<<16, api.Syn{}, around)
	if Size(deep) != 1<<17-1 || Depth(deep) != 1<<16 || !Equal(deep, same) || Equal(deep, around(same)) {
		t.Error("deep", Size(deep), Depth(deep))
	}
	wide := node(0, make([]api.Syn, 1<<20)...)
	if Size(wide) != 1<<20+1 || Depth(wide) != 2 || !Equal(wide, normal(wide)) || Equal(wide, node(0, wide.L[1:]...)) {
		t.Error("wide")
	}
	for _, tree := range []api.Syn{deep, wide} {
		if _, e := Paths(tree); e != api.ErrArg || Valid(api.CatExpr, tree) {
			t.Error(e)
		}
	}
}

// P3.3

func TestPathsOrdinary(t *testing.T) {
	x, ty, sig := path(api.XVar, "A", "x"), path(api.TyPath, "B", "t"), path(api.GPath, "C")
	rule := node(api.XRule, api.Syn{Op: api.PtCtor, Names: []string{"D"}, L: []api.Syn{named(api.PtVar, "v")}}, path(api.XCtor, "E"))
	nameless := api.Syn{Op: api.DType, Names: []string{"'a"}, L: []api.Syn{named(api.TyVar, "'a")}}
	for i, c := range []struct {
		t    api.Syn
		want string
	}{
		{named(api.XFn, "x", number(api.XOp, api.OpAdd, path(api.XVar, "x"), number(api.XInt, 1))), "x"},
		{number(api.XInt, 1), ""},
		{api.Syn{Op: api.TyPath, Names: []string{"t"}, L: []api.Syn{ty, path(api.TyPack, "S")}}, "t B.t S"},
		{node(api.XCase, x, rule, rule), "A.x D E D E"},
		{api.Syn{Op: api.XPack, Names: []string{"M"}, L: []api.Syn{sig}}, "M C"},
		{node(api.MStruct, path(api.DOpen, "O"), path(api.DInclude, "I", "J"), api.Syn{Op: api.DFun, S: "f", Names: []string{"p", "q"}, L: []api.Syn{x}}), "O I.J A.x"},
		{api.Syn{Op: api.SpShare, Names: []string{"M", "t"}, L: []api.Syn{ty}}, "M.t B.t"},
		{api.Syn{Op: api.GWith, Names: []string{"M", "u"}, L: []api.Syn{sig, nameless}}, "M.u C"},
		{node(api.MApp, path(api.MPath, "F"), node(api.MSeal, path(api.MPath, "G", "H"), sig)), "F G.H C"},
		{named(api.DUnpack, "X", x, sig), "A.x C"},
		{api.Syn{Op: api.SpType, S: "t", Names: []string{"'a"}}, ""},
		{named(api.SpVal, "v", node(api.TyArrow, ty, path(api.TyPath, "int"))), "B.t int"},
	} {
		l, e := Paths(c.t)
		var got []string
		for _, p := range l {
			got = append(got, strings.Join(p, "."))
		}
		if strings.Join(got, " ") != c.want || e != api.OK {
			t.Error(i, l, e)
		}
	}
}

func pathKinds() []int {
	return []int{api.TyPath, api.TyPack, api.PtCtor, api.XVar, api.XCtor, api.XPack, api.DOpen, api.DInclude, api.SpShare, api.GPath, api.GWith, api.MPath}
}

func TestPathsOfAnyTree(t *testing.T) {
	m := newModel()
	for _, tree := range slices.Concat(samples(1400), smallest(), garbage(1000)) {
		before, belongs := written(tree), false
		for cat := api.CatType; cat <= api.CatMod; cat++ {
			belongs = belongs || slices.Contains(categories()[cat], tree.Op)
		}
		var want [][]string
		code := api.ErrArg
		if belongs && m.wellFormed(tree) {
			code = api.OK
			for _, p := range places(tree) {
				if at := part(tree, p); slices.Contains(pathKinds(), at.Op) {
					want = append(want, at.Names)
				}
			}
		}
		l, e := Paths(tree)
		if !slices.EqualFunc(l, want, slices.Equal[[]string]) || e != code {
			t.Fatalf("%+v: %v, %d", tree, l, e)
		}
		for _, p := range l {
			p[0] = "changed"
		}
		if written(tree) != before {
			t.Fatalf("%+v: shared memory", tree)
		}
	}
}

// No two paths of a result share memory, even if those of the tree do.
func TestPathsAreNew(t *testing.T) {
	x := path(api.XVar, "M", "x")
	l, _ := Paths(node(api.XApp, x, x))
	l[0][0] = "N"
	if l[1][0] != "M" || x.Names[0] != "M" {
		t.Error(l)
	}
	if l[0] = append(l[0], "y"); l[1][0] != "M" {
		t.Error(l)
	}
}

func TestPathsOfNoTree(t *testing.T) {
	x := path(api.XVar, "x")
	for i, c := range []api.Syn{{}, node(api.XApp, x), node(api.XRule, node(api.PtAny), x), named(api.DCtor, "C", path(api.TyPath, "t")), node(api.DType, path(api.TyPath, "t")), path(api.XVar, "X")} {
		if l, e := Paths(c); len(l) != 0 || e != api.ErrArg {
			t.Error(i, l, e)
		}
	}
}

// P3.4

func TestReplaceOrdinary(t *testing.T) {
	x, one, ty, sig := path(api.XVar, "x"), number(api.XInt, 1), path(api.TyPath, "int"), path(api.GPath, "S")
	rule, ctor := node(api.XRule, node(api.PtAny), x), named(api.DCtor, "C")
	spec, equation, data := named(api.SpType, "t"), named(api.DType, "t", ty), named(api.DData, "t", ctor, named(api.DCtor, "D"))
	with := api.Syn{Op: api.GWith, Names: []string{"t"}, L: []api.Syn{sig, node(api.DType, ty)}}
	pack := api.Syn{Op: api.XPack, Names: []string{"M"}, L: []api.Syn{sig}}
	for i, c := range []struct {
		t    api.Syn
		at   []int
		by   api.Syn
		want api.Syn
		e    api.Errno
	}{
		{node(api.XApp, x, x), []int{1}, one, node(api.XApp, x, one), api.OK},
		{node(api.XApp, x, x), nil, one, one, api.OK},
		{node(api.XApp, x, x), []int{}, one, one, api.OK},
		{node(api.XApp, x, x), []int{2}, one, api.Syn{}, api.ErrRange},
		{node(api.XApp, x, x), []int{-1}, one, api.Syn{}, api.ErrRange},
		{node(api.XApp, x, x), []int{math.MinInt}, one, api.Syn{}, api.ErrRange},
		{node(api.XApp, x, x), []int{math.MaxInt}, one, api.Syn{}, api.ErrRange},
		{node(api.XApp, x, x), []int{0, 0}, one, api.Syn{}, api.ErrRange},
		{node(api.XApp, x, x), []int{2}, ty, api.Syn{}, api.ErrRange},
		{node(api.XApp, x, x), []int{0}, ty, api.Syn{}, api.ErrForm},
		{node(api.XApp, x, x), nil, ty, api.Syn{}, api.ErrForm},
		{node(api.XApp, x, x), nil, api.Syn{}, api.Syn{}, api.ErrForm},
		{node(api.XApp, x), []int{0}, x, api.Syn{}, api.ErrArg},
		{node(api.XApp, x), nil, x, api.Syn{}, api.ErrArg},
		{node(api.XApp, x), []int{7}, ty, api.Syn{}, api.ErrArg},
		{rule, []int{1}, x, api.Syn{}, api.ErrArg},
		{ctor, nil, ctor, api.Syn{}, api.ErrArg},
		{x, nil, rule, api.Syn{}, api.ErrForm},
		{node(api.XCase, x, rule), []int{1}, node(api.XRule, number(api.PtInt, 3), one), node(api.XCase, x, node(api.XRule, number(api.PtInt, 3), one)), api.OK},
		{node(api.XCase, x, rule), []int{1}, x, api.Syn{}, api.ErrForm},
		{node(api.XCase, x, rule), []int{0}, rule, api.Syn{}, api.ErrForm},
		{node(api.XCase, x, rule), []int{1, 0}, number(api.PtInt, 3), node(api.XCase, x, node(api.XRule, number(api.PtInt, 3), x)), api.OK},
		{node(api.XLet, named(api.DVal, "y", x), x), []int{0}, equation, api.Syn{}, api.ErrForm},
		{node(api.XLet, named(api.DVal, "y", x), x), []int{0}, named(api.DUnpack, "Y", x, sig), node(api.XLet, named(api.DUnpack, "Y", x, sig), x), api.OK},
		{pack, []int{0}, path(api.GPath, "T"), api.Syn{Op: api.XPack, Names: []string{"M"}, L: []api.Syn{path(api.GPath, "T")}}, api.OK},
		{pack, []int{0}, node(api.GSig), api.Syn{}, api.ErrForm},
		{data, []int{1}, ctor, api.Syn{}, api.ErrForm},
		{data, []int{0}, ctor, data, api.OK},
		{spec, nil, equation, equation, api.OK},
		{spec, nil, data, data, api.OK},
		{equation, nil, spec, spec, api.OK},
		{equation, nil, named(api.DVal, "x", x), named(api.DVal, "x", x), api.OK},
		{data, nil, equation, equation, api.OK},
		{spec, nil, named(api.DVal, "x", x), api.Syn{}, api.ErrForm},
		{named(api.DVal, "x", x), nil, spec, api.Syn{}, api.ErrForm},
		{node(api.GSig, spec), []int{0}, equation, node(api.GSig, equation), api.OK},
		{node(api.GSig, spec), []int{0}, named(api.DVal, "x", x), api.Syn{}, api.ErrForm},
		{node(api.MStruct, equation), []int{0}, spec, api.Syn{}, api.ErrForm},
		{with, []int{1}, node(api.DType, path(api.TyPath, "text")), api.Syn{Op: api.GWith, Names: []string{"t"}, L: []api.Syn{sig, node(api.DType, path(api.TyPath, "text"))}}, api.OK},
		{with, []int{1}, equation, api.Syn{}, api.ErrForm},
		{with, []int{0}, node(api.GSig, spec), api.Syn{Op: api.GWith, Names: []string{"t"}, L: []api.Syn{node(api.GSig, spec), node(api.DType, ty)}}, api.OK},
		{node(api.DType, ty), nil, equation, api.Syn{}, api.ErrArg},
	} {
		if r, e := Replace(c.t, c.at, c.by); !Equal(r, c.want) || e != c.e {
			t.Errorf("%d: %+v, %d", i, r, e)
		}
	}
}

func TestReplaceAtTheLimits(t *testing.T) {
	around := func(e api.Syn) api.Syn { return named(api.XFn, "", e) }
	deep := chain(300, node(api.XTuple), around)
	place := make([]int, 299)
	for depth, code := range map[int]api.Errno{1: api.OK, 101: api.OK, 102: api.ErrForm, 500: api.ErrForm} {
		if r, e := Replace(deep, place, chain(depth, node(api.XTuple), around)); e != code || e == api.OK && Depth(r) != 299+depth {
			t.Error(depth, e)
		}
	}
	if _, e := Replace(deep, make([]int, 300), deep); e != api.ErrRange {
		t.Error(e)
	}
	if _, e := Replace(deep, make([]int, 1<<20), deep); e != api.ErrRange {
		t.Error(e)
	}
	open := slices.Repeat([]api.Syn{path(api.DOpen, "M")}, 20000)
	full := node(api.MStruct, append(open[:9999:9999], named(api.DStruct, "M", path(api.MPath, "M")))...)
	for n, code := range map[int]api.Errno{0: api.OK, 9998: api.OK, 9999: api.ErrForm, 19000: api.ErrForm} {
		r, e := Replace(full, []int{9999, 0}, node(api.MStruct, open[:n]...))
		if e != code || e == api.OK && Size(r) != 10002+n {
			t.Error(n, e)
		}
	}
}

// wantReplaced is a second description of Replace.
func wantReplaced(m model, t api.Syn, at []int, by api.Syn) (api.Syn, api.Errno) {
	common := func(a, b api.Syn) bool {
		for _, ops := range categories() {
			if slices.Contains(ops, a.Op) && slices.Contains(ops, b.Op) {
				return true
			}
		}
		return false
	}
	if !common(t, t) || !m.wellFormed(t) {
		return api.Syn{}, api.ErrArg
	}
	if !slices.ContainsFunc(places(t), func(p []int) bool { return slices.Equal(p, at) }) {
		return api.Syn{}, api.ErrRange
	}
	if r := with(t, at, by); common(t, r) && m.wellFormed(r) {
		return r, api.OK
	}
	return api.Syn{}, api.ErrForm
}

func TestReplaceAnything(t *testing.T) {
	m, r := newModel(), rand.New(rand.NewSource(5))
	all := slices.Concat(samples(350), smallest(), garbage(100))
	codes := map[api.Errno]int{}
	for _, tree := range all {
		for range 12 {
			by := all[r.Intn(len(all))]
			l := places(tree)
			at := l[r.Intn(len(l))]
			if other := samplePart(r, all); r.Intn(2) == 0 && Category(other.Op) == Category(part(tree, at).Op) {
				by = other
			}
			if r.Intn(5) == 0 {
				at = append(slices.Clone(at), r.Intn(4)-1)
			}
			want, code := wantReplaced(m, tree, at, by)
			got, e := Replace(tree, at, by)
			if !Equal(got, want) || e != code {
				t.Fatalf("Replace(%+v, %v, %+v) = %+v, %d", tree, at, by, got, e)
			}
			codes[e]++
		}
	}
	for _, e := range []api.Errno{api.OK, api.ErrArg, api.ErrRange, api.ErrForm} {
		if codes[e] < 100 {
			t.Error(e, codes[e])
		}
	}
}

// samplePart returns a part of one of the trees.
func samplePart(r *rand.Rand, all []api.Syn) api.Syn {
	tree := all[r.Intn(len(all))]
	l := places(tree)
	return part(tree, l[r.Intn(len(l))])
}

func TestReplaceIsNew(t *testing.T) {
	r, all := rand.New(rand.NewSource(6)), samples(350)
	for _, tree := range all {
		l := places(tree)
		at := l[r.Intn(len(l))]
		by := part(tree, at)
		before, place := written(tree), written(at)
		old := map[any]bool{}
		memory(tree, func(p any) { old[p] = true })
		for range 2 {
			got, e := Replace(tree, at, by)
			if e != api.OK {
				t.Fatal(e)
			}
			memory(got, func(p any) {
				if old[p] {
					t.Fatalf("%+v, %v: shared memory", tree, at)
				}
				old[p] = true
			})
		}
		if written(tree) != before || written(at) != place {
			t.Fatalf("%+v, %v: changed", tree, at)
		}
	}
	// The parts of an argument that share memory share none in a result.
	x := path(api.XVar, "x")
	got, _ := Replace(node(api.XApp, x, node(api.XTuple)), []int{1}, x)
	got.L[1].Names[0] = "y"
	if got.L[0].Names[0] != "x" || x.Names[0] != "x" {
		t.Error(got)
	}
}

// P3.5

func TestPartsAreWellFormed(t *testing.T) {
	for _, tree := range samples(1400) {
		for _, p := range places(tree) {
			at := part(tree, p)
			around := api.Syn{}
			if len(p) > 0 {
				around = part(tree, p[:len(p)-1])
			}
			// The type of a refinement has no name, with which it would stand for itself.
			want := Category(at.Op) != 0 && !(at.Op == api.DType && around.Op == api.GWith)
			if Valid(Category(at.Op), at) != want {
				t.Fatalf("%+v in %+v", at, tree)
			}
			sum := 1
			for _, q := range at.L {
				sum += Size(q)
			}
			if Size(at) != sum {
				t.Fatal(Size(at), sum)
			}
			if r, e := Replace(tree, p, at); e != api.OK || !Equal(r, tree) {
				t.Fatalf("%+v at %v: %d", tree, p, e)
			}
		}
	}
}

// begins reports whether one of two places is in the other.
func begins(p, q []int) bool {
	n := min(len(p), len(q))
	return slices.Equal(p[:n], q[:n])
}

func TestReplacingChangesNothingElsewhere(t *testing.T) {
	r, all := rand.New(rand.NewSource(7)), samples(700)
	bySize := map[[2]int][]api.Syn{}
	for _, tree := range all {
		for _, p := range places(tree) {
			at := part(tree, p)
			k := [2]int{Category(at.Op), Size(at)}
			bySize[k] = append(bySize[k], at)
		}
	}
	done := 0
	for _, tree := range all {
		for _, p := range places(tree) {
			at := part(tree, p)
			choice := bySize[[2]int{Category(at.Op), Size(at)}]
			by := choice[r.Intn(len(choice))]
			got, e := Replace(tree, p, by)
			if e == api.ErrForm {
				continue
			}
			if e != api.OK || Size(got) != Size(tree) || !Equal(part(got, p), by) {
				t.Fatalf("%+v at %v by %+v: %d", tree, p, by, e)
			}
			for _, q := range places(tree) {
				if !begins(p, q) && !Equal(part(got, q), part(tree, q)) {
					t.Fatalf("%+v at %v by %+v: changed at %v", tree, p, by, q)
				}
			}
			done++
		}
	}
	if done < 2000 {
		t.Error(done)
	}
}

// P1

func TestErrorsLeaveNothing(t *testing.T) {
	for _, tree := range append(garbage(2000), api.Syn{}) {
		if l, e := Paths(tree); e != api.OK && l != nil {
			t.Fatalf("%+v: %v", tree, l)
		}
		for _, at := range [][]int{nil, {0}, {1, 1}, {-1}} {
			if r, e := Replace(tree, at, tree); e != api.OK && !reflect.DeepEqual(r, api.Syn{}) {
				t.Fatalf("%+v: %+v", tree, r)
			}
		}
	}
}

// P3

func TestSameResultsAtTheSameTime(t *testing.T) {
	all := samples(210)
	results := func() string {
		var b strings.Builder
		for i, tree := range all {
			l, e := Paths(tree)
			r, code := Replace(tree, []int{0}, all[(i+7)%len(all)])
			fmt.Fprint(&b, Valid(i%7+1, tree), Size(tree), Depth(tree), l, e, r, code, Equal(tree, r))
		}
		return b.String()
	}
	want := results()
	var wait sync.WaitGroup
	for range 8 {
		wait.Go(func() {
			if results() != want {
				t.Error("different results")
			}
		})
	}
	wait.Wait()
}
