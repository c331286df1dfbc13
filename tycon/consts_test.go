package tycon

import (
	"fmt"
	"math/rand"
	"reflect"
	"slices"
	"strconv"
	"testing"

	"pilaster/api"
)

// P9.5

// wantConsts returns the constants, and whether each name has one kind.
func wantConsts(c api.Con) ([]api.Const, bool) {
	var l []api.Const
	everyNode(&c, func(node *api.Con) {
		if node.Op == api.CConst {
			l = append(l, api.Const{Name: node.S, Kind: cloneKind(node.Kind)})
		}
	})
	text := func(a api.Const) string { return a.Name + " " + written(api.Con{Kind: a.Kind}) }
	slices.SortFunc(l, func(a, b api.Const) int {
		if text(a) < text(b) {
			return -1
		}
		return btoi(text(a) > text(b))
	})
	l = slices.CompactFunc(l, func(a, b api.Const) bool { return text(a) == text(b) })
	for i := range l {
		if i > 0 && l[i].Name == l[i-1].Name {
			return nil, false
		}
	}
	return l, true
}

func expectConsts(t *testing.T, c api.Con) api.Errno {
	t.Helper()
	l, e := Consts(c)
	want, ok := wantConsts(c)
	if !ok {
		if e != api.ErrKind || len(l) > 0 {
			t.Fatal(c, l, e)
		}
		return e
	}
	if e != api.OK || len(l) != len(want) || len(l) > 0 && !reflect.DeepEqual(l, want) {
		t.Fatal(c, l, e, want)
	}
	return e
}

func TestConsts(t *testing.T) {
	one := arrow(star(), star())
	c := app(app(con("B.0", one), con("A.10", star())), lam(fields(api.CSum, "A B", con("A.2", star()), con("B.0", one))))
	l, e := Consts(c)
	if want := []api.Const{{Name: "A.10"}, {Name: "A.2"}, {Name: "B.0", Kind: one}}; e != api.OK || !reflect.DeepEqual(l, want) {
		t.Error(l, e)
	}
	for _, c := range []api.Con{num(), v(3), Unit(), Bool(), lam(meta(1))} {
		if l, e := Consts(c); e != api.OK || len(l) > 0 {
			t.Error(c, l, e)
		}
	}
	for _, c := range []api.Con{
		app(con("A.0", star()), con("A.0", one)), app(con("A.0", one), lam(con("A.0", star()))), fields(api.CRecord, "a b c", con("A.0", one), con("A.1", star()), con("A.0", arrow(star(), one))), app(con("A.0", one), con("A.0", arrow(one, star()))),
	} {
		if l, e := Consts(c); e != api.ErrKind || len(l) > 0 {
			t.Error(c, l, e)
		}
	}
	if l, e := Consts(app(app(con("A.0", star()), con("A.0", one)), api.Con{})); e != api.ErrArg || len(l) > 0 {
		t.Error("two kinds, and malformed", l, e)
	}
}

func TestConstsOfAny(t *testing.T) {
	r := rand.New(rand.NewSource(51))
	seen := map[api.Errno]int{}
	for _, c := range slices.Concat(smallCons(4), randomCons(52, 3000)) {
		seen[expectConsts(t, c)]++
		x := clone(c)
		everyNode(&x, func(node *api.Con) {
			if node.Op == api.CConst && r.Intn(3) == 0 {
				node.Kind = randomKind(r, 3)
			}
		})
		seen[expectConsts(t, x)]++
	}
	if seen[api.OK] < 1000 || seen[api.ErrKind] < 50 {
		t.Error(seen)
	}
	for i, c := range invalid() {
		if l, e := Consts(c); e != api.ErrArg || len(l) > 0 {
			t.Error(i, l, e)
		}
	}
	many := wide(api.MaxList, num())
	for i := range many.L {
		many.L[i] = con("A."+strconv.Itoa((i*37)%1000), star())
	}
	if l, e := Consts(many); e != api.OK || len(l) != 1000 || !slices.IsSortedFunc(l, func(a, b api.Const) int { return btoi(a.Name > b.Name) - btoi(a.Name < b.Name) }) {
		t.Error(len(l), e)
	}
}

// manyNames returns different names of constants.
func manyNames(n int) []string {
	var l []string
	for i := range n {
		l = append(l, "A."+strconv.Itoa(i))
	}
	return l
}

func withKinds(names []string) []api.Const {
	var l []api.Const
	for i, s := range names {
		k := star()
		if i%3 == 1 {
			k = arrow(star(), star())
		}
		l = append(l, api.Const{Name: s, Kind: k})
	}
	return l
}

func expectBind(t *testing.T, c api.Con, names []string) api.Errno {
	t.Helper()
	r, e := Bind(c, names)
	want := wantBind(c, names)
	if !wantValid(want) {
		expectNone(t, "too big", r, e, api.ErrBig)
		return e
	}
	expectCon(t, fmt.Sprint(c, names), r, e, want)
	return e
}

func expectUnbind(t *testing.T, c api.Con, names []api.Const) {
	t.Helper()
	r, e := Unbind(c, names)
	expectCon(t, fmt.Sprint(c, names), r, e, wantUnbind(c, names))
}

func TestBind(t *testing.T) {
	one := arrow(star(), star())
	c := app(app(con("B.0", one), con("A.1", star())), lam(app(con("A.1", one), app(v(0), v(1)))))
	r, e := Bind(c, []string{"A.1", "C.0", "B.0"})
	expectCon(t, "in order, of any kinds", r, e, app(app(v(0), v(2)), lam(app(v(3), app(v(0), v(4))))))
	r, e = Bind(c, []string{"B.0", "A.1"})
	expectCon(t, "the other way round", r, e, app(app(v(1), v(0)), lam(app(v(1), app(v(0), v(3))))))
	r, e = Bind(c, []string{"B.0"})
	expectCon(t, "one of them", r, e, app(app(v(0), con("A.1", star())), lam(app(con("A.1", one), app(v(0), v(2))))))
	r, e = Bind(c, nil)
	expectCon(t, "none", r, e, c)
	l := []api.Const{{Name: "A.1"}, {Name: "C.0"}, {Name: "B.0", Kind: one}}
	r, e = Unbind(app(app(v(0), v(2)), lam(app(v(3), app(v(0), app(v(4), v(2)))))), l)
	expectCon(t, "back", r, e, app(app(con("B.0", one), con("A.1", star())), lam(app(con("A.1", star()), app(v(0), app(v(1), con("C.0", star())))))))
	r, e = Unbind(c, nil)
	expectCon(t, "none back", r, e, c)
}

func TestBindAndUnbindOfAny(t *testing.T) {
	r := rand.New(rand.NewSource(53))
	all := []string{"A.0", "A.1", "A.10", "A.2", "B.0", "Zz_9.7", "B.1", "C.3"}
	for _, c := range slices.Concat(smallCons(4), randomCons(54, 2000)) {
		names := slices.Clone(all)
		r.Shuffle(len(names), func(i, j int) { names[i], names[j] = names[j], names[i] })
		names = names[:r.Intn(len(names)+1)]
		expectBind(t, c, names)
		expectUnbind(t, c, withKinds(names))
	}
}

func TestBindAtTheLimits(t *testing.T) {
	n := api.MaxNodes
	many := manyNames(api.MaxList + 1)
	for i, c := range []struct {
		c     api.Con
		names []string
		want  api.Errno
	}{
		{v(n), nil, api.OK}, {v(n - 1), many[:1], api.OK}, {v(n), many[:1], api.ErrBig}, {lam(app(v(0), v(n))), many[:1], api.ErrBig}, {v(n - 1000), many[:1000], api.OK}, {v(n - 999), many[:1000], api.ErrBig}, {lams(399, v(n-1)), many[:1], api.OK}, {lams(399, v(n)), many[:1], api.ErrBig},
		{lams(399, v(398)), many[:1000], api.OK}, {lams(399, con("A.0", star())), many[:1000], api.OK}, {balanced(n, con("A.999", star())), many[:1000], api.OK}, {lam(meta(n)), many[:1000], api.OK},
	} {
		if e := expectBind(t, c.c, c.names); e != c.want {
			t.Error(i, e)
		}
		expectUnbind(t, c.c, withKinds(c.names))
	}
	r, e := Bind(lams(399, con("A.0", star())), many[:1000])
	expectCon(t, "the greatest index", r, e, lams(399, v(399+999)))
	r, e = Bind(num(), many)
	expectNone(t, "too many", r, e, api.ErrFull)
	r, e = Unbind(num(), withKinds(many))
	expectNone(t, "too many", r, e, api.ErrFull)
	r, e = Unbind(v(999), withKinds(many[:1000]))
	expectCon(t, "the first of many", r, e, con("A.0", star()))
	r, e = Unbind(v(1000), withKinds(many[:1000]))
	expectCon(t, "no more", r, e, v(0))
}

// The first error is returned.
func TestBindRefuses(t *testing.T) {
	many := manyNames(api.MaxList + 1)
	many[5] = many[6]
	for i, c := range []struct {
		c     api.Con
		names []string
		want  api.Errno
	}{
		{num(), []string{"A.0", "A.0"}, api.ErrTwice}, {num(), []string{"A.0", "B.0", "A.0"}, api.ErrTwice}, {num(), []string{"A.0", "A"}, api.ErrArg}, {num(), []string{""}, api.ErrArg}, {num(), []string{"A.0", "A.0", "A.00"}, api.ErrArg},
		{num(), many, api.ErrFull}, {num(), many[:1000], api.ErrTwice}, {num(), append(slices.Clone(many), "a.0"), api.ErrArg}, {v(api.MaxNodes), many, api.ErrFull}, {v(api.MaxNodes), []string{"A.0", "A.0"}, api.ErrTwice},
		{api.Con{}, many, api.ErrArg}, {v(-1), []string{"A.0", "A.0"}, api.ErrArg}, {num(), make([]string, 1<<20), api.ErrArg}, {num(), slices.Repeat([]string{"A.0"}, 1<<20), api.ErrFull},
	} {
		r, e := Bind(c.c, c.names)
		expectNone(t, i, r, e, c.want)
		if c.want != api.OK {
			r, e = Unbind(c.c, withKinds(c.names))
			expectNone(t, i, r, e, c.want)
		}
	}
	for _, s := range texts() {
		r, e := Bind(num(), []string{"B.9", s})
		u, f := Unbind(num(), []api.Const{{Name: "B.9"}, {Name: s}})
		if wantConstName(s) {
			expectCon(t, s, r, e, num())
			expectCon(t, s, u, f, num())
		} else {
			expectNone(t, s, r, e, api.ErrArg)
			expectNone(t, s, u, f, api.ErrArg)
		}
	}
	for i, k := range kinds() {
		r, e := Unbind(v(0), []api.Const{{Name: "A.0", Kind: k}})
		u, f := Unbind(v(0), []api.Const{{Name: "A.0"}, {Name: "A.0", Kind: k}})
		if wantKind(k) {
			expectCon(t, i, r, e, con("A.0", k))
			expectNone(t, i, u, f, api.ErrTwice)
		} else {
			expectNone(t, i, r, e, api.ErrArg)
			expectNone(t, i, u, f, api.ErrArg)
		}
	}
	for i, c := range invalid() {
		r, e := Bind(c, []string{"A.0"})
		expectNone(t, i, r, e, api.ErrArg)
		r, e = Unbind(c, []api.Const{{Name: "A.0"}})
		expectNone(t, i, r, e, api.ErrArg)
	}
}
