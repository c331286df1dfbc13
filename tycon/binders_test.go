package tycon

import (
	"fmt"
	"math"
	"slices"
	"testing"

	"pilaster/api"
)

// P9.2

func TestFree(t *testing.T) {
	for i, c := range []struct {
		c    api.Con
		want []int
	}{
		{v(0), []int{0}}, {v(7), []int{7}}, {num(), nil}, {meta(3), nil}, {lam(v(0)), nil}, {lam(v(1)), []int{0}}, {lam(app(v(0), v(1))), []int{0}}, {app(v(5), app(v(2), v(5))), []int{2, 5}}, {app(lam(v(3)), v(2)), []int{2}},
		{binder(api.CAll, star(), v(1)), []int{0}}, {binder(api.CSome, star(), v(1)), []int{0}}, {binder(api.CMu, star(), v(1)), []int{0}}, {binder(api.CAll, star(), v(0)), nil}, {binder(api.CSome, star(), v(0)), nil}, {binder(api.CMu, star(), v(0)), nil},
		{lams(399, v(api.MaxNodes)), []int{api.MaxNodes - 399}}, {lams(399, v(398)), nil}, {pair(api.CArrow, v(1), lam(pair(api.CArrow, v(1), lam(v(5))))), []int{0, 1, 3}}, {Unit(), nil}, {Bool(), nil}, {app(v(10), v(9)), []int{9, 10}},
		{fields(api.CRecord, "a b c", v(api.MaxNodes), v(0), lam(v(0))), []int{0, api.MaxNodes}}, {lam(meta(5)), nil}, {con("A.1", star()), nil},
	} {
		if l, e := Free(c.c); e != api.OK || !slices.Equal(l, c.want) {
			t.Error(i, l, e)
		}
	}
}

func TestFreeOfAny(t *testing.T) {
	for _, c := range append(smallCons(4), randomCons(21, 3000)...) {
		if l, e := Free(c); e != api.OK || !slices.Equal(l, wantFree(c)) {
			t.Fatal(c, l, e)
		}
	}
	for i, c := range invalid() {
		if l, e := Free(c); e != api.ErrArg || len(l) > 0 {
			t.Error(i, l, e)
		}
	}
}

// P9.3

// wantShiftError says whether a shift of a well-formed constructor is refused.
func wantShiftError(c api.Con, by, from int) api.Errno {
	if from < 0 || by < -20000 || by > 20000 {
		return api.ErrRange
	}
	for _, i := range wantFree(c) {
		if by < 0 && from <= i && (from > math.MaxInt+by || i <= from-by-1) {
			return api.ErrRange
		}
	}
	if !wantValid(wantShift(c, by, from)) {
		return api.ErrBig
	}
	return api.OK
}

func expectShift(t *testing.T, c api.Con, by, from int) api.Errno {
	t.Helper()
	want := wantShiftError(c, by, from)
	r, e := Shift(c, by, from)
	if want != api.OK {
		expectNone(t, fmt.Sprint(c, by, from), r, e, want)
	} else {
		expectCon(t, fmt.Sprint(c, by, from), r, e, wantShift(c, by, from))
	}
	return want
}

func TestShift(t *testing.T) {
	c := lam(app(v(0), v(1)))
	r, e := Shift(c, 2, 0)
	expectCon(t, "the example", r, e, lam(app(v(0), v(3))))
	c = app(v(2), lam(app(app(v(0), v(1)), binder(api.CMu, star(), app(app(v(1), v(2)), app(v(4), v(9)))))))
	r, e = Shift(c, 5, 0)
	expectCon(t, "all", r, e, app(v(7), lam(app(app(v(0), v(6)), binder(api.CMu, star(), app(app(v(1), v(7)), app(v(9), v(14))))))))
	r, e = Shift(c, 5, 2)
	expectCon(t, "from 2 on", r, e, app(v(7), lam(app(app(v(0), v(1)), binder(api.CMu, star(), app(app(v(1), v(2)), app(v(9), v(14))))))))
	r, e = Shift(c, -2, 3)
	expectCon(t, "back", r, e, app(v(2), lam(app(app(v(0), v(1)), binder(api.CMu, star(), app(app(v(1), v(2)), app(v(4), v(7))))))))
	r, e = Shift(c, -4, 3)
	expectCon(t, "as far back as possible", r, e, app(v(2), lam(app(app(v(0), v(1)), binder(api.CMu, star(), app(app(v(1), v(2)), app(v(4), v(5))))))))
	r, e = Shift(c, -5, 3)
	expectNone(t, "too far back", r, e, api.ErrRange)
}

func TestShiftOfAny(t *testing.T) {
	seen := map[api.Errno]int{}
	for _, c := range append(smallCons(3), randomCons(31, 150)...) {
		for by := -4; by <= 4; by++ {
			for from := -1; from <= 5; from++ {
				seen[expectShift(t, c, by, from)]++
			}
		}
		for _, by := range []int{-api.MaxNodes, -api.MaxNodes - 1, api.MaxNodes - 3, api.MaxNodes - 2, api.MaxNodes - 1, api.MaxNodes, api.MaxNodes + 1, math.MaxInt, math.MinInt} {
			for _, from := range []int{-1, 0, 1, 2, 3, api.MaxNodes, api.MaxNodes + 1, 2 * api.MaxNodes, math.MaxInt, math.MinInt} {
				seen[expectShift(t, c, by, from)]++
			}
		}
	}
	if seen[api.OK] < 1000 || seen[api.ErrRange] < 1000 || seen[api.ErrBig] < 100 {
		t.Error(seen)
	}
}

func TestShiftAtTheLimits(t *testing.T) {
	n := api.MaxNodes
	for _, c := range []struct {
		c        api.Con
		by, from int
		want     api.Errno
	}{
		{v(0), n, 0, api.OK}, {v(1), n, 0, api.ErrBig}, {v(1), n, 1, api.ErrBig}, {v(1), n, 2, api.OK}, {v(1), n - 1, 0, api.OK}, {lam(v(1)), n - 1, 0, api.OK}, {lam(v(1)), n, 0, api.ErrBig}, {lam(v(0)), n, 0, api.OK},
		{lams(399, v(399)), n - 399, 0, api.OK}, {lams(399, v(399)), n - 398, 0, api.ErrBig}, {v(n), -n, 0, api.OK}, {v(n), -n, 1, api.ErrRange}, {v(n), -n + 1, 1, api.OK}, {v(n), 0, 0, api.OK}, {v(n), 1, n, api.ErrBig}, {v(n), 1, n + 1, api.OK},
		{v(n), -1, n, api.ErrRange}, {v(n), -1, n + 1, api.OK}, {v(n), -1, n - 1, api.OK}, {lams(399, v(n)), -n + 399, 0, api.OK}, {lams(399, v(n)), -n + 398, 0, api.ErrRange}, {lams(399, v(n)), -n + 400, 1, api.OK}, {lams(399, v(n)), -n + 399, 1, api.ErrRange}, {lams(399, v(n)), -n, 0, api.ErrRange},
		{num(), -n, 0, api.OK}, {num(), -n - 1, 0, api.ErrRange}, {num(), n + 1, 0, api.ErrRange}, {num(), n, math.MaxInt, api.OK}, {num(), -n, math.MaxInt, api.OK}, {v(n), -n, math.MaxInt, api.OK}, {v(0), 0, -1, api.ErrRange}, {v(0), math.MinInt, 0, api.ErrRange}, {v(0), math.MinInt, math.MaxInt, api.ErrRange}, {v(0), math.MaxInt, 0, api.ErrRange},
		{app(v(0), v(n)), 1, 0, api.ErrBig}, {app(v(n), v(0)), -1, 0, api.ErrRange}, {balanced(n, v(0)), n, 0, api.OK}, {balanced(n, v(0)), -1, 0, api.ErrRange}, {meta(n), n, 0, api.OK}, {balanced(n, v(1)), n, 0, api.ErrBig},
	} {
		if got := expectShift(t, c.c, c.by, c.from); got != c.want {
			t.Fatal(Size(c.c), c.by, c.from, got, c.want)
		}
	}
	for i, c := range invalid() {
		for _, by := range []int{0, 1, -1, n + 1} {
			for _, from := range []int{0, -1} {
				r, e := Shift(c, by, from)
				expectNone(t, i, r, e, api.ErrArg)
			}
		}
	}
}

// P9.4

func expectSubst(t *testing.T, c api.Con, l []api.Con) api.Errno {
	t.Helper()
	r, e := Subst(c, l)
	want := wantSubst(c, l)
	if !wantValid(want) {
		expectNone(t, "too big", r, e, api.ErrBig)
		return api.ErrBig
	}
	expectCon(t, fmt.Sprint(c, l), r, e, want)
	return api.OK
}

func TestSubst(t *testing.T) {
	c := lam(app(v(0), v(1)))
	r, e := Subst(c, []api.Con{num()})
	expectCon(t, "the example", r, e, lam(app(v(0), num())))
	r, e = Subst(c, nil)
	expectCon(t, "no elements", r, e, c)
	c = app(v(0), lam(app(v(1), lam(app(app(v(2), v(3)), app(v(4), v(0)))))))
	a, b := lam(app(v(0), v(1))), app(v(0), v(1))
	r, e = Subst(c, []api.Con{a, b})
	expectCon(t, "shifted under binders", r, e, app(a, lam(app(lam(app(v(0), v(2))), lam(app(app(lam(app(v(0), v(3))), app(v(2), v(3))), app(v(2), v(0))))))))
	r, e = Subst(con("A.0", star()), []api.Con{v(3)})
	expectCon(t, "a constant", r, e, con("A.0", star()))
	r, e = Subst(app(meta(0), v(5)), []api.Con{num(), num(), num()})
	expectCon(t, "an unknown type", r, e, app(meta(0), v(2)))
}

func TestSubstOfAny(t *testing.T) {
	small := smallCons(2)
	for _, c := range smallCons(3) {
		for _, a := range small {
			for _, b := range small {
				expectSubst(t, c, []api.Con{a, b})
			}
			expectSubst(t, c, []api.Con{a})
		}
	}
	l := randomCons(41, 600)
	for i, c := range l {
		for n := range 6 {
			at := i * 7 % (len(l) - n)
			expectSubst(t, c, l[at:at+n])
		}
	}
}

func TestSubstAtTheLimits(t *testing.T) {
	n := api.MaxNodes
	deep := lams(200, v(200))
	for i, c := range []struct {
		c    api.Con
		l    []api.Con
		want api.Errno
	}{
		// As many nodes as possible, and one more.
		{balanced(199, v(0)), []api.Con{balanced(199, num())}, api.OK},
		{app(v(0), v(0)), []api.Con{balanced(9999, num())}, api.OK}, {lam(app(v(0), v(1))), []api.Con{balanced(n-3, num())}, api.OK}, {lam(app(v(0), v(1))), []api.Con{balanced(n-2, num())}, api.ErrBig},
		{app(num(), app(v(0), v(0))), []api.Con{balanced(9998, num())}, api.OK}, {app(num(), app(v(0), v(0))), []api.Con{balanced(9999, num())}, api.ErrBig}, {app(v(0), v(0)), []api.Con{balanced(10000, num())}, api.ErrBig},
		{lam(app(v(1), v(2))), []api.Con{balanced(9998, v(0)), balanced(10000, v(0))}, api.OK}, {lam(app(v(1), v(2))), []api.Con{balanced(9999, v(0)), balanced(10000, v(0))}, api.ErrBig},
		{lam(app(v(2), v(1))), []api.Con{balanced(9999, v(0)), balanced(10000, v(0))}, api.ErrBig}, {balanced(n, v(0)), []api.Con{num()}, api.OK}, {balanced(n-1, v(0)), []api.Con{lam(num())}, api.ErrBig}, {balanced(n, v(1)), []api.Con{num()}, api.OK},
		// As deep as possible, and one more.
		{deep, []api.Con{lams(199, num())}, api.OK}, {deep, []api.Con{lams(200, num())}, api.ErrBig}, {deep, []api.Con{lams(199, v(199))}, api.OK}, {deep, []api.Con{app(num(), lams(198, num()))}, api.OK}, {deep, []api.Con{app(num(), lams(199, num()))}, api.ErrBig},
		{lams(399, v(399)), []api.Con{num()}, api.OK}, {lams(399, v(399)), []api.Con{app(num(), num())}, api.ErrBig}, {v(0), []api.Con{lams(399, num())}, api.OK},
		// Indices as great as possible, and one more.
		{v(0), []api.Con{v(n)}, api.OK}, {lam(v(1)), []api.Con{v(n - 1)}, api.OK}, {lam(v(1)), []api.Con{v(n)}, api.ErrBig}, {lam(v(1)), []api.Con{lam(v(n))}, api.ErrBig}, {deep, []api.Con{v(n - 200)}, api.OK}, {deep, []api.Con{v(n - 199)}, api.ErrBig},
		{lam(v(1)), []api.Con{lams(10, v(9))}, api.OK}, {lam(v(n)), []api.Con{num()}, api.OK}, {v(n), nil, api.OK}, {lam(num()), []api.Con{v(n)}, api.OK}, {app(v(n), v(n)), []api.Con{v(n)}, api.OK}, {lam(meta(n)), []api.Con{v(n)}, api.OK},
	} {
		if got := expectSubst(t, c.c, c.l); got != c.want {
			t.Error(i, got)
		}
	}
}

func TestSubstOfLongLists(t *testing.T) {
	var l []api.Con
	for i := range api.MaxList + 1 {
		l = append(l, lam(v(i)))
	}
	c := app(lam(v(api.MaxList)), app(v(0), v(api.MaxList)))
	r, e := Subst(c, l[:api.MaxList])
	expectCon(t, "as many as possible", r, e, app(lam(lam(v(api.MaxList-1+1))), app(lam(v(0)), v(0))))
	r, e = Subst(c, l)
	expectNone(t, "one more", r, e, api.ErrFull)
	r, e = Subst(api.Con{}, l)
	expectNone(t, "malformed, and too many", r, e, api.ErrArg)
	r, e = Subst(num(), append(l, api.Con{}))
	expectNone(t, "too many, and one of them malformed", r, e, api.ErrArg)
	// What is too big is less important than too many.
	r, e = Subst(lam(v(1)), append([]api.Con{v(api.MaxNodes)}, l...))
	expectNone(t, "too many, and too big", r, e, api.ErrFull)
	r, e = Subst(num(), make([]api.Con, 1<<18))
	expectNone(t, "very many", r, e, api.ErrArg)
	r, e = Subst(num(), slices.Repeat([]api.Con{num()}, 1<<18))
	expectNone(t, "very many", r, e, api.ErrFull)
}

// Nothing huge is made before it is refused.
func TestSubstOfHugeResults(t *testing.T) {
	big := balanced(api.MaxNodes, v(0))
	for _, c := range []api.Con{big, lams(300, balanced(10000, v(300))), wide(api.MaxList, balanced(11, lam(v(1))))} {
		for range 20 {
			r, e := Subst(c, []api.Con{big})
			expectNone(t, Size(c), r, e, api.ErrBig)
		}
	}
}

func TestSubstRefuses(t *testing.T) {
	for i, c := range invalid() {
		for _, l := range [][]api.Con{nil, {num()}, {c}} {
			r, e := Subst(c, l)
			expectNone(t, i, r, e, api.ErrArg)
		}
		// Elements that are not used have to be well-formed, too.
		for _, l := range [][]api.Con{{c}, {num(), c}, {c, num()}} {
			r, e := Subst(num(), l)
			expectNone(t, i, r, e, api.ErrArg)
		}
	}
}
