package term

import (
	"fmt"
	"math"
	"slices"
	"testing"

	"pilaster/api"
)

// inner returns a term with all binders around a node with a constructor: 3 of constructors and 4 of terms, if those of the constructor itself are not counted.
func inner(c api.Con, x api.Term) api.Term {
	x = app(roll(call(c), x), num(0))
	x = cases("A B", num(0), num(0), unpack(num(0), x))
	return lam(cint(), tlam(star(), let(num(0), tlam(star(), x))))
}

// P12.2

func TestFree(t *testing.T) {
	n := api.MaxNodes
	for i, c := range []struct {
		x           api.Term
		cons, terms []int
	}{
		{v(0), nil, []int{0}}, {v(n), nil, []int{n}}, {num(0), nil, nil}, {lam(cvar(0), v(0)), []int{0}, nil}, {lam(cvar(2), v(3)), []int{2}, []int{2}}, {fix(cvar(0), v(1)), []int{0}, []int{0}}, {lam(cint(), app(v(0), v(1))), nil, []int{0}},
		{tlam(star(), fail(1, cvar(0))), nil, nil}, {tlam(star(), fail(1, cvar(1))), []int{0}, nil}, {tlam(star(), v(0)), nil, []int{0}}, {let(v(0), v(0)), nil, []int{0}}, {let(v(5), v(3)), nil, []int{2, 5}}, {let(tapp(v(5), cvar(0)), tapp(v(0), cvar(0))), []int{0}, []int{5}},
		{unpack(tapp(v(0), cvar(0)), tapp(v(0), cvar(0))), []int{0}, []int{0}}, {unpack(num(0), tapp(v(2), cvar(3))), []int{2}, []int{1}}, {cases("A B", v(0), v(0), v(3)), nil, []int{0, 2}}, {cases("A", tapp(num(0), cvar(1)), tapp(v(0), cvar(1))), []int{1}, nil},
		{pack(cvar(3), cvar(1), v(2)), []int{1, 3}, []int{2}}, {inject("A", cvar(4), v(0)), []int{4}, []int{0}}, {roll(cvar(4), num(0)), []int{4}, nil}, {fail(1, call(carrow(cvar(0), cvar(1)))), []int{0}, nil}, {record("a b c", v(9), v(10), v(9)), nil, []int{9, 10}}, {prim(api.PAdd, v(3), v(1)), nil, []int{1, 3}},
		{proj("a", v(1)), nil, []int{1}}, {node(api.EUnroll, v(1)), nil, []int{1}}, {inner(cvar(3), v(3)), nil, nil}, {inner(cvar(4), v(4)), []int{0}, []int{0}}, {inner(carrow(cvar(7), cvar(5)), app(v(9), v(5))), []int{1, 3}, []int{1, 5}},
		{lams(399, v(n)), nil, []int{n - 399}}, {lams(399, v(399)), nil, []int{0}}, {lams(399, v(398)), nil, nil}, {tlams(399, fail(1, cvar(n))), []int{n - 399}, nil}, {tlams(399, fail(1, cvar(399))), []int{0}, nil}, {tlams(399, fail(1, cvar(398))), nil, nil}, {fail(1, api.Con{Op: api.CMeta, N: 4}), nil, nil},
	} {
		if cons, terms, e := Free(c.x); e != api.OK || !slices.Equal(cons, c.cons) || !slices.Equal(terms, c.terms) {
			t.Error(i, cons, terms, e)
		}
	}
}

func TestFreeOfAny(t *testing.T) {
	for _, x := range append(smallTerms(4), randomTerms(131, 4000)...) {
		wantCons, wantTerms := wantFree(x)
		if cons, terms, e := Free(x); e != api.OK || !slices.Equal(cons, wantCons) || !slices.Equal(terms, wantTerms) {
			t.Fatal(x, cons, terms, e)
		}
	}
	for i, x := range invalid() {
		if cons, terms, e := Free(x); e != api.ErrArg || len(cons) > 0 || len(terms) > 0 {
			t.Error(i, cons, terms, e)
		}
	}
}

// P12.3

// wantShiftError says whether a shift of a well-formed term is refused.
func wantShiftError(x api.Term, cons, terms int) api.Errno {
	freeCons, freeTerms := wantFree(x)
	for i, by := range []int{cons, terms} {
		if by < -20000 || by > 20000 {
			return api.ErrRange
		}
		for _, free := range [][]int{freeCons, freeTerms}[i] {
			if free+by < 0 {
				return api.ErrRange
			}
		}
	}
	if !wantValid(wantShift(x, cons, terms)) {
		return api.ErrBig
	}
	return api.OK
}

func expectShift(t *testing.T, x api.Term, cons, terms int) api.Errno {
	t.Helper()
	want := wantShiftError(x, cons, terms)
	r, e := Shift(x, cons, terms)
	if want != api.OK {
		expectNone(t, fmt.Sprint(x, cons, terms), r, e, want)
	} else {
		expectTerm(t, fmt.Sprint(x, cons, terms), r, e, wantShift(x, cons, terms))
	}
	return want
}

func TestShift(t *testing.T) {
	x := lam(cint(), app(v(0), v(1)))
	r, e := Shift(x, 0, 2)
	expectTerm(t, "the example", r, e, lam(cint(), app(v(0), v(3))))
	r, e = Shift(inner(carrow(cvar(7), cvar(3)), app(v(9), v(3))), 10, 100)
	expectTerm(t, "all binders", r, e, inner(carrow(cvar(17), cvar(3)), app(v(109), v(3))))
	r, e = Shift(inner(carrow(cvar(7), cvar(3)), app(v(9), v(3))), -3, -5)
	expectTerm(t, "back", r, e, inner(carrow(cvar(4), cvar(3)), app(v(4), v(3))))
	r, e = Shift(inner(carrow(cvar(7), cvar(3)), app(v(9), v(3))), -3, -6)
	expectNone(t, "too far back", r, e, api.ErrRange)
	r, e = Shift(inner(carrow(cvar(7), cvar(3)), app(v(9), v(3))), -4, 0)
	expectNone(t, "too far back", r, e, api.ErrRange)
	r, e = Shift(pack(cvar(0), cvar(1), unpack(tapp(v(0), cvar(2)), tapp(v(1), cvar(3)))), 1, 2)
	expectTerm(t, "before and after", r, e, pack(cvar(1), cvar(2), unpack(tapp(v(2), cvar(3)), tapp(v(3), cvar(4)))))
	r, e = Shift(cases("A B", v(0), v(0), v(1)), 0, 5)
	expectTerm(t, "cases", r, e, cases("A B", v(5), v(0), v(6)))
	r, e = Shift(api.Term{Op: api.EVar, Names: []string{}, L: []api.Term{}}, 7, 5)
	expectTerm(t, "empty lists", r, e, v(5))
}

func TestShiftOfAny(t *testing.T) {
	seen := map[api.Errno]int{}
	n := api.MaxNodes
	far := []int{-n - 1, -n, n - 5, n - 2, n - 1, n, n + 1, math.MaxInt, math.MinInt}
	for _, x := range append(smallTerms(3), randomTerms(132, 200)...) {
		for by := -3; by <= 3; by++ {
			for other := -3; other <= 3; other++ {
				seen[expectShift(t, x, by, other)]++
			}
			for _, other := range far {
				seen[expectShift(t, x, by, other)]++
				seen[expectShift(t, x, other, by)]++
			}
		}
	}
	if seen[api.OK] < 1000 || seen[api.ErrRange] < 1000 || seen[api.ErrBig] < 1000 {
		t.Error(seen)
	}
}

func TestShiftAtTheLimits(t *testing.T) {
	n := api.MaxNodes
	for i, c := range []struct {
		x           api.Term
		cons, terms int
		want        api.Errno
	}{
		{v(0), n, n, api.OK}, {v(0), -n, 0, api.OK}, {v(0), n + 1, 0, api.ErrRange}, {v(0), 0, n + 1, api.ErrRange}, {v(0), -n - 1, 0, api.ErrRange}, {v(0), math.MaxInt, 0, api.ErrRange}, {v(0), 0, math.MinInt, api.ErrRange}, {num(0), -n, -n, api.OK}, {num(0), -n, -n - 1, api.ErrRange}, {num(0), n, n + 1, api.ErrRange},
		{v(1), 0, n, api.ErrBig}, {v(1), n, n - 1, api.OK}, {v(n), 0, -n, api.OK}, {v(n), 0, 1, api.ErrBig}, {v(n - 1), 0, -n, api.ErrRange}, {lams(1, v(1)), 0, n - 1, api.OK}, {lams(1, v(1)), 0, n, api.ErrBig}, {lams(1, v(0)), 0, n, api.OK}, {lams(399, v(399)), 0, n - 399, api.OK}, {lams(399, v(399)), 0, n - 398, api.ErrBig}, {lams(399, v(n)), 0, 399 - n, api.OK}, {lams(399, v(n)), 0, 398 - n, api.ErrRange},
		{fail(1, cvar(0)), n, 0, api.OK}, {fail(1, cvar(1)), n, 0, api.ErrBig}, {fail(1, cvar(n)), -n, 0, api.OK}, {fail(1, cvar(n)), 1, 0, api.ErrBig}, {tlams(399, fail(1, cvar(399))), n - 399, 0, api.OK}, {tlams(399, fail(1, cvar(399))), n - 398, 0, api.ErrBig}, {tlams(399, fail(1, cvar(n))), 399 - n, 0, api.OK}, {tlams(399, fail(1, cvar(n))), 398 - n, 0, api.ErrRange},
		{fail(1, calls(399, cvar(399))), n - 399, 0, api.OK}, {fail(1, calls(399, cvar(399))), n - 398, 0, api.ErrBig}, {tlams(399, fail(1, calls(399, cvar(798)))), n - 798, 0, api.OK}, {tlams(399, fail(1, calls(399, cvar(798)))), n - 797, 0, api.ErrBig}, {tlams(399, fail(1, calls(399, cvar(n)))), 798 - n, 0, api.OK}, {tlams(399, fail(1, calls(399, cvar(n)))), 797 - n, 0, api.ErrRange},
		// A number that is too small comes before one that is too great.
		{app(v(n), v(0)), 0, -1, api.ErrRange}, {let(v(n), fail(1, cvar(0))), -1, 1, api.ErrRange}, {let(fail(1, cvar(n)), v(1)), 1, -1, api.ErrRange}, {let(fail(1, cvar(n)), v(1)), 1, -n, api.ErrRange}, {app(fail(1, cvar(n)), v(0)), 1, n + 1, api.ErrRange}, {app(fail(1, cvar(n)), v(n)), 0, 1, api.ErrBig},
		{balanced(n, v(0)), n, n, api.OK}, {balanced(n, v(1)), 0, n, api.ErrBig}, {balanced(n, v(0)), 0, -1, api.ErrRange}, {fail(1, conOf(n-1, cvar(5))), -5, 3, api.OK}, {fail(1, conOf(n-1, cvar(5))), -6, 0, api.ErrRange},
	} {
		if got := expectShift(t, c.x, c.cons, c.terms); got != c.want {
			t.Fatal(i, c.cons, c.terms, got, c.want)
		}
	}
	for i, x := range invalid() {
		for _, by := range []int{0, 1, -1, n + 1} {
			r, e := Shift(x, by, 0)
			expectNone(t, i, r, e, api.ErrArg)
			r, e = Shift(x, 0, by)
			expectNone(t, i, r, e, api.ErrArg)
		}
	}
}

// P12.4

func expectSubst(t *testing.T, x, by api.Term) api.Errno {
	t.Helper()
	r, e := Subst(x, by)
	want := wantSubst(x, by)
	if !wantValid(want) {
		expectNone(t, "too big", r, e, api.ErrBig)
		return api.ErrBig
	}
	expectTerm(t, "Subst", r, e, want)
	return api.OK
}

func TestSubst(t *testing.T) {
	x := lam(cint(), app(v(0), v(1)))
	r, e := Subst(x, num(7))
	expectTerm(t, "the example", r, e, lam(cint(), app(v(0), num(7))))
	by := tapp(app(v(0), v(3)), carrow(cvar(0), cvar(2)))
	r, e = Subst(inner(carrow(cvar(3), cvar(6)), record("a b c d", v(4), v(0), v(5), v(3))), by)
	expectTerm(t, "shifted under binders", r, e, inner(carrow(cvar(3), cvar(6)), record("a b c d", tapp(app(v(4), v(7)), carrow(cvar(3), cvar(5))), v(0), v(4), v(3))))
	r, e = Subst(app(v(0), let(v(0), app(v(0), v(1)))), by)
	expectTerm(t, "twice", r, e, app(by, let(by, app(v(0), tapp(app(v(1), v(4)), carrow(cvar(0), cvar(2)))))))
	r, e = Subst(unpack(v(0), tapp(v(1), cvar(1))), lam(cvar(0), v(1)))
	expectTerm(t, "opened", r, e, unpack(lam(cvar(0), v(1)), tapp(lam(cvar(1), v(2)), cvar(1))))
	r, e = Subst(app(v(1), fail(3, cvar(0))), v(5))
	expectTerm(t, "none", r, e, app(v(0), fail(3, cvar(0))))
	r, e = Subst(tlam(star(), v(0)), tlam(star(), tapp(v(0), carrow(cvar(0), cvar(1)))))
	expectTerm(t, "binders of both", r, e, tlam(star(), tlam(star(), tapp(v(0), carrow(cvar(0), cvar(2))))))
}

func TestSubstOfAny(t *testing.T) {
	small := smallTerms(2)
	for _, x := range smallTerms(3) {
		for _, by := range small {
			expectSubst(t, x, by)
		}
	}
	l := randomTerms(133, 3000)
	for i, x := range l {
		expectSubst(t, x, l[(i*7+1)%len(l)])
		expectSubst(t, x, small[i%len(small)])
	}
}

func TestSubstAtTheLimits(t *testing.T) {
	n := api.MaxNodes
	for i, c := range []struct {
		x, by api.Term
		want  api.Errno
	}{
		// As many nodes as possible, and one more.
		{v(0), balanced(n, v(3)), api.OK}, {v(1), balanced(n, v(3)), api.OK}, {app(v(0), num(0)), balanced(n-2, num(0)), api.OK}, {app(v(0), num(0)), balanced(n-1, num(0)), api.ErrBig}, {app(v(0), fail(1, conOf(n/2, cint()))), balanced(n/2-2, num(0)), api.OK}, {app(v(0), fail(1, conOf(n/2, cint()))), balanced(n/2-1, num(0)), api.ErrBig},
		{app(v(0), app(v(0), num(0))), fail(1, conOf(9997, cint())), api.OK}, {app(v(0), app(v(0), num(0))), fail(1, conOf(9998, cint())), api.ErrBig}, {app(v(0), pack(conOf(9000, cint()), conOf(9000, cint()), num(0))), balanced(1997, num(0)), api.OK}, {app(v(0), pack(conOf(9000, cint()), conOf(9000, cint()), num(0))), balanced(1998, num(0)), api.ErrBig}, {balanced(n, v(0)), v(0), api.OK}, {balanced(n, v(0)), unrolls(1, v(0)), api.ErrBig},
		// As many levels, and one more. Those of constructors do not count.
		{unrolls(200, v(0)), unrolls(199, v(0)), api.OK}, {unrolls(200, v(0)), unrolls(200, v(0)), api.ErrBig}, {lams(200, v(200)), lams(199, v(0)), api.OK}, {lams(200, v(200)), lams(200, v(0)), api.ErrBig}, {app(v(0), lams(398, v(0))), lams(398, v(0)), api.OK}, {app(v(0), lams(398, v(0))), lams(399, v(0)), api.ErrBig}, {unrolls(399, v(0)), fail(1, calls(399, cint())), api.OK}, {unrolls(399, v(0)), record("a", num(0)), api.ErrBig}, {unrolls(399, v(1)), record("a", num(0)), api.OK},
		// The greatest index, and one more.
		{lams(399, v(399)), v(n - 399), api.OK}, {lams(399, v(399)), v(n - 398), api.ErrBig}, {lams(200, v(200)), lams(199, v(n-200)), api.OK}, {lams(200, v(200)), lams(199, v(n-199)), api.ErrBig}, {tlams(399, v(0)), v(n), api.OK}, {lams(1, v(1)), fail(1, cvar(n)), api.OK}, {tlams(399, v(0)), fail(1, cvar(n-399)), api.OK}, {tlams(399, v(0)), fail(1, cvar(n-398)), api.ErrBig}, {tlams(1, v(0)), fail(1, calls(399, cvar(n-1))), api.OK}, {tlams(1, v(0)), fail(1, calls(399, cvar(n))), api.ErrBig}, {v(n), num(0), api.OK}, {lams(399, v(n)), num(0), api.OK},
	} {
		if got := expectSubst(t, c.x, c.by); got != c.want {
			t.Fatal(i, got, c.want)
		}
	}
	// What would be huge is not made.
	r, e := Subst(balanced(n, v(0)), balanced(n, v(0)))
	expectNone(t, "huge", r, e, api.ErrBig)
	r, e = Subst(balanced(n, v(0)), fail(1, conOf(n-1, cvar(0))))
	expectNone(t, "huge", r, e, api.ErrBig)
	for i, x := range invalid() {
		for _, c := range [][2]api.Term{{x, num(0)}, {num(0), x}, {v(0), x}, {x, x}} {
			r, e := Subst(c[0], c[1])
			expectNone(t, i, r, e, api.ErrArg)
		}
	}
}
