package term

import (
	"slices"
	"testing"

	"pilaster/api"
)

// P12.5

func expectLams(t *testing.T, l []api.Con, x api.Term) api.Errno {
	t.Helper()
	r, e := Lams(l, x)
	want := wantLams(l, x)
	if !wantValid(want) {
		expectNone(t, len(l), r, e, api.ErrBig)
	} else {
		expectTerm(t, len(l), r, e, want)
	}
	return e
}

func TestLams(t *testing.T) {
	r, e := Lams([]api.Con{cint(), cvar(0)}, app(v(0), v(2)))
	expectTerm(t, "two", r, e, lam(cint(), lam(cvar(0), app(v(0), v(2)))))
	r, e = Lams(nil, tapp(v(0), cvar(1)))
	expectTerm(t, "none", r, e, tapp(v(0), cvar(1)))
	r, e = Lams([]api.Con{call(cvar(1))}, v(0))
	expectTerm(t, "one", r, e, lam(call(cvar(1)), v(0)))
	cons := randomCons(141, 300)
	for i, x := range randomTerms(142, 1000) {
		for n := range 4 {
			at := i * 3 % (len(cons) - n)
			expectLams(t, cons[at:at+n], x)
		}
	}
}

func TestLamsAtTheLimits(t *testing.T) {
	n := api.MaxNodes
	ints := slices.Repeat([]api.Con{cint()}, api.MaxList+1)
	for i, c := range []struct {
		l    []api.Con
		x    api.Term
		want api.Errno
	}{
		{ints[:399], num(0), api.OK}, {ints[:400], num(0), api.ErrBig}, {ints[:1000], num(0), api.ErrBig}, {ints[:200], unrolls(199, num(0)), api.OK}, {ints[:201], unrolls(199, num(0)), api.ErrBig}, {ints[:1], unrolls(398, num(0)), api.OK}, {ints[:1], unrolls(399, num(0)), api.ErrBig}, {nil, unrolls(399, num(0)), api.OK},
		{ints[:1], balanced(n-2, v(n)), api.OK}, {ints[:1], balanced(n-1, v(n)), api.ErrBig}, {[]api.Con{conOf(n-2, cint())}, num(0), api.OK}, {[]api.Con{conOf(n-1, cint())}, num(0), api.ErrBig}, {[]api.Con{conOf(n, cint())}, num(0), api.ErrBig}, {[]api.Con{conOf(9000, cint()), conOf(10000, cint())}, balanced(998, num(0)), api.OK}, {[]api.Con{conOf(9000, cint()), conOf(10000, cint())}, balanced(999, num(0)), api.ErrBig},
		{slices.Repeat([]api.Con{calls(10, cvar(n))}, 399), v(0), api.OK}, {slices.Repeat([]api.Con{calls(399, cvar(n))}, 40), v(0), api.OK},
	} {
		if got := expectLams(t, c.l, c.x); got != c.want {
			t.Fatal(i, got, c.want)
		}
	}
	r, e := Lams(ints, num(0))
	expectNone(t, "too many", r, e, api.ErrFull)
	r, e = Lams(ints, api.Term{})
	expectNone(t, "too many around a malformed one", r, e, api.ErrArg)
	r, e = Lams(append(slices.Clone(ints), cvar(-1)), num(0))
	expectNone(t, "too many, and one malformed", r, e, api.ErrArg)
	r, e = Lams(append(slices.Clone(ints[:500]), cvar(-1)), num(0))
	expectNone(t, "too big, and one malformed", r, e, api.ErrArg)
	for i, c := range malformedCons() {
		for _, l := range [][]api.Con{{c}, {cint(), c}, {c, cint()}} {
			r, e = Lams(l, num(0))
			expectNone(t, i, r, e, api.ErrArg)
		}
	}
	for i, x := range invalid() {
		for _, l := range [][]api.Con{nil, {cint()}, {{}}} {
			r, e = Lams(l, x)
			expectNone(t, i, r, e, api.ErrArg)
		}
	}
}

func expectApps(t *testing.T, f api.Term, l []api.Term) api.Errno {
	t.Helper()
	r, e := Apps(f, l)
	want := wantApps(f, l)
	if !wantValid(want) {
		expectNone(t, len(l), r, e, api.ErrBig)
	} else {
		expectTerm(t, len(l), r, e, want)
	}
	return e
}

func TestApps(t *testing.T) {
	r, e := Apps(v(0), []api.Term{num(1), v(2)})
	expectTerm(t, "two", r, e, app(app(v(0), num(1)), v(2)))
	r, e = Apps(app(v(0), v(1)), nil)
	expectTerm(t, "none", r, e, app(v(0), v(1)))
	r, e = Apps(lam(cint(), v(0)), []api.Term{app(v(1), tapp(v(2), cvar(3)))})
	expectTerm(t, "one", r, e, app(lam(cint(), v(0)), app(v(1), tapp(v(2), cvar(3)))))
	l := randomTerms(143, 600)
	for i, f := range l {
		for n := range 5 {
			expectApps(t, f, l[i/2:i/2+n])
		}
	}
}

func TestAppsAtTheLimits(t *testing.T) {
	n := api.MaxNodes
	nums := slices.Repeat([]api.Term{num(5)}, api.MaxList+1)
	for i, c := range []struct {
		f    api.Term
		l    []api.Term
		want api.Errno
	}{
		{num(0), nums[:399], api.OK}, {num(0), nums[:400], api.ErrBig}, {num(0), nums[:1000], api.ErrBig}, {unrolls(199, num(0)), nums[:200], api.OK}, {unrolls(199, num(0)), nums[:201], api.ErrBig}, {unrolls(399, num(0)), nil, api.OK}, {unrolls(399, num(0)), nums[:1], api.ErrBig},
		{v(0), []api.Term{unrolls(398, num(0))}, api.OK}, {v(0), []api.Term{unrolls(399, num(0))}, api.ErrBig}, {v(0), []api.Term{unrolls(397, num(0)), num(0)}, api.OK}, {v(0), []api.Term{unrolls(398, num(0)), num(0)}, api.ErrBig}, {v(0), []api.Term{num(0), unrolls(398, num(0))}, api.OK},
		{num(0), []api.Term{balanced(9998, num(0)), balanced(9999, num(0))}, api.OK}, {num(0), []api.Term{balanced(9999, num(0)), balanced(9999, num(0))}, api.ErrBig}, {fail(1, conOf(9998, cint())), []api.Term{balanced(10000, num(0))}, api.OK}, {fail(1, conOf(9999, cint())), []api.Term{balanced(10000, num(0))}, api.ErrBig}, {num(0), []api.Term{fail(1, conOf(n-3, cint()))}, api.OK}, {num(0), []api.Term{fail(1, conOf(n-2, cint()))}, api.ErrBig},
		{balanced(n, num(0)), nums[:1], api.ErrBig}, {balanced(n, num(0)), nil, api.OK},
	} {
		if got := expectApps(t, c.f, c.l); got != c.want {
			t.Fatal(i, got, c.want)
		}
	}
	r, e := Apps(num(0), nums)
	expectNone(t, "too many", r, e, api.ErrFull)
	r, e = Apps(num(0), append(slices.Repeat([]api.Term{balanced(n, num(0))}, 30), nums...))
	expectNone(t, "too many, and too big", r, e, api.ErrFull)
	r, e = Apps(api.Term{}, nums)
	expectNone(t, "malformed, and too many", r, e, api.ErrArg)
	r, e = Apps(num(0), append(slices.Clone(nums), v(-1)))
	expectNone(t, "too many, and one malformed", r, e, api.ErrArg)
	for i, x := range invalid() {
		for _, f := range []api.Term{x, num(0)} {
			for _, l := range [][]api.Term{{x}, {num(0), x}, {x, num(0)}} {
				r, e = Apps(f, l)
				expectNone(t, i, r, e, api.ErrArg)
			}
		}
		r, e = Apps(x, nil)
		expectNone(t, i, r, e, api.ErrArg)
	}
}
