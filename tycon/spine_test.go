package tycon

import (
	"slices"
	"strconv"
	"testing"

	"pilaster/api"
)

// P9.6

// wantApps applies f without any limit.
func wantApps(f api.Con, l []api.Con) api.Con {
	for _, a := range l {
		f = app(f, a)
	}
	return f
}

func expectApps(t *testing.T, f api.Con, l []api.Con) api.Errno {
	t.Helper()
	r, e := Apps(f, l)
	want := wantApps(f, l)
	if !wantValid(want) {
		expectNone(t, len(l), r, e, api.ErrBig)
	} else {
		expectCon(t, len(l), r, e, want)
	}
	return e
}

func TestApps(t *testing.T) {
	r, e := Apps(v(0), []api.Con{num(), v(2)})
	expectCon(t, "two", r, e, app(app(v(0), num()), v(2)))
	r, e = Apps(app(v(0), v(1)), nil)
	expectCon(t, "none", r, e, app(v(0), v(1)))
	r, e = Apps(lam(v(0)), []api.Con{app(v(1), v(2))})
	expectCon(t, "one", r, e, app(lam(v(0)), app(v(1), v(2))))
	l := randomCons(61, 400)
	for i, f := range l {
		for n := range 5 {
			expectApps(t, f, l[i/2:i/2+n])
		}
	}
}

func TestAppsAtTheLimits(t *testing.T) {
	nums := slices.Repeat([]api.Con{num()}, api.MaxList+1)
	deep := lams(199, num())
	for i, c := range []struct {
		f    api.Con
		l    []api.Con
		want api.Errno
	}{
		{num(), nums[:399], api.OK}, {num(), nums[:400], api.ErrBig}, {num(), nums[:1000], api.ErrBig}, {num(), nums, api.ErrFull}, {deep, nums[:200], api.OK}, {deep, nums[:201], api.ErrBig},
		{v(0), []api.Con{lams(398, num())}, api.OK}, {v(0), []api.Con{lams(399, num())}, api.ErrBig}, {v(0), []api.Con{lams(397, num()), num()}, api.OK}, {v(0), []api.Con{lams(398, num()), num()}, api.ErrBig}, {lams(399, num()), nil, api.OK},
		{num(), []api.Con{balanced(9998, num()), balanced(9999, num())}, api.OK}, {num(), []api.Con{balanced(9999, num()), balanced(9999, num())}, api.ErrBig}, {balanced(9999, num()), []api.Con{balanced(10000, num())}, api.OK}, {balanced(10000, num()), []api.Con{balanced(10000, num())}, api.ErrBig},
		{balanced(api.MaxNodes, num()), nums[:1], api.ErrBig}, {balanced(api.MaxNodes, num()), nil, api.OK}, {num(), append(slices.Repeat([]api.Con{balanced(api.MaxNodes, num())}, 1000), num()), api.ErrFull},
	} {
		if c.want == api.ErrFull {
			r, e := Apps(c.f, c.l)
			expectNone(t, i, r, e, api.ErrFull)
		} else if e := expectApps(t, c.f, c.l); e != c.want {
			t.Error(i, e)
		}
	}
	r, e := Apps(api.Con{}, nums)
	expectNone(t, "malformed, and too many", r, e, api.ErrArg)
	r, e = Apps(num(), append(slices.Clone(nums), v(-1)))
	expectNone(t, "too many, and one of them malformed", r, e, api.ErrArg)
	for i, c := range invalid() {
		for _, f := range []api.Con{c, num()} {
			for _, l := range [][]api.Con{{c}, {num(), c}, {c, num()}} {
				r, e = Apps(f, l)
				expectNone(t, i, r, e, api.ErrArg)
			}
		}
		r, e = Apps(c, nil)
		expectNone(t, i, r, e, api.ErrArg)
	}
}

// wantSpine takes the last argument off first.
func wantSpine(c api.Con) (api.Con, []api.Con) {
	if c.Op != api.CApp {
		return c, nil
	}
	f, l := wantSpine(c.L[0])
	return f, append(l, c.L[1])
}

func TestSpine(t *testing.T) {
	f, l, e := Spine(app(app(v(0), app(v(1), v(2))), num()))
	if e != api.OK || !alike(f, v(0)) || !slices.EqualFunc(l, []api.Con{app(v(1), v(2)), num()}, alike) {
		t.Error(f, l, e)
	}
	deepest := wantApps(num(), slices.Repeat([]api.Con{v(1)}, 399))
	for _, c := range slices.Concat(smallCons(4), randomCons(62, 2000), []api.Con{deepest, lams(399, num()), balanced(api.MaxNodes, num()), lam(app(v(0), v(1))), app(lam(app(v(0), v(0))), num())}) {
		f, l, e := Spine(c)
		if want, args := wantSpine(c); e != api.OK || !alike(f, want) || !slices.EqualFunc(l, args, alike) || f.Op == api.CApp {
			t.Fatal(c, f, l, e)
		}
	}
	for i, c := range invalid() {
		if f, l, e := Spine(c); e != api.ErrArg || !isZero(f) || len(l) > 0 {
			t.Error(i, f, l, e)
		}
	}
}

// P9.7

func TestUnitAndBool(t *testing.T) {
	unit := api.Con{Op: api.CRecord}
	if !alike(Unit(), unit) || !Valid(Unit()) {
		t.Error(Unit())
	}
	if want := binder(api.CMu, star(), fields(api.CSum, "False True", unit, unit)); !alike(Bool(), want) || !Valid(Bool()) {
		t.Error(Bool())
	}
}

func wantTuple(l []api.Con) api.Con {
	c := api.Con{Op: api.CRecord, L: l}
	for i := range l {
		c.Names = append(c.Names, strconv.Itoa(i+1))
	}
	return c
}

func TestTuple(t *testing.T) {
	r, e := Tuple([]api.Con{num(), lam(v(0)), v(3)})
	expectCon(t, "three", r, e, fields(api.CRecord, "1 2 3", num(), lam(v(0)), v(3)))
	r, e = Tuple(nil)
	expectCon(t, "none", r, e, Unit())
	r, e = Tuple([]api.Con{})
	expectCon(t, "none", r, e, Unit())
	l := randomCons(71, 200)
	for i := range 100 {
		for n := range 20 {
			r, e := Tuple(l[i : i+n])
			if n == 1 || n > 9 {
				expectNone(t, n, r, e, api.ErrRange)
			} else {
				expectCon(t, n, r, e, wantTuple(l[i:i+n]))
			}
		}
	}
}

func TestTupleAtTheLimits(t *testing.T) {
	big := balanced(9999, num())
	for i, c := range []struct {
		l    []api.Con
		want api.Errno
	}{
		{[]api.Con{lams(398, num()), num()}, api.OK}, {[]api.Con{num(), lams(399, num())}, api.ErrBig}, {[]api.Con{big, balanced(10000, num())}, api.OK}, {[]api.Con{big, balanced(9998, num()), num(), num()}, api.OK}, {[]api.Con{big, balanced(9999, num()), num(), num()}, api.ErrBig}, {[]api.Con{big, balanced(10001, num())}, api.ErrBig},
		{[]api.Con{big, big, big, big, big, big, big, big, big}, api.ErrBig}, {[]api.Con{big}, api.ErrRange}, {slices.Repeat([]api.Con{big}, 10), api.ErrRange}, {slices.Repeat([]api.Con{num()}, 1<<18), api.ErrRange}, {[]api.Con{lams(399, num())}, api.ErrRange},
		{[]api.Con{{}}, api.ErrArg}, {append(slices.Repeat([]api.Con{num()}, 1<<18), v(-1)), api.ErrArg}, {[]api.Con{big, big, v(-1)}, api.ErrArg}, {make([]api.Con, 2), api.ErrArg},
	} {
		r, e := Tuple(c.l)
		if c.want == api.OK {
			expectCon(t, i, r, e, wantTuple(c.l))
		} else {
			expectNone(t, i, r, e, c.want)
		}
	}
	for i, c := range invalid() {
		for _, l := range [][]api.Con{{c}, {num(), c}, {c, num()}, append(slices.Repeat([]api.Con{num()}, 12), c)} {
			r, e := Tuple(l)
			expectNone(t, i, r, e, api.ErrArg)
		}
	}
}
