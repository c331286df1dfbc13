package term

import (
	"math/rand"
	"slices"
	"strconv"
	"testing"

	"pilaster/api"
)

// P12.4: constructors.

func expectSubstCons(t *testing.T, x api.Term, l []api.Con) api.Errno {
	t.Helper()
	r, e := SubstCons(x, l)
	want := wantSubstCons(x, l)
	if !wantValid(want) {
		expectNone(t, "too big", r, e, api.ErrBig)
		return api.ErrBig
	}
	expectTerm(t, "SubstCons", r, e, want)
	return api.OK
}

func TestSubstCons(t *testing.T) {
	r, e := SubstCons(lam(cvar(0), tlam(star(), tapp(v(0), carrow(cvar(0), cvar(1))))), []api.Con{cint()})
	expectTerm(t, "one", r, e, lam(cint(), tlam(star(), tapp(v(0), carrow(cvar(0), cint())))))
	a, b := carrow(cvar(0), cvar(1)), call(carrow(cvar(0), cvar(1)))
	r, e = SubstCons(inner(carrow(cvar(4), carrow(cvar(5), carrow(cvar(6), carrow(cvar(3), cvar(0))))), v(9)), []api.Con{a, b})
	expectTerm(t, "shifted under binders", r, e, inner(carrow(carrow(cvar(4), cvar(5)), carrow(call(carrow(cvar(0), cvar(5))), carrow(cvar(4), carrow(cvar(3), cvar(0))))), v(9)))
	r, e = SubstCons(pack(cvar(0), cvar(1), inject("A", cvar(2), roll(cvar(0), fix(cvar(1), fail(1, cvar(3)))))), []api.Con{cvar(5), cint()})
	expectTerm(t, "all nodes", r, e, pack(cvar(5), cint(), inject("A", cvar(0), roll(cvar(5), fix(cint(), fail(1, cvar(1)))))))
	r, e = SubstCons(unpack(tapp(v(0), cvar(0)), tapp(v(0), carrow(cvar(0), cvar(1)))), []api.Con{cvar(3)})
	expectTerm(t, "opened", r, e, unpack(tapp(v(0), cvar(3)), tapp(v(0), carrow(cvar(0), cvar(4)))))
	r, e = SubstCons(tlam(star(), tapp(v(7), cvar(4))), nil)
	expectTerm(t, "no elements", r, e, tlam(star(), tapp(v(7), cvar(4))))
	r, e = SubstCons(tlam(arrow(star(), star()), tapp(v(0), cvar(0))), []api.Con{cint(), cint()})
	expectTerm(t, "bound", r, e, tlam(arrow(star(), star()), tapp(v(0), cvar(0))))
	r, e = SubstCons(fail(1, api.Con{Op: api.CMeta, N: 0}), []api.Con{cint()})
	expectTerm(t, "an unknown type", r, e, fail(1, api.Con{Op: api.CMeta, N: 0}))
}

func TestSubstConsOfAny(t *testing.T) {
	some := []api.Con{cvar(0), cvar(2), call(carrow(cvar(0), cvar(1))), cint()}
	for _, x := range smallTerms(3) {
		for _, a := range some {
			for _, b := range some {
				expectSubstCons(t, x, []api.Con{a, b})
			}
			expectSubstCons(t, x, []api.Con{a})
		}
	}
	cons := randomCons(134, 500)
	for i, x := range randomTerms(135, 4000) {
		for n := range 5 {
			at := i * 7 % (len(cons) - n)
			expectSubstCons(t, x, cons[at:at+n])
		}
	}
}

// consts returns a constructor of many constants, so that whatever name is chosen for another one may be among them. One of them has two kinds.
func consts(name string, from, to int) api.Con {
	c := cconst(name+"."+strconv.Itoa(from), arrow(star(), star()))
	for n := from; n < to; n++ {
		c = carrow(c, cconst(name+"."+strconv.Itoa(n), star()))
	}
	return c
}

// Constants of the arguments stay what they are.
func TestSubstConsWithConstants(t *testing.T) {
	r := rand.New(rand.NewSource(136))
	const name = "Bound"
	if c := newReplacer(num(0), nil).constNames(1); len(c) != 1 || c[0] != name+".0" {
		t.Fatal(c, "this test is about other names")
	}
	for range 2000 {
		from := r.Intn(4)
		x := fail(1, carrow(cvar(r.Intn(8)), consts(name, from, from+r.Intn(4))))
		for range r.Intn(6) {
			x = []api.Term{tlam(star(), x), unpack(fail(1, consts(name, r.Intn(8), 9)), x), pack(consts("A", 0, 3), cvar(r.Intn(3)), x)}[r.Intn(3)]
		}
		expectSubstCons(t, x, []api.Con{consts(name, r.Intn(3), r.Intn(6)), carrow(cvar(0), consts(name, 2, 5)), cvar(3)}[:r.Intn(4)])
	}
	// As many binders as possible.
	x := tlams(399, fail(1, carrow(cvar(398), carrow(cvar(399), consts(name, 0, 300)))))
	if e := expectSubstCons(t, x, []api.Con{consts(name, 200, 500)}); e != api.OK {
		t.Error(e)
	}
	expectSubstCons(t, tlams(399, fail(1, carrow(cvar(399), cvar(5)))), []api.Con{consts(name, 0, 390)})
}

func TestSubstConsAtTheLimits(t *testing.T) {
	n := api.MaxNodes
	ints := slices.Repeat([]api.Con{cint()}, api.MaxList+1)
	one := func(c api.Con) []api.Con { return []api.Con{c} }
	for i, c := range []struct {
		x    api.Term
		l    []api.Con
		want api.Errno
	}{
		// As many elements as possible, for variables below them, among them, and above them.
		{tlams(398, tapp(v(0), carrow(cvar(397), carrow(cvar(398), carrow(cvar(1397), cvar(1398)))))), ints[:1000], api.OK}, {tlams(398, tapp(v(0), cvar(n))), ints[:1000], api.OK}, {tapp(v(0), cvar(n)), ints[:1000], api.OK}, {tapp(v(0), carrow(cvar(999), cvar(1000))), ints[:1000], api.OK},
		// As many nodes as possible, and one more.
		{fail(1, cvar(0)), one(conOf(n-1, cvar(0))), api.OK}, {fail(1, cvar(0)), one(conOf(n, cvar(0))), api.ErrBig}, {fail(1, cvar(1)), one(conOf(n, cvar(0))), api.OK}, {tlam(star(), fail(1, cvar(1))), one(conOf(n-2, cvar(0))), api.OK}, {tlam(star(), fail(1, cvar(1))), one(conOf(n-1, cvar(0))), api.ErrBig}, {tlam(star(), fail(1, cvar(0))), one(conOf(n, cvar(0))), api.OK},
		{pack(cvar(0), carrow(cvar(0), cint()), num(0)), one(conOf(9998, cint())), api.OK}, {pack(cvar(0), carrow(cvar(0), cint()), num(0)), one(conOf(9999, cint())), api.ErrBig}, {pack(cvar(0), cvar(1), num(0)), []api.Con{conOf(9999, cint()), conOf(9999, cint())}, api.OK}, {pack(cvar(0), cvar(1), num(0)), []api.Con{conOf(9999, cint()), conOf(10000, cint())}, api.ErrBig}, {pack(cvar(1), cvar(1), num(0)), []api.Con{conOf(n, cint()), conOf(9999, cint())}, api.OK},
		{app(balanced(10000, num(0)), fail(1, cvar(0))), one(conOf(9998, cint())), api.OK}, {app(balanced(10000, num(0)), fail(1, cvar(0))), one(conOf(9999, cint())), api.ErrBig}, {app(fail(1, cvar(0)), balanced(10000, num(0))), one(conOf(9999, cint())), api.ErrBig}, {app(fail(1, cvar(0)), fail(1, cvar(0))), one(conOf(9999, cint())), api.ErrBig}, {app(fail(1, cvar(0)), fail(1, cvar(0))), one(conOf(9998, cint())), api.OK},
		// As many levels, and one more, which are those of each constructor.
		{fail(1, calls(200, cvar(200))), one(calls(199, cint())), api.OK}, {fail(1, calls(200, cvar(200))), one(calls(200, cint())), api.ErrBig}, {tlams(399, fail(1, calls(200, cvar(599)))), one(calls(199, cint())), api.OK}, {tlams(399, fail(1, calls(200, cvar(599)))), one(calls(200, cint())), api.ErrBig}, {tlams(399, fail(1, calls(399, cvar(798)))), one(cint()), api.OK}, {tlams(399, fail(1, cvar(399))), one(calls(399, cvar(399))), api.OK}, {tlams(399, fail(1, calls(1, cvar(400)))), one(calls(399, cvar(399))), api.ErrBig},
		// The greatest index, and one more.
		{fail(1, cvar(0)), one(cvar(n)), api.OK}, {tlams(399, fail(1, cvar(399))), one(cvar(n - 399)), api.OK}, {tlams(399, fail(1, cvar(399))), one(cvar(n - 398)), api.ErrBig}, {tlams(399, fail(1, calls(399, cvar(798)))), one(cvar(n - 798)), api.OK}, {tlams(399, fail(1, calls(399, cvar(798)))), one(cvar(n - 797)), api.ErrBig}, {tlams(200, fail(1, cvar(200))), one(calls(399, cvar(n-200))), api.OK}, {tlams(200, fail(1, cvar(200))), one(calls(399, cvar(n-199))), api.ErrBig},
		{fail(1, cvar(n)), one(cint()), api.OK}, {fail(1, cvar(n)), nil, api.OK}, {tlams(399, fail(1, cvar(n))), nil, api.OK}, {tlams(399, fail(1, cvar(n))), one(cvar(n)), api.OK}, {tlams(399, fail(1, calls(399, cvar(n)))), one(cint()), api.OK}, {tlams(399, fail(1, cvar(398))), one(cvar(n)), api.OK}, {lams(399, v(n)), one(cvar(n)), api.OK},
	} {
		if got := expectSubstCons(t, c.x, c.l); got != c.want {
			t.Fatal(i, got, c.want)
		}
	}
	// What would be huge is not made.
	r, e := SubstCons(fail(1, conOf(n-1, cvar(0))), one(conOf(n, cint())))
	expectNone(t, "huge", r, e, api.ErrBig)
	r, e = SubstCons(tlam(star(), balanced(9000, fail(1, cvar(1)))), one(conOf(n, cint())))
	expectNone(t, "huge", r, e, api.ErrBig)
}

func TestSubstConsErrors(t *testing.T) {
	ints := slices.Repeat([]api.Con{cint()}, api.MaxList+1)
	most := conOf(api.MaxNodes, cint())
	r, e := SubstCons(num(0), ints)
	expectNone(t, "too many", r, e, api.ErrFull)
	r, e = SubstCons(fail(1, cvar(0)), append([]api.Con{most}, ints...))
	expectNone(t, "too many, and too big", r, e, api.ErrFull)
	r, e = SubstCons(num(0), append(slices.Clone(ints), api.Con{}))
	expectNone(t, "too many, and one malformed", r, e, api.ErrArg)
	r, e = SubstCons(v(-1), ints)
	expectNone(t, "too many for a malformed one", r, e, api.ErrArg)
	for i, c := range malformedCons() {
		for _, l := range [][]api.Con{{c}, {cint(), c}, {c, cint()}, {most, c}} {
			r, e = SubstCons(num(0), l)
			expectNone(t, i, r, e, api.ErrArg)
			r, e = SubstCons(fail(1, cvar(0)), l)
			expectNone(t, i, r, e, api.ErrArg)
		}
	}
	for i, x := range invalid() {
		for _, l := range [][]api.Con{nil, {cint()}, {{}}} {
			r, e = SubstCons(x, l)
			expectNone(t, i, r, e, api.ErrArg)
		}
	}
}
