package kernel

import (
	"testing"

	"pilaster/api"
	"pilaster/term"
)

// P13.1

// compare tests Type with the second description, and returns the error.
func compare(t *testing.T, about any, g api.Context, x api.Term) api.Errno {
	t.Helper()
	want, f := wantType(g, x)
	if f != api.OK {
		expectFault(t, about, g, x, f)
	} else if c, e := Type(g, x); e != api.OK || !alike(c, want) {
		t.Fatalf("%v: %s: %s, %d; want %s", about, brief(x), brief(c), e, brief(want))
	}
	return f
}

func expectSeen(t *testing.T, seen map[api.Errno]int, least int) {
	t.Helper()
	for _, e := range []api.Errno{api.OK, api.ErrName, api.ErrKind, api.ErrType, api.ErrEscape} {
		if seen[e] < least {
			t.Error(seen)
		}
	}
}

func TestTypeOfAny(t *testing.T) {
	ops := map[int]int{}
	var count func(x api.Term)
	count = func(x api.Term) {
		ops[x.Op]++
		for _, part := range x.L {
			count(part)
		}
	}
	for i, s := range samples(131, 10000) {
		count(s.x)
		expectType(t, i, s.g, s.x, s.c)
		if c, e := wantType(s.g, s.x); e != api.OK || !alike(c, s.c) {
			t.Fatal(i, brief(s.x), brief(c), e, "not", brief(s.c))
		}
	}
	for op := api.EVar; op <= api.EFail; op++ {
		if ops[op] < 500 {
			t.Error("only", ops[op], "of the kind", op)
		}
	}
}

// nodesOf returns the places of all nodes.
func nodesOf(x *api.Term) []*api.Term {
	l := []*api.Term{x}
	for i := range x.L {
		l = append(l, nodesOf(&x.L[i])...)
	}
	return l
}

// change changes something somewhere.
func (m maker) change(x *api.Term) {
	l := nodesOf(x)
	n, other := pick(m.Rand, l...), *pick(m.Rand, l...)
	switch m.Intn(9) {
	case 0:
		*n = clone(other)
	case 1:
		*n = pick(m.Rand, v(m.Intn(6)), num(1), str("x"), record(""), escaping(), illKinded(), v(9000))
	case 2:
		n.Con = m.con([]api.Kind{star(), one()}, m.kind(1), 2)
	case 3:
		n.Con, n.To = other.Con, other.To
	case 4:
		n.To, n.Con = n.Con, n.To
	case 5:
		n.Kind = m.kind(2)
	case 6:
		n.Op = []int{api.ELam, api.EFix, api.ERoll, api.ETApp, api.EApp, api.ELet, api.EUnpack}[m.Intn(7)]
	case 7:
		n.S = pick(m.Rand, "a", "A", "b", "1")
	case 8:
		n.N = m.Intn(15)
	}
}

func TestTypeOfChanged(t *testing.T) {
	m := newMaker(132)
	seen := map[api.Errno]int{}
	for i, s := range samples(133, 3000) {
		for range 10 {
			x := clone(s.x)
			for range 1 + m.Intn(2) {
				m.change(&x)
			}
			if term.Valid(x) {
				seen[compare(t, i, s.g, x)]++
			} else {
				expectFault(t, i, s.g, x, api.ErrArg)
			}
		}
	}
	expectSeen(t, seen, 300)
}

// smallTerms returns terms of at most n nodes of all kinds.
func smallTerms(n int, leaves []api.Term, around func(x api.Term) []api.Term, both func(a, b api.Term) []api.Term) [][]api.Term {
	l := [][]api.Term{nil, leaves}
	for size := 2; size <= n; size++ {
		var now []api.Term
		for _, x := range l[size-1] {
			now = append(now, around(x)...)
		}
		for first := 1; first < size-1; first++ {
			for _, a := range l[first] {
				for _, b := range l[size-1-first] {
					now = append(now, both(a, b)...)
				}
			}
		}
		l = append(l, now)
	}
	return l
}

func TestTypeOfSmall(t *testing.T) {
	seen := map[api.Errno]int{}
	g := in("*,* -> *", "(int -> #1)", "(all *. (#0 -> #0))", "(some *. {a: #0, b: (#0 -> int)})", "(#0 #1)", "int")
	option, stream := "[A: int | B: {}]", "(mu *. {a: int, b: #0})"
	leaves := []api.Term{v(0), v(1), v(2), v(3), v(4), v(5), num(1), record(""), fail(stream), fail("#2")}
	around := func(x api.Term) []api.Term {
		return []api.Term{
			lam("int", x), lam("(#0 #1)", x), tlam(star(), x), tlam(one(), x), tapp(x, "int"), tapp(x, "(#0 #1)"), tapp(x, "#0"), pack("int", "(some *. #0)", x), pack("(fn *. int)", "(some * -> *. (#0 int))", x), proj("a", x), proj("b", x), inject("A", option, x), inject("B", option, x),
			roll(stream, x), unroll(x), fix("(int -> int)", x), prim(api.PNeg, x), prim(api.PShow, x), record("a", x),
		}
	}
	both := func(a, b api.Term) []api.Term {
		return []api.Term{app(a, b), unpack(a, b), let(a, b), record("a b", a, b), cases("A", a, b), cases("A B", a, b, v(0)), cases("A B", a, num(7), b), prim(api.PLess, a, b)}
	}
	for n, l := range smallTerms(4, leaves, around, both) {
		for i, x := range l {
			seen[compare(t, []int{n, i}, g, x)]++
			// The nodes that take sums and packages apart get some from around.
			if n < 4 {
				seen[compare(t, i, g, let(inject("A", option, num(1)), x))]++
				seen[compare(t, i, g, unpack(v(2), x))]++
				seen[compare(t, i, g, unpack(pack("text", "(some *. (#0 -> #0))", lam("text", v(0))), x))]++
				seen[compare(t, i, g, tlam(star(), lam("(#0 -> (mu *. #1))", x)))]++
			}
		}
	}
	expectSeen(t, seen, 50)
}
