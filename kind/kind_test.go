package kind

import (
	"math"
	"slices"
	"testing"

	"pilaster/api"
)

// P8.1

func TestValid(t *testing.T) {
	star := api.Kind{}
	for _, k := range []api.Kind{star, node(), {L: []api.Kind{}}, node(star, star), node(node(star, star), star), node(star, node(star, star)), node(node(), node(node(), star))} {
		if !Valid(k) {
			t.Error(k)
		}
	}
	for _, k := range []api.Kind{node(star), node(star, star, star), node(node(star), star), node(star, node(star)), node(star, node(star, node(star, star, star)))} {
		if Valid(k) {
			t.Error(k)
		}
	}
}

func TestValidOfAnyForm(t *testing.T) {
	for _, k := range slices.Concat(allKinds(7), randomKinds(1, 500)) {
		if !Valid(k) || !wantValid(k) {
			t.Fatal(k)
		}
	}
	for i, k := range malformed() {
		if Valid(k) || wantValid(k) {
			t.Error(i)
		}
	}
	for i, k := range endless() {
		if Valid(k) {
			t.Error(i)
		}
	}
	// Every form with up to three parts in each node, and three levels.
	forms := []api.Kind{{}}
	for range 2 {
		next := []api.Kind{{}}
		for _, a := range forms {
			next = append(next, node(a))
			for _, b := range forms {
				next = append(next, node(a, b))
				for _, c := range forms {
					next = append(next, node(a, b, c))
				}
			}
		}
		forms = next
	}
	for _, k := range forms {
		if Valid(k) != wantValid(k) {
			t.Error(k)
		}
	}
}

func TestValidAtTheLimits(t *testing.T) {
	for n := api.MaxDepth - 3; n < api.MaxDepth+3; n++ {
		fits := n+1 <= api.MaxDepth
		for i, k := range []api.Kind{right(n), left(n), over(make([]api.Kind, 150), left(n-150)), node(left(n-1), right(n-1)), node(right(n-1), api.Kind{})} {
			if Valid(k) != fits || wantValid(k) != fits {
				t.Error(n, i)
			}
		}
	}
	// A kind in which * stands n times has 2n - 1 nodes, so that none has MaxNodes of them.
	for n := api.MaxNodes/2 - 3; n < api.MaxNodes/2+3; n++ {
		fits := n <= api.MaxNodes/2
		if k := balanced(n); Valid(k) != fits || wantValid(k) != fits {
			t.Error(n)
		}
	}
	for i, k := range tooLarge() {
		if Valid(k) || wantValid(k) {
			t.Error(i)
		}
	}
}

func TestEqual(t *testing.T) {
	l := allKinds(6)
	for i, a := range l {
		for j, b := range l {
			if Equal(a, b) != (i == j) {
				t.Error(a, b)
			}
		}
		if !Equal(a, clone(a)) || !Equal(clone(a), a) {
			t.Error(a)
		}
	}
	if !Equal(api.Kind{}, node()) || !Equal(api.Kind{L: []api.Kind{}}, api.Kind{}) || !Equal(node(node(), api.Kind{}), right(1)) {
		t.Error("lists without elements differ")
	}
	for _, k := range []api.Kind{right(api.MaxDepth - 1), left(api.MaxDepth - 1), balanced(api.MaxNodes / 2)} {
		if !Equal(k, clone(k)) || Equal(k, api.Kind{}) || Equal(right(1), k) {
			t.Error(wantText(k))
		}
	}
	if Equal(right(399), right(398)) || Equal(left(398), left(399)) || Equal(balanced(9999), balanced(10000)) {
		t.Error("different kinds are equal")
	}
}

func TestEqualOfInvalidKinds(t *testing.T) {
	for i, k := range invalid() {
		for _, other := range []api.Kind{k, {}, right(1), right(2), node(api.Kind{})} {
			if Equal(k, other) || Equal(other, k) {
				t.Error(i, other)
			}
		}
	}
}

func TestStar(t *testing.T) {
	if k := Star(); k.L != nil || !Valid(k) {
		t.Error(k)
	}
}

// P8.2

func TestArrow(t *testing.T) {
	star, one := api.Kind{}, right(1)
	for i, c := range []struct {
		l        []api.Kind
		to, want api.Kind
	}{
		{nil, star, star},
		{[]api.Kind{}, one, one},
		{[]api.Kind{star}, star, node(star, star)},
		{[]api.Kind{one}, star, node(one, star)},
		{[]api.Kind{star}, one, node(star, node(star, star))},
		{[]api.Kind{star, one, star}, star, node(star, node(node(star, star), node(star, star)))},
		{[]api.Kind{one, star}, one, node(node(star, star), node(star, node(star, star)))},
		{[]api.Kind{left(2), right(2)}, left(3), node(left(2), node(right(2), left(3)))},
		{[]api.Kind{node()}, node(node(), node()), right(2)},
	} {
		k, e := Arrow(c.l, c.to)
		expectKind(t, i, k, e, c.want)
	}
	l := randomKinds(2, 300)
	for i := range l {
		for n := range 4 {
			from, last := l[max(i-n, 0):i], l[len(l)-1-i]
			k, e := Arrow(from, last)
			expectKind(t, i, k, e, over(from, last))
		}
	}
}

func TestArrowRefuses(t *testing.T) {
	deep := right(api.MaxDepth - 1)
	for i, k := range invalid() {
		for _, c := range []struct {
			l  []api.Kind
			to api.Kind
		}{
			{nil, k},
			{[]api.Kind{{}, right(1)}, k},
			{[]api.Kind{k}, api.Kind{}},
			{[]api.Kind{{}, k, {}}, right(1)},
			{[]api.Kind{{}, {}, k}, deep},
			{[]api.Kind{k, {}, {}}, deep},
			{make([]api.Kind, api.MaxDepth), k},
			{append(make([]api.Kind, api.MaxDepth), k), api.Kind{}},
			{slices.Concat([]api.Kind{k}, make([]api.Kind, api.MaxDepth)), api.Kind{}},
		} {
			got, e := Arrow(c.l, c.to)
			expectNone(t, i, got, e, api.ErrArg)
		}
	}
}

func TestArrowAtTheLimits(t *testing.T) {
	half := balanced(api.MaxNodes / 4)
	for i, c := range []struct {
		l    []api.Kind
		to   api.Kind
		fits bool
	}{
		{make([]api.Kind, 399), api.Kind{}, true},
		{make([]api.Kind, 400), api.Kind{}, false},
		{make([]api.Kind, 1<<20), api.Kind{}, false},
		{nil, right(399), true},
		{make([]api.Kind, 1), right(399), false},
		{make([]api.Kind, 1), left(399), false},
		{make([]api.Kind, 200), left(199), true},
		{make([]api.Kind, 200), left(200), false},
		{[]api.Kind{left(398)}, api.Kind{}, true},
		{[]api.Kind{left(399)}, api.Kind{}, false},
		{[]api.Kind{{}, {}, left(396)}, api.Kind{}, true},
		{[]api.Kind{{}, {}, left(397)}, api.Kind{}, false},
		{[]api.Kind{half}, half, true},
		{[]api.Kind{half, {}}, half, false},
		{[]api.Kind{half, half}, api.Kind{}, false},
		{[]api.Kind{half, half, half}, half, false},
		{nil, balanced(api.MaxNodes / 2), true},
		{[]api.Kind{{}}, balanced(api.MaxNodes / 2), false},
		{[]api.Kind{{}}, balanced(api.MaxNodes/2 - 1), true},
		{[]api.Kind{balanced(api.MaxNodes / 2)}, api.Kind{}, false},
	} {
		k, e := Arrow(c.l, c.to)
		if c.fits {
			expectKind(t, i, k, e, over(c.l, c.to))
		} else {
			expectNone(t, i, k, e, api.ErrFull)
		}
	}
}

func TestArity(t *testing.T) {
	for n := range 101 {
		k, e := Arity(n)
		expectKind(t, n, k, e, right(n))
	}
	for _, n := range []int{math.MinInt, -101, -2, -1, 101, 102, 399, 400, 1 << 32, math.MaxInt} {
		k, e := Arity(n)
		expectNone(t, n, k, e, api.ErrRange)
	}
}

func TestParts(t *testing.T) {
	deep := []api.Kind{right(399), left(399), balanced(api.MaxNodes / 2), node(node(), node(node(), node()))}
	for _, k := range slices.Concat(allKinds(7), randomKinds(3, 300), deep) {
		l, last, e := Parts(k)
		if e != api.OK || last.L != nil || !slices.EqualFunc(l, wantParts(k), alike) {
			t.Error(k, l, last, e)
		}
	}
	for i, k := range invalid() {
		if l, last, e := Parts(k); e != api.ErrArg || len(l) > 0 || last.L != nil {
			t.Error(i, l, last, e)
		}
	}
}

// P8.3

func TestApply(t *testing.T) {
	l := append(allKinds(5), node(node(), right(1)), api.Kind{L: []api.Kind{}})
	for _, f := range l {
		for _, a := range l {
			k, e := Apply(f, a)
			if len(f.L) == 2 && alike(f.L[0], a) {
				expectKind(t, f, k, e, f.L[1])
			} else {
				expectNone(t, f, k, e, api.ErrKind)
			}
		}
	}
	for i, c := range []struct{ a, b api.Kind }{{left(398), right(398)}, {balanced(5000), balanced(5000)}, {right(398), api.Kind{}}, {api.Kind{}, left(398)}} {
		k, e := Apply(node(c.a, c.b), clone(c.a))
		expectKind(t, i, k, e, c.b)
	}
	k, e := Apply(node(left(398), right(1)), left(397))
	expectNone(t, "397", k, e, api.ErrKind)
}

func TestApplyRefuses(t *testing.T) {
	for i, k := range invalid() {
		for _, other := range []api.Kind{{}, right(1), node(right(1), right(1)), k} {
			got, e := Apply(k, other)
			expectNone(t, i, got, e, api.ErrArg)
			got, e = Apply(other, k)
			expectNone(t, i, got, e, api.ErrArg)
		}
		// Its parts alone are not asked for.
		got, e := Apply(node(right(1), k), right(1))
		expectNone(t, i, got, e, api.ErrArg)
		got, e = Apply(node(k, right(1)), k)
		expectNone(t, i, got, e, api.ErrArg)
	}
}
