package kind

import (
	"math/rand"
	"slices"
	"strings"
	"testing"

	"pilaster/api"
)

// node returns a kind with some parts, of which there need not be two.
func node(l ...api.Kind) api.Kind { return api.Kind{L: l} }

// over puts parameters before a kind.
func over(l []api.Kind, k api.Kind) api.Kind {
	for i := len(l) - 1; i >= 0; i-- {
		k = node(l[i], k)
	}
	return k
}

// right returns the kind with n parameters *, and left the one that is n times the parameter of *.
func right(n int) api.Kind { return over(make([]api.Kind, n), api.Kind{}) }

func left(n int) api.Kind {
	var k api.Kind
	for range n {
		k = node(k, api.Kind{})
	}
	return k
}

// balanced returns a kind of small depth in which * stands n times.
func balanced(n int) api.Kind {
	if n < 2 {
		return api.Kind{}
	}
	return node(balanced(n/2), balanced(n-n/2))
}

// allKinds returns all kinds in which * stands at most n times.
func allKinds(n int) []api.Kind {
	l := [][]api.Kind{nil, {{}}}
	for size := 2; size <= n; size++ {
		var now []api.Kind
		for first := 1; first < size; first++ {
			for _, a := range l[first] {
				for _, b := range l[size-first] {
					now = append(now, node(a, b))
				}
			}
		}
		l = append(l, now)
	}
	return slices.Concat(l...)
}

// randomKind returns a kind of at most so many levels.
func randomKind(r *rand.Rand, levels int) api.Kind {
	if levels <= 1 || r.Intn(4) == 0 {
		return api.Kind{}
	}
	return node(randomKind(r, levels-1), randomKind(r, levels-1))
}

func randomKinds(seed int64, n int) []api.Kind {
	r := rand.New(rand.NewSource(seed))
	var l []api.Kind
	for range n {
		l = append(l, randomKind(r, 1+r.Intn(9)))
	}
	return l
}

// clone returns an equal kind with memory of its own, whatever its form.
func clone(k api.Kind) api.Kind {
	var l []api.Kind
	for _, part := range k.L {
		l = append(l, clone(part))
	}
	return api.Kind{L: l}
}

// spoil makes all nodes of a kind malformed that have parts.
func spoil(k api.Kind) {
	for i := range k.L {
		spoil(k.L[i])
		k.L[i] = node(api.Kind{}, api.Kind{}, api.Kind{})
	}
}

// malformed returns kinds with a node that has neither no part nor two.
func malformed() []api.Kind {
	var l []api.Kind
	for _, n := range []int{1, 3, 4, 5, 1 << 20} {
		wrong := node(make([]api.Kind, n)...)
		l = append(l, wrong, node(wrong, api.Kind{}), node(api.Kind{}, wrong), node(wrong, wrong), node(wrong), node(node(api.Kind{}, wrong), right(2)), over(make([]api.Kind, 30), wrong))
	}
	return append(l, node(right(2)), node(right(2), left(2), right(2)), node(left(1), left(1), api.Kind{}, api.Kind{}))
}

// endless returns a kind of shared memory with more nodes than could be gone through, and two that contain themselves.
func endless() []api.Kind {
	shared := api.Kind{}
	for range 63 {
		shared = node(shared, shared)
	}
	first, second := node(api.Kind{}, api.Kind{}), node(api.Kind{}, api.Kind{})
	first.L[0], second.L[1] = first, second
	both := node(api.Kind{}, api.Kind{})
	both.L[0], both.L[1] = both, both
	return []api.Kind{shared, first, second, both}
}

// tooLarge returns kinds that exceed one limit each, by as little as possible.
func tooLarge() []api.Kind {
	return []api.Kind{right(api.MaxDepth), left(api.MaxDepth), over(make([]api.Kind, 200), left(200)), balanced(api.MaxNodes/2 + 1)}
}

// invalid returns kinds that are not valid, for all reasons.
func invalid() []api.Kind { return slices.Concat(malformed(), endless(), tooLarge()) }

// wantValid goes through a kind level by level.
func wantValid(k api.Kind) bool {
	nodes := 0
	level := []api.Kind{k}
	for depth := 1; len(level) > 0; depth++ {
		nodes += len(level)
		if depth > 400 || nodes > 20000 {
			return false
		}
		var next []api.Kind
		for _, x := range level {
			if n := len(x.L); n != 0 && n != 2 {
				return false
			}
			next = append(next, x.L...)
		}
		level = next
	}
	return true
}

// wantParts returns the parameters of a kind that is valid.
func wantParts(k api.Kind) []api.Kind {
	if len(k.L) == 0 {
		return nil
	}
	return append([]api.Kind{k.L[0]}, wantParts(k.L[1])...)
}

// wantText puts a text together from those of the parameters.
func wantText(k api.Kind) string {
	var l []string
	for _, p := range wantParts(k) {
		s := "(" + wantText(p) + ")"
		l = append(l, strings.ReplaceAll(s, "(*)", "*"))
	}
	return strings.Join(append(l, "*"), " -> ")
}

// alike compares kinds of any form.
func alike(a, b api.Kind) bool { return slices.EqualFunc(a.L, b.L, alike) }

func expectKind(t *testing.T, about any, k api.Kind, e api.Errno, want api.Kind) {
	t.Helper()
	if e != api.OK || !alike(k, want) {
		t.Errorf("%v: %v, %d; want %v", about, k, e, want)
	}
}

// expectNone tests that there is an error, and the zero kind with it.
func expectNone(t *testing.T, about any, k api.Kind, e, want api.Errno) {
	t.Helper()
	if e != want || k.L != nil {
		t.Errorf("%v: %v, %d; want %d", about, k, e, want)
	}
}
