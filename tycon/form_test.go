package tycon

import (
	"fmt"
	"math"
	"math/rand"
	"slices"
	"strings"
	"testing"

	"pilaster/api"
)

// P9.1

func numbers() []int {
	return []int{0, 1, -1, api.MaxNodes, api.MaxNodes + 1, math.MaxInt, math.MinInt}
}

func texts() []string {
	name := "A" + strings.Repeat("b", api.MaxName-1)
	return []string{
		"", "A.0", "A.00", "A.01", "A.10", "a.0", "A", "A.", ".0", ".", "A.b", "A.0.0", "A..0", "B.A.0", "A0", "A 0", "A.-1", "A.+1", "A. 1", " A.0", "A.0 ", "0.A", "_.0", "A_.0", "Aa9.12", "A'.0", "\xc3\x84.0", "A.1\x00",
		"A.4503599627370496", "A.4503599627370497", "A.45035996273704960", "A.99999999999999999999999", name + ".0", name + "b.0", name + ".4503599627370496", name + ".4503599627370497",
		strings.Repeat("A", 48), "A." + strings.Repeat("1", 46), "A." + strings.Repeat("1", 1<<16), strings.Repeat("A", 1<<16) + ".0", "end.0", "Type.0", "True.0", "int",
	}
}

func kinds() []api.Kind {
	k := arrow(star(), star())
	endless := arrow(star(), star())
	endless.L[0] = endless
	deepest := star()
	for range api.MaxDepth - 1 {
		deepest = arrow(star(), deepest)
	}
	return []api.Kind{star(), {L: []api.Kind{}}, k, arrow(k, k), {L: make([]api.Kind, 1)}, {L: make([]api.Kind, 3)}, arrow(star(), api.Kind{L: make([]api.Kind, 1)}), endless, deepest, arrow(star(), deepest)}
}

func nameLists() [][]string {
	long := strings.Repeat("x", 2*api.MaxName)
	return [][]string{
		nil, {}, {"a"}, {""}, {"a b"}, {"1"}, {"val.x"}, {long}, {long + "x"}, {"a", "b"}, {"b", "a"}, {"a", "a"}, {"1", "2"}, {"10", "2"}, {"2", "10"}, {"B", "a"}, {"a", "B"}, {"a", "b", "c"}, {"a", "c", "b"}, {"", "a"}, {"a", "?"}, {"a", "a."}, {"a", "ab", "b"},
	}
}

func opers() []int {
	return []int{math.MinInt, -1, 0, 1, 2, 3, 4, 5, 6, 7, 8, 9, 10, 11, 12, 13, 14, 15, 21, math.MaxInt}
}

// Each field alone, and all combinations of few values.
func TestValidOfOneNode(t *testing.T) {
	accepted := map[int]int{}
	try := func(c api.Con) {
		if got, want := Valid(c), wantValid(c); got != want {
			t.Fatalf("%t: %.300s", got, fmt.Sprint(c))
		} else if got {
			accepted[c.Op]++
		}
	}
	for _, op := range opers() {
		for parts := range 5 {
			l := slices.Repeat([]api.Con{num()}, parts)
			for _, names := range nameLists() {
				for _, s := range []string{"", "A.0", "A"} {
					for _, n := range numbers() {
						try(api.Con{Op: op, N: n, S: s, Names: names, L: l})
						try(api.Con{Op: op, N: n, S: s, Names: names, L: l, Kind: arrow(star(), star())})
					}
				}
			}
			for _, s := range texts() {
				try(api.Con{Op: op, S: s, L: l})
				try(api.Con{Op: op, S: s, L: l, Names: []string{"a"}})
			}
			for _, k := range kinds() {
				try(api.Con{Op: op, Kind: k, L: l})
				try(api.Con{Op: op, Kind: k, S: "A.0", L: l})
			}
		}
	}
	if len(accepted) != 13 {
		t.Error(accepted)
	}
}

func TestValidOfNamesOfConstants(t *testing.T) {
	for _, s := range []string{"A.0", "A.10", "A.4503599627370496", "Abc_9.7", "True.0", "A" + strings.Repeat("b", 23) + ".4503599627370496"} {
		if !Valid(con(s, star())) || !Valid(con(s, arrow(star(), star()))) {
			t.Error(s)
		}
	}
	for _, s := range []string{"", "A", "a.0", "A.01", "A.4503599627370497", "A.0.0", "A..0", "A.-1", ".0", "A.", "A" + strings.Repeat("b", 24) + ".0"} {
		if Valid(con(s, star())) {
			t.Error(s)
		}
	}
	for _, s := range texts() {
		if Valid(con(s, star())) != wantConstName(s) {
			t.Error(s)
		}
	}
}

// everyNode hands each node of c to f, which may change it.
func everyNode(c *api.Con, f func(*api.Con)) {
	f(c)
	for i := range c.L {
		everyNode(&c.L[i], f)
	}
}

// changes returns copies of c with one field of one node changed.
func changes(c api.Con, fields []func(*api.Con)) []api.Con {
	var l []api.Con
	for at := range Size(c) {
		for _, change := range fields {
			x, i := clone(c), 0
			everyNode(&x, func(node *api.Con) {
				if i++; i == at+1 {
					change(node)
				}
			})
			l = append(l, x)
		}
	}
	return l
}

func fieldChanges(r *rand.Rand) []func(*api.Con) {
	return []func(*api.Con){
		func(c *api.Con) { c.Op = r.Intn(16) - 1 },
		func(c *api.Con) { c.N = numbers()[r.Intn(len(numbers()))] },
		func(c *api.Con) { c.N++ },
		func(c *api.Con) { c.S = texts()[r.Intn(len(texts()))] },
		func(c *api.Con) { c.S += "0" },
		func(c *api.Con) { c.Kind = kinds()[r.Intn(7)] },
		func(c *api.Con) { c.Kind = arrow(c.Kind, star()) },
		func(c *api.Con) { c.Kind.L = append(slices.Clone(c.Kind.L), star()) },
		func(c *api.Con) { c.Names = nameLists()[r.Intn(len(nameLists()))] },
		func(c *api.Con) { c.Names = append(c.Names, "x") },
		func(c *api.Con) { c.Names = c.Names[:max(0, len(c.Names)-1)] },
		func(c *api.Con) { slices.Reverse(c.Names) },
		func(c *api.Con) { c.L = append(c.L, num()) },
		func(c *api.Con) { c.L = append(c.L, api.Con{}) },
		func(c *api.Con) { c.L = c.L[:max(0, len(c.L)-1)] },
		func(c *api.Con) { slices.Reverse(c.L) },
		func(c *api.Con) { c.L, c.Names = append(c.L, v(2)), append(c.Names, "z") },
	}
}

func TestValidEqualAndSizeOfChanges(t *testing.T) {
	r := rand.New(rand.NewSource(91))
	valid, equal := 0, 0
	for _, c := range randomCons(92, 200) {
		if !Valid(c) || !wantValid(c) {
			t.Fatal(c)
		}
		if Size(c) > 40 {
			continue
		}
		for _, x := range changes(c, fieldChanges(r)) {
			ok, same := Valid(x), Equal(x, c)
			if ok != wantValid(x) || same != alike(x, c) || same != Equal(c, x) || !Equal(x, clone(x)) || Size(x) != strings.Count(written(x), "[") {
				t.Fatalf("%t %t %+v", ok, same, x)
			}
			valid, equal = valid+btoi(ok), equal+btoi(same)
		}
	}
	if valid < 1000 || equal < 1000 {
		t.Error(valid, equal)
	}
}

func btoi(b bool) int {
	if b {
		return 1
	}
	return 0
}

func TestEqualOfSmall(t *testing.T) {
	l := smallCons(3)
	for _, c := range malformed() {
		if Size(c) < 100 {
			l = append(l, c)
		}
	}
	var texts []string
	for _, c := range l {
		texts = append(texts, written(c))
	}
	for i, a := range l {
		for j, b := range l {
			if Equal(a, b) != (texts[i] == texts[j]) {
				t.Fatal(a, b)
			}
		}
	}
	empty := api.Con{Names: []string{}, L: []api.Con{}, Kind: api.Kind{L: []api.Kind{}}}
	if !Equal(empty, api.Con{}) || !Equal(api.Con{}, empty) {
		t.Error("nil and empty lists are the same")
	}
	if odd := (api.Kind{L: make([]api.Kind, 1)}); Equal(api.Con{Kind: odd}, api.Con{}) || !Equal(api.Con{Kind: odd}, api.Con{Kind: cloneKind(odd)}) {
		t.Error("kinds that are not valid")
	}
}

func TestSize(t *testing.T) {
	for i, c := range []struct {
		c    api.Con
		want int
	}{
		{api.Con{}, 1}, {num(), 1}, {Unit(), 1}, {Bool(), 4}, {lam(app(v(0), v(1))), 4}, {balanced(999, v(0)), 999}, {wide(1001, num()), 1002}, {lams(5000, num()), 5001},
		{api.Con{Op: -1, L: make([]api.Con, 1<<17)}, 1<<17 + 1}, {con("A.0", arrow(star(), star())), 1}, {api.Con{Names: []string{"a", "b"}}, 1},
	} {
		if got := Size(c.c); got != c.want {
			t.Error(i, got)
		}
	}
}

func TestValidAtTheLimits(t *testing.T) {
	deepestKind := kinds()[8]
	for i, c := range []api.Con{
		balanced(api.MaxNodes, num()), lam(balanced(api.MaxNodes-1, num())), lams(api.MaxDepth-1, num()), app(lams(api.MaxDepth-2, num()), lams(api.MaxDepth-2, num())), wide(api.MaxList, num()),
		wide(api.MaxList, balanced(18, v(0))), lams(api.MaxDepth-1, v(api.MaxNodes)), lam(meta(api.MaxNodes)), binder(api.CMu, deepestKind, con("A.0", deepestKind)), lams(api.MaxDepth-2, Unit()),
		lams(api.MaxDepth-2, api.Con{Op: api.CSum, Names: []string{"A"}, L: []api.Con{num()}}),
	} {
		if !Valid(c) || !wantValid(c) {
			t.Error(i, "refused")
		}
	}
	for i, c := range invalid() {
		if Valid(c) {
			t.Error(i, "accepted")
		}
	}
	for i, c := range tooLarge() {
		if wantValid(c) {
			t.Error(i, "accepted")
		}
	}
	// The nodes of kinds are not counted.
	if k := deepestKind; !Valid(balanced(api.MaxNodes-1, con("A.0", k))) {
		t.Error("kinds")
	}
	if Size(balanced(api.MaxNodes, num())) != api.MaxNodes || Size(balanced(api.MaxNodes+1, num())) != api.MaxNodes+1 {
		t.Error("the examples are too small")
	}
}
