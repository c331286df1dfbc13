package value

import (
	"slices"
	"strings"
	"testing"

	"pilaster/api"
	"pilaster/normal"
)

// P14.5

func expectAll(t *testing.T, c api.Con, depth int, want []api.Value) {
	t.Helper()
	if l, e := All(c, depth); e != api.OK || !alike(l, want) {
		t.Fatalf("%s up to %d: %s, %d; want %s", brief(c), depth, brief(eachOf(l, wantText)), e, brief(eachOf(want, wantText)))
	}
}

func expectNoList(t *testing.T, c api.Con, depth int, want api.Errno) {
	t.Helper()
	if l, e := All(c, depth); e != want || len(l) > 0 {
		t.Fatalf("%s up to %d: %d values, %d; want %d", brief(c), depth, len(l), e, want)
	}
}

func TestAllByHand(t *testing.T) {
	for _, c := range []struct {
		c     string
		depth int
		want  string
	}{
		{"{}", 0, ""}, {"{}", 1, "{}"}, {"{}", 2, "{}"}, {"{}", 400, "{}"}, {"[]", 0, ""}, {"[]", 1, ""}, {"[]", 400, ""}, {"{a: {}}", 1, ""}, {"{a: {}}", 2, "{a = {}}"}, {"{a: []}", 400, ""}, {"[A: {}]", 1, ""}, {"[A: {}]", 2, "A({})"}, {"[A: [] | B: {}]", 9, "B({})"}, {"[A: {} | B: [C: {} | D: {}]]", 2, "A({})"}, {"[A: {} | B: [C: {} | D: {}]]", 3, "A({}); B(C({})); B(D({}))"}, {"[B: {} | a: {}]", 3, "B({}); a({})"},
		{boolText, 0, ""}, {boolText, 1, ""}, {boolText, 2, ""}, {boolText, 3, "@(False({})); @(True({}))"}, {boolText, 4, "@(False({})); @(True({}))"}, {"((fn *. #0) " + boolText + ")", 3, "@(False({})); @(True({}))"},
		{"{1: [A: {} | B: {}], 2: [C: {} | D: {} | E: {}]}", 3, "{1 = A({}), 2 = C({})}; {1 = A({}), 2 = D({})}; {1 = A({}), 2 = E({})}; {1 = B({}), 2 = C({})}; {1 = B({}), 2 = D({})}; {1 = B({}), 2 = E({})}"}, {"{a: [A: {} | B: {}], b: {}, c: [A: {} | B: {}]}", 4, "{a = A({}), b = {}, c = A({})}; {a = A({}), b = {}, c = B({})}; {a = B({}), b = {}, c = A({})}; {a = B({}), b = {}, c = B({})}"}, {"{a: {}, b: [A: {}]}", 2, ""}, {"{a: [], b: [A: {}]}", 400, ""}, {"{a: [A: {}], b: []}", 400, ""},
		{natText, 2, ""}, {natText, 3, "@(Z({}))"}, {natText, 4, "@(Z({}))"}, {natText, 5, "@(S(@(Z({})))); @(Z({}))"}, {natText, 6, "@(S(@(Z({})))); @(Z({}))"}, {natText, 7, "@(S(@(S(@(Z({})))))); @(S(@(Z({})))); @(Z({}))"},
		{treeText, 5, "@(Leaf({}))"}, {treeText, 6, "@(Leaf({})); @(Node({1 = @(Leaf({})), 2 = @(Leaf({}))}))"}, {emptyMu, 400, ""}, {"(mu *. {1: #0, 2: #0})", 400, ""}, {"(mu *. [A: #0])", 400, ""}, {"(mu *. (mu *. {}))", 3, "@(@({}))"}, {"(mu *. (mu *. {}))", 2, ""}, {"(" + listOf + " {})", 3, "@(Nil({}))"}, {"(" + listOf + " {})", 6, "@(Cons({1 = {}, 2 = @(Nil({}))})); @(Nil({}))"}, {"(" + perfectOf + " {})", 6, "@(Leaf({})); @(Node(@(Leaf({1 = {}, 2 = {}}))))"},
	} {
		var want []api.Value
		for _, s := range strings.FieldsFunc(c.want, func(r rune) bool { return r == ';' }) {
			v, e := Parse(strings.TrimSpace(s))
			if e != api.OK {
				t.Fatal(s)
			}
			want = append(want, v)
		}
		expectAll(t, con(c.c), c.depth, want)
	}
}

func TestAllRefuses(t *testing.T) {
	for i, c := range noTypes() {
		for _, depth := range []int{-1, 0, 1, 400, 401} {
			if l, e := All(c, depth); e != api.ErrArg || len(l) > 0 {
				t.Error(i, depth, e)
			}
		}
	}
	wilds := []api.Con{wild(), named(api.CRecord, "a b", number(), wild()), capp(con("(fn *. {})"), wild())}
	for _, c := range append(wilds, con("int"), con("{}"), vast(), con(boolText)) {
		for _, depth := range []int{-1, -400, -1 << 62, api.MaxDepth + 1, 1 << 62} {
			expectNoList(t, c, depth, api.ErrRange)
		}
	}
	for _, c := range wilds {
		for _, depth := range []int{0, 1, 2, 400} {
			expectNoList(t, c, depth, api.ErrBudget)
		}
	}
	// At the depth 0 there is nothing, whatever the type is; from 1 on, other types are faults.
	for _, s := range []string{"int", "text", "(int -> int)", "(all *. {})", "(some *. {})", "?0", "A.0{*}", "(A.0{* -> *} {})"} {
		c := con(s)
		expectAll(t, c, 0, nil)
		expectAll(t, named(api.CRecord, "a", c), 1, nil)
		expectAll(t, named(api.CSum, "A", c), 1, nil)
		expectAll(t, mu(c), 1, nil)
		expectAll(t, mu(named(api.CSum, "A B", named(api.CRecord, ""), c)), 2, nil)
		for _, depth := range []int{1, 2, 400} {
			expectNoList(t, c, depth, api.ErrClass)
		}
		for _, depth := range []int{3, 400} {
			for _, around := range []api.Con{named(api.CRecord, "a", c), named(api.CSum, "A", c), mu(c), mu(named(api.CSum, "A B", named(api.CRecord, ""), c)), named(api.CRecord, "a b", con("[]"), c), named(api.CRecord, "a b", c, con("[]")), named(api.CRecord, "a b", con(emptyMu), c), mu(named(api.CRecord, "a b", api.Con{Op: api.CVar}, c))} {
				expectNoList(t, around, depth, api.ErrClass)
			}
		}
	}
	expectAll(t, vast(), 0, nil)
	expectAll(t, named(api.CRecord, "a", vast()), 1, nil)
	expectAll(t, mu(vast()), 1, nil)
	for _, depth := range []int{2, 3, 400} {
		expectNoList(t, vast(), depth-1, api.ErrBudget)
		expectNoList(t, vast(), depth, api.ErrBudget)
		expectNoList(t, mu(vast()), depth, api.ErrBudget)
	}
}

// The first fault counts, in the order in which types are gone through.
func TestFirstFaultOfAll(t *testing.T) {
	none, full, two := con("[]"), choice(api.MaxList), choice(2)
	tooMany := named(api.CRecord, "a b", full, two)
	for i, c := range []struct {
		l    []api.Con
		want api.Errno
	}{
		{[]api.Con{number(), vast()}, api.ErrClass}, {[]api.Con{vast(), number()}, api.ErrBudget}, {[]api.Con{number(), tooMany}, api.ErrClass}, {[]api.Con{tooMany, number()}, api.ErrFull}, {[]api.Con{vast(), tooMany}, api.ErrBudget}, {[]api.Con{tooMany, vast()}, api.ErrFull}, {[]api.Con{none, number(), vast()}, api.ErrClass}, {[]api.Con{none, vast(), number()}, api.ErrBudget}, {[]api.Con{none, tooMany, number()}, api.ErrFull}, {[]api.Con{two, two, tooMany}, api.ErrFull}, {[]api.Con{mu(number()), vast()}, api.ErrClass}, {[]api.Con{named(api.CRecord, "a b", none, number()), vast()}, api.ErrClass},
	} {
		names := labels(len(c.l))
		for _, op := range []int{api.CRecord, api.CSum} {
			x := api.Con{Op: op, Names: names, L: c.l}
			for _, x := range []api.Con{x, mu(x), named(api.CSum, "A B", none, x), named(api.CRecord, "a b c", none, none, x)} {
				if l, e := All(x, 20); e != c.want || len(l) > 0 {
					t.Error(i, op, len(l), e)
				}
			}
		}
	}
}

// Lists that are as long as permitted, and longer ones.
func TestLongestLists(t *testing.T) {
	none, unit := con("[]"), con("{}")
	fields := func(l ...api.Con) api.Con { return api.Con{Op: api.CRecord, Names: labels(len(l)), L: l} }
	sum := func(l ...api.Con) api.Con { return api.Con{Op: api.CSum, Names: labels(len(l)), L: l} }
	for i, c := range []struct {
		c    api.Con
		want int // how many values there are, or -1 for too many
	}{
		{choice(api.MaxList), 1000}, {sum(choice(999), unit), 1000}, {sum(choice(1000), unit), -1}, {sum(unit, choice(1000)), -1}, {sum(choice(1000), none), 1000}, {sum(choice(500), choice(500)), 1000}, {sum(choice(500), choice(501)), -1}, {sum(choice(600), choice(600), none), -1}, {sum(choice(400), choice(400), choice(400)), -1},
		{fields(choice(40), choice(25)), 1000}, {fields(choice(7), choice(11), choice(13)), -1}, {fields(choice(7), choice(11), choice(12)), 924}, {fields(choice(1000), unit, unit), 1000}, {fields(choice(1000), choice(2)), -1}, {fields(choice(2), choice(1000)), -1}, {fields(choice(1000), choice(1000)), -1},
		// After its first fields were gone through, the list of a record is that of the records of these fields.
		{fields(choice(1000), none), 0}, {fields(none, choice(1000), choice(1000)), 0}, {fields(choice(1000), none, choice(1000)), 0}, {fields(choice(40), choice(25), none), 0}, {fields(choice(41), choice(25), none), -1}, {fields(choice(1000), choice(1000), none), -1}, {fields(choice(2), choice(1000), none), -1}, {fields(choice(10), choice(10), choice(10), choice(2), none), -1}, {fields(choice(10), choice(10), choice(10), none, choice(2)), 0},
		{fields(choice(1000), choice(1000), number()), -1}, {sum(choice(1000), unit, number()), -1}, {sum(choice(600), choice(600), vast()), -1},
		{sum(fields(choice(25), choice(18)), fields(choice(18), choice(25)), choice(100)), 1000}, {sum(fields(choice(25), choice(18)), fields(choice(18), choice(25)), choice(101)), -1}, {mu(choice(1000)), 1000}, {mu(sum(choice(1000), unit)), -1}, {fields(mu(choice(1000)), mu(choice(1))), 1000}, {fields(mu(choice(1000)), mu(choice(2))), -1},
	} {
		for _, depth := range []int{8, 400} {
			if c.want < 0 {
				expectNoList(t, c.c, depth, api.ErrFull)
				continue
			}
			l, e := All(c.c, depth)
			if e != api.OK || len(l) != c.want {
				t.Error(i, len(l), e)
			}
			for at := 0; at < len(l); at += 111 {
				expectFits(t, l[at], c.c, true, api.OK)
			}
		}
		want, e := wantAll(c.c, 8)
		if l, f := All(c.c, 8); e != f || !alike(l, want) {
			t.Error(i, e, f)
		}
	}
	// Few values up to some depth, too many up to the next one.
	tree := con(treeText)
	counts := map[int]int{0: 0, 2: 0, 3: 1, 5: 1, 6: 2, 8: 2, 9: 5, 11: 5, 12: 26, 15: 677, 17: 677}
	for depth := range 401 {
		want, known := counts[depth]
		if l, e := All(tree, depth); known && (e != api.OK || len(l) != want) || depth >= 18 && (e != api.ErrFull || len(l) > 0) {
			t.Error(depth, len(l), e)
		}
	}
}

// P14.6: all data of at most this depth that fits the type.
func TestAllIsAll(t *testing.T) {
	universe := make([][]api.Value, 5)
	for depth := range universe {
		universe[depth] = dataUpTo(depth)
	}
	several := 0
	for _, c := range randomTypes(1441, 250, true) {
		if text, e := normal.Text(c); e != api.OK || strings.Contains(text, "{1:") || strings.Contains(text, "{A:") || strings.Contains(text, "[a:") {
			// The data has no such labels.
			continue
		}
		for depth := range universe {
			l, e := All(c, depth)
			if e != api.OK {
				t.Fatal(brief(c), e)
			}
			found := map[string]bool{}
			for _, v := range l {
				found[wantText(v)] = true
			}
			n := 0
			for _, v := range universe[depth] {
				if ok, e := wantFits(v, c); e != api.OK {
					t.Fatal(brief(c), e)
				} else if ok {
					n++
					if !found[wantText(v)] {
						t.Fatal(brief(c), depth, brief(v), "is missing")
					}
				}
			}
			if n != len(l) || n != len(found) {
				t.Fatal(brief(c), depth, n, len(l), len(found))
			}
			if n > 1 {
				several++
			}
		}
	}
	if several < 30 {
		t.Error("only", several, "lists of several values")
	}
}

// All types are compared with the chapter's definition, followed place by place.
func TestAllOfAny(t *testing.T) {
	codes := map[api.Errno]int{}
	for _, c := range slices.Concat(handTypes(), randomTypes(1442, 3000, true), randomTypes(1443, 1500, false)) {
		for depth := range 10 {
			want, e := wantAll(c, depth)
			codes[e]++
			if e != api.OK {
				expectNoList(t, c, depth, e)
				continue
			}
			expectAll(t, c, depth, want)
			if len(want) > 100 {
				break
			}
			for i, v := range want {
				if ok, e := Fits(v, c); !ok || e != api.OK || !Data(v) || len(levelsOf(v)) > depth || slices.ContainsFunc(want[:i], func(w api.Value) bool { return Equal(v, w) }) {
					t.Fatal(brief(c), depth, brief(v))
				}
			}
		}
	}
	if codes[api.OK] < 1000 || codes[api.ErrClass] < 1000 {
		t.Error(codes)
	}
}

// All products of small lists, whatever their number is.
func TestAllOfRecords(t *testing.T) {
	for n := range 10 {
		for _, part := range []api.Con{choice(1), choice(2), con(boolText)} {
			c := wideCon(api.CRecord, n, part)
			want, e := wantAll(c, 5)
			if e != api.OK || part.Op == api.CSum && len(part.L) == 2 && len(want) != 1<<n {
				t.Fatal(n, e)
			}
			expectAll(t, c, 5, want)
		}
	}
	for _, sizes := range [][]int{{3, 1, 2, 5}, {1, 1, 1, 7, 2, 2}, {2, 3, 2, 3, 2, 3}, {1, 2, 1, 2, 1, 2, 1, 2, 1, 2, 1, 2}} {
		c := api.Con{Op: api.CRecord, Names: labels(len(sizes)), L: eachOf(sizes, choice)}
		want, e := wantAll(c, 3)
		if e != api.OK {
			t.Fatal(sizes, e)
		}
		expectAll(t, c, 3, want)
	}
}

// What was found at one depth may be asked for at another one, in any order.
func TestAllAtSeveralDepths(t *testing.T) {
	for _, s := range []string{
		"(mu *. {a: [A: {} | B: #0], b: [A: {} | B: #0]})", "{a: [A: {} | B: [A: {}]], b: [B: [A: {} | B: [A: {}]]], c: [A: {} | B: [A: {}]]}", "{a: [A: " + natText + "], b: " + natText + "}", "{a: " + natText + ", b: [A: [A: " + natText + "]]}", "{a: [A: " + natText + "], b: [A: {} | B: " + natText + "], c: []}", "{a: [A: [A: [A: " + boolText + "]]], b: " + boolText + "}", "{a: " + boolText + ", b: [A: [A: [A: " + boolText + "]]]}",
		"{a: " + boolText + ", b: [A: " + treeText + " | B: " + boolText + "], c: [A: [B: " + treeText + "]]}", "(mu *. [A: {a: #0, b: " + boolText + "} | B: {a: " + boolText + ", b: []} | C: {}])", "(mu *. {a: [A: #0 | B: " + boolText + "], b: [A: " + boolText + " | B: {}]})", "(mu *. [A: (mu *. [A: #0 | B: #1 | C: {}]) | B: {}])", "(mu *. [A: {a: (mu *. [A: #0 | B: #1 | C: {}]), b: #0} | B: {}])", "[A: int | B: " + natText + "]", "{a: " + natText + ", b: [A: [A: [A: int]]]}", "{a: [A: [A: [A: {b: int}]]], b: " + natText + "}", "{a: [], b: [A: [A: [A: {b: int}]]], c: [A: [A: {b: int}]]}",
		"{a: [A: [A: [A: {a: " + natText + ", b: {}}]]], b: {a: " + natText + ", b: {}}}", "{a: [A: [A: [A: {a: {}, b: " + natText + "}]]], b: {a: {}, b: " + natText + "}}", "{a: [A: [A: [A: [A: " + natText + " | B: {}]]]], b: [A: " + natText + " | B: {}]}", "{a: [A: [A: [A: [A: {} | B: " + natText + "]]]], b: [A: {} | B: " + natText + "]}", "{a: [A: [A: " + natText + "]], b: " + natText + ", c: [A: " + natText + "]}",
	} {
		c := con(s)
		for depth := range 13 {
			want, e := wantAll(c, depth)
			if e != api.OK {
				expectNoList(t, c, depth, e)
			} else {
				expectAll(t, c, depth, want)
			}
		}
	}
}

// Types whose places are far too many to be gone through one by one.
func TestAllOfDeepTypes(t *testing.T) {
	for _, s := range []string{"(mu *. {1: #0, 2: #0})", "(mu *. [A: {1: #0, 2: #0} | B: [A: #0 | B: #0]])", "(mu *. {a: [A: #0 | B: #0 | C: []], b: (mu *. {a: #0, b: #1}), c: " + natText + "})", "((mu * -> *. (fn *. {1: (#1 #0), 2: (#1 #0), 3: #0})) " + boolText + ")", "(mu *. [A: {a: [], b: #0, c: #0} | B: {a: #0, b: [], c: #0}])"} {
		for _, depth := range []int{7, 100, 399, 400} {
			expectAll(t, con(s), depth, nil)
		}
	}
	for _, s := range []string{"(mu *. {1: #0, 2: [A: #0 | B: int]})", "(mu *. {1: {a: #0, b: #0}, 2: [A: {1: #0, 2: #0} | B: text]})"} {
		expectNoList(t, con(s), 400, api.ErrClass)
	}
	one := con("(mu *. [A: {1: #0, 2: #0} | B: {1: {}, 2: []} | C: (mu *. [A: {1: #0, 2: #1} | B: {1: #0, 2: #0}])])")
	expectAll(t, one, 400, nil)
	// Large constructors, whose text would be too long.
	large := mu(named(api.CRecord, "a b c", api.Con{Op: api.CVar}, api.Con{Op: api.CVar}, wideCon(api.CRecord, 900, con(natText))))
	large.L[0].L[2].L[0] = con("[]")
	expectAll(t, large, 400, nil)
	if _, e := normal.Text(large); e != api.ErrFull {
		t.Error(e)
	}
	// The recursion comes before what is finite, or after it.
	for _, s := range []string{"(mu *. [A: {a: #0, b: []} | B: {a: %, b: %, c: %}])", "(mu *. [A: {a: %, b: %, c: %} | B: {a: #0, b: []}])", "(mu *. [A: {a: [], b: %, c: #0, d: %} | B: {a: %, b: {a: %, b: %}}])"} {
		c := con(strings.ReplaceAll(s, "%", boolText))
		l, e := All(c, 400)
		if short, f := All(c, 8); e != api.OK || f != api.OK || len(l) != 8 || !alike(l, short) {
			t.Error(s, len(l), e, len(short), f)
		}
	}
	// One value for each depth.
	l, e := All(con(natText), 400)
	if e != api.OK || len(l) != 199 || !alike(l[198], roll(inject("Z", unit()))) || len(levelsOf(l[0])) != 399 {
		t.Error(len(l), e)
	}
}

// twice returns a type with one value, which contains that of c twice.
func twice(c api.Con) api.Con { return capp(con("(mu * -> *. (fn *. {1: #0, 2: #0}))"), c) }

// What has too many nodes is no value.
func TestAllOfHugeValues(t *testing.T) {
	c, v := con("{}"), unit()
	for n := range 100 {
		l, e := All(c, 400)
		if n <= 12 {
			if e != api.OK || len(l) != 1 || !alike(l[0], v) {
				t.Error(n, len(l), e)
			}
			v = roll(record("1 2", v, v))
		} else if e != api.OK || len(l) > 0 {
			t.Error(n, len(l), e)
		}
		c = twice(c)
	}
	c = con("{}")
	for range 12 {
		c = twice(c)
	}
	expectLength := func(c api.Con, want int) {
		t.Helper()
		l, e := All(c, 400)
		if e != api.OK || len(l) != want || slices.ContainsFunc(l, func(v api.Value) bool { return !Data(v) }) {
			t.Error(brief(c), len(l), e)
		}
	}
	some := named(api.CSum, "A B", c, con("{}"))
	expectLength(named(api.CRecord, "a b", c, c), 0)
	expectLength(named(api.CSum, "A B", c, c), 2)
	expectLength(named(api.CSum, "A B", named(api.CRecord, "a b", c, c), c), 1)
	expectLength(named(api.CRecord, "a b", some, some), 3)
	expectLength(named(api.CRecord, "a b c", some, some, some), 4)
	expectLength(named(api.CRecord, "a b", mu(some), named(api.CSum, "A B", some, some)), 6)
	// The value of c has 12,286 nodes.
	for n := 20000 - 12286 - 3; n <= 20000-12286+3; n++ {
		rest := unitsOfSize(n)
		permitted := func(more int) int { return map[bool]int{true: 1}[12286+n+more <= api.MaxNodes] }
		expectLength(named(api.CRecord, "a b", c, rest), permitted(1))
		expectLength(named(api.CRecord, "a b c", rest, con("{}"), c), permitted(2))
		expectLength(mu(named(api.CRecord, "a b", c, rest)), permitted(2))
		expectLength(named(api.CSum, "A B", named(api.CRecord, "a b", c, rest), con("[]")), permitted(2))
	}
}

// unitsOfSize returns a type with one value, which has n nodes.
func unitsOfSize(n int) api.Con {
	switch n {
	case 1:
		return con("{}")
	case 2:
		return con("{a: {}}")
	}
	return named(api.CRecord, "a b", unitsOfSize(n/2), unitsOfSize(n-1-n/2))
}
