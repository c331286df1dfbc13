package printer

import (
	"math/rand"
	"reflect"
	"slices"
	"strconv"
	"strings"
	"testing"

	"pilaster/api"
	"pilaster/lexer"
	"pilaster/parsemod"
	"pilaster/syntax"
)

func text(n int) api.Syn { return api.Syn{Op: api.XText, S: strings.Repeat("a", n)} }

func value(x api.Syn) api.Syn { return api.Syn{Op: api.DVal, S: "x", L: []api.Syn{x}} }

// sum returns the sum of numbers, whose text has 4n - 3 bytes.
func sum(n int) api.Syn {
	x := api.Syn{Op: api.XInt, N: 1}
	for range n - 1 {
		x = api.Syn{Op: api.XOp, N: api.OpAdd, L: []api.Syn{x, {Op: api.XInt, N: 1}}}
	}
	return x
}

// tuples returns trees of many nodes with one text: tuples of tuples.
func tuples(x api.Syn, levels int) api.Syn {
	for range levels {
		x = api.Syn{Op: api.XTuple, L: slices.Repeat([]api.Syn{x}, api.MaxTuple)}
	}
	return x
}

// P6.2: a text may have MaxText bytes.
func TestLongestTexts(t *testing.T) {
	for n := api.MaxText - 40; n <= api.MaxText; n++ {
		for want, x := range map[string]sample{
			`"` + strings.Repeat("a", n) + `"`:                    {api.CatExpr, text(n)},
			`val x = "` + strings.Repeat("a", n) + `"`:            {api.CatDecl, value(text(n))},
			`unpack "` + strings.Repeat("a", n) + `" : S`:         {api.CatMod, api.Syn{Op: api.MUnpack, L: []api.Syn{text(n), {Op: api.GPath, Names: []string{"S"}}}}},
			`("` + strings.Repeat("a", n) + `", ())`:              {api.CatExpr, api.Syn{Op: api.XTuple, L: []api.Syn{text(n), {Op: api.XTuple}}}},
			`struct val x = "` + strings.Repeat("a", n) + `" end`: {api.CatMod, api.Syn{Op: api.MStruct, L: []api.Syn{value(text(n))}}},
		} {
			s, e := Print(x.cat, x.t)
			if len(want) > api.MaxText {
				if s != "" || e != api.ErrFull {
					t.Error(len(want), len(s), e)
				}
			} else if s != want || e != api.OK {
				t.Error(len(want), len(s), e)
			}
		}
	}
}

// P6.2: the pairs of a literal count.
func TestLongestLiterals(t *testing.T) {
	for _, c := range []string{"\n", "\"", "\\"} {
		half := api.MaxText/2 - 1
		for n := half - 2; n <= half+2; n++ {
			x := api.Syn{Op: api.XText, S: strings.Repeat(c, n)}
			want, e := lexer.Quote(x.S)
			if e != api.OK {
				t.Fatal(e)
			}
			s, e := Print(api.CatExpr, x)
			if n > half && (s != "" || e != api.ErrFull) || n <= half && (s != want || e != api.OK) {
				t.Error(n, len(s), e)
			}
		}
		x := api.Syn{Op: api.XText, S: strings.Repeat(c, api.MaxText)}
		if s, e := Print(api.CatExpr, x); s != "" || e != api.ErrFull {
			t.Error(len(s), e)
		}
		x.S += c
		if s, e := Print(api.CatExpr, x); s != "" || e != api.ErrArg {
			t.Error(len(s), e)
		}
	}
}

// P6.3: the newlines count, and so does the line of imports.
func TestLongestDeclarations(t *testing.T) {
	imports := []string{"A", "B"}
	for n := api.MaxText - 60; n <= api.MaxText; n++ {
		l := []api.Syn{value(api.Syn{Op: api.XTuple}), value(text(n))}
		lines := "val x = ()\nval x = \"" + strings.Repeat("a", n) + "\"\n"
		checkSize(t, func() (string, api.Errno) { return Decls(l) }, lines)
		checkSize(t, func() (string, api.Errno) { return Unit(api.Unit{Name: "U", Decls: l}) }, lines)
		checkSize(t, func() (string, api.Errno) { return Unit(api.Unit{Name: "U", Imports: imports, Decls: l}) }, "import A, B;\n"+lines)
	}
}

// checkSize expects a text, unless it is too long.
func checkSize(t *testing.T, f func() (string, api.Errno), want string) {
	t.Helper()
	s, e := f()
	if len(want) > api.MaxText {
		if s != "" || e != api.ErrFull {
			t.Error(len(want), len(s), e)
		}
	} else if s != want || e != api.OK {
		t.Error(len(want), len(s), e)
	}
}

// P6.2: trees with very many nodes, or as deep as possible.
func TestLargeTrees(t *testing.T) {
	for n := api.MaxDepth - 2; n <= api.MaxDepth+2; n++ {
		s, e := Print(api.CatExpr, sum(n))
		if want := strings.Repeat("1 + ", n-1) + "1"; n <= api.MaxDepth {
			if s != want || e != api.OK {
				t.Error(n, len(s), e)
			}
		} else if s != "" || e != api.ErrArg {
			t.Error(n, len(s), e)
		}
	}
	// 820, 7381, and 66430 nodes.
	for levels, want := range map[int]api.Errno{3: api.OK, 4: api.ErrFull, 5: api.ErrArg} {
		x := tuples(api.Syn{Op: api.XInt, N: 1234567}, levels)
		s, e := Print(api.CatExpr, x)
		if e != want || (s == "") != (e != api.OK) {
			t.Error(levels, len(s), e)
		}
		if e == api.OK && s != textOf(x) {
			t.Error(levels, s)
		}
	}
	// Not all nodes make a text long.
	wide := api.Syn{Op: api.GSig, L: slices.Repeat([]api.Syn{{Op: api.SpType, S: "t"}}, 2339)}
	s, e := Print(api.CatSig, wide)
	if s != "sig "+strings.Repeat("type t ", 2339)+"end" || e != api.OK {
		t.Error(len(s), e)
	}
	wide.L = append(wide.L, wide.L[0])
	if s, e := Print(api.CatSig, wide); s != "" || e != api.ErrFull {
		t.Error(len(s), e)
	}
}

// P6.3: up to MaxList declarations.
func TestNumberOfDeclarations(t *testing.T) {
	d := api.Syn{Op: api.DOpen, Names: []string{"M"}}
	for n := api.MaxList - 1; n <= api.MaxList+2; n++ {
		l := slices.Repeat([]api.Syn{d}, n)
		want, code := strings.Repeat("open M\n", n), api.OK
		if n > api.MaxList {
			want, code = "", api.ErrArg
		}
		if s, e := Decls(l); s != want || e != code {
			t.Error(n, len(s), e)
		}
		if s, e := Unit(api.Unit{Name: "U", Decls: l}); s != want || e != code {
			t.Error(n, len(s), e)
		}
	}
	// Those of a structure are limited by its nodes only.
	x := api.Syn{Op: api.MStruct, L: slices.Repeat([]api.Syn{d}, api.MaxList+1)}
	if s, e := Print(api.CatMod, x); s != "struct "+strings.Repeat("open M ", api.MaxList+1)+"end" || e != api.OK {
		t.Error(len(s), e)
	}
	// Each declaration is judged by itself, so that there may be more than MaxNodes nodes together.
	many := slices.Repeat([]api.Syn{value(tuples(api.Syn{Op: api.XTuple}, 3))}, 25)
	if s, e := Decls(many[:4]); s != linesOf(many[:4]) || e != api.OK {
		t.Error(len(s), e)
	}
	if s, e := Decls(many); s != "" || e != api.ErrFull {
		t.Error(len(s), e)
	}
}

// wrongDeclarations returns trees that are no well-formed declarations.
func wrongDeclarations() []api.Syn {
	p, x := []string{"M"}, api.Syn{Op: api.XInt}
	return []api.Syn{
		{}, {Op: -1}, {Op: 1000}, x, {Op: api.MPath, Names: p}, {Op: api.GPath, Names: p}, {Op: api.SpType, S: "t"}, {Op: api.DCtor, S: "A"},
		{Op: api.XRule, L: []api.Syn{{Op: api.PtAny}, x}}, {Op: api.DType, L: []api.Syn{{Op: api.TyVar, S: "'a"}}},
		{Op: api.DOpen}, {Op: api.DOpen, Names: []string{"m"}}, {Op: api.DOpen, Names: p, S: "x"}, {Op: api.DOpen, Names: p, N: 1}, {Op: api.DOpen, Names: p, L: []api.Syn{{}}},
		{Op: api.DVal, S: "end", L: []api.Syn{x}}, {Op: api.DVal, S: "x"}, value(api.Syn{Op: api.XInt, N: -1}), value(api.Syn{Op: api.XOp, N: 13, L: []api.Syn{x, x}}),
		value(api.Syn{Op: api.XText, S: "\t"}), value(api.Syn{Op: api.XText, S: "\x7f"}), value(text(api.MaxText + 1)), value(sum(api.MaxDepth)), value(tuples(x, 5)),
	}
}

// P6.2, P6.3: what is not well-formed is refused before anything is found to be too long.
func TestWrongDeclarations(t *testing.T) {
	good := value(api.Syn{Op: api.XTuple})
	long := slices.Repeat([]api.Syn{value(text(1000))}, 20)
	for _, d := range wrongDeclarations() {
		if s, e := Print(api.CatDecl, d); s != "" || e != api.ErrArg {
			t.Error(d, s, e)
		}
		for _, l := range [][]api.Syn{{d}, {good, d}, {d, good}, {d, d}, append(slices.Clone(long), d), append([]api.Syn{d}, long...)} {
			if s, e := Decls(l); s != "" || e != api.ErrArg {
				t.Error(d, s, e)
			}
			if s, e := Unit(api.Unit{Name: "U", Decls: l}); s != "" || e != api.ErrArg {
				t.Error(d, s, e)
			}
		}
	}
	if s, e := Decls(long); s != "" || e != api.ErrFull {
		t.Error(s, e)
	}
	if s, e := Unit(api.Unit{Name: "U", Decls: long}); s != "" || e != api.ErrFull {
		t.Error(s, e)
	}
	if s, e := Decls(slices.Repeat(long, 51)); s != "" || e != api.ErrArg {
		t.Error(s, e)
	}
}

// P6.2: a tree is printed as one of a category to which it belongs.
func TestWrongCategories(t *testing.T) {
	for _, x := range randomSamples(8, 60) {
		for cat := -2; cat < 12; cat++ {
			want, code := "", api.ErrArg
			if syntax.Valid(cat, x.t) {
				want, code = textOf(x.t), api.OK
				if len(want) > api.MaxText {
					want, code = "", api.ErrFull
				}
			}
			if s, e := Print(cat, x.t); s != want || e != code {
				t.Error(cat, x, s, e)
			}
		}
	}
	for cat := -2; cat < 12; cat++ {
		for _, x := range []api.Syn{{}, {Op: api.DCtor, S: "A"}, {Op: api.XRule, L: []api.Syn{{Op: api.PtAny}, {Op: api.XTuple}}}} {
			if s, e := Print(cat, x); s != "" || e != api.ErrArg {
				t.Error(cat, x, s, e)
			}
		}
		x := tuples(api.Syn{Op: api.XTuple}, 4)
		if s, e := Print(cat, x); s != "" || (e == api.ErrFull) != (cat == api.CatExpr) || e == api.OK {
			t.Error(cat, len(s), e)
		}
	}
	d := api.Syn{Op: api.DType, S: "t", Names: []string{"'a"}, L: []api.Syn{{Op: api.TyVar, S: "'a"}}}
	for _, cat := range []int{api.CatDecl, api.CatSpec} {
		if s, e := Print(cat, d); s != "type 'a t = 'a" || e != api.OK {
			t.Error(cat, s, e)
		}
	}
}

// P6.3: the name and the imports of a unit.
func TestWrongUnits(t *testing.T) {
	for _, name := range []string{"", "a", "end", "A.B", "A ", "'a", "1", "Ä", "_A", "A" + strings.Repeat("a", api.MaxName)} {
		for _, u := range []api.Unit{{Name: name}, {Name: "U", Imports: []string{name}}, {Name: "U", Imports: []string{"A", name, "B"}}} {
			if s, e := Unit(u); s != "" || e != api.ErrArg {
				t.Error(u, s, e)
			}
		}
	}
	var l []string
	for i := range api.MaxUnits + 2 {
		u := api.Unit{Name: "U1", Imports: slices.Clone(l)}
		want, code := sourceOf(u), api.OK
		if i > api.MaxUnits {
			want, code = "", api.ErrArg
		}
		if s, e := Unit(u); s != want || e != code {
			t.Error(u, s, e)
		}
		for j := range l {
			u.Imports = append(slices.Clone(l), l[j])
			if s, e := Unit(u); s != "" || e != api.ErrArg {
				t.Error(u, s, e)
			}
		}
		l = append([]string{"U" + strconv.Itoa(i)}, l...)
	}
	long := []api.Syn{value(text(api.MaxText))}
	for _, x := range []struct {
		u api.Unit
		e api.Errno
	}{
		{api.Unit{Name: "u", Decls: long}, api.ErrArg},
		{api.Unit{Name: "U", Imports: []string{"A", "A"}, Decls: long}, api.ErrArg},
		{api.Unit{Name: "U", Imports: []string{"A"}, Decls: long}, api.ErrFull},
	} {
		if s, e := Unit(x.u); s != "" || e != x.e {
			t.Error(x.u.Name, x.u.Imports, s, e)
		}
	}
}

// endless returns a tree of shared memory with more nodes than could be gone through, one that contains itself, and one with very many parts.
func endless() []api.Syn {
	unit := api.Syn{Op: api.XTuple}
	shared := unit
	for range 63 {
		shared = api.Syn{Op: api.XApp, L: []api.Syn{shared, shared}}
	}
	self := api.Syn{Op: api.XApp, L: []api.Syn{unit, unit}}
	self.L[0] = self
	return []api.Syn{shared, self, {Op: api.XTuple, L: slices.Repeat([]api.Syn{unit}, 1<<20)}}
}

// P1: any arguments.
func TestAnyArguments(t *testing.T) {
	for _, x := range endless() {
		if s, e := Print(api.CatExpr, x); s != "" || e != api.ErrArg {
			t.Error(s, e)
		}
		if s, e := Decls([]api.Syn{value(x)}); s != "" || e != api.ErrArg {
			t.Error(s, e)
		}
		if s, e := Unit(api.Unit{Name: "U", Decls: []api.Syn{value(x)}}); s != "" || e != api.ErrArg {
			t.Error(s, e)
		}
		if n := Level(x); n != 8 && n != 9 {
			t.Error(n)
		}
	}
	r := rand.New(rand.NewSource(9))
	for _, x := range randomSamples(9, 300) {
		y := damaged(r, x.t)
		want, code := "", api.ErrArg
		if syntax.Valid(x.cat, y) {
			want, code = textOf(y), api.OK
			if len(want) > api.MaxText {
				want, code = "", api.ErrFull
			}
		}
		if s, e := Print(x.cat, y); s != want || e != code {
			t.Error(x.cat, y, s, e)
		}
	}
}

// damaged returns a tree with a change at a random place.
func damaged(r *rand.Rand, t api.Syn) api.Syn {
	if len(t.L) > 0 && r.Intn(4) > 0 {
		i := r.Intn(len(t.L))
		t.L = slices.Clone(t.L)
		t.L[i] = damaged(r, t.L[i])
		return t
	}
	switch r.Intn(6) {
	case 0:
		t.Op += r.Intn(7) - 3
	case 1:
		t.N += r.Intn(5) - 2
	case 2:
		t.S = []string{"", "x", "M", "end", "'a", "\x00"}[r.Intn(6)]
	case 3:
		t.Names = [][]string{nil, {"x"}, {"M"}, {"M", "x"}, {"x", "M"}, {"'a", "'a"}}[r.Intn(6)]
	case 4:
		t.L = t.L[:r.Intn(len(t.L)+1)]
	case 5:
		t.L = append(slices.Clone(t.L), api.Syn{Op: r.Intn(90)})
	}
	return t
}

// copied returns a tree that is equal to t, and shares no memory with it.
func copied(t api.Syn) api.Syn {
	t.Names, t.L = slices.Clone(t.Names), slices.Clone(t.L)
	for i := range t.L {
		t.L[i] = copied(t.L[i])
	}
	return t
}

// P3: equal arguments have equal results, and none is modified.
func TestArgumentsStay(t *testing.T) {
	for _, x := range randomSamples(10, 40) {
		before := copied(x.t)
		s, e := Print(x.cat, x.t)
		n := Level(x.t)
		again, f := Print(x.cat, before)
		if s != again || e != f || n != Level(before) || !reflect.DeepEqual(x.t, before) {
			t.Error(x, s, e, again, f)
		}
	}
	m := newMaker(11, 2)
	for range 20 {
		imports, l := []string{"C", "B", "A"}, declarations(m, 3)
		u := api.Unit{Name: "U", Imports: imports, Decls: l}
		before := copied(api.Syn{L: l})
		s, e := Unit(u)
		lines, f := Decls(l)
		if again, g := Unit(u); s != again || e != g || e != api.OK || f != api.OK || s != "import C, B, A;\n"+lines {
			t.Error(s, e, again, g)
		}
		if !slices.Equal(imports, []string{"C", "B", "A"}) || !reflect.DeepEqual(l, before.L) {
			t.Error(u)
		}
	}
}

// P6.4: a source with few blanks may have a text that is too long.
func TestLongSources(t *testing.T) {
	for _, x := range []struct {
		part string
		n    int
		e    api.Errno
	}{
		{"val x = \"a b\"\n", 1000, api.OK}, {"val x=(1)", 1000, api.OK}, {"val x=1*2*3*4*5 ", 500, api.OK},
		{"val x=1*2*3*4*5 ", 900, api.ErrFull}, {"type t=a*b*c*d ", 1000, api.ErrFull},
	} {
		source := strings.Repeat(x.part, x.n)
		l, at, e := parsemod.Decls(source)
		if e != api.OK {
			t.Fatal(x, at, e)
		}
		s, e := Decls(l)
		if e != x.e || e == api.OK && s != linesOf(l) || e != api.OK && s != "" {
			t.Error(x, len(s), e)
		}
	}
}
