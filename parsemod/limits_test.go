package parsemod

import (
	"slices"
	"strconv"
	"strings"
	"testing"

	"pilaster/api"
	"pilaster/syntax"
)

// sized is a text in which a part is repeated, with the greatest number of times that is permitted, separated by by.
type sized struct {
	rule, before, part, by, after string
	most                          int
}

func (x sized) text(n int) string {
	return x.before + strings.Join(slices.Repeat([]string{x.part}, n), x.by) + x.after
}

func lists() []sized {
	return []sized{
		{"signature", "", "M", ".", "", 8},
		{"signature", "S with type ", "M", ".", ".t = int", 7},
		{"signature", "sig sharing type ", "M", ".", ".t = u end", 7},
		{"signature", "sig sharing type t = ", "M", ".", ".u end", 7},
		{"signature", "functor (X : ", "M", ".", ") => S", 8},
		{"signature", "functor (X : S) => ", "M", ".", "", 8},
		{"signature", "sig include ", "M", ".", " end", 8},
		{"module", "", "M", ".", "", 8},
		{"module", "M (", "M", ".", ")", 8},
		{"module", "M :> ", "M", ".", " : S", 8},
		{"module", "unpack p : ", "M", ".", " : S", 8},
		{"module", "functor (X : S) => ", "M", ".", " (M)", 8},
		{"decls", "open ", "M", ".", " open M", 8},
		{"decls", "include ", "M", ".", "", 8},
		{"decls", "fun f ", "x", " ", " = 1 val y = 2", 9},
	}
}

// coreLists are texts with a text of layer 4 in which something is repeated.
func coreLists() []sized {
	return []sized{
		{"signature", "sig val x : ", "a", " * ", " end", 9},
		{"signature", "sig val x : ", "M", ".", ".t end", 7},
		{"signature", "sig type t = (", "a", ", ", ") t end", 4},
		{"signature", "sig type t = (module ", "M", ".", ") * t end", 8},
		{"signature", "sig data t = A of ", "a", " * ", " | B of t end", 9},
		{"signature", "S with type t = t -> ", "a", " * ", "", 9},
		{"signature", "(S with type t = t * t -> ", "a", " * ", ") with type u = t", 9},
		{"signature", "functor (X : S with type t = ", "M", ".", ".t) => T", 7},
		{"module", "unpack (", "p", ", ", ") : S", 9},
		{"module", "unpack ", "M", ".", ".p : S", 7},
		{"module", "unpack ", "M", ".", " : S", 8},
		{"module", "unpack let val x = (", "p", ", ", ") in f (x p) end : S", 9},
		{"module", "M (unpack case x of (", "p", ", ", ") => x end : S (M)) : T", 9},
		{"module", "struct val x = (", "1", ", ", ") end", 9},
		{"module", "let val x = (", "1", ", ", ") in M end", 9},
		{"decls", "val x = f (", "1", ", ", ") * 2 + 3", 9},
		{"decls", "val x = a = (", "1", ", ", ") val y = x", 9},
		{"decls", "val x = fn x => if x then y else (", "1", ", ", ") = 2", 9},
		{"decls", "fun f x = ", "M", ".", "", 8},
		{"decls", "fun f x = ", "M", ".", ".x type t = int", 7},
		{"decls", "val x = let fun f ", "x", " ", " = 1 in 2 end", 9},
		{"decls", "val x = case x of C (", "y", ", ", ") => 1 | M => 2 end open M", 9},
		{"decls", "type t = ", "a", " * ", " -> t list type u = t", 9},
		{"decls", "data t = A | B of (", "a", ", ", ") t | C data u = C", 4},
		{"unit", "import A, B; structure X = unpack (", "p", ", ", ") : S", 9},
	}
}

func TestListsAtTheirBounds(t *testing.T) {
	for _, x := range append(lists(), coreLists()...) {
		for n := 2; n <= x.most; n++ {
			check(t, x.rule, x.text(n))
			if r := read(t, x.rule, x.text(n)); r.e != api.OK {
				t.Error(x.text(n), r)
			}
		}
		for _, n := range []int{x.most + 1, x.most + 2, 20, 100, 1000} {
			expect(t, x.rule, x.text(n), result{e: api.ErrFull})
		}
	}
}

// expectAs expects of the tokens of a long text, with others after them, what the definitions say of a short one: an error at the same place from its end, or that the long one is not well-formed.
func expectAs(t *testing.T, rule, short, long string, after []api.Token) {
	t.Helper()
	replaced := func(s string) string {
		l := tokens(s)
		return written(append(l[:len(l)-1:len(l)-1], after...))
	}
	short, long = replaced(short), replaced(long)
	want := want(rule, short)
	if want.e != api.ErrForm && want.e != api.ErrEnd {
		expect(t, rule, long, result{e: api.ErrFull})
		return
	}
	l := tokens(short)
	i := slices.IndexFunc(l, func(t api.Token) bool { return t.At == want.at })
	m := tokens(long)
	expect(t, rule, long, wrongAt(m[len(m)-len(l)+i].At, want.e))
}

// A token that cannot stand there comes before a part that is not well-formed, also if it comes after that: each token is tried at each place after the part.
func TestWrongTokensAfterLongLists(t *testing.T) {
	t.Parallel()
	for _, x := range append(lists(), coreLists()...) {
		after := tokens(x.after)
		after = after[:len(after)-1]
		cut := x
		cut.after = ""
		for k := range len(after) + 1 {
			expectAs(t, x.rule, cut.text(2), cut.text(x.most+2), after[:k])
			for _, c := range alphabet() {
				expectAs(t, x.rule, cut.text(2), cut.text(x.most+2), slices.Concat(after[:k], []api.Token{c}, after[k:]))
			}
		}
	}
}

// However long the part is, its end is found.
func TestWrongTokensAfterListsOfAnyLength(t *testing.T) {
	t.Parallel()
	some := []api.Token{word(")"), word("then"), word(";"), word("="), word("val"), {Kind: api.TokInt, Text: "1"}}
	for _, x := range coreLists() {
		for n := x.most + 2; n < 70; n++ {
			for _, c := range some {
				expectAs(t, x.rule, x.text(2), x.text(n), []api.Token{c})
			}
			cut := x
			cut.after = ""
			expectAs(t, x.rule, cut.text(2), cut.text(n), nil)
		}
	}
}

// Parts of any length that are well-formed are compared with the definitions, with each of some tokens after them.
func TestPartsOfAnyLength(t *testing.T) {
	t.Parallel()
	for _, x := range []sized{
		{rule: "signature", before: "sig val x : ", part: "a", by: " -> ", after: " end"},
		{rule: "signature", before: "S with type t = ", part: "a", by: " ", after: " with type u = t"},
		{rule: "signature", before: "sig data t = A of ", part: "(a)", by: " -> ", after: " | B end"},
		{rule: "module", before: "unpack (", part: "f", by: " ", after: ") : S"},
		{rule: "module", before: "unpack let ", part: "val x = 1", by: " ", after: " in x end : S"},
		{rule: "module", before: "struct val x = ", part: "f (x)", by: " ^ ", after: " val y = 1 end"},
		{rule: "decls", before: "val x = ", part: "1", by: " + ", after: " = 2"},
		{rule: "decls", before: "val x = ", part: "M", by: " ", after: " .x open M"},
		{rule: "decls", before: "fun f x = ", part: "if x then", by: " y else ", after: " y else z"},
		{rule: "unit", before: "val x = ", part: "case 1 of x => 1 end", by: " * ", after: ""},
	} {
		for n := 1; n < 20; n++ {
			check(t, x.rule, x.text(n))
			for _, c := range []string{"", ")", "then", ".", "x", "M", "=", "end"} {
				check(t, x.rule, x.text(n)+" "+c)
				check(t, x.rule, x.before+strings.TrimSuffix(x.text(n)[len(x.before):], x.after)+" "+c)
			}
		}
	}
}

func TestPartsThatAreNotWellFormed(t *testing.T) {
	five := "('a, 'b, 'c, 'd, 'e)"
	for _, x := range []struct{ rule, s string }{
		{"decls", "data t = A | A"}, {"decls", "data t = A | B of int | C | A of t"}, {"decls", "type ('a, 'a) t = int"}, {"decls", "type ('a, 'b, 'a) t = int"},
		{"decls", "type " + five + " t = int"}, {"decls", "data ('a, 'a) t = A"}, {"decls", "data " + five + " t = A"}, {"decls", "structure X = struct data t = A | A end"},
		{"decls", "val x = 1 data t = A | A val y = 1"}, {"signature", "sig data t = A | A end"}, {"signature", "sig type ('a, 'a) t end"}, {"signature", "sig type " + five + " t end"},
		{"signature", "sig type ('a, 'b, 'b) t = int end"}, {"signature", "S with type ('a, 'a) t = int"}, {"signature", "S with type " + five + " t = int with type u = t"},
		{"signature", "functor (X : sig data t = A | A end) => S"}, {"module", "functor (X : sig type ('a, 'a) t end) => M"}, {"module", "M : (S with type ('a, 'a) t = int)"},
		{"module", "let data t = A | A in M end"},
	} {
		expect(t, x.rule, x.s, result{e: api.ErrFull})
		check(t, x.rule, x.s)
		for _, c := range []string{")", "val", ";", "M .", "1"} {
			check(t, x.rule, x.s+" "+c)
		}
		if x.rule == "decls" {
			expect(t, "unit", "import A, B; "+x.s, result{e: api.ErrFull})
			expect(t, "unit", "import A, A; "+x.s, result{e: api.ErrTwice})
			expect(t, "unit", "import A A; "+x.s, column(10, api.ErrForm))
		}
	}
	// Parameters of functions may be equal, and types may have four parameters.
	for _, s := range []string{"fun f x x = x", "type ('a, 'b, 'c, 'd) t = int", "val x = 1 val x = 2", "structure M = N structure M = N"} {
		if r := read(t, "decls", s); r.e != api.OK {
			t.Error(s, r)
		}
	}
}

func TestNumberOfDeclarations(t *testing.T) {
	for _, one := range []string{"open M ", "val x=1 ", "type t=a "} {
		all, more := strings.Repeat(one, 1000), strings.Repeat(one, 1001)
		for _, rule := range []string{"decls", "unit"} {
			if r := read(t, rule, all); r.e != api.OK || len(r.trees) != 1000 {
				t.Error(rule, one, len(r.trees), r.e)
			}
			expect(t, rule, more, result{e: api.ErrFull})
			// A wrong token comes first.
			expect(t, rule, more+")", column(len(more)+1, api.ErrForm))
			expect(t, rule, more+"val", column(len(more)+4, api.ErrEnd))
		}
		expect(t, "unit", "import A;"+more, result{e: api.ErrFull})
		expect(t, "unit", "import A,A;"+more, result{e: api.ErrTwice})
		if r := read(t, "unit", "import A;"+all); r.e != api.OK || len(r.trees) != 1000 || !slices.Equal(r.imports, []string{"A"}) {
			t.Error(one, len(r.trees), r.e)
		}
		// The declarations of a module are limited by its nodes only.
		for _, s := range []string{"struct " + more + "end", "let " + more + "in M end"} {
			if r := read(t, "module", s); r.e != api.OK || len(r.trees[0].L) < 1001 {
				t.Error(s[:20], r.e)
			}
		}
	}
	if r := read(t, "signature", "sig "+strings.Repeat("type t ", 2000)+"end"); r.e != api.OK || len(r.trees[0].L) != 2000 {
		t.Error(r.e)
	}
}

func TestNumberOfImports(t *testing.T) {
	units := func(n int) []string {
		var l []string
		for i := range n {
			l = append(l, "U"+strconv.Itoa((i+n/2)%n))
		}
		return l
	}
	source := func(l []string) string { return "import " + strings.Join(l, ",") + ";open M" }
	for n := 1; n <= 16; n++ {
		expect(t, "unit", source(units(n)), result{imports: units(n), trees: []api.Syn{path(api.DOpen, "M")}})
		l := append(units(n), "U0")
		expect(t, "unit", source(l), result{e: api.ErrTwice})
		slices.Reverse(l)
		expect(t, "unit", source(l), result{e: api.ErrTwice})
	}
	for _, n := range []int{17, 18, 100, 2000} {
		s := source(units(n))
		expect(t, "unit", s, result{e: api.ErrFull})
		expect(t, "unit", source(append(units(n), "U3")), result{e: api.ErrTwice})
		expect(t, "unit", s+" )", column(len(s)+2, api.ErrForm))
		expect(t, "unit", s+".", column(len(s)+2, api.ErrEnd))
	}
}

// A unit may have the name of one of its imports here.
func TestUnitsMayImportThemselves(t *testing.T) {
	expect(t, "unit", "import U;", result{imports: []string{"U"}})
}

// nest is a text in which something is nested. Its depth is base, and step more with each time that before and after are put around it.
type nest struct {
	rule, before, middle, after string
	base, step                  int
}

func (x nest) text(n int) string {
	return strings.Repeat(x.before, n) + x.middle + strings.Repeat(x.after, n)
}

func nests() []nest {
	return []nest{
		{"signature", "functor(X:S)=>", "S", "", 1, 1}, {"signature", "generative(X:S)=>", "S", "", 1, 1}, {"signature", "functor(X:", "S", ")=>T", 1, 1},
		{"signature", "", "S", " with type t=a", 2, 1}, {"signature", "sig include ", "S", " end", 1, 2}, {"signature", "sig structure X:", "S", " end", 1, 2},
		{"signature", "sig signature T=", "S", " end", 1, 2}, {"signature", "sig include(", "S", ")with type t=a end", 2, 3},
		{"module", "functor(X:S)=>", "M", "", 1, 1}, {"module", "", "M", "(M)", 1, 1}, {"module", "M(", "M", ")", 1, 1}, {"module", "", "M", ":S", 1, 1}, {"module", "", "M", ":>S", 1, 1},
		{"module", "let in ", "M", " end", 1, 1}, {"module", "(let in ", "M", " end:S)", 1, 2}, {"module", "struct structure X=", "M", " end", 1, 2},
	}
}

func TestDepthAtItsBound(t *testing.T) {
	for _, x := range nests() {
		n := (api.MaxDepth - x.base) / x.step
		r := read(t, x.rule, x.text(n))
		if r.e != api.OK || syntax.Depth(r.trees[0]) != x.base+n*x.step {
			t.Error(x, r.at, r.e)
		}
		for _, n := range []int{n + 1, n + 2, 500} {
			s := x.text(n)
			expect(t, x.rule, s, result{e: api.ErrFull})
			expect(t, x.rule, s+" val", column(len(s)+2, api.ErrForm))
		}
	}
}

// The depth of a tree includes that of the types and expressions in it.
func TestDepthWithParts(t *testing.T) {
	for _, x := range []sized{
		{"signature", "sig val x : ", "a -> ", "", "a end", 397}, {"signature", "S with type t = ", "a -> ", "", "a", 397}, {"signature", "sig data t = A of ", "a -> ", "", "a end", 396},
		{"module", "unpack (", "fn x => ", "", "x) : S", 398}, {"module", "struct val x = ", "fn x => ", "", "x end", 397}, {"decls", "val x = ", "fn x => ", "", "x", 398},
		{"decls", "fun f x = ", "~", "", "x fun g x = x", 398}, {"decls", "type t = ", "a -> ", "", "a type u = t", 398}, {"decls", "data t = A of ", "a -> ", "", "a | B", 397},
	} {
		r := read(t, x.rule, x.text(x.most))
		if r.e != api.OK || syntax.Depth(r.trees[0]) != api.MaxDepth {
			t.Error(x, r.at, r.e)
		}
		for _, n := range []int{x.most + 1, x.most + 2, 600} {
			s := x.text(n)
			expect(t, x.rule, s, result{e: api.ErrFull})
			expect(t, x.rule, s+" )", column(len(s)+2, api.ErrForm))
		}
	}
}

// Parentheses leave no trace, so that any number of them is permitted.
func TestManyParentheses(t *testing.T) {
	around := func(s string) string {
		n := (api.MaxText - len(s)) / 2
		return strings.Repeat("(", n) + s + strings.Repeat(")", n)
	}
	expect(t, "signature", around("S"), result{trees: []api.Syn{path(api.GPath, "S")}})
	expect(t, "module", around("M"), result{trees: []api.Syn{path(api.MPath, "M")}})
	half := strings.Repeat("(", 4000)
	both := half + "S" + strings.Repeat(")", 4000)
	expect(t, "module", both+":"+both, result{trees: []api.Syn{node(api.MShow, path(api.MPath, "S"), path(api.GPath, "S"))}})
	expect(t, "module", both+":"+half, column(12003, api.ErrEnd))
	for _, rule := range []string{"signature", "module"} {
		all := around("S")
		expect(t, rule, all[:len(all)-1], column(len(all), api.ErrEnd))
		expect(t, rule, all[:len(all)-1]+" ", column(len(all)+1, api.ErrEnd))
		expect(t, rule, all[1:], column(len(all)-1, api.ErrForm))
		expect(t, rule, all+"  ", result{e: api.ErrFull})
		expect(t, rule, strings.Repeat("(", api.MaxText), column(api.MaxText+1, api.ErrEnd))
	}
}

// deep returns a declaration of 762 nodes in 578 bytes.
func deep() string { return "val x=" + strings.Repeat(`1""`, 190) + "1 " }

// A tree of too many nodes is refused, but declarations are judged one by one where there is no tree around them.
func TestNumberOfNodes(t *testing.T) {
	for n := 24; n <= 28; n++ {
		l := strings.Repeat(deep(), n)
		for _, rule := range []string{"decls", "unit"} {
			if r := read(t, rule, l); r.e != api.OK || len(r.trees) != n || syntax.Size(r.trees[0]) != 762 {
				t.Error(rule, n, r.at, r.e)
			}
		}
		r := read(t, "module", "struct "+l+"end")
		if n*762+1 > api.MaxNodes {
			expect(t, "module", "struct "+l+"end", result{e: api.ErrFull})
			expect(t, "decls", "structure X=struct "+l+"end", result{e: api.ErrFull})
			expect(t, "module", "struct "+l+")", column(len(l)+8, api.ErrForm))
		} else if r.e != api.OK || syntax.Size(r.trees[0]) != n*762+1 {
			t.Error(n, r.at, r.e)
		}
	}
}

// A source as long as possible has thousands of parts, or a single one.
func TestLongSources(t *testing.T) {
	for _, x := range []struct {
		sized
		e api.Errno
	}{
		{sized{rule: "module", before: "struct ", part: "val x=1 ", after: "end"}, api.OK},
		{sized{rule: "module", before: "struct ", part: "type t=a*a*a*a*a*a*a*a*a*a ", after: "end"}, api.ErrFull},
		{sized{rule: "module", before: "struct data t=A", part: "|A of a", after: " end"}, api.ErrFull},
		{sized{rule: "module", before: "M", part: "(unpack(1):S)"}, api.ErrFull},
		{sized{rule: "signature", before: "sig ", part: "val x:t ", after: "end"}, api.OK},
		{sized{rule: "signature", before: "sig ", part: "val x:(a,a,a,a,a)t ", after: "end"}, api.ErrFull},
		{sized{rule: "decls", part: "val x=(1,1,1,1,1,1,1,1,1,1)"}, api.ErrFull},
		{sized{rule: "decls", before: "val x=1", part: "+1"}, api.ErrFull},
		{sized{rule: "decls", before: "val x=(1", part: ",1", after: ")"}, api.ErrFull},
		{sized{rule: "decls", before: "type t=a", part: "->a"}, api.ErrFull},
		{sized{rule: "unit", before: "val x=", part: "("}, api.ErrEnd},
	} {
		n := (api.MaxText - len(x.before) - len(x.after) - 1) / len(x.part)
		s := x.text(n)
		if r := read(t, x.rule, s); r.e != x.e {
			t.Error(x, r.at, r.e)
		}
		expect(t, x.rule, s+";", column(len(s)+1, api.ErrForm))
	}
}
