package syntax

import (
	"fmt"
	"math"
	"math/rand"
	"regexp"
	"slices"
	"strconv"
	"strings"
	"testing"
	"time"

	"pilaster/api"
)

// row is a row of the chapter's table, written once more with regular expressions: of the text S, of the quoted Names, and of the kinds of the parts.
type row struct {
	op, low, high      int
	text, names, parts *regexp.Regexp
}

const (
	lowerForm = `"[a-z][A-Za-z0-9_]{0,23}"`
	upperForm = `"[A-Z][A-Za-z0-9_]{0,23}"`
	modForm   = `(?:` + upperForm + `){1,8}`
	valForm   = `(?:` + upperForm + `){0,7}` + lowerForm
	varForm   = `"'(?:[a-z][A-Za-z0-9_]{0,22}|#)"`
	varsForm  = `(?:` + varForm + `){0,4}`
)

// letter returns a letter that stands for a kind.
func letter(op int) string {
	if op < 0 || op > 999 {
		return "?"
	}
	return string(rune(0x100 + op))
}

// class returns a class of the letters for some kinds.
func class(ops ...int) string {
	s := "["
	for _, op := range ops {
		s += letter(op)
	}
	return s + "]"
}

// categories returns the kinds of each category, all written out.
func categories() map[int][]int {
	return map[int][]int{
		api.CatType: {1, 2, 3, 4, 5},
		api.CatPat:  {11, 12, 13, 14, 15},
		api.CatExpr: {21, 22, 23, 24, 25, 26, 27, 28, 29, 31, 32, 33, 34},
		api.CatDecl: {41, 42, 43, 44, 46, 47, 48, 49, 50},
		api.CatSpec: {61, 62, 63, 64, 65, 66, 43, 44},
		api.CatSig:  {71, 72, 73, 74},
		api.CatMod:  {81, 82, 83, 84, 85, 86, 87, 88},
	}
}

// expand returns the regular expression for parts that are written with letters: those of categories in capitals.
func expand(parts string) string {
	c := categories()
	return strings.NewReplacer(
		"T", class(c[api.CatType]...), "P", class(c[api.CatPat]...), "E", class(c[api.CatExpr]...), "D", class(c[api.CatDecl]...),
		"S", class(c[api.CatSpec]...), "G", class(c[api.CatSig]...), "M", class(c[api.CatMod]...),
		"r", letter(api.XRule), "c", letter(api.DCtor), "g", letter(api.GPath), "t", letter(api.DType), "y", letter(api.TyPath),
		"l", class(api.DVal, api.DFun, api.DUnpack),
	).Replace(parts)
}

func rowOf(op, low, high int, text, names, parts string) row {
	whole := func(s string) *regexp.Regexp { return regexp.MustCompile(`\A(?:` + s + `)\z`) }
	return row{op, low, high, whole(text), whole(names), whole(expand(parts))}
}

const big = 4503599627370496

func rows() []row {
	empty := `""`
	return []row{
		rowOf(api.TyVar, 0, 0, varForm, "", ""),
		rowOf(api.TyPath, 0, 0, empty, valForm, "T{0,4}"),
		rowOf(api.TyArrow, 0, 0, empty, "", "TT"),
		rowOf(api.TyTuple, 0, 0, empty, "", "T{2,9}"),
		rowOf(api.TyPack, 0, 0, empty, modForm, ""),
		rowOf(api.PtAny, 0, 0, empty, "", ""),
		rowOf(api.PtVar, 0, 0, lowerForm, "", ""),
		rowOf(api.PtInt, -big, big, empty, "", ""),
		rowOf(api.PtCtor, 0, 0, empty, modForm, "P?"),
		rowOf(api.PtTuple, 0, 0, empty, "", "(P{2,9})?"),
		rowOf(api.XInt, 0, big, empty, "", ""),
		rowOf(api.XText, 0, 0, `"(?:[ !#$-\[\]-~]|\\["\\n])*"`, "", ""),
		rowOf(api.XVar, 0, 0, empty, valForm, ""),
		rowOf(api.XCtor, 0, 0, empty, modForm, ""),
		rowOf(api.XFn, 0, 0, empty+"|"+lowerForm, "", "E"),
		rowOf(api.XApp, 0, 0, empty, "", "EE"),
		rowOf(api.XTuple, 0, 0, empty, "", "(E{2,9})?"),
		rowOf(api.XIf, 0, 0, empty, "", "EEE"),
		rowOf(api.XCase, 0, 0, empty, "", "Er+"),
		rowOf(api.XRule, 0, 0, empty, "", "PE"),
		rowOf(api.XLet, 0, 0, empty, "", "l*E"),
		rowOf(api.XOp, 1, 11, empty, "", "EE"),
		rowOf(api.XOp, 12, 12, empty, "", "E"),
		rowOf(api.XAnnot, 0, 0, empty, "", "ET"),
		rowOf(api.XPack, 0, 0, empty, modForm, "g"),
		rowOf(api.DVal, 0, 0, lowerForm, "", "E"),
		rowOf(api.DFun, 0, 0, lowerForm, `(?:`+lowerForm+`){1,9}`, "E"),
		rowOf(api.DType, 0, 0, lowerForm, varsForm, "T"),
		rowOf(api.DData, 0, 0, lowerForm, varsForm, "c+"),
		rowOf(api.DCtor, 0, 0, upperForm, "", "T?"),
		rowOf(api.DStruct, 0, 0, upperForm, "", "M"),
		rowOf(api.DSig, 0, 0, upperForm, "", "G"),
		rowOf(api.DOpen, 0, 0, empty, modForm, ""),
		rowOf(api.DInclude, 0, 0, empty, modForm, ""),
		rowOf(api.DUnpack, 0, 0, upperForm, "", "Eg"),
		rowOf(api.SpVal, 0, 0, lowerForm, "", "T"),
		rowOf(api.SpType, 0, 0, lowerForm, varsForm, ""),
		rowOf(api.SpStruct, 0, 0, upperForm, "", "G"),
		rowOf(api.SpSig, 0, 0, upperForm, "", "G"),
		rowOf(api.SpInclude, 0, 0, empty, "", "G"),
		rowOf(api.SpShare, 0, 0, empty, valForm, "y"),
		rowOf(api.GSig, 0, 0, empty, "", "S*"),
		rowOf(api.GPath, 0, 0, empty, modForm, ""),
		rowOf(api.GFun, 0, 1, upperForm, "", "GG"),
		rowOf(api.GWith, 0, 0, empty, valForm, "Gt"),
		rowOf(api.MStruct, 0, 0, empty, "", "D*"),
		rowOf(api.MPath, 0, 0, empty, modForm, ""),
		rowOf(api.MFun, 0, 1, upperForm, "", "GM"),
		rowOf(api.MApp, 0, 0, empty, "", "MM"),
		rowOf(api.MSeal, 0, 0, empty, "", "MG"),
		rowOf(api.MShow, 0, 0, empty, "", "MG"),
		rowOf(api.MLet, 0, 0, empty, "", "D*M"),
		rowOf(api.MUnpack, 0, 0, empty, "", "Eg"),
	}
}

func keyWords() []string {
	return strings.Fields(`andalso case data div else end fn fun functor generative if import in include let mod module of open
		orelse pack sharing sig signature struct structure then type unpack val with`)
}

// quoted writes a text for the regular expressions, # for a key word, as no lower name is one.
func quoted(s string) string {
	if slices.Contains(keyWords(), s) {
		return `"#"`
	}
	if name, found := strings.CutPrefix(s, "'"); found && slices.Contains(keyWords(), name) {
		return `"'#"`
	}
	return strconv.QuoteToASCII(s)
}

func twice(l []string) bool {
	s := slices.Sorted(slices.Values(l))
	return len(slices.Compact(s)) < len(l)
}

// model is a second description of what is well-formed.
type model struct{ rows map[int][]row }

func newModel() model {
	m := model{map[int][]row{}}
	for _, r := range rows() {
		m.rows[r.op] = append(m.rows[r.op], r)
	}
	return m
}

func (m model) fits(t api.Syn, around int) bool {
	text, names, parts, ctors := quoted(t.S), "", "", []string{}
	for _, s := range t.Names {
		names += quoted(s)
	}
	for _, p := range t.L {
		parts += letter(p.Op)
		ctors = append(ctors, p.S)
	}
	switch {
	case t.Op == api.DType && around == api.GWith:
		if t.S != "" {
			return false
		}
		text = `"x"`
	case t.Op == api.DData && twice(ctors):
		return false
	case t.Op == api.SpShare && len(t.L) > 0 && len(t.L[0].L) > 0:
		return false
	}
	if t.Op != api.DFun && twice(t.Names) && strings.HasPrefix(names, `"'`) {
		return false
	}
	return slices.ContainsFunc(m.rows[t.Op], func(r row) bool {
		return r.low <= t.N && t.N <= r.high && r.text.MatchString(text) && r.names.MatchString(names) && r.parts.MatchString(parts)
	})
}

func (m model) formed(t api.Syn, around int) bool {
	return m.fits(t, around) && !slices.ContainsFunc(t.L, func(p api.Syn) bool { return !m.formed(p, t.Op) })
}

// brackets returns a pair of brackets for each node.
func brackets(t api.Syn) string {
	s := "("
	for _, p := range t.L {
		s += brackets(p)
	}
	return s + ")"
}

func measured(t api.Syn) (size, depth int) {
	level := 0
	for _, c := range brackets(t) {
		if c == ')' {
			level--
			continue
		}
		size++
		level++
		depth = max(depth, level)
	}
	return size, depth
}

func (m model) wellFormed(t api.Syn) bool {
	size, depth := measured(t)
	return size <= 20000 && depth <= 400 && m.formed(t, 0)
}

func (m model) check(t *testing.T, tree api.Syn) {
	t.Helper()
	right := m.wellFormed(tree)
	for cat := -1; cat <= 8; cat++ {
		if got := Valid(cat, tree); got != (right && slices.Contains(categories()[cat], tree.Op)) {
			t.Fatalf("Valid(%d, %+v) = %v", cat, tree, got)
		}
	}
}

// P3.1

func TestCategory(t *testing.T) {
	want := map[int]int{}
	for cat, ops := range categories() {
		for _, op := range ops {
			if cat != api.CatSpec || op > 60 {
				want[op] = cat
			}
		}
	}
	for op := -300; op < 600; op++ {
		if Category(op) != want[op] {
			t.Error(op, Category(op))
		}
	}
	for _, op := range []int{math.MinInt, math.MaxInt, 1<<32 + 1, 1<<32 + 26} {
		if Category(op) != 0 {
			t.Error(op)
		}
	}
}

func TestRightTreesAreValid(t *testing.T) {
	m, seen := newModel(), map[int]bool{}
	for i, tree := range samples(3500) {
		if !Valid(i%7+1, tree) {
			t.Fatalf("%d: %+v", i%7+1, tree)
		}
		m.check(t, tree)
		for _, p := range places(tree) {
			seen[part(tree, p).Op] = true
		}
	}
	for op := range m.rows {
		if !seen[op] {
			t.Error("no sample of the kind", op)
		}
	}
}

func texts() []string {
	l := []string{"", "x", "X", "'a", "'A", "'", "''a", "1", "_", "x'", "é", "x.y", "\n", "\t", "\x00", "\x1f", " ", "~", "\x7f", "\x80", "\xff", "a\nb\"\\", "x\n", "A b", "a b",
		strings.Repeat("a", 24), strings.Repeat("a", 25), strings.Repeat("A", 24), strings.Repeat("A", 25), "'" + strings.Repeat("a", 23), "'" + strings.Repeat("a", 24)}
	for _, w := range keyWords() {
		l = append(l, w, "'"+w, w+"_", strings.ToUpper(w[:1])+w[1:])
	}
	return l
}

func numbers() []int {
	return []int{math.MinInt, -big - 1, -big, -big + 1, -13, -1, 0, 1, 2, 3, 10, 11, 12, 13, big - 1, big, big + 1, 1 << 32, math.MaxInt}
}

func lists() [][]string {
	l := [][]string{nil, {}, {"M", "N"}, {"M", "x"}, {"x", "M"}, {"x", "y"}, {"x", "x"}, {"'a", "'b"}, {"'a", "'a"}, {"'a", "'b", "'a"}, {"'a", "x"}, {"'a", "'b", "'c", "'d"}, {"'a", "'b", "'c", "'d", "'e"}, {"M", "", "x"}, {"M", "end"}, {"M.N", "x"}, {"M", "N", "'a"}}
	for _, n := range []int{7, 8, 9, 10} {
		up := slices.Repeat([]string{"M"}, n)
		l = append(l, up, append(up[1:n:n], "x"), slices.Repeat([]string{"x"}, n), slices.Repeat([]string{"x", "y"}, n)[:n])
	}
	for _, s := range texts() {
		l = append(l, []string{s}, []string{"M", s})
	}
	return l
}

// partsOf returns lists of parts: those of t changed, and new ones.
func partsOf(t api.Syn, r *rand.Rand, all []api.Syn) [][]api.Syn {
	l := [][]api.Syn{nil, {}}
	for n := range 11 {
		l = append(l, slices.Repeat(t.L, n))
		if len(t.L) > 0 {
			l = append(l, append(slices.Repeat(t.L[:1], n), t.L...), append(append([]api.Syn{}, t.L...), slices.Repeat(t.L[len(t.L)-1:], n)...))
		}
	}
	for i := range t.L {
		l = append(l, t.L[i+1:], t.L[:i], slices.Delete(slices.Clone(t.L), i, i+1))
	}
	back := slices.Clone(t.L)
	slices.Reverse(back)
	l = append(l, back)
	for _, other := range all {
		l = append(l, []api.Syn{other}, append(slices.Clone(t.L), other), append([]api.Syn{other}, t.L...))
		for i := range t.L {
			changed := slices.Clone(t.L)
			changed[i] = other
			l = append(l, changed, slices.Insert(slices.Clone(t.L), i, other))
		}
	}
	return append(l, all[:r.Intn(len(all))])
}

// smallest returns a tree of each kind that has a form, and some of none.
func smallest() []api.Syn {
	x, ty, sig, mod := path(api.XVar, "x"), path(api.TyPath, "t"), path(api.GPath, "S"), path(api.MPath, "M")
	var l []api.Syn
	for op, n := range map[int][]api.Syn{
		api.TyVar: {}, api.TyPath: {}, api.TyArrow: {ty, ty}, api.TyTuple: {ty, ty}, api.TyPack: {},
		api.PtAny: {}, api.PtVar: {}, api.PtInt: {}, api.PtCtor: {}, api.PtTuple: {},
		api.XInt: {}, api.XText: {}, api.XVar: {}, api.XCtor: {}, api.XFn: {x}, api.XApp: {x, x}, api.XTuple: {}, api.XIf: {x, x, x},
		api.XCase: {x, node(api.XRule, node(api.PtAny), x)}, api.XRule: {node(api.PtAny), x}, api.XLet: {x}, api.XOp: {x, x}, api.XAnnot: {x, ty}, api.XPack: {sig},
		api.DVal: {x}, api.DFun: {x}, api.DType: {ty}, api.DData: {named(api.DCtor, "C", ty)}, api.DCtor: {}, api.DStruct: {mod}, api.DSig: {sig}, api.DOpen: {}, api.DInclude: {}, api.DUnpack: {x, sig},
		api.SpVal: {ty}, api.SpType: {}, api.SpStruct: {sig}, api.SpSig: {sig}, api.SpInclude: {sig}, api.SpShare: {ty},
		api.GSig: {}, api.GPath: {}, api.GFun: {sig, sig}, api.GWith: {sig, node(api.DType, ty)},
		api.MStruct: {}, api.MPath: {}, api.MFun: {sig, mod}, api.MApp: {mod, mod}, api.MSeal: {mod, sig}, api.MShow: {mod, sig}, api.MLet: {mod}, api.MUnpack: {x, sig},
	} {
		l = append(l, node(op, n...))
	}
	m := newModel()
	for i, tree := range l {
		for _, s := range []string{"", "x", "X", "'a"} {
			for _, names := range [][]string{nil, {"X"}, {"x"}} {
				for n := range 2 {
					if c := (api.Syn{Op: tree.Op, N: n, S: s, Names: names, L: tree.L}); m.formed(c, 0) {
						l[i] = c
					}
				}
			}
		}
		if !m.formed(l[i], 0) {
			panic(fmt.Sprint(tree))
		}
	}
	slices.SortFunc(l, func(a, b api.Syn) int { return a.Op - b.Op })
	return append(l, node(api.DType, ty), api.Syn{}, node(6), node(-1), node(30, node(11), x, x), node(89), node(math.MaxInt), api.Syn{Op: api.TyPath, Names: []string{"t"}, L: []api.Syn{ty}})
}

func TestValidAgreesWithTheTable(t *testing.T) {
	m, r, all := newModel(), rand.New(rand.NewSource(1)), smallest()
	for _, tree := range append(samples(210), all...) {
		if size, _ := measured(tree); size > 40 {
			continue
		}
		for _, p := range places(tree) {
			at := part(tree, p)
			try := func(change func(*api.Syn)) {
				c := at
				change(&c)
				m.check(t, with(tree, p, c))
			}
			for op := -2; op < 100; op++ {
				try(func(c *api.Syn) { c.Op = op })
			}
			for _, n := range numbers() {
				try(func(c *api.Syn) { c.N = n })
			}
		}
	}
	for _, tree := range append(samples(70), all...) {
		for _, s := range texts() {
			c := tree
			c.S = s
			m.check(t, c)
		}
		for _, l := range lists() {
			c := tree
			c.Names = l
			m.check(t, c)
		}
		for _, l := range partsOf(tree, r, all) {
			c := tree
			c.L = l
			m.check(t, c)
		}
	}
}

// A wrong part makes a tree wrong, wherever it is.
func TestWrongPartsAnywhere(t *testing.T) {
	m, all := newModel(), smallest()
	for _, tree := range samples(700) {
		for _, p := range places(tree) {
			c := part(tree, p)
			c.S += "?"
			m.check(t, with(tree, p, c))
			for _, other := range []api.Syn{{}, all[len(p)%len(all)], {Op: c.Op}} {
				m.check(t, with(tree, p, other))
			}
		}
	}
}

func TestNamelessTypesOnlyInRefinements(t *testing.T) {
	ty, sig := path(api.TyPath, "t"), path(api.GPath, "S")
	nameless, withName := node(api.DType, ty), named(api.DType, "t", ty)
	refined := func(l ...api.Syn) api.Syn { return api.Syn{Op: api.GWith, Names: []string{"t"}, L: l} }
	for i, c := range []struct {
		cat  int
		t    api.Syn
		want bool
	}{
		{api.CatSig, refined(sig, nameless), true},
		{api.CatSig, refined(sig, withName), false},
		{api.CatSig, refined(refined(sig, nameless), nameless), true},
		{api.CatSig, refined(node(api.GSig, withName), nameless), true},
		{api.CatSig, refined(node(api.GSig, nameless), nameless), false},
		{api.CatSig, node(api.GSig, nameless), false},
		{api.CatMod, node(api.MStruct, nameless), false},
		{api.CatMod, node(api.MStruct, withName), true},
		{api.CatDecl, nameless, false}, {api.CatSpec, nameless, false}, {api.CatDecl, withName, true}, {api.CatSpec, withName, true}, {0, withName, false},
	} {
		if Valid(c.cat, c.t) != c.want {
			t.Error(i)
		}
	}
}

// Rules and constructors have forms, but belong to no category; 0 is none.
func TestNoCategory(t *testing.T) {
	rule, ctor := node(api.XRule, node(api.PtAny), path(api.XVar, "x")), named(api.DCtor, "C")
	for cat := -1; cat <= 100; cat++ {
		if Valid(cat, rule) || Valid(cat, ctor) || Valid(cat, api.Syn{}) {
			t.Error(cat)
		}
	}
	if !Valid(api.CatExpr, node(api.XCase, path(api.XVar, "x"), rule)) || !Valid(api.CatDecl, named(api.DData, "t", ctor)) {
		t.Error("as parts")
	}
}

func TestTextsAtTheirBounds(t *testing.T) {
	for b := range 256 {
		s := named(api.XText, "a"+string([]byte{byte(b)})+"b")
		if Valid(api.CatExpr, s) != (b == 10 || 32 <= b && b <= 126) {
			t.Error(b)
		}
	}
	for n, want := range map[int]bool{0: true, 16383: true, 16384: true, 16385: false, 1 << 20: false} {
		if Valid(api.CatExpr, named(api.XText, strings.Repeat("a", n))) != want {
			t.Error(n)
		}
	}
}

// There is no limit for lists but that for nodes, and constructors are told apart however many there are.
func TestManyParts(t *testing.T) {
	var ctors []api.Syn
	for i := range 19999 {
		ctors = append(ctors, named(api.DCtor, "C"+strconv.Itoa(i)))
	}
	if !Valid(api.CatDecl, named(api.DData, "t", ctors...)) || !Valid(api.CatDecl, named(api.DData, "t", ctors[:1001]...)) {
		t.Error("constructors")
	}
	for _, i := range []int{1, 9999, 19998} {
		c := slices.Clone(ctors)
		c[i].S = "C0"
		if Valid(api.CatDecl, named(api.DData, "t", c...)) {
			t.Error(i)
		}
	}
	x, rule := path(api.XVar, "x"), node(api.XRule, node(api.PtAny), node(api.XTuple))
	for _, c := range []struct {
		cat, n int
		t      func(n int) api.Syn
	}{
		{api.CatMod, 19999, func(n int) api.Syn { return node(api.MStruct, slices.Repeat([]api.Syn{path(api.DOpen, "M")}, n)...) }},
		{api.CatSig, 19999, func(n int) api.Syn {
			return node(api.GSig, slices.Repeat([]api.Syn{named(api.SpType, "t")}, n)...)
		}},
		{api.CatExpr, 9999, func(n int) api.Syn {
			return node(api.XLet, append(slices.Repeat([]api.Syn{named(api.DVal, "x", x)}, n), x)...)
		}},
		{api.CatExpr, 6666, func(n int) api.Syn {
			return node(api.XCase, append([]api.Syn{x}, slices.Repeat([]api.Syn{rule}, n)...)...)
		}},
		{api.CatMod, 9999, func(n int) api.Syn {
			return node(api.MLet, append(slices.Repeat([]api.Syn{named(api.DVal, "x", x)}, n), path(api.MPath, "M"))...)
		}},
	} {
		if !Valid(c.cat, c.t(c.n)) || Valid(c.cat, c.t(c.n+1)) {
			t.Error(c.cat, c.n)
		}
	}
}

func TestNodesAtTheirBound(t *testing.T) {
	around := func(e api.Syn) api.Syn { return named(api.XFn, "", e) }
	unit := node(api.XTuple)
	// 19 declarations of 1 + 1023 nodes each
	full := chain(10, unit, func(e api.Syn) api.Syn { return node(api.XApp, e, e) })
	decls := slices.Repeat([]api.Syn{named(api.DVal, "x", full)}, 19)
	for size, want := range map[int]bool{19998: true, 19999: true, 20000: true, 20001: false, 20002: false} {
		last := node(api.XApp, chain(200, unit, around), chain(size-1-19*1024-201, unit, around))
		tree := node(api.XLet, append(decls[:19:19], last)...)
		if Size(tree) != size || Valid(api.CatExpr, tree) != want {
			t.Error(size, Size(tree))
		}
	}
}

func TestDepthAtItsBound(t *testing.T) {
	x, ty, sig, mod := path(api.XVar, "x"), path(api.TyPath, "t"), path(api.GPath, "S"), path(api.MPath, "M")
	for i, c := range []struct {
		cat    int
		last   api.Syn
		around func(api.Syn) api.Syn
	}{
		{api.CatType, ty, func(t api.Syn) api.Syn { return node(api.TyArrow, ty, t) }},
		{api.CatType, ty, func(t api.Syn) api.Syn { return api.Syn{Op: api.TyPath, Names: []string{"t"}, L: []api.Syn{t}} }},
		{api.CatPat, node(api.PtAny), func(t api.Syn) api.Syn {
			return api.Syn{Op: api.PtCtor, Names: []string{"C"}, L: []api.Syn{t}}
		}},
		{api.CatExpr, x, func(t api.Syn) api.Syn { return named(api.XFn, "", t) }},
		{api.CatExpr, x, func(t api.Syn) api.Syn { return node(api.XApp, t, x) }},
		{api.CatSig, sig, func(t api.Syn) api.Syn { return named(api.GFun, "X", sig, t) }},
		{api.CatMod, mod, func(t api.Syn) api.Syn { return node(api.MLet, t) }},
	} {
		for depth, want := range map[int]bool{1: true, 399: true, 400: true, 401: false, 1000: false} {
			tree := chain(depth, c.last, c.around)
			if Depth(tree) != depth || Valid(c.cat, tree) != want {
				t.Error(i, depth, Depth(tree))
			}
		}
	}
}

// P1

func TestEndlessTreesAreRefused(t *testing.T) {
	start := time.Now()
	for i, tree := range endless() {
		for cat := range 9 {
			if Valid(cat, tree) {
				t.Error(i, cat)
			}
		}
		if l, e := Paths(tree); len(l) != 0 || e != api.ErrArg {
			t.Error(i, e)
		}
		if r, e := Replace(tree, nil, node(api.XTuple)); !Equal(r, api.Syn{}) || e != api.ErrArg {
			t.Error(i, e)
		}
		if r, e := Replace(named(api.XFn, "x", node(api.XTuple)), []int{0}, tree); !Equal(r, api.Syn{}) || e != api.ErrForm {
			t.Error(i, e)
		}
	}
	if d := time.Since(start); d > 20*time.Second {
		t.Error(d)
	}
}
