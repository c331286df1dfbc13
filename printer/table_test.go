package printer

import (
	"regexp"
	"slices"
	"strconv"
	"strings"
	"sync"

	"pilaster/api"
)

// row is a row of the chapter's table, or a case of one, written once more as a text, from which the tests make both trees and what their texts have to be.
type row struct {
	op, n int
	cats  string // what the tree can stand for in the texts of others
	level int
	text  string
}

// rows returns the table. In a text, S, N, and P have what they must be after the equality sign; names, params, and refinement stand for themselves, the last one for the parameters, the path, and the type of a GWith. A category with a level is the next part; with more after it, it is at least, and at most, so many parts, with a token between any two. Everything else is a token.
func rows() []row {
	return append(coreRows(), moduleRows()...)
}

func coreRows() []row {
	return []row{
		{api.TyVar, 0, "type", 3, "S=var"},
		{api.TyPath, 0, "type typath", 3, "P=lower"},
		{api.TyPath, 0, "type", 2, "type:2 P=lower"},
		{api.TyPath, 0, "type", 2, "( type:0:2-4:, ) P=lower"},
		{api.TyArrow, 0, "type", 0, "type:1 -> type:0"},
		{api.TyTuple, 0, "type", 1, "type:2:2-9:*"},
		{api.TyPack, 0, "type", 3, "( module P=upper )"},
		{api.PtAny, 0, "pat", 1, "_"},
		{api.PtVar, 0, "pat", 1, "S=lower"},
		{api.PtInt, 0, "pat", 1, "N=int"},
		{api.PtCtor, 0, "pat", 1, "P=upper"},
		{api.PtCtor, 0, "pat", 0, "P=upper pat:1"},
		{api.PtTuple, 0, "pat", 1, "( )"},
		{api.PtTuple, 0, "pat", 1, "( pat:0:2-9:, )"},
		{api.XInt, 0, "expr", 9, "N=nat"},
		{api.XText, 0, "expr", 9, "S=text"},
		{api.XVar, 0, "expr", 9, "P=lower"},
		{api.XCtor, 0, "expr", 9, "P=upper"},
		{api.XFn, 0, "expr", 0, "fn S=name => expr:0"},
		{api.XApp, 0, "expr", 8, "expr:8 expr:9"},
		{api.XTuple, 0, "expr", 9, "( )"},
		{api.XTuple, 0, "expr", 9, "( expr:0:2-9:, )"},
		{api.XIf, 0, "expr", 0, "if expr:0 then expr:0 else expr:0"},
		{api.XCase, 0, "expr", 9, "case expr:0 of rule:0:1-:| end"},
		{api.XRule, 0, "rule", 0, "pat:0 => expr:0"},
		{api.XLet, 0, "expr", 9, "let local:0:0-: in expr:0 end"},
		{api.XOp, api.OpOr, "expr", 1, "expr:2 orelse expr:1"},
		{api.XOp, api.OpAnd, "expr", 2, "expr:3 andalso expr:2"},
		{api.XOp, api.OpEqual, "expr", 3, "expr:4 = expr:4"},
		{api.XOp, api.OpLess, "expr", 3, "expr:4 < expr:4"},
		{api.XOp, api.OpAtMost, "expr", 3, "expr:4 <= expr:4"},
		{api.XOp, api.OpConcat, "expr", 4, "expr:5 ^ expr:4"},
		{api.XOp, api.OpAdd, "expr", 5, "expr:5 + expr:6"},
		{api.XOp, api.OpSub, "expr", 5, "expr:5 - expr:6"},
		{api.XOp, api.OpMul, "expr", 6, "expr:6 * expr:7"},
		{api.XOp, api.OpDiv, "expr", 6, "expr:6 div expr:7"},
		{api.XOp, api.OpMod, "expr", 6, "expr:6 mod expr:7"},
		{api.XOp, api.OpNeg, "expr", 7, "~ expr:7"},
		{api.XAnnot, 0, "expr", 9, "( expr:0 : type:0 )"},
		{api.XPack, 0, "expr", 9, "( pack P=upper : gpath:2 )"},
	}
}

func moduleRows() []row {
	return []row{
		{api.DVal, 0, "decl local", 0, "val S=lower = expr:0"},
		{api.DFun, 0, "decl local", 0, "fun S=lower names = expr:0"},
		{api.DType, 0, "decl spec", 0, "type params S=lower = type:0"},
		{api.DData, 0, "decl spec", 0, "data params S=lower = ctor:0:1-:|"},
		{api.DCtor, 0, "ctor", 0, "S=upper"},
		{api.DCtor, 0, "ctor", 0, "S=upper of type:0"},
		{api.DStruct, 0, "decl", 0, "structure S=upper = mod:0"},
		{api.DSig, 0, "decl", 0, "signature S=upper = sig:0"},
		{api.DOpen, 0, "decl", 0, "open P=upper"},
		{api.DInclude, 0, "decl", 0, "include P=upper"},
		{api.DUnpack, 0, "decl local", 0, "structure S=upper = unpack expr:9 : gpath:2"},
		{api.SpVal, 0, "spec", 0, "val S=lower : type:0"},
		{api.SpType, 0, "spec", 0, "type params S=lower"},
		{api.SpStruct, 0, "spec", 0, "structure S=upper : sig:0"},
		{api.SpSig, 0, "spec", 0, "signature S=upper = sig:0"},
		{api.SpInclude, 0, "spec", 0, "include sig:0"},
		{api.SpShare, 0, "spec", 0, "sharing type P=lower = typath:0"},
		{api.GSig, 0, "sig", 2, "sig spec:0:0-: end"},
		{api.GPath, 0, "sig gpath", 2, "P=upper"},
		{api.GFun, 1, "sig", 0, "functor ( S=upper : sig:0 ) => sig:0"},
		{api.GFun, 0, "sig", 0, "generative ( S=upper : sig:0 ) => sig:0"},
		{api.GWith, 0, "sig", 1, "sig:1 with type refinement"},
		{api.MStruct, 0, "mod", 3, "struct decl:0:0-: end"},
		{api.MPath, 0, "mod", 3, "P=upper"},
		{api.MFun, 1, "mod", 0, "functor ( S=upper : sig:0 ) => mod:0"},
		{api.MFun, 0, "mod", 0, "generative ( S=upper : sig:0 ) => mod:0"},
		{api.MApp, 0, "mod", 2, "mod:2 ( mod:0 )"},
		{api.MSeal, 0, "mod", 1, "mod:1 :> sig:2"},
		{api.MShow, 0, "mod", 1, "mod:1 : sig:2"},
		{api.MLet, 0, "mod", 3, "let decl:0:0-: in mod:0 end"},
		{api.MUnpack, 0, "mod", 3, "unpack expr:9 : gpath:2"},
	}
}

// slot is a word of a text that stands for parts.
type slot struct {
	cat       string
	level     int
	low, high int
	between   string
}

// many is more parts than any tree here has.
const many = 1 << 20

var slotForm = regexp.MustCompile(`^([a-z]+):(\d)(?::(\d)-(\d?):(.?))?$`)

// slotOf returns the slot that a word is, if it is one.
func slotOf(word string) (slot, bool) {
	m := slotForm.FindStringSubmatch(word)
	if word == "refinement" {
		return slot{word, 0, 1, 1, ""}, true
	}
	if m == nil {
		return slot{}, false
	}
	number := func(i, otherwise int) int {
		if m[i] == "" {
			return otherwise
		}
		n, _ := strconv.Atoi(m[i])
		return n
	}
	s := slot{m[1], number(2, 0), number(3, 1), number(4, many), m[5]}
	if m[3] == "" {
		s.high = 1
	}
	return s, true
}

// form is a row with its text taken apart. There is at most one slot with any number of parts.
type form struct {
	row
	words     []string
	slots     map[int]slot // by the indices of the words
	low, high int          // how many parts there are
}

func formOf(r row) form {
	f := form{row: r, words: strings.Fields(r.text), slots: map[int]slot{}}
	for i, word := range f.words {
		if s, ok := slotOf(word); ok {
			f.slots[i] = s
			f.low, f.high = f.low+s.low, f.high+s.high
		}
	}
	return f
}

// forms returns the forms of the rows, in order.
var forms = sync.OnceValue(func() []form {
	var l []form
	for _, r := range rows() {
		l = append(l, formOf(r))
	}
	return l
})

// fits reports whether f is the form of a well-formed tree.
func (f form) fits(t api.Syn) bool {
	return t.Op == f.op && (t.N == f.n || strings.Contains(f.text, "N=")) && f.low <= len(t.L) && len(t.L) <= f.high
}

func formFor(t api.Syn) form {
	return forms()[slices.IndexFunc(forms(), func(f form) bool { return f.fits(t) })]
}

// speller writes trees as the table says, with some more pairs of parentheses around parts that may have them.
type speller struct{ more func() int }

// exact returns a speller that writes no more parentheses than the table does.
func exact() speller { return speller{func() int { return 0 }} }

// tokens returns the tokens of a tree.
func (x speller) tokens(t api.Syn) []string {
	var l []string
	f, rest := formFor(t), t.L
	for i, word := range f.words {
		s, ok := f.slots[i]
		if !ok {
			l = append(l, x.word(word, t)...)
			continue
		}
		n := s.low
		if s.low < s.high {
			n += len(t.L) - f.low
		}
		for j, part := range rest[:n] {
			if j > 0 && s.between != "" {
				l = append(l, s.between)
			}
			l = append(l, x.part(s, t, part)...)
		}
		rest = rest[n:]
	}
	return l
}

// part returns the tokens of a part of a tree that stands in a slot.
func (x speller) part(s slot, around, t api.Syn) []string {
	if s.cat == "refinement" {
		l := append(parameters(t.Names), strings.Join(around.Names, "."), "=")
		return append(l, x.part(slot{cat: "type"}, t, t.L[0])...)
	}
	n := 0
	if formFor(t).level < s.level {
		n = 1
	}
	switch s.cat {
	case "type", "pat", "expr", "sig", "mod":
		n += x.more()
	}
	return slices.Concat(slices.Repeat([]string{"("}, n), x.tokens(t), slices.Repeat([]string{")"}, n))
}

// word returns the tokens for a word that is no slot.
func (x speller) word(word string, t api.Syn) []string {
	switch word {
	case "names":
		return t.Names
	case "params":
		return parameters(t.Names)
	case "N=int", "N=nat":
		return strings.Fields(strings.ReplaceAll(strconv.Itoa(t.N), "-", "~ "))
	case "P=lower", "P=upper":
		return []string{strings.Join(t.Names, ".")}
	case "S=text":
		return []string{hidden(strconv.Quote(t.S))}
	case "S=name":
		if t.S == "" {
			return []string{"_"}
		}
	}
	if strings.HasPrefix(word, "S=") {
		return []string{t.S}
	}
	return []string{word}
}

func parameters(l []string) []string {
	if len(l) < 2 {
		return slices.Clone(l)
	}
	return strings.Fields("( " + strings.Join(l, " , ") + " )")
}

// The bytes of literals are hidden as letters of no language while spaces are put between tokens.
const hiding = 0xE000

func hidden(s string) string {
	return strings.Map(func(c rune) rune { return hiding + c }, s)
}

func shown(s string) string {
	return strings.Map(func(c rune) rune {
		if c >= hiding {
			return c - hiding
		}
		return c
	}, s)
}

// spaced returns the text of tokens.
func spaced(tokens []string) string {
	s := strings.Join(tokens, " ")
	return shown(strings.NewReplacer("( )", "()", "( ", "(", " )", ")", " ,", ",", " ;", ";").Replace(s))
}

// textOf returns the text of a tree.
func textOf(t api.Syn) string { return spaced(exact().tokens(t)) }

// linesOf returns the text of declarations.
func linesOf(l []api.Syn) string {
	s := ""
	for _, t := range l {
		s += textOf(t) + "\n"
	}
	return s
}

// sourceOf returns the text of a unit.
func sourceOf(u api.Unit) string {
	if len(u.Imports) == 0 {
		return linesOf(u.Decls)
	}
	return "import " + strings.Join(u.Imports, ", ") + ";\n" + linesOf(u.Decls)
}
