package printer

import (
	"strconv"
	"strings"

	"pilaster/api"
	"pilaster/syntax"
)

// writer collects the text of well-formed trees. Its methods write what they are named after.
type writer struct {
	text strings.Builder
	last string // the last token of the line; empty if there is none yet
}

// result returns the text, unless it is too long.
func (w *writer) result() (string, api.Errno) {
	if w.isFull() {
		return "", api.ErrFull
	}
	return w.text.String(), api.OK
}

func (w *writer) isFull() bool { return w.text.Len() > api.MaxText }

// put writes tokens, with a space before each one that needs it.
func (w *writer) put(tokens ...string) {
	for _, token := range tokens {
		if w.needsSpace(token) {
			w.text.WriteByte(' ')
		}
		w.text.WriteString(token)
		w.last = token
	}
}

// needsSpace reports whether there is a space before a token that comes next. A path is one token here, as there are no spaces in it.
func (w *writer) needsSpace(token string) bool {
	switch w.last {
	case "", "(":
		return false
	}
	switch token {
	case ")", ",", ";":
		return false
	}
	return true
}

func (w *writer) endLine() {
	w.text.WriteByte('\n')
	w.last = ""
}

// tree writes a tree where a level is asked for. What is too long already gets no more trees, as a few large texts could make it huge.
func (w *writer) tree(t api.Syn, level int) {
	switch {
	case w.isFull():
	case Level(t) < level:
		w.put("(")
		w.bare(t)
		w.put(")")
	default:
		w.bare(t)
	}
}

// bare writes a tree without parentheses around it.
func (w *writer) bare(t api.Syn) {
	switch syntax.Category(t.Op) {
	case api.CatType:
		w.typ(t)
	case api.CatPat:
		w.pattern(t)
	case api.CatExpr:
		w.expression(t)
	case api.CatDecl:
		w.declaration(t)
	case api.CatSpec:
		w.specification(t)
	case api.CatSig:
		w.signature(t)
	case api.CatMod:
		w.module(t)
	default:
		w.alternative(t)
	}
}

// alternative writes one of the trees without a category, which stand between bars.
func (w *writer) alternative(t api.Syn) {
	switch t.Op {
	case api.XRule:
		w.infix(t, levelAny, "=>", levelAny)
	case api.DCtor:
		w.put(t.S)
		if len(t.L) > 0 {
			w.put("of")
			w.tree(t.L[0], levelAny)
		}
	}
}

// infix writes the two parts of a tree, where levels are asked for, with a token between them.
func (w *writer) infix(t api.Syn, left int, token string, right int) {
	w.tree(t.L[0], left)
	w.put(token)
	w.tree(t.L[1], right)
}

// separated writes trees with a token between any two of them.
func (w *writer) separated(l []api.Syn, token string, level int) {
	for i, t := range l {
		if i > 0 {
			w.put(token)
		}
		w.tree(t, level)
	}
}

// tuple writes any number of trees in parentheses.
func (w *writer) tuple(l []api.Syn) {
	w.put("(")
	w.separated(l, ",", levelAny)
	w.put(")")
}

// sequence writes trees that begin with a key word, so that nothing stands between them.
func (w *writer) sequence(l []api.Syn) {
	for _, t := range l {
		w.tree(t, levelAny)
	}
}

// number writes a number. None of a well-formed tree is so great that there is no positive one for it.
func (w *writer) number(n int) {
	if n < 0 {
		w.put("~")
		n = -n
	}
	w.put(strconv.Itoa(n))
}

// names writes names with commas between them.
func (w *writer) names(l []string) {
	for i, name := range l {
		if i > 0 {
			w.put(",")
		}
		w.put(name)
	}
}

// parameters writes the parameters of a type.
func (w *writer) parameters(l []string) {
	if len(l) < 2 {
		w.put(l...)
		return
	}
	w.put("(")
	w.names(l)
	w.put(")")
}

// imports writes the line of imports of a unit, if there are any.
func (w *writer) imports(l []string) {
	if len(l) == 0 {
		return
	}
	w.put("import")
	w.names(l)
	w.put(";")
	w.endLine()
}

// declarations writes a line for each declaration.
func (w *writer) declarations(l []api.Syn) {
	for _, t := range l {
		w.tree(t, levelAny)
		w.endLine()
	}
}

// path returns the path of a tree as it stands in a text.
func path(t api.Syn) string { return strings.Join(t.Names, ".") }
