package normal

import (
	"strconv"
	"strings"

	"pilaster/api"
	"pilaster/kind"
	"pilaster/tycon"
)

const (
	varMark   = "#"
	metaMark  = "?"
	intWord   = "int"
	textWord  = "text"
	arrowMark = " -> "
	appMark   = " "
	labelMark = ": "
	kindMark  = ". "
)

// writer collects a text, until it is too long.
type writer struct {
	text strings.Builder
	full bool
}

// Text returns the text of c.
func Text(c api.Con) (string, api.Errno) {
	if !tycon.Valid(c) {
		return "", api.ErrArg
	}
	var w writer
	w.con(c)
	if w.full {
		return "", api.ErrFull
	}
	return w.text.String(), api.OK
}

// con writes a constructor. If the text is too long already, nothing is gone through any more, as the text of all of it could be huge.
func (w *writer) con(c api.Con) {
	if w.full {
		return
	}
	switch c.Op {
	case api.CVar:
		w.put(varMark + strconv.Itoa(c.N))
	case api.CMeta:
		w.put(metaMark + strconv.Itoa(c.N))
	case api.CInt:
		w.put(intWord)
	case api.CText:
		w.put(textWord)
	case api.CConst:
		w.put(c.S + "{")
		w.kind(c.Kind)
		w.put("}")
	case api.CArrow:
		w.pair(c, arrowMark)
	case api.CApp:
		w.pair(c, appMark)
	case api.CRecord, api.CSum:
		w.fields(c)
	default:
		w.binder(c)
	}
}

func (w *writer) pair(c api.Con, mark string) {
	w.put("(")
	w.con(c.L[0])
	w.put(mark)
	w.con(c.L[1])
	w.put(")")
}

func (w *writer) fields(c api.Con) {
	begin, between, end := fieldMarks(c.Op)
	w.put(begin)
	for i, part := range c.L {
		if i > 0 {
			w.put(between)
		}
		w.put(c.Names[i] + labelMark)
		w.con(part)
	}
	w.put(end)
}

func (w *writer) binder(c api.Con) {
	w.put("(" + binderWord(c.Op) + " ")
	w.kind(c.Kind)
	w.put(kindMark)
	w.con(c.L[0])
	w.put(")")
}

// kind writes a kind. One whose own text is too long makes that of the constructor too long.
func (w *writer) kind(k api.Kind) {
	s, e := kind.Text(k)
	w.full = w.full || e != api.OK
	w.put(s)
}

func (w *writer) put(s string) {
	w.full = w.full || w.text.Len()+len(s) > api.MaxText
	if !w.full {
		w.text.WriteString(s)
	}
}

// fieldMarks returns what a record, or a sum, is written with.
func fieldMarks(op int) (begin, between, end string) {
	if op == api.CRecord {
		return "{", ", ", "}"
	}
	return "[", " | ", "]"
}

// binderWord returns the word that a binder begins with.
func binderWord(op int) string {
	switch op {
	case api.CAll:
		return "all"
	case api.CSome:
		return "some"
	case api.CLam:
		return "fn"
	}
	return "mu"
}
