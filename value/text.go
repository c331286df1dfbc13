package value

import (
	"strconv"
	"strings"

	"pilaster/api"
)

const (
	quoteMark  = `"`
	escapeMark = `\`
	fieldMark  = " = "
	comma      = ", "
	tagMark    = "#"
	rollMark   = "@"
	packMark   = "%"
	minusMark  = "-"
	funWord    = "fn"
)

// writer collects a text, until it is too long.
type writer struct {
	text strings.Builder
	full bool
}

// Text returns the text of v.
func Text(v api.Value) (string, api.Errno) {
	if !Valid(v) {
		return "", api.ErrArg
	}
	var w writer
	w.value(&v)
	if w.full {
		return "", api.ErrFull
	}
	return w.text.String(), api.OK
}

// value writes a value. If the text is too long already, nothing is gone through any more, as the text of all of it could be huge.
func (w *writer) value(v *api.Value) {
	if w.full {
		return
	}
	switch v.Op {
	case api.VInt:
		w.put(strconv.Itoa(v.N))
	case api.VText:
		w.quoted(v.S)
	case api.VRecord:
		w.record(v)
	case api.VInject:
		w.labelled(v)
	case api.VRoll:
		w.inParentheses(rollMark, v)
	case api.VPack:
		w.inParentheses(packMark, v)
	default:
		w.put(funWord)
	}
}

func (w *writer) quoted(s string) {
	w.put(quoteMark)
	for i := range len(s) {
		w.put(written(s[i]))
	}
	w.put(quoteMark)
}

func (w *writer) record(v *api.Value) {
	begin, end := recordMarks(isBlock(v))
	w.put(begin)
	for i := range v.L {
		if i > 0 {
			w.put(comma)
		}
		if len(v.Names) > 0 {
			w.put(v.Names[i] + fieldMark)
		}
		w.value(&v.L[i])
	}
	w.put(end)
}

func (w *writer) labelled(v *api.Value) {
	if isTagged(v) {
		w.inParentheses(tagMark+strconv.Itoa(v.N), v)
	} else {
		w.inParentheses(v.S, v)
	}
}

// inParentheses writes a word, and the only part of a value.
func (w *writer) inParentheses(word string, v *api.Value) {
	w.put(word + "(")
	w.value(&v.L[0])
	w.put(")")
}

func (w *writer) put(s string) {
	w.full = w.full || w.text.Len()+len(s) > api.MaxText
	if !w.full {
		w.text.WriteString(s)
	}
}

// recordMarks returns what a block, or a record with names, is written with.
func recordMarks(block bool) (begin, end string) {
	if block {
		return "<", ">"
	}
	return "{", "}"
}

// written returns how a byte is written in a text in quotes.
func written(b byte) string {
	if b < ' ' || b > '~' || b == '"' || b == '\\' {
		// The number is at least 1000, so that it has leading zeros after the first digit.
		return escapeMark + strconv.Itoa(1000 + int(b))[1:]
	}
	return string(rune(b))
}
