package value

import (
	"strconv"
	"strings"

	"pilaster/api"
	"pilaster/ident"
)

// reader reads the text of a value from its beginning. After the first thing that is wrong nothing is left to be read.
type reader struct {
	rest  string
	wrong bool
}

// Parse returns the value with the text s. The limits of values are tested when all of it has been read, as the text is short.
func Parse(s string) (api.Value, api.Errno) {
	if len(s) > api.MaxText {
		return api.Value{}, api.ErrFull
	}
	r := reader{rest: s}
	v := r.value()
	if r.wrong || r.rest != "" || !Valid(v) {
		return api.Value{}, api.ErrForm
	}
	return v, api.OK
}

// value reads a value.
func (r *reader) value() api.Value {
	switch {
	case r.skip(minusMark):
		return r.negative()
	case r.skip(quoteMark):
		return r.text()
	case r.skip(tagMark):
		n := r.number(r.word())
		r.expect("(")
		return api.Value{Op: api.VInject, N: n, L: r.closed()}
	case r.skip(rollMark + "("):
		return api.Value{Op: api.VRoll, L: r.closed()}
	case r.skip(packMark + "("):
		return api.Value{Op: api.VPack, L: r.closed()}
	}
	for _, block := range []bool{false, true} {
		if begin, end := recordMarks(block); r.skip(begin) {
			return r.record(block, end)
		}
	}
	return r.named()
}

// negative reads what follows a minus sign: 0 has none.
func (r *reader) negative() api.Value {
	n := r.number(r.word())
	if n == 0 {
		r.fail()
	}
	return api.Value{Op: api.VInt, N: -n}
}

// named reads what begins with a word. A label may look like a number, or like the word of a function, but only a label is followed by a parenthesis.
func (r *reader) named() api.Value {
	word := r.word()
	switch {
	case word != "" && r.skip("("):
		return api.Value{Op: api.VInject, S: word, L: r.closed()}
	case word == funWord:
		return api.Value{Op: api.VFun}
	}
	return api.Value{Op: api.VInt, N: r.number(word)}
}

// record reads the parts of a record, or of a block, which has at least one.
func (r *reader) record(block bool, end string) api.Value {
	v := api.Value{Op: api.VRecord}
	if !block && r.skip(end) {
		return v
	}
	for more := true; more; more = r.skip(comma) {
		if !block {
			v.Names = append(v.Names, r.word())
			r.expect(fieldMark)
		}
		v.L = append(v.L, r.value())
	}
	r.expect(end)
	return v
}

// closed reads a value, and the parenthesis after it.
func (r *reader) closed() []api.Value {
	l := []api.Value{r.value()}
	r.expect(")")
	return l
}

// text reads the bytes of a text, and the quote after them.
func (r *reader) text() api.Value {
	var b strings.Builder
	for !r.wrong && !r.skip(quoteMark) {
		b.WriteByte(r.byte())
	}
	return api.Value{Op: api.VText, S: b.String()}
}

// byte reads a byte of a text, which must be written as it would be written again.
func (r *reader) byte() byte {
	if r.rest == "" {
		r.fail()
		return 0
	}
	b := r.rest[0]
	if strings.HasPrefix(r.rest, escapeMark) && len(r.rest) > 3 {
		n, _ := strconv.Atoi(r.rest[1:4])
		b = byte(n)
	}
	r.expect(written(b))
	return b
}

// word reads the bytes that may stand in labels, as many as there are.
func (r *reader) word() string {
	n := 0
	for n < len(r.rest) && ident.IsLabel(r.rest[n:n+1]) {
		n++
	}
	word := r.rest[:n]
	r.rest = r.rest[n:]
	return word
}

func (r *reader) number(word string) int {
	n, e := ident.Number(word)
	if e != api.OK {
		r.fail()
	}
	return n
}

// skip reads a mark, if it is what comes next.
func (r *reader) skip(mark string) bool {
	after, found := strings.CutPrefix(r.rest, mark)
	r.rest = after
	return found
}

func (r *reader) expect(mark string) {
	if !r.skip(mark) {
		r.fail()
	}
}

func (r *reader) fail() { r.rest, r.wrong = "", true }
