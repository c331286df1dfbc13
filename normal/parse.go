package normal

import (
	"strings"

	"pilaster/api"
	"pilaster/ident"
	"pilaster/kind"
	"pilaster/tycon"
)

// reader reads the text of a constructor from its beginning. After the first thing that is wrong nothing is left to be read.
type reader struct {
	rest  string
	wrong bool
}

// Parse returns the constructor with the text s. Labels, names, indices, and levels are judged when all of it has been read, as the text is short.
func Parse(s string) (api.Con, api.Errno) {
	if len(s) > api.MaxText {
		return api.Con{}, api.ErrFull
	}
	r := reader{rest: s}
	c := r.con()
	if r.wrong || r.rest != "" || !tycon.Valid(c) {
		return api.Con{}, api.ErrForm
	}
	return c, api.OK
}

// con reads a constructor.
func (r *reader) con() api.Con {
	switch {
	case r.skip(varMark):
		return api.Con{Op: api.CVar, N: r.number()}
	case r.skip(metaMark):
		return api.Con{Op: api.CMeta, N: r.number()}
	case r.skip(intWord):
		return api.Con{Op: api.CInt}
	case r.skip(textWord):
		return api.Con{Op: api.CText}
	case r.skip("("):
		return r.inParentheses()
	}
	for _, op := range []int{api.CRecord, api.CSum} {
		if begin, between, end := fieldMarks(op); r.skip(begin) {
			return r.fields(op, between, end)
		}
	}
	return api.Con{Op: api.CConst, S: r.until("{"), Kind: r.kind("}")}
}

// inParentheses reads a binder, or two parts. No text of a part begins with one of the words of binders.
func (r *reader) inParentheses() api.Con {
	for _, op := range []int{api.CAll, api.CSome, api.CLam, api.CMu} {
		if r.skip(binderWord(op) + " ") {
			c := api.Con{Op: op, Kind: r.kind(kindMark), L: []api.Con{r.con()}}
			r.expect(")")
			return c
		}
	}
	c := api.Con{Op: api.CApp, L: []api.Con{r.con()}}
	if r.skip(arrowMark) {
		c.Op = api.CArrow
	} else {
		r.expect(appMark)
	}
	c.L = append(c.L, r.con())
	r.expect(")")
	return c
}

func (r *reader) fields(op int, between, end string) api.Con {
	c := api.Con{Op: op}
	if r.skip(end) {
		return c
	}
	for more := true; more; more = r.skip(between) {
		c.Names = append(c.Names, r.until(labelMark))
		c.L = append(c.L, r.con())
	}
	r.expect(end)
	return c
}

func (r *reader) number() int {
	after := strings.TrimLeft(r.rest, "0123456789")
	n, e := ident.Number(r.rest[:len(r.rest)-len(after)])
	r.rest = after
	if e != api.OK {
		r.fail()
	}
	return n
}

// kind reads a kind and the mark after it, which stands in no text of a kind.
func (r *reader) kind(mark string) api.Kind {
	k, e := kind.Parse(r.until(mark))
	if e != api.OK {
		r.fail()
	}
	return k
}

// until reads the next mark, and all that stands before it, which it returns.
func (r *reader) until(mark string) string {
	before, after, found := strings.Cut(r.rest, mark)
	r.rest = after
	if !found {
		r.fail()
	}
	return before
}

// skip reads a mark, if it is what comes next.
func (r *reader) skip(mark string) bool {
	after, found := strings.CutPrefix(r.rest, mark)
	r.rest = after
	return found
}

func (r *reader) expect(mark string) {
	if !r.skip(mark) {
		r.fail()
	}
}

func (r *reader) fail() { r.rest, r.wrong = "", true }
