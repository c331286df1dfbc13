package lexer

import (
	"strings"

	"pilaster/api"
	"pilaster/ident"
)

const (
	commentBegin = "(*"
	commentEnd   = "*)"
)

// reader goes through a source once, from left to right.
type reader struct {
	source string
	next   int // the index of the first byte that is not read yet
	line   int // the line of this byte
	start  int // the index at which this line begins
	limit  int // the number of tokens that are permitted
}

// tokens reads all that is left.
func (r *reader) tokens() ([]api.Token, api.Pos, api.Errno) {
	var l []api.Token
	for {
		if wrong, e := r.gap(); e != api.OK {
			return nil, wrong, e
		}
		at := r.place(r.next)
		if r.next == len(r.source) {
			return append(l, api.Token{Kind: api.TokEnd, At: at}), api.Pos{}, api.OK
		}
		// A token too many is refused before it is read, as it may be wrong as well.
		if len(l) == r.limit {
			return nil, at, api.ErrFull
		}
		t, wrong, e := r.token()
		if e != api.OK {
			return nil, r.place(wrong), e
		}
		t.At = at
		l = append(l, t)
	}
}

// place returns the place of a byte of the line that is being read.
func (r *reader) place(i int) api.Pos {
	return api.Pos{Line: r.line, Column: i - r.start + 1}
}

// gap reads the blanks and the comments before a token. With an error, it returns the place of the comment that does not end.
func (r *reader) gap() (api.Pos, api.Errno) {
	for r.next < len(r.source) {
		switch {
		case r.isAt(commentBegin):
			at := r.place(r.next)
			if !r.comment() {
				return at, api.ErrEnd
			}
		case isBlank(r.source[r.next]):
			r.pass()
		default:
			return api.Pos{}, api.OK
		}
	}
	return api.Pos{}, api.OK
}

// comment reads a comment with those inside of it, and reports whether it ends.
func (r *reader) comment() bool {
	depth := 0
	for r.next < len(r.source) {
		switch {
		case r.isAt(commentBegin):
			depth++
			r.next += len(commentBegin)
		case r.isAt(commentEnd):
			depth--
			r.next += len(commentEnd)
			if depth == 0 {
				return true
			}
		default:
			r.pass()
		}
	}
	return false
}

func (r *reader) isAt(s string) bool { return strings.HasPrefix(r.source[r.next:], s) }

// pass reads a byte between tokens. No token has a newline in it, so lines are counted only here.
func (r *reader) pass() {
	newline := r.source[r.next] == '\n'
	r.next++
	if newline {
		r.line++
		r.start = r.next
	}
}

// token reads a token, without its place. With an error, it returns the index of what is wrong.
func (r *reader) token() (t api.Token, wrong int, e api.Errno) {
	wrong = r.next
	switch b := r.source[r.next]; {
	case isSmall(b), isCapital(b):
		t, e = r.name()
	case b == '\'':
		t, e = r.variable()
	case isDigit(b):
		t, e = r.number()
	case b == '"':
		return r.text()
	default:
		t, e = r.symbol()
	}
	return t, wrong, e
}

// take reads up to the first byte from the index i on that is not in a class, and returns what it has read.
func (r *reader) take(i int, in func(byte) bool) string {
	for i < len(r.source) && in(r.source[i]) {
		i++
	}
	s := r.source[r.next:i]
	r.next = i
	return s
}

func (r *reader) name() (api.Token, api.Errno) {
	s := r.take(r.next, isOfName)
	switch {
	case len(s) > api.MaxName:
		return api.Token{}, api.ErrFull
	case Keyword(s):
		return api.Token{Kind: api.TokWord, Text: s}, api.OK
	case isCapital(s[0]):
		return api.Token{Kind: api.TokUpper, Text: s}, api.OK
	}
	return api.Token{Kind: api.TokLower, Text: s}, api.OK
}

// variable reads a type variable. Its first letter is tested before its length, as without it there is no token.
func (r *reader) variable() (api.Token, api.Errno) {
	i := r.next + 1
	if i == len(r.source) || !isSmall(r.source[i]) {
		return api.Token{}, api.ErrForm
	}
	s := r.take(i, isOfName)
	if len(s) > api.MaxName {
		return api.Token{}, api.ErrFull
	}
	return api.Token{Kind: api.TokVar, Text: s}, api.OK
}

func (r *reader) number() (api.Token, api.Errno) {
	s := r.take(r.next, isDigit)
	if _, e := ident.Number(s); e != api.OK {
		return api.Token{}, e
	}
	return api.Token{Kind: api.TokInt, Text: s}, api.OK
}

// text reads a text, the double quote before it, and the one after it. What may not stand in it counts before its end is missed.
func (r *reader) text() (t api.Token, wrong int, e api.Errno) {
	var b strings.Builder
	for i := r.next + 1; i < len(r.source); i++ {
		c := r.source[i]
		switch {
		case c == '"':
			r.next = i + 1
			return api.Token{Kind: api.TokText, Text: b.String()}, 0, api.OK
		case c == '\\' && i+1 == len(r.source):
			return api.Token{}, r.next, api.ErrEnd
		case c == '\\':
			meant, ok := meaning(r.source[i+1])
			if !ok {
				return api.Token{}, i, api.ErrForm
			}
			b.WriteByte(meant)
			i++
		case isPrintable(c):
			b.WriteByte(c)
		default:
			return api.Token{}, i, api.ErrForm
		}
	}
	return api.Token{}, r.next, api.ErrEnd
}

func (r *reader) symbol() (api.Token, api.Errno) {
	s, ok := Symbol(r.source[r.next:])
	if !ok {
		return api.Token{}, api.ErrForm
	}
	r.next += len(s)
	return api.Token{Kind: api.TokSymbol, Text: s}, api.OK
}

// meaning returns the byte of a text that a backslash and the byte b stand for.
func meaning(b byte) (byte, bool) {
	switch b {
	case '"', '\\':
		return b, true
	case 'n':
		return '\n', true
	}
	return 0, false
}

func isBlank(b byte) bool { return b == ' ' || b == '\t' || b == '\n' }

func isSmall(b byte) bool { return 'a' <= b && b <= 'z' }

func isCapital(b byte) bool { return 'A' <= b && b <= 'Z' }

func isDigit(b byte) bool { return '0' <= b && b <= '9' }

// isOfName reports whether b may stand in a name after its first letter.
func isOfName(b byte) bool { return isSmall(b) || isCapital(b) || isDigit(b) || b == '_' }

// isPrintable reports whether b is one of the bytes that a text may have as they are, with the double quote and the backslash.
func isPrintable(b byte) bool { return 32 <= b && b <= 126 }
