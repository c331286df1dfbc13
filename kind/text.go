package kind

import (
	"strings"

	"pilaster/api"
)

const (
	starText  = "*"
	arrowText = " -> "
)

// Text returns the text of a kind.
func Text(k api.Kind) (string, api.Errno) {
	if !Valid(k) {
		return "", api.ErrArg
	}
	var b strings.Builder
	write(&b, k)
	if b.Len() > api.MaxText {
		return "", api.ErrFull
	}
	return b.String(), api.OK
}

// Parse returns the kind with the text s.
func Parse(s string) (api.Kind, api.Errno) {
	if len(s) > api.MaxText {
		return api.Kind{}, api.ErrFull
	}
	k, rest, found := read(s, api.MaxDepth)
	if !found || rest != "" {
		return api.Kind{}, api.ErrForm
	}
	return k, api.OK
}

func write(b *strings.Builder, k api.Kind) {
	if isStar(k) {
		b.WriteString(starText)
		return
	}
	if from := k.L[0]; isStar(from) {
		b.WriteString(starText)
	} else {
		b.WriteByte('(')
		write(b, from)
		b.WriteByte(')')
	}
	b.WriteString(arrowText)
	write(b, k.L[1])
}

// read returns the kind of at most depth levels with which s begins, and the rest of s. Nodes need not be counted, as no text within its limit has too many.
func read(s string, depth int) (k api.Kind, rest string, found bool) {
	if depth == 0 {
		return api.Kind{}, "", false
	}
	from, rest, found := readFrom(s, depth-1)
	if !found {
		return api.Kind{}, "", false
	}
	after, more := strings.CutPrefix(rest, arrowText)
	if !more {
		// Only a first part stands in parentheses.
		return from, rest, isStar(from)
	}
	next, rest, found := read(after, depth-1)
	if !found {
		return api.Kind{}, "", false
	}
	return arrow(from, next), rest, true
}

// readFrom does the same for a first part: what stands in parentheses is not *, as * needs none.
func readFrom(s string, depth int) (k api.Kind, rest string, found bool) {
	if rest, found := strings.CutPrefix(s, starText); found {
		return Star(), rest, true
	}
	inner, found := strings.CutPrefix(s, "(")
	if !found {
		return api.Kind{}, "", false
	}
	k, rest, found = read(inner, depth)
	if !found || isStar(k) {
		return api.Kind{}, "", false
	}
	rest, found = strings.CutPrefix(rest, ")")
	return k, rest, found
}
