// Package ident is layer 1: names, paths, labels, and numbers (see shared/doc/01-ident.md).
package ident

import (
	"strings"

	"pilaster/api"
)

// Classes of bytes.
const (
	otherByte = iota
	smallLetter
	capitalLetter
	digit
	underscore
	fullStop
)

// IsLower reports whether s is a lower name.
func IsLower(s string) bool {
	return len(s) <= api.MaxName && isWord(s, smallLetter) && !isKeyWord(s)
}

// IsUpper reports whether s is an upper name. Key words begin with small letters, so they need no test here.
func IsUpper(s string) bool {
	return len(s) <= api.MaxName && isWord(s, capitalLetter)
}

// IsVar reports whether s is a type variable.
func IsVar(s string) bool {
	name, found := strings.CutPrefix(s, "'")
	return found && len(s) <= api.MaxName && isWord(name, smallLetter)
}

// IsLabel reports whether s is a label. The length is tested first, so that a long text is not gone through.
func IsLabel(s string) bool {
	if s == "" || len(s) > 2*api.MaxName {
		return false
	}
	for i := range len(s) {
		if class(s[i]) == otherByte {
			return false
		}
	}
	return true
}

// Label returns the label of a name of a kind.
func Label(kind int, name string) (string, api.Errno) {
	prefix, ok := labelPrefix(kind)
	if !ok {
		return "", api.ErrRange
	}
	if !isNameOf(kind, name) {
		return "", api.ErrForm
	}
	return prefix + name, api.OK
}

// Split returns the kind and the name of a label of a name. No prefix begins with another one, so at most one kind fits.
func Split(label string) (kind int, name string, e api.Errno) {
	for k := api.LabelVal; k <= api.LabelSig; k++ {
		prefix, _ := labelPrefix(k)
		if n, found := strings.CutPrefix(label, prefix); found && isNameOf(k, n) {
			return k, n, api.OK
		}
	}
	return 0, "", api.ErrForm
}

// ParsePath returns the path whose text is s. The full stops are counted first, so that no list is made of a long text.
func ParsePath(s string) ([]string, api.Errno) {
	if strings.Count(s, ".") >= api.MaxPath {
		return nil, api.ErrForm
	}
	l := strings.Split(s, ".")
	if !isPath(l) {
		return nil, api.ErrForm
	}
	return l, api.OK
}

// PathText returns the text of the path l.
func PathText(l []string) (string, api.Errno) {
	if !isPath(l) {
		return "", api.ErrArg
	}
	return strings.Join(l, "."), api.OK
}

// Ascending reports whether each string of l is less than the next one, as sequences of bytes.
func Ascending(l []string) bool {
	for i, s := range l {
		if i > 0 && l[i-1] >= s {
			return false
		}
	}
	return true
}

// Find returns the least index of s in l, or -1.
func Find(l []string, s string) int {
	for i, t := range l {
		if t == s {
			return i
		}
	}
	return -1
}

// Number returns the number that s is in decimal. All of s is read before its size is judged, as ErrForm comes before ErrBig.
func Number(s string) (int, api.Errno) {
	if s == "" || s[0] == '0' && len(s) > 1 {
		return 0, api.ErrForm
	}
	n, big := 0, false
	for i := range len(s) {
		if class(s[i]) != digit {
			return 0, api.ErrForm
		}
		// A number that is too big is not continued, so that it cannot overflow.
		if !big {
			n = 10*n + int(s[i]-'0')
			big = n > api.MaxNumber
		}
	}
	if big {
		return 0, api.ErrBig
	}
	return n, api.OK
}

// class returns the class of a byte. Bytes of letters beyond ASCII are none of the language.
func class(b byte) int {
	switch {
	case 'a' <= b && b <= 'z':
		return smallLetter
	case 'A' <= b && b <= 'Z':
		return capitalLetter
	case '0' <= b && b <= '9':
		return digit
	case b == '_':
		return underscore
	case b == '.':
		return fullStop
	}
	return otherByte
}

// isWord reports whether s begins with a letter of the class first, and the other bytes are those of names.
func isWord(s string, first int) bool {
	if s == "" || class(s[0]) != first {
		return false
	}
	for i := 1; i < len(s); i++ {
		switch class(s[i]) {
		case otherByte, fullStop:
			return false
		}
	}
	return true
}

func isKeyWord(s string) bool {
	switch s {
	case "andalso", "case", "data", "div", "else", "end", "fn", "fun", "functor", "generative",
		"if", "import", "in", "include", "let", "mod", "module", "of", "open", "orelse", "pack",
		"sharing", "sig", "signature", "struct", "structure", "then", "type", "unpack", "val", "with":
		return true
	}
	return false
}

// labelPrefix returns what stands before the name in a label of a kind, and whether there is such a kind.
func labelPrefix(kind int) (string, bool) {
	switch kind {
	case api.LabelVal:
		return "val.", true
	case api.LabelType:
		return "type.", true
	case api.LabelCtor:
		return "con.", true
	case api.LabelMod:
		return "mod.", true
	case api.LabelSig:
		return "sig.", true
	}
	return "", false
}

// isNameOf reports whether name is a lower, or upper, name, as one of the five kinds asks.
func isNameOf(kind int, name string) bool {
	switch kind {
	case api.LabelVal, api.LabelType:
		return IsLower(name)
	}
	return IsUpper(name)
}

// isPath reports whether l is a path.
func isPath(l []string) bool {
	if len(l) == 0 || len(l) > api.MaxPath {
		return false
	}
	last := len(l) - 1
	for _, s := range l[:last] {
		if !IsUpper(s) {
			return false
		}
	}
	return IsLower(l[last]) || IsUpper(l[last])
}
