package value

import (
	"fmt"
	"regexp"
	"slices"
	"strconv"
	"strings"

	"pilaster/api"
	"pilaster/normal"
)

// A second description of values, written without regard to time.

var labelForm = regexp.MustCompile(`^[A-Za-z0-9_.]{1,48}$`)

// formOf shows which fields of a node are not zero, and how many parts it has, up to 2.
func formOf(v api.Value) string {
	s := fmt.Sprint(v.Op, ":", min(len(v.L), 2))
	if v.N != 0 {
		s += "N"
	}
	if v.S != "" {
		s += "S"
	}
	if len(v.Names) > 0 {
		s += "L"
	}
	return s
}

// wantForm reports whether a node is one of the chapter's list.
func wantForm(v api.Value) bool {
	if len(v.Names) > 0 && len(v.Names) != len(v.L) || len(v.Names) > api.MaxList || len(v.L) > api.MaxList {
		return false
	}
	for i, s := range v.Names {
		if !labelForm.MatchString(s) || i > 0 && v.Names[i-1] >= s {
			return false
		}
	}
	switch formOf(v) {
	case "1:0", "1:0N":
		return -1<<52 <= v.N && v.N <= 1<<52
	case "2:0", "2:0S":
		return len(v.S) <= 16384
	case "3:0", "3:1", "3:2", "3:1L", "3:2L":
		return true
	case "4:1S":
		return labelForm.MatchString(v.S)
	case "4:1", "4:1N":
		return v.N >= 0 && v.N <= 1000
	case "5:1", "6:1", "7:0":
		return true
	}
	return false
}

// levelsOf returns the nodes of a value that is not endless, level by level.
func levelsOf(v api.Value) [][]api.Value {
	var all [][]api.Value
	for level := []api.Value{v}; len(level) > 0; {
		all = append(all, level)
		var next []api.Value
		for _, x := range level {
			next = append(next, x.L...)
		}
		level = next
	}
	return all
}

func wantSize(v api.Value) int { return len(slices.Concat(levelsOf(v)...)) }

func wantValid(v api.Value) bool {
	return len(levelsOf(v)) <= 400 && wantSize(v) <= 20000 && !slices.ContainsFunc(slices.Concat(levelsOf(v)...), func(x api.Value) bool { return !wantForm(x) })
}

func wantData(v api.Value) bool {
	return wantValid(v) && !slices.ContainsFunc(slices.Concat(levelsOf(v)...), func(x api.Value) bool {
		switch formOf(x) {
		case "3:1", "3:2", "4:1", "4:1N", "6:1", "7:0":
			return true
		}
		return false
	})
}

// wantText returns the text of a value with forms that are right.
func wantText(v api.Value) string {
	var parts []string
	for i, part := range v.L {
		s := wantText(part)
		if len(v.Names) > i {
			s = v.Names[i] + " = " + s
		}
		parts = append(parts, s)
	}
	inside := strings.Join(parts, ", ")
	switch f := formOf(v); f[:3] {
	case "1:0":
		return fmt.Sprintf("%d", v.N)
	case "2:0":
		var s strings.Builder
		for _, b := range []byte(v.S) {
			if b < 32 || b > 126 || b == 34 || b == 92 {
				fmt.Fprintf(&s, "\\%03d", b)
			} else {
				fmt.Fprintf(&s, "%c", b)
			}
		}
		return "\"" + s.String() + "\""
	case "3:0", "3:1", "3:2":
		if len(v.L) > 0 && len(v.Names) == 0 {
			return "<" + inside + ">"
		}
		return "{" + inside + "}"
	case "4:1":
		if v.S == "" {
			return fmt.Sprintf("#%d(%s)", v.N, inside)
		}
		return v.S + "(" + inside + ")"
	case "5:1":
		return "@(" + inside + ")"
	case "6:1":
		return "%(" + inside + ")"
	}
	return "fn"
}

// Texts of tokens, and of values whose parts are marks.
var (
	literalForm = regexp.MustCompile(`"([ !#-\[\]-~]|\\[0-9]{3})*"`)
	escapeForm  = regexp.MustCompile(`\\[0-9]{3}`)
	wordForm    = regexp.MustCompile(`[#-]?[A-Za-z0-9_.]+(\(| = )?`)
	tagForm     = regexp.MustCompile(`^#(0|[1-9][0-9]{0,2}|1000)\($`)
	numberForm  = regexp.MustCompile(`^(0|-?[1-9][0-9]*)$`)
	valueForm   = regexp.MustCompile(`([@%]\(|\x03)\x01\)|<\x01(, \x01)*>|\{(\x02[^\x02]*\x02\x01(, \x02[^\x02]*\x02\x01)*)?\}`)
)

const mark, fieldEdge, labelEnd = "\x01", "\x02", "\x03"

// isText reports whether s is the text of a value, but for limits: what is a value for sure becomes a mark, until nothing else is left.
func isText(s string) bool {
	if strings.ContainsAny(s, mark+fieldEdge+labelEnd) {
		return false
	}
	s = literalForm.ReplaceAllStringFunc(s, markedLiteral)
	s = wordForm.ReplaceAllStringFunc(s, markedWord)
	for before := ""; s != before; {
		before = s
		s = valueForm.ReplaceAllStringFunc(s, markedValue)
	}
	return s == mark
}

func markedLiteral(literal string) string {
	for _, n := range escapeForm.FindAllString(literal, -1) {
		if n >= `\256` || n >= `\032` && n <= `\126` && n != `\034` && n != `\092` {
			return literal
		}
	}
	return mark
}

func markedWord(word string) string {
	if word == "fn" || numberForm.MatchString(word) && isInRange(word) {
		return mark
	}
	if label, ok := strings.CutSuffix(word, "("); ok && labelForm.MatchString(label) || tagForm.MatchString(word) {
		return labelEnd
	}
	if label, ok := strings.CutSuffix(word, " = "); ok && labelForm.MatchString(label) {
		return fieldEdge + label + fieldEdge
	}
	return word
}

func isInRange(number string) bool {
	n, err := strconv.ParseInt(number, 10, 64)
	return err == nil && -1<<52 <= n && n <= 1<<52
}

// markedValue refuses records whose labels do not ascend.
func markedValue(value string) string {
	var names []string
	for i, name := range strings.Split(value, fieldEdge) {
		if i%2 == 1 {
			names = append(names, name)
		}
	}
	if !slices.IsSorted(names) || len(slices.Compact(slices.Clone(names))) < len(names) {
		return value
	}
	return mark
}

// wantFits reports whether v fits c, normalizing and unrolling each type anew; or that this is not known.
func wantFits(v api.Value, c api.Con) (bool, api.Errno) {
	c, e := normal.Normal(c)
	if e != api.OK {
		return false, e
	}
	u, e := normal.Unroll(c)
	switch form := formOf(v); {
	case form[:2] == "5:":
		if e == api.OK {
			return wantFits(v.L[0], u)
		}
		if e == api.ErrBudget {
			return false, e
		}
		return false, api.OK
	case form[:3] == "4:1" && v.S != "" && c.Op == api.CSum:
		for i, s := range c.Names {
			if s == v.S {
				return wantFits(v.L[0], c.L[i])
			}
		}
		return false, api.OK
	case form[:2] == "3:" && len(v.Names) == len(v.L) && c.Op == api.CRecord && alike(v.Names, c.Names):
		for i := range v.L {
			if ok, e := wantFits(v.L[i], c.L[i]); !ok {
				return false, e
			}
		}
		return true, api.OK
	}
	pair := fmt.Sprint(v.Op, " ", c.Op)
	return slices.Contains([]string{fmt.Sprint(api.VInt, " ", api.CInt), fmt.Sprint(api.VText, " ", api.CText), fmt.Sprint(api.VPack, " ", api.CSome), fmt.Sprint(api.VFun, " ", api.CArrow), fmt.Sprint(api.VFun, " ", api.CAll)}, pair), api.OK
}

// wantTerm returns the term of data that fits c.
func wantTerm(v api.Value, c api.Con) api.Term {
	c, _ = normal.Normal(c)
	x := api.Term{N: v.N, S: v.S, Names: v.Names}
	var parts []api.Con
	switch v.Op {
	case api.VInt:
		x.Op = api.EInt
	case api.VText:
		x.Op = api.EText
	case api.VRecord:
		x.Op, parts = api.ERecord, c.L
	case api.VInject:
		x.Op, x.Con, parts = api.EInject, c, []api.Con{c.L[slices.Index(c.Names, v.S)]}
	case api.VRoll:
		u, _ := normal.Unroll(c)
		x.Op, x.Con, parts = api.ERoll, c, []api.Con{u}
	}
	for i, part := range v.L {
		x.L = append(x.L, wantTerm(part, parts[i]))
	}
	return x
}

// wantAll returns the values of a type up to a depth as the chapter says it, going through all places anew.
func wantAll(c api.Con, depth int) ([]api.Value, api.Errno) {
	c, e := normal.Normal(c)
	if e != api.OK || depth == 0 {
		return nil, e
	}
	l := []api.Value{}
	switch c.Op {
	case api.CRecord:
		l = append(l, api.Value{Op: api.VRecord, Names: c.Names})
		for _, part := range c.L {
			parts, e := wantAll(part, depth-1)
			if e != api.OK {
				return nil, e
			}
			var next []api.Value
			for _, v := range l {
				for _, x := range parts {
					next = append(next, api.Value{Op: api.VRecord, Names: c.Names, L: append(slices.Clone(v.L), x)})
				}
				if len(next) > api.MaxList {
					return nil, api.ErrFull
				}
			}
			l = next
		}
		return l, api.OK
	case api.CSum:
		for i, part := range c.L {
			parts, e := wantAll(part, depth-1)
			if e != api.OK {
				return nil, e
			}
			for _, x := range parts {
				l = append(l, inject(c.Names[i], x))
			}
			if len(l) > api.MaxList {
				return nil, api.ErrFull
			}
		}
		return l, api.OK
	}
	u, e := normal.Unroll(c)
	if e == api.ErrType {
		return nil, api.ErrClass
	}
	if e != api.OK {
		return nil, e
	}
	parts, e := wantAll(u, depth-1)
	for _, x := range parts {
		l = append(l, roll(x))
	}
	return l, e
}

// dataUpTo returns all data up to a depth in which nothing but the names a and b, and the labels A and B, occurs, and no numbers and texts.
func dataUpTo(depth int) []api.Value {
	if depth == 0 {
		return nil
	}
	l, parts := []api.Value{unit()}, dataUpTo(depth-1)
	for _, x := range parts {
		l = append(l, record("a", x), inject("A", x), inject("B", x), roll(x))
		for _, y := range parts {
			l = append(l, record("a b", x, y))
		}
	}
	return l
}
