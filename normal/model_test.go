package normal

import (
	"regexp"
	"slices"
	"strconv"
	"strings"

	"pilaster/api"
	"pilaster/tycon"
)

// The second description: a constructor in which variables have names instead of indices. The free one with the free index 3 is named f3, bound ones have names that nothing else has. Steps are made as the chapter says it, one after the other, and what must be well-formed is looked at anew each time.

type named struct {
	node  api.Con // without parts
	name  string  // that of a variable, or of the variable of a binder
	parts []named
}

// A model counts the names that it has given, and the beta steps that it has made.
type model struct{ names, steps int }

func (m *model) newName() string {
	m.names++
	return "b" + strconv.Itoa(m.names)
}

func (m *model) named(c api.Con, around []string) named {
	x := named{node: c}
	x.node.L = nil
	switch c.Op {
	case 1:
		x.node.N = 0
		x.name = "f" + strconv.Itoa(c.N-len(around))
		if c.N < len(around) {
			x.name = around[len(around)-1-c.N]
		}
	case 9, 10, 11, 13:
		x.name = m.newName()
		around = append(slices.Clone(around), x.name)
	}
	for _, part := range c.L {
		x.parts = append(x.parts, m.named(part, around))
	}
	return x
}

// indices is the opposite of named.
func indices(x named, around []string) api.Con {
	c := x.node
	if free, found := strings.CutPrefix(x.name, "f"); found {
		i, _ := strconv.Atoi(free)
		c.N = i + len(around)
	} else if x.node.Op == 1 {
		c.N = len(around) - 1 - slices.Index(around, x.name)
	}
	for _, part := range x.parts {
		c.L = append(c.L, indices(part, inside(x, around)))
	}
	return c
}

// inside returns the names around the parts of x.
func inside(x named, around []string) []string {
	if x.node.Op == 1 || x.name == "" {
		return around
	}
	return append(slices.Clone(around), x.name)
}

// replaced returns x with a copy of by for each variable of a name. All binders get new names, so that no name is ever bound twice.
func (m *model) replaced(x named, names map[string]named) named {
	if y, found := names[x.name]; found && x.node.Op == 1 {
		if y.node.Op == 1 {
			return y
		}
		return m.replaced(y, map[string]named{})
	}
	y := named{node: x.node, name: x.name}
	if x.node.Op != 1 && x.name != "" {
		y.name = m.newName()
		inner := map[string]named{x.name: {node: api.Con{Op: 1}, name: y.name}}
		for name, by := range names {
			inner[name] = by
		}
		names = inner
	}
	for _, part := range x.parts {
		y.parts = append(y.parts, m.replaced(part, names))
	}
	return y
}

func mentions(x named, name string) bool {
	return x.node.Op == 1 && x.name == name || slices.ContainsFunc(x.parts, func(part named) bool { return mentions(part, name) })
}

func isBeta(x named) bool { return x.node.Op == 12 && x.parts[0].node.Op == 11 }

func isEta(x named) bool {
	if x.node.Op != 11 || x.parts[0].node.Op != 12 {
		return false
	}
	f, a := x.parts[0].parts[0], x.parts[0].parts[1]
	return a.node.Op == 1 && a.name == x.name && !mentions(f, x.name)
}

// beta makes a step.
func (m *model) beta(x named) (named, bool) {
	m.steps++
	return m.replaced(x.parts[0].parts[0], map[string]named{x.parts[0].name: x.parts[1]}), m.steps <= 10000
}

func fits(x named, around []string) bool { return tycon.Valid(indices(x, around)) }

func (m *model) normalize(x named, around []string) (named, bool) {
	y := named{node: x.node, name: x.name}
	for _, part := range x.parts {
		p, ok := m.normalize(part, inside(x, around))
		if !ok {
			return named{}, false
		}
		y.parts = append(y.parts, p)
	}
	if !fits(y, around) {
		return named{}, false
	}
	if isEta(y) {
		return y.parts[0].parts[0], true
	}
	if !isBeta(y) {
		return y, true
	}
	y, ok := m.beta(y)
	if !ok || !fits(y, around) {
		return named{}, false
	}
	return m.normalize(y, around)
}

// head makes steps at the head of the spine.
func (m *model) head(x named) (named, bool) {
	f, args := x, []named(nil)
	for f.node.Op == 12 {
		f, args = f.parts[0], append([]named{f.parts[1]}, args...)
	}
	if f.node.Op != 11 || len(args) == 0 {
		return x, true
	}
	y, ok := m.beta(named{node: api.Con{Op: 12}, parts: []named{f, args[0]}})
	for _, a := range args[1:] {
		y = named{node: api.Con{Op: 12}, parts: []named{y, a}}
	}
	if !ok || !fits(y, nil) {
		return named{}, false
	}
	return m.head(y)
}

// wantNormal returns the normal form of a tame constructor, and the number of steps.
func wantNormal(c api.Con) (api.Con, int, bool) {
	var m model
	x, ok := m.normalize(m.named(c, nil), nil)
	return indices(x, nil), m.steps, ok
}

func wantHead(c api.Con) (api.Con, int, bool) {
	var m model
	x, ok := m.head(m.named(c, nil))
	return indices(x, nil), m.steps, ok
}

// spots returns the places of all nodes of x at which f holds.
func spots(x named, f func(named) bool) [][]int {
	var l [][]int
	if f(x) {
		l = append(l, nil)
	}
	for i, part := range x.parts {
		for _, place := range spots(part, f) {
			l = append(l, append([]int{i}, place...))
		}
	}
	return l
}

// wantIs looks for a node at which a step can be made.
func wantIs(c api.Con) bool {
	var m model
	x := m.named(c, nil)
	return len(spots(x, isBeta)) == 0 && len(spots(x, isEta)) == 0
}

// stepAt returns c with a step at a place, of whichever sort can be made there.
func stepAt(c api.Con, place []int) api.Con {
	var m model
	var at func(x named, place []int) named
	at = func(x named, place []int) named {
		if len(place) > 0 {
			x.parts = slices.Clone(x.parts)
			x.parts[place[0]] = at(x.parts[place[0]], place[1:])
			return x
		}
		if isEta(x) {
			return x.parts[0].parts[0]
		}
		y, _ := m.beta(x)
		return y
	}
	return indices(at(m.named(c, nil), place), nil)
}

// Texts are described by a table of what stands around and between the parts.

func wantKindText(k api.Kind) string {
	if len(k.L) == 0 {
		return "*"
	}
	from := strings.ReplaceAll("("+wantKindText(k.L[0])+")", "(*)", "*")
	return from + " -> " + wantKindText(k.L[1])
}

func wantText(c api.Con) string {
	var l []string
	for _, part := range c.L {
		l = append(l, wantText(part))
	}
	for i, name := range c.Names {
		l[i] = name + ": " + l[i]
	}
	begins := []string{"", "#" + strconv.Itoa(c.N), c.S + "{" + wantKindText(c.Kind), "?" + strconv.Itoa(c.N), "int", "text", "(", "{", "[", "(all *. ", "(some *. ", "(fn *. ", "(", "(mu *. "}
	betweens := []string{"", "", "", "", "", "", " -> ", ", ", " | ", "", "", "", " ", ""}
	ends := []string{"", "", "}", "", "", "", ")", "}", "]", ")", ")", ")", ")", ")"}
	begin := begins[c.Op]
	if strings.HasSuffix(begin, "*. ") {
		begin = strings.Replace(begin, "*", wantKindText(c.Kind), 1)
	}
	return begin + strings.Join(l, betweens[c.Op]) + ends[c.Op]
}

// Which texts there are is described by their ways to be cut into two: all of them are tried, from the outside to the inside.

var (
	indexForm = regexp.MustCompile(`\A[#?](0|[1-9][0-9]{0,4})\z`)
	labelForm = regexp.MustCompile(`\A[A-Za-z0-9_.]{1,48}\z`)
	constForm = regexp.MustCompile(`\A[A-Z][A-Za-z0-9_]{0,23}\.(0|[1-9][0-9]{0,14})\{(.*)\}\z`)
)

// isCut reports whether s is a first text, a mark, and a second text.
func isCut(s, mark string, first, second func(string) bool) bool {
	for i := range s {
		if strings.HasPrefix(s[i:], mark) && first(s[:i]) && second(s[i+len(mark):]) {
			return true
		}
	}
	return false
}

// between returns what stands between two marks.
func between(s, begin, end string) (string, bool) {
	if len(s) < 2 || !strings.HasPrefix(s, begin) || !strings.HasSuffix(s, end) {
		return "", false
	}
	return s[1 : len(s)-1], true
}

func isKindText(s string) bool {
	return s == "*" || isCut(s, " -> ", func(s string) bool {
		in, found := between(s, "(", ")")
		return s == "*" || found && in != "*" && isKindText(in)
	}, isKindText)
}

// areFields reports whether s is a list of fields, the labels of which are greater than the last one.
func areFields(s, comma, last string) bool {
	return isCut(s, ": ", func(name string) bool {
		return labelForm.MatchString(name) && name > last
	}, func(rest string) bool {
		name, _, _ := strings.Cut(s, ": ")
		more := func(s string) bool { return areFields(s, comma, name) }
		return isText(rest) || isCut(rest, comma, isText, more)
	})
}

// isText knows of no limits but that of indices: short texts do not meet the others.
func isText(s string) bool {
	if in, found := between(s, "(", ")"); found {
		word, rest, _ := strings.Cut(in, " ")
		isWord := slices.Contains([]string{"all", "some", "fn", "mu"}, word)
		return isWord && isCut(rest, ". ", isKindText, isText) || isCut(in, " -> ", isText, isText) || isCut(in, " ", isText, isText)
	}
	if in, found := between(s, "{", "}"); found {
		return in == "" || areFields(in, ", ", "")
	}
	if in, found := between(s, "[", "]"); found {
		return in == "" || areFields(in, " | ", "")
	}
	if indexForm.MatchString(s) {
		n, _ := strconv.Atoi(s[1:])
		return n <= 20000
	}
	m := constForm.FindStringSubmatch(s)
	return s == "int" || s == "text" || m != nil && isKindText(m[2])
}
