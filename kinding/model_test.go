package kinding

import (
	"slices"
	"strings"

	"pilaster/api"
)

// The second description: kinds are texts, and each node of a constructor is asked for its kind, from scratch, in the order in which faults are found.

// code returns the text of a kind in which arrows come first, so that no text begins another one.
func code(k api.Kind) string {
	if len(k.L) == 0 {
		return "*"
	}
	s := ">"
	for _, part := range k.L {
		s += code(part)
	}
	return s
}

func codes(g []api.Kind) []string {
	var l []string
	for _, k := range g {
		l = append(l, code(k))
	}
	return l
}

// depthOf returns the depth of the kind with a code: that of its deepest star, with as many arrows around it that wait for a part.
func depthOf(s string) int {
	depth := 0
	var missing []int // the number of parts that each arrow still needs
	for _, r := range s {
		depth = max(depth, len(missing)+1)
		if r == '>' {
			missing = append(missing, 2)
			continue
		}
		for len(missing) > 0 {
			missing[len(missing)-1]--
			if missing[len(missing)-1] > 0 {
				break
			}
			missing = missing[:len(missing)-1]
		}
	}
	return depth
}

func isTooLarge(s string) bool { return len(s) > 20000 || depthOf(s) > 400 }

func binds(op int) bool { return slices.Contains([]int{9, 10, 11, 13}, op) }

// under returns the scope of the parts of c, the nearest variable first.
func under(near []string, c api.Con) []string {
	if !binds(c.Op) {
		return near
	}
	return slices.Concat([]string{code(c.Kind)}, near)
}

// wantCode returns the code of the kind of c, if it has one.
func wantCode(near []string, c api.Con) (string, bool) {
	var l []string
	for _, part := range c.L {
		s, ok := wantCode(under(near, c), part)
		if !ok {
			return "", false
		}
		l = append(l, s)
	}
	switch {
	case c.Op == 1 && c.N < len(near):
		return near[c.N], true
	case c.Op == 2:
		return code(c.Kind), true
	case c.Op == 11:
		s := ">" + code(c.Kind) + l[0]
		return s, !isTooLarge(s)
	case c.Op == 12:
		return strings.CutPrefix(l[0], ">"+l[1])
	case c.Op == 13:
		return l[0], l[0] == code(c.Kind)
	}
	isType := func(s string) bool { return s == "*" }
	return "*", c.Op != 1 && len(slices.DeleteFunc(l, isType)) == 0
}

// A spot is a node of a constructor, with its place and what is in its scope.
type spot struct {
	place []int
	near  []string
	c     api.Con
}

// spots returns all nodes: the parts of a node from left to right, and then the node itself.
func spots(s spot) []spot {
	var l []spot
	for i, part := range s.c.L {
		l = append(l, spots(spot{append(slices.Clone(s.place), i), under(s.near, s.c), part})...)
	}
	return append(l, s)
}

// wantFault returns the first node that has no kind, and the error that it stands for.
func wantFault(g []api.Kind, c api.Con) (spot, api.Errno) {
	near := codes(g)
	slices.Reverse(near)
	for _, s := range spots(spot{nil, near, c}) {
		if _, ok := wantCode(s.near, s.c); ok {
			continue
		}
		switch s.c.Op {
		case 1:
			return s, api.ErrName
		case 11:
			return s, api.ErrBig
		}
		return s, api.ErrKind
	}
	return spot{near: near, c: c}, api.OK
}
