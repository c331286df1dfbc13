package tycon

import (
	"regexp"
	"slices"
	"strconv"
	"strings"

	"pilaster/api"
)

// The second description: a constructor in which variables have names instead of indices. The free one with the free index 3 is named f3, bound ones have names that nothing else has.

type named struct {
	node  api.Con // without parts
	name  string  // that of a variable, or of the variable of a binder
	parts []named
}

type namer struct{ last int }

func (n *namer) named(c api.Con, around []string) named {
	r := named{node: c}
	r.node.L = nil
	switch c.Op {
	case api.CVar:
		r.node.N = 0
		if free := c.N - len(around); free >= 0 {
			r.name = freeName(free)
		} else {
			r.name = around[len(around)-1-c.N]
		}
	case api.CAll, api.CSome, api.CLam, api.CMu:
		n.last++
		r.name = "b" + strconv.Itoa(n.last)
		around = append(slices.Clone(around), r.name)
	}
	for _, part := range c.L {
		r.parts = append(r.parts, n.named(part, around))
	}
	return r
}

func toNames(c api.Con) named {
	var n namer
	return n.named(c, nil)
}

func freeName(i int) string { return "f" + strconv.Itoa(i) }

// freeIndex returns the free index that a name says, if it is that of a free variable.
func freeIndex(name string) (int, bool) {
	s, found := strings.CutPrefix(name, "f")
	i, err := strconv.Atoi(s)
	return i, found && err == nil
}

// toIndices is the opposite of toNames.
func toIndices(x named, around []string) api.Con {
	c := x.node
	if i, free := freeIndex(x.name); free && c.Op == api.CVar {
		c.N = i + len(around)
	} else if c.Op == api.CVar {
		c.N = len(around) - 1 - slices.Index(around, x.name)
	} else if x.name != "" {
		around = append(slices.Clone(around), x.name)
	}
	for _, part := range x.parts {
		c.L = append(c.L, toIndices(part, around))
	}
	return c
}

// replaced returns x with f of each variable and constant. Names of bound variables may then stand for several binders, but never one inside of the other.
func replaced(x named, f func(named) named) named {
	if x.node.Op == api.CVar || x.node.Op == api.CConst {
		return f(x)
	}
	var l []named
	for _, part := range x.parts {
		l = append(l, replaced(part, f))
	}
	x.parts = l
	return x
}

// want returns c with f of the names of its free variables, and of constants.
func want(c api.Con, f func(named) named) api.Con {
	return toIndices(replaced(toNames(c), f), nil)
}

func variable(i int) named { return named{node: api.Con{Op: api.CVar}, name: freeName(i)} }

func wantFree(c api.Con) []int {
	var l []int
	want(c, func(x named) named {
		if i, free := freeIndex(x.name); free && !slices.Contains(l, i) {
			l = append(l, i)
		}
		return x
	})
	slices.Sort(l)
	return l
}

func wantShift(c api.Con, by, from int) api.Con {
	return want(c, func(x named) named {
		if i, free := freeIndex(x.name); free && i >= from {
			return variable(i + by)
		}
		return x
	})
}

func wantSubst(c api.Con, l []api.Con) api.Con {
	return want(c, func(x named) named {
		i, free := freeIndex(x.name)
		switch {
		case !free:
			return x
		case i >= len(l):
			return variable(i - len(l))
		}
		// Names of its binders are told from those of c.
		n := namer{1 << 20}
		return n.named(l[i], nil)
	})
}

func wantBind(c api.Con, names []string) api.Con {
	return want(c, func(x named) named {
		if i, free := freeIndex(x.name); free {
			return variable(i + len(names))
		}
		if i := slices.Index(names, x.node.S); i >= 0 && x.node.Op == api.CConst {
			return variable(len(names) - 1 - i)
		}
		return x
	})
}

func wantUnbind(c api.Con, names []api.Const) api.Con {
	return want(c, func(x named) named {
		i, free := freeIndex(x.name)
		switch {
		case !free:
			return x
		case i >= len(names):
			return variable(i - len(names))
		}
		a := names[len(names)-1-i]
		return named{node: con(a.Name, a.Kind)}
	})
}

var (
	constForm = regexp.MustCompile(`^[A-Z][A-Za-z0-9_]{0,23}\.(0|[1-9][0-9]{0,15})$`)
	labelForm = regexp.MustCompile(`^[A-Za-z0-9_.]{1,48}$`)
)

func wantConstName(s string) bool {
	if !constForm.MatchString(s) {
		return false
	}
	n, err := strconv.Atoi(s[strings.Index(s, ".")+1:])
	return err == nil && n <= 1<<52
}

func wantKind(k api.Kind) bool {
	nodes := 0
	level := []api.Kind{k}
	for depth := 1; len(level) > 0; depth++ {
		nodes += len(level)
		if depth > 400 || nodes > 20000 {
			return false
		}
		var next []api.Kind
		for _, x := range level {
			if n := len(x.L); n != 0 && n != 2 {
				return false
			}
			next = append(next, x.L...)
		}
		level = next
	}
	return true
}

// wantNode says which forms a node has, without its parts.
func wantNode(c api.Con) bool {
	plain, indexed, constant, binding, labelled := false, false, false, false, false
	parts := 0
	switch c.Op {
	case 1, 3:
		indexed = true
	case 2:
		constant = true
	case 4, 5:
		plain = true
	case 6, 12:
		plain, parts = true, 2
	case 7, 8:
		labelled, parts = true, len(c.Names)
	case 9, 10, 11, 13:
		binding, parts = true, 1
	}
	if !plain && !indexed && !constant && !binding && !labelled || len(c.L) != parts {
		return false
	}
	if indexed && (c.N < 0 || c.N > 20000) || !indexed && c.N != 0 {
		return false
	}
	if constant && !wantConstName(c.S) || !constant && c.S != "" {
		return false
	}
	if (constant || binding) && !wantKind(c.Kind) || !constant && !binding && len(c.Kind.L) > 0 {
		return false
	}
	if !labelled {
		return len(c.Names) == 0
	}
	sorted := slices.Compact(slices.Sorted(slices.Values(c.Names)))
	isNoLabel := func(s string) bool { return !labelForm.MatchString(s) }
	return len(c.Names) <= 1000 && slices.Equal(sorted, c.Names) && !slices.ContainsFunc(c.Names, isNoLabel)
}

// wantValid goes through a constructor level by level.
func wantValid(c api.Con) bool {
	nodes := 0
	level := []api.Con{c}
	for depth := 1; len(level) > 0; depth++ {
		nodes += len(level)
		if depth > 400 || nodes > 20000 {
			return false
		}
		var next []api.Con
		for _, x := range level {
			if !wantNode(x) {
				return false
			}
			next = append(next, x.L...)
		}
		level = next
	}
	return true
}

// alike compares the texts of all fields.
func alike(a, b api.Con) bool { return written(a) == written(b) }

// written shows all of a constructor, with nil for empty lists.
func written(c api.Con) string {
	var b strings.Builder
	write(&b, c)
	return b.String()
}

func write(b *strings.Builder, c api.Con) {
	b.WriteString(strconv.Itoa(c.Op) + " " + strconv.Itoa(c.N) + " " + strconv.Quote(c.S))
	writeKind(b, c.Kind)
	for _, s := range c.Names {
		b.WriteString(strconv.Quote(s))
	}
	b.WriteString("[")
	for _, part := range c.L {
		write(b, part)
		b.WriteString(";")
	}
	b.WriteString("]")
}

func writeKind(b *strings.Builder, k api.Kind) {
	b.WriteString("(")
	for _, part := range k.L {
		writeKind(b, part)
	}
	b.WriteString(")")
}
