package value

import (
	"slices"

	"pilaster/api"
)

// tree is a value, or a record of which only the first fields are there. Trees share parts, as there may be many large ones; only results are copied.
type tree struct {
	op            int
	label         string
	names         []string
	parts         []*tree
	nodes, levels int
}

// found are the values of a type up to a depth. If complete is set, a greater depth has the same values, and no faults.
type found struct {
	list     []*tree
	depth    int
	complete bool
}

// values returns the values of c up to a depth, or the first fault. If a greater depth was searched before, the values that are not deeper are those that are asked for: so each type is searched at most once for each depth, though it may be reached in very many ways.
func (t types) values(c *knownType, depth int) (found, api.Errno) {
	if depth == 0 {
		return found{}, api.OK
	}
	if c.found.depth < depth && !c.found.complete {
		f, e := t.search(c, depth)
		if e != api.OK {
			return found{}, e
		}
		f.depth = depth
		c.found = f
	}
	return c.found.upTo(depth), api.OK
}

// upTo returns what is found up to a depth.
func (f found) upTo(depth int) found {
	isDeep := func(x *tree) bool { return x.levels > depth }
	if slices.ContainsFunc(f.list, isDeep) {
		return found{list: slices.DeleteFunc(slices.Clone(f.list), isDeep), depth: depth}
	}
	return found{f.list, depth, f.complete}
}

// search goes through the parts of c.
func (t types) search(c *knownType, depth int) (found, api.Errno) {
	switch c.con.Op {
	case api.CRecord:
		return t.records(c, depth)
	case api.CSum:
		return t.injections(c, depth)
	}
	u, e := t.unroll(c)
	switch e {
	case api.OK:
		return t.nodes(tree{op: api.VRoll}, []*knownType{u}, depth)
	case api.ErrBudget:
		return found{}, e
	}
	return found{}, api.ErrClass
}

func (t types) records(c *knownType, depth int) (found, api.Errno) {
	return t.nodes(tree{op: api.VRecord, names: c.con.Names}, c.parts, depth)
}

func (t types) injections(c *knownType, depth int) (found, api.Errno) {
	all := found{complete: true}
	for i, part := range c.parts {
		f, e := t.nodes(tree{op: api.VInject, label: c.con.Names[i]}, []*knownType{part}, depth)
		if e != api.OK {
			return found{}, e
		}
		all.list = append(all.list, f.list...)
		if len(all.list) > api.MaxList {
			return found{}, api.ErrFull
		}
		all.complete = all.complete && f.complete
	}
	return all, api.OK
}

// nodes returns the values up to a depth that are like a node without parts, with values of these types as parts.
func (t types) nodes(node tree, parts []*knownType, depth int) (found, api.Errno) {
	node.nodes, node.levels = 1, 1
	all := found{list: []*tree{&node}, complete: true}
	for _, part := range parts {
		f, e := t.values(part, depth-1)
		if e != api.OK {
			return found{}, e
		}
		list, ok := product(all.list, f.list)
		if !ok {
			return found{}, api.ErrFull
		}
		all.list = list
		all.complete = all.complete && f.complete
	}
	return all, api.OK
}

// product returns the trees with each of the parts as their next one, if there are not too many. One that has too many nodes would be no value.
func product(trees, parts []*tree) ([]*tree, bool) {
	var l []*tree
	for _, x := range trees {
		for _, part := range parts {
			if x.nodes+part.nodes > api.MaxNodes {
				continue
			}
			if len(l) == api.MaxList {
				return nil, false
			}
			l = append(l, x.with(part))
		}
	}
	return l, true
}

// with returns x with one more part.
func (x *tree) with(part *tree) *tree {
	r := *x
	// The list is clipped, so that nothing is written into what other trees have.
	r.parts = append(slices.Clip(x.parts), part)
	r.nodes += part.nodes
	r.levels = max(x.levels, part.levels+1)
	return &r
}

// copies returns the values that trees stand for.
func copies(list []*tree) []api.Value {
	var l []api.Value
	for _, x := range list {
		l = append(l, api.Value{Op: x.op, S: x.label, Names: slices.Clone(x.names), L: copies(x.parts)})
	}
	return l
}
