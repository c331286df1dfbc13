package tycon

import (
	"iter"

	"pilaster/api"
	"pilaster/kind"
)

// change returns what stands for a free variable, or a constant, with so many binders around it, at a depth of the result, and whether the result is still within the limits.
type change func(leaf api.Con, binders, depth int) (api.Con, bool)

// builder makes one constructor out of new memory. It knows how many nodes may still be made, so that nothing huge is made before it is refused.
type builder struct{ left int }

func newBuilder() *builder { return &builder{api.MaxNodes} }

// result returns c, which is known to be made of well-formed nodes, with a change.
func (b *builder) result(c api.Con, f change) (api.Con, api.Errno) {
	r, ok := b.rebuilt(c, 0, 1, f)
	if !ok {
		return api.Con{}, api.ErrBig
	}
	return r, api.OK
}

// rebuilt returns c with a change, to stand at a depth of the result, and whether that is within the limits. Only binders of c itself are counted.
func (b *builder) rebuilt(c api.Con, binders, depth int, f change) (api.Con, bool) {
	if c.Op == api.CConst || c.Op == api.CVar && c.N >= binders {
		return f(c, binders, depth)
	}
	r, ok := b.node(c, depth)
	if isBinder(c.Op) {
		binders++
	}
	for i := 0; ok && i < len(r.L); i++ {
		r.L[i], ok = b.rebuilt(c.L[i], binders, depth+1, f)
	}
	return r, ok
}

// node returns a copy of a node, to stand at a depth of the result, and whether that is within the limits. Its parts are still those of c.
func (b *builder) node(c api.Con, depth int) (api.Con, bool) {
	if b.left == 0 || depth > api.MaxDepth || c.N > api.MaxNodes {
		return api.Con{}, false
	}
	b.left--
	c.Kind = copiedKind(c.Kind)
	c.Names = append([]string(nil), c.Names...)
	c.L = append([]api.Con(nil), c.L...)
	return c, true
}

// shifting returns the change that adds by to all variables whose free index is at least from.
func (b *builder) shifting(by, from int) change {
	return func(leaf api.Con, binders, depth int) (api.Con, bool) {
		if leaf.Op == api.CVar && leaf.N-binders >= from {
			leaf.N += by
		}
		return b.node(leaf, depth)
	}
}

// copied returns a constructor that is equal to c, which is known to be made of well-formed nodes, and shares no memory with it.
func copied(c api.Con) (api.Con, api.Errno) {
	b := newBuilder()
	return b.result(c, b.shifting(0, 0))
}

// copiedKind does the same for a kind that is valid: an arrow without parameters is a copy of its last part.
func copiedKind(k api.Kind) api.Kind {
	r, _ := kind.Arrow(nil, k)
	return r
}

// leaves returns the nodes without parts of a constructor that is well-formed, from left to right, with the numbers of binders around them.
func leaves(c api.Con) iter.Seq2[api.Con, int] {
	return func(yield func(api.Con, int) bool) { visit(c, 0, yield) }
}

func visit(c api.Con, binders int, f func(api.Con, int) bool) bool {
	if len(c.L) == 0 {
		return f(c, binders)
	}
	if isBinder(c.Op) {
		binders++
	}
	for _, part := range c.L {
		if !visit(part, binders, f) {
			return false
		}
	}
	return true
}

// freeIndices returns the free index of each free variable.
func freeIndices(c api.Con) iter.Seq[int] {
	return func(yield func(int) bool) {
		for leaf, binders := range leaves(c) {
			if i := leaf.N - binders; leaf.Op == api.CVar && i >= 0 && !yield(i) {
				return
			}
		}
	}
}
