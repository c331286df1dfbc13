package term

import (
	"pilaster/api"
	"pilaster/kind"
	"pilaster/tycon"
)

// binders are numbers of variables that are bound around a node: those of constructors, and those of terms.
type binders struct{ cons, terms int }

// inPart returns the binders around the part with the index i of a node of a kind that has b around it.
func (b binders) inPart(op, i int) binders {
	switch op {
	case api.ETLam:
		b.cons++
	case api.ELam, api.EFix:
		b.terms++
	case api.ELet, api.ECase:
		if i > 0 {
			b.terms++
		}
	case api.EUnpack:
		if i > 0 {
			b.cons++
			b.terms++
		}
	}
	return b
}

// visit calls f with each node of a well-formed term, and the binders around it.
func visit(t *api.Term, around binders, f func(node *api.Term, around binders)) {
	f(t, around)
	for i := range t.L {
		visit(&t.L[i], around.inPart(t.Op, i), f)
	}
}

// change says what becomes of free variables and of constructors.
type change struct {
	// variable returns what stands for a free index, with these binders around it, at a depth of the result, and whether the result is still within the limits.
	variable func(index int, around binders, depth int) (api.Term, bool)
	// con returns what stands for a constructor, with so many variables of constructors bound around it.
	con func(c api.Con, around int) (api.Con, api.Errno)
}

// builder makes one term out of new memory. It knows how many nodes may still be made, so that nothing huge is made before it is refused.
type builder struct{ left int }

func newBuilder() *builder { return &builder{api.MaxNodes} }

// result returns t, which is known to be made of well-formed nodes, with a change.
func (b *builder) result(t api.Term, f change) (api.Term, api.Errno) {
	r, ok := b.rebuilt(&t, binders{}, 1, f)
	if !ok {
		return api.Term{}, api.ErrBig
	}
	return r, api.OK
}

// rebuilt returns t with a change, to stand at a depth of the result, and whether that is within the limits. Only binders of the term that the change is for are counted.
func (b *builder) rebuilt(t *api.Term, around binders, depth int, f change) (api.Term, bool) {
	if t.Op == api.EVar && t.N >= around.terms {
		return f.variable(t.N-around.terms, around, depth)
	}
	r, ok := b.node(t, depth)
	if ok && hasCon(t.Op) {
		r.Con, ok = b.con(f.con(t.Con, around.cons))
	}
	if ok && t.Op == api.EPack {
		r.To, ok = b.con(f.con(t.To, around.cons))
	}
	for i := 0; ok && i < len(t.L); i++ {
		r.L[i], ok = b.rebuilt(&t.L[i], around.inPart(t.Op, i), depth+1, f)
	}
	return r, ok
}

// node returns a copy of a node, without its constructors and with room for its parts, to stand at a depth of the result, and whether that is within the limits.
func (b *builder) node(t *api.Term, depth int) (api.Term, bool) {
	if depth > api.MaxDepth || !b.take(1) {
		return api.Term{}, false
	}
	r := api.Term{Op: t.Op, N: t.N, S: t.S, Names: append([]string(nil), t.Names...)}
	if len(t.L) > 0 {
		r.L = make([]api.Term, len(t.L))
	}
	if t.Op == api.ETLam {
		// An arrow without parameters is a copy of its last part.
		r.Kind, _ = kind.Arrow(nil, t.Kind)
	}
	return r, true
}

// variable returns the variable with the index n, to stand at a depth of the result, and whether that is within the limits.
func (b *builder) variable(n, depth int) (api.Term, bool) {
	if n > api.MaxNodes {
		return api.Term{}, false
	}
	return b.node(&api.Term{Op: api.EVar, N: n}, depth)
}

// con takes the nodes of a constructor that was made, and reports whether it is within the limits.
func (b *builder) con(c api.Con, e api.Errno) (api.Con, bool) {
	return c, e == api.OK && b.take(tycon.Size(c))
}

func (b *builder) take(nodes int) bool {
	b.left -= nodes
	return b.left >= 0
}

// shifting returns the change that adds two numbers to the free indices of constructors and of terms.
func (b *builder) shifting(cons, terms int) change {
	return change{
		variable: func(index int, around binders, depth int) (api.Term, bool) {
			return b.variable(around.terms+index+terms, depth)
		},
		con: func(c api.Con, around int) (api.Con, api.Errno) { return tycon.Shift(c, cons, around) },
	}
}

// copied returns a term that is equal to t, which is known to be made of well-formed nodes, and shares no memory with it.
func copied(t api.Term) (api.Term, api.Errno) {
	b := newBuilder()
	f := b.shifting(0, 0)
	f.con = copiedCon
	return b.result(t, f)
}

// copiedCon does the same for a constructor, whatever is bound around it: it is the application to nothing.
func copiedCon(c api.Con, _ int) (api.Con, api.Errno) { return tycon.Apps(c, nil) }
