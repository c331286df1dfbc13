package kernel

import (
	"pilaster/api"
	"pilaster/kinding"
	"pilaster/normal"
	"pilaster/tycon"
)

// variable is a variable of terms, and its type in the scope of the first kinds of a context. It keeps the type as it was looked up last, as large types are looked up often in the same scope.
type variable struct {
	con    api.Con
	kinds  int // how many kinds there are in the scope of con
	normal bool
	fault  api.Errno // why there is no normal form
}

// context is what variables are. A type is shifted when it is looked up, not whenever a kind is added, as few types are looked up below most binders.
type context struct {
	kinds []api.Kind
	types []*variable
}

// newContext returns the context in which a term is checked.
func newContext(g api.Context) context {
	types := make([]*variable, len(g.Types))
	for i, c := range g.Types {
		types[i] = &variable{con: c, kinds: len(g.Kinds)}
	}
	return context{g.Kinds, types}
}

// withKind adds a kind. It never writes into memory behind the end of a list, which belongs to others.
func (g context) withKind(k api.Kind) context {
	g.kinds = append(g.kinds[:len(g.kinds):len(g.kinds)], k)
	return g
}

// withType adds a type, a normal form.
func (g context) withType(c api.Con) context {
	g.types = append(g.types[:len(g.types):len(g.types)], &variable{con: c, kinds: len(g.kinds), normal: true})
	return g
}

// variable returns the type of a variable of terms.
func (g context) variable(index int) (api.Con, api.Errno) {
	if index >= len(g.types) {
		return api.Con{}, api.ErrName
	}
	v := g.types[len(g.types)-1-index]
	v.normalize()
	v.moveTo(len(g.kinds))
	return v.con, v.fault
}

// normalize is called when a type is looked up: others need not even be tame.
func (v *variable) normalize() {
	if !v.normal {
		v.con, v.fault = normal.Normal(v.con)
		v.normal = true
	}
}

// moveTo shifts the type into the scope of so many kinds. These may be fewer than before, but the type names only those that were there when it was added.
func (v *variable) moveTo(kinds int) {
	if v.fault == api.OK && v.kinds != kinds {
		v.con, v.fault = tycon.Shift(v.con, kinds-v.kinds, 0)
		v.kinds = kinds
	}
}

// normalType returns the normal form of c, which is asked for the kind of types.
func (g context) normalType(c api.Con) (api.Con, api.Errno) {
	if e := kinding.Check(g.kinds, c, star()); e != api.OK {
		return api.Con{}, e
	}
	return normal.Normal(c)
}

// expect tells whether t has the type c, a normal form.
func (g context) expect(t *api.Term, c api.Con) api.Errno {
	found, e := g.typeOf(t)
	if e == api.OK && !tycon.Equal(found, c) {
		return api.ErrType
	}
	return e
}

// typesOf returns the types of all elements of a list.
func (g context) typesOf(l []api.Term) ([]api.Con, api.Errno) {
	types := make([]api.Con, len(l))
	for i := range l {
		c, e := g.typeOf(&l[i])
		if e != api.OK {
			return nil, e
		}
		types[i] = c
	}
	return types, api.OK
}

// permitted returns a type made of normal forms, unless it is too large.
func permitted(c api.Con) (api.Con, api.Errno) {
	if !tycon.Valid(c) {
		return api.Con{}, api.ErrBudget
	}
	return c, api.OK
}

// instance returns the normal form of the part of a binder, with a for its variable.
func instance(part, a api.Con) (api.Con, api.Errno) {
	c, e := tycon.Subst(part, []api.Con{a})
	if e != api.OK {
		return api.Con{}, api.ErrBudget
	}
	return normal.Normal(c)
}

// partOf returns the type that belongs to a label, if c is a record, or a sum, as op says, and has this label.
func partOf(c api.Con, op int, label string) (api.Con, api.Errno) {
	if c.Op == op {
		for i, name := range c.Names {
			if name == label {
				return c.L[i], api.OK
			}
		}
	}
	return api.Con{}, api.ErrType
}
