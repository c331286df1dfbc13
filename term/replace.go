package term

import (
	"strconv"

	"pilaster/api"
	"pilaster/tycon"
)

// replacer substitutes a list for the variables of constructors that come from outside of a term. Under binders, tycon has no substitution that leaves the first variables alone: so these are constants meanwhile, whose names nothing else has.
type replacer struct {
	l     []api.Con
	taken map[string]bool // the names of all constants that occur
	names []string        // of the constants for bound variables: as many as were asked for so far
	next  int             // the number in the next name
}

func newReplacer(t api.Term, l []api.Con) *replacer {
	r := &replacer{l: l, taken: map[string]bool{}}
	visit(&t, binders{}, func(node *api.Term, _ binders) {
		for _, c := range consOf(node) {
			addConsts(r.taken, c)
		}
	})
	for i := range l {
		addConsts(r.taken, &l[i])
	}
	return r
}

// addConsts adds the names of the constants of c, of which tycon gives no list if one has two kinds.
func addConsts(names map[string]bool, c *api.Con) {
	if c.Op == api.CConst {
		names[c.S] = true
	}
	for i := range c.L {
		addConsts(names, &c.L[i])
	}
}

// replaced returns c, with so many variables bound around it, with the list substituted. Indices that are too great on the way are so in the result, as binding makes them greater.
func (r *replacer) replaced(c api.Con, around int) (api.Con, api.Errno) {
	l, found := r.needed(c, around)
	if !found {
		return copiedCon(c, around)
	}
	names := r.constNames(around)
	c, e := tycon.Unbind(c, constants(names))
	if e == api.OK {
		c, e = tycon.Subst(c, l)
	}
	if e == api.OK {
		c, e = tycon.Bind(c, names)
	}
	return c, e
}

// needed returns the list with something small for each element that c has no variable for, so that it is not gone through in vain, and whether c has any variable from outside.
func (r *replacer) needed(c api.Con, around int) ([]api.Con, bool) {
	free, _ := tycon.Free(c)
	if len(free) == 0 || free[len(free)-1] < around {
		return nil, false
	}
	l := make([]api.Con, len(r.l))
	for i := range l {
		l[i] = api.Con{Op: api.CInt}
	}
	for _, index := range free {
		if i := index - around; 0 <= i && i < len(l) {
			l[i] = r.l[i]
		}
	}
	return l, true
}

// constNames returns n names of constants, none of which occurs.
func (r *replacer) constNames(n int) []string {
	for len(r.names) < n {
		s := "Bound." + strconv.Itoa(r.next)
		if !r.taken[s] {
			r.names = append(r.names, s)
		}
		r.next++
	}
	return r.names[:n:n]
}

// constants returns constants with names. Their kinds are of no account, as they become variables again.
func constants(names []string) []api.Const {
	var l []api.Const
	for _, s := range names {
		l = append(l, api.Const{Name: s})
	}
	return l
}
