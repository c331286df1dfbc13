package normal

import (
	"pilaster/api"
	"pilaster/tycon"
)

// maxSteps is the number of beta steps that may be made.
const maxSteps = 10000

// extent is a number of nodes and one of levels.
type extent struct{ nodes, levels int }

// task is a node that is normalized in its place. Its parts before the one with the index next are normal.
type task struct {
	c     *api.Con
	next  int
	parts extent // the nodes of all normal parts, and the levels of the deepest one
	room  extent // what the normal form may have at most, if everything around it is to be well-formed
}

// normalizer counts steps, and keeps the nodes from the root to the one that it is at. They are kept in a list, as what a step yields is normalized where the step is made: so nodes may nest much deeper than in a constructor, and too deep for calls.
type normalizer struct {
	steps int
	tasks []task
}

// largest returns what well-formed constructors have at most.
func largest() extent { return extent{api.MaxNodes, api.MaxDepth} }

// normalize replaces c, which is well-formed, and all of whose memory is its own, by its normal form. It reports whether c is tame.
func (n *normalizer) normalize(c *api.Con) bool {
	ok := n.begin(c, largest())
	for ok && len(n.tasks) > 0 {
		t := &n.tasks[len(n.tasks)-1]
		if t.next < len(t.c.L) {
			ok = n.begin(&t.c.L[t.next], t.roomOfPart())
		} else {
			ok = n.finish(t)
		}
	}
	return ok
}

// begin goes to a node. If there is no room for anything, nothing that follows can help: so a constructor that grows with each step is given up before it fills the memory.
func (n *normalizer) begin(c *api.Con, room extent) bool {
	n.tasks = append(n.tasks, task{c: c, room: room})
	return room.nodes > 0 && room.levels > 0
}

// finish makes the step of a node with normal parts, if there is one. It leaves the node, unless this has to be normalized again.
func (n *normalizer) finish(t *task) bool {
	if isRedex(t.c) {
		*t = task{c: t.c, room: t.room}
		return n.step(t.c)
	}
	made := extent{t.parts.nodes + 1, t.parts.levels + 1}
	if f, found := etaStep(t.c); found {
		*t.c = f
		// The CLam, the application, and the variable are gone.
		made = extent{made.nodes - 3, made.levels - 2}
	}
	if made.nodes > t.room.nodes || made.levels > t.room.levels {
		return false
	}
	n.tasks = n.tasks[:len(n.tasks)-1]
	if around := len(n.tasks) - 1; around >= 0 {
		n.tasks[around].add(made)
	}
	return true
}

// step makes a beta step in the place of c, and reports whether it may be made, and yields what is well-formed.
func (n *normalizer) step(c *api.Con) bool {
	if n.steps == maxSteps {
		return false
	}
	n.steps++
	r, e := tycon.Subst(c.L[0].L[0], c.L[1:])
	*c = r
	return e == api.OK
}

// add adds a normal part.
func (t *task) add(part extent) {
	t.next++
	t.parts = extent{t.parts.nodes + part.nodes, max(t.parts.levels, part.levels)}
}

// roomOfPart returns the room of the next part: the node, with this part and those before it, needs room in what is around it, or, if a step follows, in nothing but the node itself.
func (t *task) roomOfPart() extent {
	room := t.room
	switch {
	case t.c.Op == api.CLam:
		// An eta step would take so much away again.
		room = extent{min(room.nodes+3, api.MaxNodes), min(room.levels+2, api.MaxDepth)}
	case t.c.Op == api.CApp && (t.next == 0 || isRedex(t.c)):
		// Nobody knows what a beta step would make of it.
		room = largest()
	}
	return extent{room.nodes - 1 - t.parts.nodes, room.levels - 1}
}

// isRedex reports whether a beta step can be made: c is the application of a CLam.
func isRedex(c *api.Con) bool { return c.Op == api.CApp && c.L[0].Op == api.CLam }

// etaStep returns what an eta step makes of c, if it applies.
func etaStep(c *api.Con) (api.Con, bool) {
	if c.Op != api.CLam || c.L[0].Op != api.CApp {
		return api.Con{}, false
	}
	f, a := c.L[0].L[0], c.L[0].L[1]
	if a.Op != api.CVar || a.N != 0 {
		return api.Con{}, false
	}
	// The shift is refused if 0 is a free index of f.
	r, e := tycon.Shift(f, -1, 0)
	return r, e == api.OK
}
