package value

import (
	"strconv"
	"strings"

	"pilaster/api"
	"pilaster/ident"
	"pilaster/normal"
)

// knownType is a normal form, or a part of one, and what was found out about it.
type knownType struct {
	con    api.Con
	parts  []*knownType
	number int

	asked    bool // whether the unrolling was asked for
	unrolled *knownType
	fault    api.Errno // why there is no unrolling

	found found // its values
}

// types are the types that a call has met. Equal ones are one, as a recursive type occurs in its own unrolling, and nothing about it should be found out again and again.
type types map[string]*knownType

// normalForm returns the normal form of c.
func (t types) normalForm(c api.Con) (*knownType, api.Errno) {
	c, e := normal.Normal(c)
	if e != api.OK {
		return nil, e
	}
	return t.known(c), api.OK
}

// known returns what is known of c, which is normal.
func (t types) known(c api.Con) *knownType {
	parts := make([]*knownType, len(c.L))
	for i, part := range c.L {
		parts[i] = t.known(part)
	}
	k := key(c, parts)
	if t[k] == nil {
		t[k] = &knownType{con: c, parts: parts, number: len(t)}
	}
	return t[k]
}

// unroll returns the unrolling of c, or the error of normal.Unroll.
func (t types) unroll(c *knownType) (*knownType, api.Errno) {
	if !c.asked {
		c.asked = true
		u, e := normal.Unroll(c.con)
		c.fault = e
		if e == api.OK {
			c.unrolled = t.known(u)
		}
	}
	return c.unrolled, c.fault
}

// partOf returns the part of c that belongs to a label, if there is one.
func (c *knownType) partOf(label string) (*knownType, bool) {
	i := ident.Find(c.con.Names, label)
	if i < 0 {
		return nil, false
	}
	return c.parts[i], true
}

// key returns a text that no other constructor has. Neither labels nor names of constants contain blanks or commas.
func key(c api.Con, parts []*knownType) string {
	var b strings.Builder
	b.WriteString(strconv.Itoa(c.Op) + " " + strconv.Itoa(c.N) + " " + c.S + " " + strings.Join(c.Names, ",") + " ")
	writeKind(&b, c.Kind)
	for _, part := range parts {
		b.WriteString(" " + strconv.Itoa(part.number))
	}
	return b.String()
}

func writeKind(b *strings.Builder, k api.Kind) {
	b.WriteByte('(')
	for _, part := range k.L {
		writeKind(b, part)
	}
	b.WriteByte(')')
}
