package scope

import (
	"slices"
	"testing"

	"pilaster/api"
	"pilaster/syntax"
)

// The second description: it goes from each node to the nodes around it, and asks what these bind there.

// step is a node around another one, which is in its part i.
type step struct {
	t api.Syn
	i int
}

// eachNode hands all nodes of a tree to f, with the nodes around them, the outermost one first.
func eachNode(t api.Syn, around []step, f func(t api.Syn, around []step)) {
	f(t, around)
	for i, part := range t.L {
		eachNode(part, append(slices.Clone(around), step{t, i}), f)
	}
}

func sorted(l []string) []string {
	s := slices.Clone(l)
	slices.Sort(s)
	return slices.Compact(s)
}

// wantReference returns the label to which a path refers, "" if there is none.
func wantReference(t api.Syn) string {
	prefix := map[int]string{
		api.XVar: "val.", api.TyPath: "type.", api.SpShare: "type.", api.PtCtor: "con.", api.XCtor: "con.",
		api.XPack: "mod.", api.DOpen: "mod.", api.DInclude: "mod.", api.MPath: "mod.", api.TyPack: "sig.", api.GPath: "sig.",
	}[t.Op]
	if prefix != "" && len(t.Names) > 1 {
		prefix = "mod."
	}
	if prefix == "" {
		return ""
	}
	return prefix + t.Names[0]
}

// wantBindings returns what a pattern, a declaration, or a specification binds, a label as often as it is bound.
func wantBindings(t api.Syn) []string {
	var l []string
	if syntax.Category(t.Op) == api.CatPat {
		eachNode(t, nil, func(p api.Syn, _ []step) {
			if p.Op == api.PtVar {
				l = append(l, "val."+p.S)
			}
		})
		return l
	}
	prefix := map[int]string{
		api.DVal: "val.", api.DFun: "val.", api.SpVal: "val.", api.DType: "type.", api.SpType: "type.", api.DData: "type.",
		api.DStruct: "mod.", api.DUnpack: "mod.", api.SpStruct: "mod.", api.DSig: "sig.", api.SpSig: "sig.",
	}[t.Op]
	if prefix != "" {
		l = append(l, prefix+t.S)
	}
	if t.Op == api.DData {
		for _, c := range t.L {
			l = append(l, "con."+c.S)
		}
	}
	return l
}

// wantBoundBy returns what a node binds in one of its parts.
func wantBoundBy(s step) []string {
	var l []string
	switch t := s.t; t.Op {
	case api.XFn:
		if t.S != "" {
			l = append(l, "val."+t.S)
		}
	case api.DFun:
		for _, name := range append([]string{t.S}, t.Names...) {
			l = append(l, "val."+name)
		}
	case api.DData:
		l = append(l, "type."+t.S)
	case api.MFun, api.GFun:
		if s.i > 0 {
			l = append(l, "mod."+t.S)
		}
	case api.XRule, api.XLet, api.MStruct, api.MLet, api.GSig:
		for _, before := range t.L[:s.i] {
			l = append(l, wantBindings(before)...)
		}
	}
	return l
}

func wantFree(t api.Syn) []string {
	var l []string
	eachNode(t, nil, func(p api.Syn, around []step) {
		s := wantReference(p)
		if s != "" && !slices.ContainsFunc(around, func(a step) bool { return slices.Contains(wantBoundBy(a), s) }) {
			l = append(l, s)
		}
	})
	return sorted(l)
}

func twice(l []string) bool { return len(sorted(l)) < len(l) }

// wantFault returns the error that a node itself has.
func wantFault(t api.Syn, around []step) api.Errno {
	var together []string
	switch t.Op {
	case api.XRule:
		together = wantBindings(t.L[0])
	case api.DFun:
		together = t.Names
	case api.GSig:
		for _, p := range t.L {
			together = append(together, wantBindings(p)...)
		}
	case api.TyVar:
		permits := func(a step) bool {
			o := a.t
			return o.Op == api.SpVal || (o.Op == api.DType || o.Op == api.DData) && slices.Contains(o.Names, t.S)
		}
		if !slices.ContainsFunc(around, permits) {
			return api.ErrName
		}
	}
	if len(around) == 0 && syntax.Category(t.Op) == api.CatPat {
		together = wantBindings(t)
	}
	if twice(together) {
		return api.ErrTwice
	}
	return api.OK
}

func wantChecked(t api.Syn) api.Errno {
	first := api.OK
	eachNode(t, nil, func(p api.Syn, around []step) {
		if first == api.OK {
			first = wantFault(p, around)
		}
	})
	return first
}

// TestSamples makes sure that the trees are well-formed, have nodes of all kinds, and that much is bound in them.
func TestSamples(t *testing.T) {
	seen, bound, free := map[int]bool{}, 0, 0
	for _, x := range samples(1, 500) {
		if !syntax.Valid(x.cat, x.t) {
			t.Fatalf("%+v", x)
		}
		eachNode(x.t, nil, func(p api.Syn, around []step) {
			seen[p.Op] = true
			if s := wantReference(p); s != "" && slices.ContainsFunc(around, func(a step) bool { return slices.Contains(wantBoundBy(a), s) }) {
				bound++
			} else if s != "" {
				free++
			}
		})
	}
	if len(seen) != 52 || bound < 1000 || free < 1000 {
		t.Error(len(seen), bound, free)
	}
}

// P7.1
func TestFreeOfSamples(t *testing.T) {
	for _, x := range samples(2, 1500) {
		if got, e := Free(x.cat, x.t); !slices.Equal(got, wantFree(x.t)) || e != api.OK {
			t.Fatalf("%+v: %v, %d; want %v", x, got, e, wantFree(x.t))
		}
	}
}

// P7.2
func TestBindsOfSamples(t *testing.T) {
	for _, x := range samples(3, 1500) {
		got, e := Binds(x.t)
		switch x.cat {
		case api.CatPat, api.CatDecl, api.CatSpec:
			if !slices.Equal(got, sorted(wantBindings(x.t))) || e != api.OK {
				t.Fatalf("%+v: %v, %d", x, got, e)
			}
		default:
			expectError(t, x, api.ErrArg, got, e)
		}
	}
}

// P7.3
func TestCheckOfSamples(t *testing.T) {
	codes := map[api.Errno]int{}
	for _, x := range samples(4, 3000) {
		e := Check(x.cat, x.t)
		if e != wantChecked(x.t) {
			t.Fatalf("%+v: %d; want %d", x, e, wantChecked(x.t))
		}
		codes[e]++
	}
	if codes[api.OK] < 1000 || codes[api.ErrTwice] < 1000 || codes[api.ErrName] < 1000 {
		t.Error(codes)
	}
}

// P7.4
func TestUnboundOfSamples(t *testing.T) {
	hidden := []string{"type.int", "val.print", "con.True", "mod.B", "mod.M"}
	met := map[string]bool{}
	var decls []api.Syn
	for _, x := range samples(5, 2000) {
		if x.cat != api.CatDecl {
			continue
		}
		if decls = append(decls, x.t); len(decls) > 4 {
			decls = decls[1:]
		}
		l := slices.DeleteFunc(wantFree(node(api.MStruct, decls...)), func(s string) bool {
			met[s] = true
			return slices.Contains(hidden, s)
		})
		u := api.Unit{Name: "A", Imports: []string{"M", "B"}, Decls: decls}
		if got, e := Unbound(u); !slices.Equal(got, l) || e != api.OK {
			t.Fatalf("%+v: %v, %d; want %v", u, got, e, l)
		}
	}
	for _, s := range append(hidden, "sig.B", "con.B", "mod.A", "type.print", "val.int") {
		if !met[s] {
			t.Error(s)
		}
	}
}
