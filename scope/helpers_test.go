package scope

import (
	"slices"
	"strings"
	"testing"

	"pilaster/api"
	"pilaster/parsecore"
	"pilaster/parsemod"
)

func node(op int, l ...api.Syn) api.Syn { return api.Syn{Op: op, L: l} }

func named(op int, s string, l ...api.Syn) api.Syn { return api.Syn{Op: op, S: s, L: l} }

func path(op int, s string, l ...api.Syn) api.Syn {
	return api.Syn{Op: op, Names: strings.Split(s, "."), L: l}
}

// parsed returns the tree of a source of a category: of a declaration or a specification alone, for these.
func parsed(t *testing.T, cat int, s string) api.Syn {
	t.Helper()
	x, at, e := api.Syn{}, api.Pos{}, api.OK
	switch cat {
	case api.CatType:
		x, at, e = parsecore.Type(s)
	case api.CatPat:
		x, at, e = parsecore.Pattern(s)
	case api.CatExpr:
		x, at, e = parsecore.Expr(s)
	case api.CatSig:
		x, at, e = parsemod.Sig(s)
	case api.CatMod:
		x, at, e = parsemod.Mod(s)
	case api.CatDecl:
		x, at, e = parsemod.Mod("struct " + s + " end")
	case api.CatSpec:
		x, at, e = parsemod.Sig("sig " + s + " end")
	}
	if e != api.OK {
		t.Fatalf("%q: %d at %v", s, e, at)
	}
	if cat == api.CatDecl || cat == api.CatSpec {
		if len(x.L) != 1 {
			t.Fatalf("%q: %d trees", s, len(x.L))
		}
		return x.L[0]
	}
	return x
}

// unitOf returns the unit of a source.
func unitOf(t *testing.T, name, s string) api.Unit {
	t.Helper()
	u, at, e := parsemod.Unit(name, s)
	if e != api.OK {
		t.Fatalf("%q: %d at %v", s, e, at)
	}
	return u
}

// expectLabels compares the labels of a result with those of a text, separated by blanks.
func expectLabels(t *testing.T, what string, want string, l []string, e api.Errno) {
	t.Helper()
	if !slices.Equal(l, strings.Fields(want)) || e != api.OK {
		t.Errorf("%s: %v, %d; want %s", what, l, e, want)
	}
}

// expectError fails if there is another error, or if anything stands beside it.
func expectError(t *testing.T, what any, want api.Errno, l []string, e api.Errno) {
	t.Helper()
	if len(l) != 0 || e != want {
		t.Errorf("%v: %v, %d; want %d", what, l, e, want)
	}
}

func free(t *testing.T, cat int, x api.Syn) []string {
	t.Helper()
	l, e := Free(cat, x)
	if e != api.OK {
		t.Fatalf("Free(%d, %+v): %d", cat, x, e)
	}
	return l
}

func binds(t *testing.T, x api.Syn) []string {
	t.Helper()
	l, e := Binds(x)
	if e != api.OK {
		t.Fatalf("Binds(%+v): %d", x, e)
	}
	return l
}
