package scope

import (
	"math/rand"
	"slices"
	"strconv"
	"strings"
	"testing"

	"pilaster/api"
)

// P7.4: what is unbound in units, written by hand.
func TestUnbound(t *testing.T) {
	for s, want := range map[string]string{
		"":                                  "",
		"val x = y":                         "val.y",
		"val x = 1 val y = x":               "",
		"val y = x val x = 1":               "val.x",
		"import B; val x = B.f (y, C.z)":    "mod.C val.y",
		"import B, C; val x = B.f (y, C.z)": "val.y",
		"import B; open B open C":           "mod.C",
		"import B; structure M = B (A)":     "mod.A",
		"import B; val x = B":               "con.B",
		"import B; structure M = B : B":     "sig.B",
		"import B; signature S = B.S":       "",
		"import B;":                         "",
		"import B; structure B = struct end val x = B.y":       "",
		"import B, C, D; type t = D.t * B.t * E.t":             "mod.E",
		"structure M = N structure O = M":                      "mod.N",
		"open M val x = y":                                     "mod.M val.y",
		"type t = int * text * bool * unit":                    "",
		"val x = not (size (show (same (print (abort 1)))))":   "",
		"val x = (True, False)":                                "",
		"val print = print val size = 1 val x = (size, print)": "",
	} {
		l, e := Unbound(unitOf(t, "A", s))
		expectLabels(t, s, want, l, e)
	}
}

// P7.4: each built-in label is one of its kind only.
func TestBuiltInLabels(t *testing.T) {
	builtIn := strings.Fields("type.int type.text type.bool type.unit val.not val.size val.show val.same val.print val.abort con.True con.False")
	for _, name := range strings.Fields("int text bool unit not size show same print abort true false add integer Int ab") {
		for kind, s := range map[string]string{"val.": "val z = ", "type.": "type z = "} {
			if strings.ToLower(name) != name {
				continue
			}
			want := kind + name
			if slices.Contains(builtIn, want) {
				want = ""
			}
			l, e := Unbound(unitOf(t, "A", s+name))
			expectLabels(t, s+name, want, l, e)
		}
	}
	for _, name := range strings.Fields("True False Int Text Nil Tru A") {
		for kind, s := range map[string]string{"con.": "val z = ", "mod.": "open ", "sig.": "signature Z = "} {
			want := kind + name
			if slices.Contains(builtIn, want) {
				want = ""
			}
			l, e := Unbound(unitOf(t, "A", s+name))
			expectLabels(t, s+name, want, l, e)
		}
	}
	l, e := Unbound(unitOf(t, "A", "val z = fn x => case x of True => 1 | False => 2 | Other => 3 end"))
	expectLabels(t, "pattern", "con.Other", l, e)
	// Free knows of no label that is built in.
	l, e = Free(api.CatType, path(api.TyPath, "int"))
	expectLabels(t, "int", "type.int", l, e)
}

// upperNames returns n different upper names that ascend.
func upperNames(n int) []string {
	var l []string
	for i := range n {
		l = append(l, "U"+strconv.Itoa(100+i))
	}
	return l
}

// wrongUnits returns units that are not well-formed.
func wrongUnits() []api.Unit {
	x := path(api.XVar, "x")
	var l []api.Unit
	for _, s := range []string{"", "a", "end", "A.B", "mod.A", "'a", "1", "_A", "A ", "Ä", "A" + strings.Repeat("a", api.MaxName)} {
		l = append(l, api.Unit{Name: s}, api.Unit{Name: "A", Imports: []string{s}}, api.Unit{Name: "A", Imports: []string{"B", s, "C"}})
	}
	for _, imports := range [][]string{{"A"}, {"B", "A"}, {"B", "B"}, {"B", "C", "B"}, {"C", "D", "B", "D"}, upperNames(api.MaxUnits + 1), upperNames(1 << 16)} {
		l = append(l, api.Unit{Name: "A", Imports: imports})
	}
	for _, d := range append(malformed(), api.Syn{}, x, named(api.SpType, "t"), node(api.MStruct), node(api.GSig), named(api.DCtor, "C"), node(api.XRule, node(api.PtAny), x), named(api.PtVar, "x")) {
		l = append(l, api.Unit{Name: "A", Decls: []api.Syn{d}}, api.Unit{Name: "A", Decls: []api.Syn{path(api.DOpen, "M"), d}})
	}
	return l
}

// P7.4, P7.5: units that are not well-formed.
func TestWrongUnits(t *testing.T) {
	for _, u := range wrongUnits() {
		l, e := Unbound(u)
		expectError(t, u.Name, api.ErrArg, l, e)
		for _, units := range [][]api.Unit{{u}, {{Name: "Z"}, u}, {u, {Name: "Z"}}, {{Name: "Z"}, {Name: "Z"}, u}} {
			l, e := Order(units)
			expectError(t, u.Name, api.ErrArg, l, e)
		}
	}
	for n := range api.MaxUnits + 1 {
		l, e := Unbound(api.Unit{Name: "A", Imports: upperNames(n)})
		expectLabels(t, strconv.Itoa(n), "", l, e)
	}
	long := "A" + strings.Repeat("a", api.MaxName-1)
	l, e := Unbound(api.Unit{Name: long, Imports: []string{long[1:2] + "x"}})
	expectError(t, long, api.ErrArg, l, e)
	l, e = Unbound(api.Unit{Name: long, Imports: []string{"A"}, Decls: []api.Syn{path(api.DOpen, "A"), path(api.DOpen, long)}})
	expectLabels(t, long, "mod."+long, l, e)
}

// units returns units from a text: names with their imports in parentheses.
func units(s string) []api.Unit {
	var l []api.Unit
	for _, word := range strings.Fields(s) {
		name, imports, found := strings.Cut(strings.TrimSuffix(word, ")"), "(")
		u := api.Unit{Name: name}
		if found && imports != "" {
			u.Imports = strings.Split(imports, ",")
		}
		l = append(l, u)
	}
	return l
}

// P7.5: orders, written by hand.
func TestOrder(t *testing.T) {
	for s, want := range map[string]string{
		"":                             "",
		"A":                            "A",
		"B A":                          "A B",
		"A(B) B":                       "B A",
		"B(A) A":                       "A B",
		"C(B) D B A(D)":                "B C D A",
		"A(B,C) B(C) C":                "C B A",
		"A(C,B) B C":                   "B C A",
		"A(Z) B C Z":                   "B C Z A",
		"A(Z) B(A) C(B) Z Y":           "Y Z A B C",
		"D(B,C) C(A) B(A) A":           "A B C D",
		"A1 A10 A2 A_ AA Aa A":         "A A1 A10 A2 AA A_ Aa",
		"X(W) W(V) V(U) U":             "U V W X",
		"E(A) D(A) C(A) B(A) A(Z) Z F": "F Z A B C D E",
		"M(N,O,P) N(O,P) O(P) P":       "P O N M",
	} {
		l, e := Order(units(s))
		if !slices.Equal(l, strings.Fields(want)) || e != api.OK {
			t.Errorf("%s: %v, %d; want %s", s, l, e, want)
		}
	}
}

// P7.5: the first error that applies.
func TestOrderRefuses(t *testing.T) {
	many := strings.Join(upperNames(api.MaxUnits), " ")
	for s, want := range map[string]api.Errno{
		many:                        api.OK,
		many + " A":                 api.ErrFull,
		many + " a":                 api.ErrFull,
		many + " U100":              api.ErrFull,
		many + " A(B)":              api.ErrFull,
		many + " A(A)":              api.ErrFull,
		"A a":                       api.ErrArg,
		"A A a":                     api.ErrArg,
		"A(B) a":                    api.ErrArg,
		"A(A)":                      api.ErrArg,
		"B(C) C(B) A(A)":            api.ErrArg,
		"A A":                       api.ErrTwice,
		"A B C A":                   api.ErrTwice,
		"A(B) A(C)":                 api.ErrTwice,
		"A A(B) B":                  api.ErrTwice,
		"B(C) C(B) A A":             api.ErrTwice,
		"A A B(D)":                  api.ErrTwice,
		"A(B)":                      api.ErrMissing,
		"A B(C)":                    api.ErrMissing,
		"A B(A,C)":                  api.ErrMissing,
		"A(B) B(A,C)":               api.ErrMissing,
		"A(B) B(A) C(D)":            api.ErrMissing,
		"A(B) B(A)":                 api.ErrCycle,
		"A B(C) C(B)":               api.ErrCycle,
		"A B(A,C) C(D) D(E) E(B)":   api.ErrCycle,
		"A(B) B(C) C(B)":            api.ErrCycle,
		"A B(A) C(B) D(C,F) E F(D)": api.ErrCycle,
	} {
		l, e := Order(units(s))
		if want == api.OK {
			if e != api.OK || len(l) != api.MaxUnits {
				t.Errorf("%s: %v, %d", s, l, e)
			}
			continue
		}
		expectError(t, s, want, l, e)
	}
	for _, n := range []int{api.MaxUnits + 1, 1 << 16} {
		l, e := Order(make([]api.Unit, n))
		expectError(t, n, api.ErrFull, l, e)
	}
	l, e := Order(make([]api.Unit, api.MaxUnits))
	expectError(t, "no names", api.ErrArg, l, e)
}

// leastOrder is a second description of the canonical order: of all orders with each unit after its imports, compared as lists, the least one.
func leastOrder(l []api.Unit) []string {
	slices.SortFunc(l, func(a, b api.Unit) int { return strings.Compare(a.Name, b.Name) })
	var extend func(taken []string) []string
	extend = func(taken []string) []string {
		if len(taken) == len(l) {
			return taken
		}
		for _, u := range l {
			ready := !slices.Contains(taken, u.Name)
			for _, s := range u.Imports {
				ready = ready && slices.Contains(taken, s)
			}
			if ready {
				if all := extend(append(slices.Clone(taken), u.Name)); all != nil {
					return all
				}
			}
		}
		return nil
	}
	return extend([]string{})
}

// randomUnits returns units whose imports are among the units; without cycles, if they are only those before in a random order.
func randomUnits(r *rand.Rand, cycles bool) []api.Unit {
	names := upperNames(r.Intn(8))
	r.Shuffle(len(names), func(i, j int) { names[i], names[j] = names[j], names[i] })
	var l []api.Unit
	for i, s := range names {
		u := api.Unit{Name: s, Decls: []api.Syn{path(api.DOpen, "M")}}
		for j, other := range names {
			if j != i && (j < i || cycles && r.Intn(4) == 0) && r.Intn(3) == 0 {
				u.Imports = append(u.Imports, other)
			}
		}
		l = append(l, u)
	}
	return l
}

// P7.5, P7.6: random units, in whatever order they are given.
func TestRandomOrders(t *testing.T) {
	r, codes := rand.New(rand.NewSource(1)), map[api.Errno]int{}
	for i := range 4000 {
		l := randomUnits(r, i%2 == 0)
		want := leastOrder(slices.Clone(l))
		for range 3 {
			r.Shuffle(len(l), func(i, j int) { l[i], l[j] = l[j], l[i] })
			got, e := Order(l)
			codes[e]++
			if want == nil {
				expectError(t, l, api.ErrCycle, got, e)
				continue
			}
			if !slices.Equal(got, want) || e != api.OK {
				t.Fatalf("%v: %v, %d; want %v", l, got, e, want)
			}
			for _, u := range l {
				for _, s := range u.Imports {
					if slices.Index(got, s) >= slices.Index(got, u.Name) {
						t.Fatalf("%v: %v", l, got)
					}
				}
			}
		}
	}
	if codes[api.OK] < 5000 || codes[api.ErrCycle] < 1000 {
		t.Error(codes)
	}
}
