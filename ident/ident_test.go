package ident

import (
	"maps"
	"math"
	"math/big"
	"regexp"
	"slices"
	"strings"
	"sync"
	"testing"

	"pilaster/api"
)

var (
	lowerForm  = regexp.MustCompile(`\A[a-z][A-Za-z0-9_]{0,23}\z`)
	upperForm  = regexp.MustCompile(`\A[A-Z][A-Za-z0-9_]{0,23}\z`)
	varForm    = regexp.MustCompile(`\A'[a-z][A-Za-z0-9_]{0,22}\z`)
	labelForm  = regexp.MustCompile(`\A[A-Za-z0-9_.]{1,48}\z`)
	numberForm = regexp.MustCompile(`\A(0|[1-9][0-9]*)\z`)
)

func keyWords() []string {
	return strings.Fields(`andalso case data div else end fn fun functor generative if import in include let mod module of open
		orelse pack sharing sig signature struct structure then type unpack val with`)
}

func labelKinds() map[int]string {
	return map[int]string{api.LabelVal: "val.", api.LabelType: "type.", api.LabelCtor: "con.", api.LabelMod: "mod.", api.LabelSig: "sig."}
}

func wantLower(s string) bool { return lowerForm.MatchString(s) && !slices.Contains(keyWords(), s) }

func wantUpper(s string) bool { return upperForm.MatchString(s) }

func wantPath(l []string) bool {
	for i, s := range l {
		if !wantUpper(s) && (i < len(l)-1 || !wantLower(s)) {
			return false
		}
	}
	return 1 <= len(l) && len(l) <= 8
}

// samples returns texts of all kinds, well-formed and malformed ones, with those on both sides of each bound.
func samples() []string {
	l := []string{"", "\xff", "\x00", "x\x00", "x\n", "\nx", "x ", " x", "é", "xé", "É", "ａ", "x\xc3", "'", "''a", "a'", "'a'", "'1", "'_", "'A", "'a.b",
		".", "..", "x.", ".x", "x.y", "M.x", "M.X", "m.X", "M..x", "M.'a", "M.val", "val.M", "-1", "+1", "1_000", "0x1", "1.0", "007", "1e3", "x-y", "x@", "x[", "x`", "x{", "x/", "x:"}
	for b := range 256 {
		l = append(l, string([]byte{byte(b)}))
		for _, first := range "aZ0_'." {
			l = append(l, string([]byte{byte(first), byte(b)}), string([]byte{byte(first), 'x', byte(b), '9'}))
		}
	}
	for _, w := range keyWords() {
		l = append(l, w, "'"+w, w+"1", w+"_", w[:len(w)-1], "a"+w, strings.ToUpper(w[:1])+w[1:], strings.ToUpper(w), "val."+w, "type."+w, "M."+w)
	}
	for _, n := range []int{22, 23, 24, 25, 47, 48, 49} {
		for _, c := range []string{"a", "B", "1", "_", "."} {
			l = append(l, strings.Repeat(c, n), "z"+strings.Repeat(c, n-1), "Z"+strings.Repeat(c, n-1), "'a"+strings.Repeat(c, n-2))
		}
	}
	for _, k := range slices.Sorted(maps.Keys(labelKinds())) {
		p := labelKinds()[k]
		for _, n := range []string{"", "x", "X", "x.y", "X.Y", "1", "_", "end", "End", " x", strings.Repeat("a", 24), strings.Repeat("a", 25), strings.Repeat("A", 24), strings.Repeat("A", 25)} {
			l = append(l, p+n, strings.ToUpper(p)+n, strings.TrimSuffix(p, ".")+n, p+p+n, "."+p+n)
		}
	}
	for _, n := range []int{7, 8, 9} {
		l = append(l, strings.Repeat("A.", n-1)+"x", strings.Repeat("A.", n-1)+"X", strings.Repeat(strings.Repeat("A", 24)+".", n-1)+strings.Repeat("a", 24))
	}
	for d := int64(-2); d <= 2; d++ {
		for _, shift := range []uint{31, 32, 52, 53, 63, 64} {
			n := new(big.Int).Lsh(big.NewInt(1), shift)
			l = append(l, n.Add(n, big.NewInt(d)).String(), "0"+n.String(), n.String()+"x", "-"+n.String())
		}
	}
	return append(l, strings.Repeat("9", 1000), strings.Repeat("0", 1000), strings.Repeat("9", 1000)+"x", "1"+strings.Repeat("0", 19))
}

// hostile returns texts that are much longer than any that is accepted.
func hostile() []string {
	var l []string
	for _, s := range []string{"a", "A", "'", ".", "A.", "9", "\xff", "val.", "\x00"} {
		l = append(l, strings.Repeat(s, 1<<20))
	}
	return l
}

// P1.1

func TestNamesOrdinary(t *testing.T) {
	for _, c := range []struct {
		s                             string
		lower, upper, variable, label bool
	}{
		{"x", true, false, false, true}, {"x_1", true, false, false, true}, {"mod2", true, false, false, true}, {"aB_9", true, false, false, true},
		{"X", false, true, false, true}, {"Ab_9", false, true, false, true}, {"Mod", false, true, false, true},
		{"'a", false, false, true, false}, {"'aB_9", false, false, true, false}, {"'mod", false, false, true, false},
		{"mod", false, false, false, true}, {"1", false, false, false, true}, {"_", false, false, false, true}, {"val.x", false, false, false, true}, {".", false, false, false, true},
		{"", false, false, false, false}, {"'", false, false, false, false}, {"'A", false, false, false, false}, {"x y", false, false, false, false}, {"é", false, false, false, false},
	} {
		if IsLower(c.s) != c.lower || IsUpper(c.s) != c.upper || IsVar(c.s) != c.variable || IsLabel(c.s) != c.label {
			t.Errorf("%q: %v %v %v %v", c.s, IsLower(c.s), IsUpper(c.s), IsVar(c.s), IsLabel(c.s))
		}
	}
}

func TestNamesAgreeWithTheirForms(t *testing.T) {
	for _, s := range samples() {
		if IsLower(s) != wantLower(s) {
			t.Errorf("IsLower(%q) = %v", s, IsLower(s))
		}
		if IsUpper(s) != wantUpper(s) {
			t.Errorf("IsUpper(%q) = %v", s, IsUpper(s))
		}
		if IsVar(s) != varForm.MatchString(s) {
			t.Errorf("IsVar(%q) = %v", s, IsVar(s))
		}
		if IsLabel(s) != labelForm.MatchString(s) {
			t.Errorf("IsLabel(%q) = %v", s, IsLabel(s))
		}
	}
}

func TestNamesAtTheirBounds(t *testing.T) {
	for n := range 60 {
		rest := strings.Repeat("b", n)
		if IsLower("a"+rest) != (n <= 23) || IsUpper("A"+rest) != (n <= 23) || IsVar("'"+rest) != (1 <= n && n <= 23) || IsLabel(rest) != (1 <= n && n <= 48) {
			t.Error(n)
		}
	}
}

func TestKeyWords(t *testing.T) {
	l := keyWords()
	if len(l) != 31 {
		t.Fatal(len(l))
	}
	for _, w := range l {
		if IsLower(w) || IsUpper(w) || !IsVar("'"+w) || !IsLabel(w) || !IsLower(w+"2") || !IsLower("x"+w) {
			t.Error(w)
		}
	}
	for _, w := range []string{"and", "as", "abort", "do", "exception", "false", "int", "ref", "rec", "text", "true", "unit", "where", "while", "applicative", "share"} {
		if !IsLower(w) {
			t.Error(w)
		}
	}
}

// P1.2

func TestLabelOrdinary(t *testing.T) {
	for _, c := range []struct {
		kind        int
		name, label string
	}{
		{api.LabelVal, "x_1", "val.x_1"}, {api.LabelType, "mod2", "type.mod2"}, {api.LabelCtor, "Nil", "con.Nil"}, {api.LabelMod, "X", "mod.X"}, {api.LabelSig, "Val", "sig.Val"},
		{api.LabelType, strings.Repeat("t", 24), "type." + strings.Repeat("t", 24)}, {api.LabelSig, strings.Repeat("S", 24), "sig." + strings.Repeat("S", 24)},
	} {
		if s, e := Label(c.kind, c.name); s != c.label || e != api.OK {
			t.Error(c, s, e)
		}
		if k, n, e := Split(c.label); k != c.kind || n != c.name || e != api.OK {
			t.Error(c, k, n, e)
		}
	}
}

func wantLabel(kind int, name string) (string, api.Errno) {
	prefix, ok := labelKinds()[kind]
	switch {
	case !ok:
		return "", api.ErrRange
	case kind <= api.LabelType && wantLower(name), kind > api.LabelType && wantUpper(name):
		return prefix + name, api.OK
	}
	return "", api.ErrForm
}

func TestLabelOfAnyKindAndName(t *testing.T) {
	kinds := []int{math.MinInt, -6, -1, 0, 1, 2, 3, 4, 5, 6, 7, 256, 257, 1<<32 + 1, math.MaxInt}
	for _, kind := range kinds {
		for _, name := range samples() {
			s, e := Label(kind, name)
			if want, code := wantLabel(kind, name); s != want || e != code {
				t.Errorf("Label(%d, %q) = %q, %d", kind, name, s, e)
			}
		}
	}
}

func TestSplitOfAnyText(t *testing.T) {
	for _, s := range samples() {
		kind, name, code := 0, "", api.ErrForm
		for k, p := range labelKinds() {
			n := strings.TrimPrefix(s, p)
			if label, e := wantLabel(k, n); e == api.OK && label == s {
				kind, name, code = k, n, api.OK
			}
		}
		if k, n, e := Split(s); k != kind || n != name || e != code {
			t.Errorf("Split(%q) = %d, %q, %d", s, k, n, e)
		}
	}
}

func TestSplitRefuses(t *testing.T) {
	for _, s := range []string{"", "x", "val", "val.", "val.X", "type.T", "con.x", "mod.x", "sig.s", "val.val", "type.end", "sig.S.T", "Val.x", "value.x", "val..x", "val.x.", " val.x", "val.'a", "type." + strings.Repeat("t", 25)} {
		if k, n, e := Split(s); k != 0 || n != "" || e != api.ErrForm {
			t.Errorf("Split(%q) = %d, %q, %d", s, k, n, e)
		}
	}
}

// P1.3

func TestPathsOrdinary(t *testing.T) {
	for s, l := range map[string][]string{
		"x": {"x"}, "X": {"X"}, "M.x": {"M", "x"}, "M.N": {"M", "N"}, "M.N.o_1": {"M", "N", "o_1"}, "A.B.C.D.E.F.G.h": {"A", "B", "C", "D", "E", "F", "G", "h"}, "A.A.A.A.A.A.A.A": {"A", "A", "A", "A", "A", "A", "A", "A"},
	} {
		if p, e := ParsePath(s); !slices.Equal(p, l) || e != api.OK {
			t.Error(s, p, e)
		}
		if text, e := PathText(l); text != s || e != api.OK {
			t.Error(s, text, e)
		}
	}
}

func TestParsePathOfAnyText(t *testing.T) {
	for _, s := range samples() {
		l, e := ParsePath(s)
		want := strings.Split(s, ".")
		if wantPath(want) != (e == api.OK) || e != api.OK && (e != api.ErrForm || l != nil) || e == api.OK && !slices.Equal(l, want) {
			t.Errorf("ParsePath(%q) = %q, %d", s, l, e)
		}
	}
}

func TestPathTextOfAnyList(t *testing.T) {
	lists := [][]string{nil, {}, {"x", "y"}, {"x", "Y"}, {"M.N"}, {"M.x"}, {"M", "N.x"}, {"M", ""}, {"", "x"}, {"M", "", "x"}, {"M", "val"}, {"'a"}, {"M", "'a"}, {"1"}, {"_"},
		{"A", "B", "C", "D", "E", "F", "G", "H", "i"}, {"A", "B", "C", "D", "E", "F", "G", "H", "I"}, {"A", "B", "C", "D", "E", "F", "g", "h"}, slices.Repeat([]string{"A"}, 1<<16)}
	for _, s := range samples() {
		lists = append(lists, []string{s}, []string{"M", s}, []string{s, "x"}, []string{"M", s, "N", "x"})
	}
	for _, l := range lists {
		s, e := PathText(l)
		if wantPath(l) && (s != strings.Join(l, ".") || e != api.OK) || !wantPath(l) && (s != "" || e != api.ErrArg) {
			t.Errorf("PathText(%q) = %q, %d", l, s, e)
		}
	}
}

func TestPathsAreNewAndArgumentsStay(t *testing.T) {
	a, _ := ParsePath("M.N.x")
	a[0] = "Z"
	if b, _ := ParsePath("M.N.x"); b[0] != "M" {
		t.Error("a result shares memory with another one")
	}
	l := []string{"M", "x"}
	PathText(l)
	Find(l, "x")
	Ascending(l)
	if !slices.Equal(l, []string{"M", "x"}) {
		t.Error("an argument was modified")
	}
}

// P1.4

func TestAscending(t *testing.T) {
	for _, l := range [][]string{nil, {}, {""}, {"b"}, {"", "\x00"}, {"a", "b"}, {"a", "aa", "ab", "b"}, {"1", "10", "2"}, {"Z", "_", "a"}, {"z", "\x80", "é", "\xff"}, {"a\x00", "ab"}} {
		if !Ascending(l) {
			t.Errorf("%q", l)
		}
	}
	for _, l := range [][]string{{"", ""}, {"a", "a"}, {"b", "a"}, {"aa", "a"}, {"2", "10"}, {"a", "Z"}, {"a", "b", "b"}, {"b", "a", "c"}, {"a", "c", "b"}, {"\x80", "z"}, {"a", "b", "c", "a"}, {"a", ""}} {
		if Ascending(l) {
			t.Errorf("%q", l)
		}
	}
}

func TestFind(t *testing.T) {
	l := []string{"b", "", "a", "b", "a", "A"}
	for s, i := range map[string]int{"b": 0, "": 1, "a": 2, "A": 5, "B": -1, "ab": -1, "a ": -1} {
		if Find(l, s) != i {
			t.Errorf("%q: %d", s, Find(l, s))
		}
	}
	if Find(nil, "") != -1 || Find([]string{}, "a") != -1 || Find([]string{"a"}, "a") != 0 {
		t.Error("short lists")
	}
}

// P1.5

func TestNumberOrdinary(t *testing.T) {
	for s, n := range map[string]int{"0": 0, "1": 1, "9": 9, "10": 10, "12034": 12034, "4503599627370495": 1<<52 - 1, "4503599627370496": 1 << 52} {
		if m, e := Number(s); m != n || e != api.OK {
			t.Error(s, m, e)
		}
	}
	for i := range 2000 {
		if m, e := Number(big.NewInt(int64(i)).String()); m != i || e != api.OK {
			t.Error(i, m, e)
		}
	}
}

func TestNumberOfAnyText(t *testing.T) {
	limit := big.NewInt(api.MaxNumber)
	for _, s := range append(samples(), "4503599627370497", "00", "01", "000", "9999999999999999999x", "18446744073709551616", "18446744073709551617", "１", "1 ", " 1", "1\n") {
		want, code := 0, api.ErrForm
		if numberForm.MatchString(s) {
			n, _ := new(big.Int).SetString(s, 10)
			if code = api.ErrBig; n.Cmp(limit) <= 0 {
				want, code = int(n.Int64()), api.OK
			}
		}
		if n, e := Number(s); n != want || e != code {
			t.Errorf("Number(%q) = %d, %d", s, n, e)
		}
	}
}

// P1.6

func TestWhatFollows(t *testing.T) {
	made := map[string]bool{}
	for _, s := range slices.Compact(slices.Sorted(slices.Values(samples()))) {
		if IsLower(s) && IsUpper(s) {
			t.Errorf("%q is a lower and an upper name", s)
		}
		if (IsLower(s) || IsUpper(s)) && !IsLabel(s) {
			t.Errorf("%q is a name and no label", s)
		}
		for kind := range labelKinds() {
			label, e := Label(kind, s)
			if e != api.OK {
				continue
			}
			if k, n, e := Split(label); made[label] || !IsLabel(label) || k != kind || n != s || e != api.OK {
				t.Errorf("%q: %d, %q, %d", label, k, n, e)
			}
			made[label] = true
		}
		if k, n, e := Split(s); e == api.OK {
			if label, e := Label(k, n); label != s || e != api.OK {
				t.Errorf("%q: %q, %d", s, label, e)
			}
		}
		if l, e := ParsePath(s); e == api.OK {
			if text, e := PathText(l); text != s || e != api.OK {
				t.Errorf("%q: %q, %d", s, text, e)
			}
		}
	}
	if len(made) < 100 {
		t.Error("few labels were made:", len(made))
	}
}

// P1

func TestLongArguments(t *testing.T) {
	for _, s := range hostile() {
		if IsLower(s) || IsUpper(s) || IsVar(s) || IsLabel(s) {
			t.Errorf("%q..", s[:4])
		}
		if l, e := Label(api.LabelVal, s); l != "" || e != api.ErrForm {
			t.Errorf("%q..: %d", s[:4], e)
		}
		if l, e := Label(0, s); l != "" || e != api.ErrRange {
			t.Errorf("%q..: %d", s[:4], e)
		}
		if k, n, e := Split(s); k != 0 || n != "" || e != api.ErrForm {
			t.Errorf("%q..: %d", s[:4], e)
		}
		if l, e := ParsePath(s); l != nil || e != api.ErrForm {
			t.Errorf("%q..: %d", s[:4], e)
		}
		if text, e := PathText([]string{s}); text != "" || e != api.ErrArg {
			t.Errorf("%q..: %d", s[:4], e)
		}
		want := api.ErrForm
		if s[0] == '9' {
			want = api.ErrBig
		}
		if n, e := Number(s); n != 0 || e != want {
			t.Errorf("%q..: %d, %d", s[:4], n, e)
		}
		if l := []string{s, s}; Find(l, s) != 0 || Find(l, "a") != -1 || Ascending(l) {
			t.Errorf("%q..", s[:4])
		}
	}
}

// P3

func answers() string {
	var b strings.Builder
	say := func(ok bool) {
		if ok {
			b.WriteByte('+')
		} else {
			b.WriteByte('-')
		}
	}
	l := samples()
	for i, s := range l {
		say(IsLower(s))
		say(IsUpper(s))
		say(IsVar(s))
		say(IsLabel(s))
		say(Ascending(l[:i%100]))
		label, e := Label(i%7, s)
		kind, name, f := Split(s)
		path, g := ParsePath(s)
		text, h := PathText([]string{"M", s})
		n, k := Number(s)
		b.WriteString(label + name + strings.Join(path, "/") + text)
		for _, n := range []int{int(e), kind, int(f), int(g), int(h), n, int(k), Find(l, s)} {
			b.WriteString(big.NewInt(int64(n)).String() + ",")
		}
	}
	return b.String()
}

func TestEqualArgumentsHaveEqualResults(t *testing.T) {
	want := answers()
	got := make([]string, 4)
	var w sync.WaitGroup
	for i := range got {
		w.Go(func() { got[i] = answers() })
	}
	w.Wait()
	for i, s := range got {
		if s != want {
			t.Error(i)
		}
	}
}
