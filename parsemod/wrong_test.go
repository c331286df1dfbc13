package parsemod

import (
	"testing"

	"pilaster/api"
)

// wrong is a text with the column of the token that cannot stand there.
type wrong struct {
	s      string
	column int
	e      api.Errno
}

func checkWrong(t *testing.T, rule string, l []wrong) {
	t.Helper()
	for _, x := range l {
		expect(t, rule, x.s, column(x.column, x.e))
		check(t, rule, x.s)
	}
}

func TestWrongSignatures(t *testing.T) {
	checkWrong(t, "signature", []wrong{
		{"", 1, api.ErrEnd}, {"M.", 3, api.ErrEnd}, {"(", 2, api.ErrEnd}, {"(S", 3, api.ErrEnd}, {"sig", 4, api.ErrEnd}, {"S with", 7, api.ErrEnd},
		{"S with type", 12, api.ErrEnd}, {"S with type t", 14, api.ErrEnd}, {"S with type t =", 16, api.ErrEnd}, {"S with type M", 14, api.ErrEnd},
		{"S with type M.", 15, api.ErrEnd}, {"S with type 'a", 15, api.ErrEnd}, {"S with type (", 14, api.ErrEnd}, {"S with type ('a", 16, api.ErrEnd},
		{"S with type ('a,", 17, api.ErrEnd}, {"S with type ('a, 'b", 20, api.ErrEnd}, {"S with type ('a, 'b)", 21, api.ErrEnd}, {"functor", 8, api.ErrEnd},
		{"generative", 11, api.ErrEnd}, {"functor (", 10, api.ErrEnd}, {"functor (X", 11, api.ErrEnd}, {"functor (X :", 13, api.ErrEnd},
		{"functor (X : S", 15, api.ErrEnd}, {"functor (X : S)", 16, api.ErrEnd}, {"functor (X : S) =>", 19, api.ErrEnd},
		{"s", 1, api.ErrForm}, {"M.s", 3, api.ErrForm}, {"M.(S)", 3, api.ErrForm}, {"S T", 3, api.ErrForm}, {"S.T U", 5, api.ErrForm}, {"()", 2, api.ErrForm},
		{"(S T)", 4, api.ErrForm}, {"(S))", 4, api.ErrForm}, {"(S) T", 5, api.ErrForm}, {"S (T)", 3, api.ErrForm}, {"S :> T", 3, api.ErrForm}, {"struct end", 1, api.ErrForm},
		{"S with t = int", 8, api.ErrForm}, {"S with val x : t", 8, api.ErrForm}, {"S with type = int", 13, api.ErrForm}, {"S with type S = int", 15, api.ErrForm},
		{"S with type t : int", 15, api.ErrForm}, {"S with type t = S with", 19, api.ErrForm}, {"S with type t = int end", 21, api.ErrForm}, {"S with type t.u = int", 14, api.ErrForm},
		{"S with type ('a) t = int", 16, api.ErrForm}, {"S with type () t = int", 14, api.ErrForm}, {"S with type ('a 'b) t = int", 17, api.ErrForm},
		{"S with type ('a, t) = int", 18, api.ErrForm}, {"S with type 'a 'b t = int", 16, api.ErrForm}, {"S with type ('a, 'b), t = int", 21, api.ErrForm},
		{"S with type 1 = int", 13, api.ErrForm}, {"S with type t = int and type u = t", 25, api.ErrForm}, {"functor (X : S) => T T", 22, api.ErrForm},
		{"functor X : S => T", 9, api.ErrForm}, {"functor (x : S) => T", 10, api.ErrForm}, {"functor (X.Y : S) => T", 11, api.ErrForm}, {"functor (X = S) => T", 12, api.ErrForm},
		{"functor (X : s) => T", 14, api.ErrForm}, {"functor (X : S, Y : T) => U", 15, api.ErrForm}, {"functor (X : S) -> T", 17, api.ErrForm}, {"functor (X : S) T", 17, api.ErrForm},
		{"functor () => T", 10, api.ErrForm}, {"generative () => T", 13, api.ErrForm}, {"functor (X : S) => functor", 27, api.ErrEnd}, {"functor (X : S) (Y : T) => U", 17, api.ErrForm},
		{"functor (X :> S) => T", 12, api.ErrForm}, {"fn X => S", 1, api.ErrForm}, {"'a", 1, api.ErrForm}, {"\"S\"", 1, api.ErrForm}, {"1", 1, api.ErrForm}, {";", 1, api.ErrForm},
		{"S -> T", 3, api.ErrForm}, {"S with type t = functor", 17, api.ErrForm}, {"let in S end", 1, api.ErrForm}, {"unpack p : S", 1, api.ErrForm},
	})
}

func TestWrongSpecifications(t *testing.T) {
	checkWrong(t, "signature", []wrong{
		{"sig val", 8, api.ErrEnd}, {"sig val x", 10, api.ErrEnd}, {"sig val x :", 12, api.ErrEnd}, {"sig val x : int", 16, api.ErrEnd}, {"sig type", 9, api.ErrEnd},
		{"sig type t", 11, api.ErrEnd}, {"sig type t =", 13, api.ErrEnd}, {"sig data", 9, api.ErrEnd}, {"sig data t =", 13, api.ErrEnd}, {"sig data t = A", 15, api.ErrEnd},
		{"sig data t = A of", 18, api.ErrEnd}, {"sig data t = A |", 17, api.ErrEnd}, {"sig structure X", 16, api.ErrEnd}, {"sig structure X :", 18, api.ErrEnd},
		{"sig signature", 14, api.ErrEnd}, {"sig signature S =", 18, api.ErrEnd}, {"sig include", 12, api.ErrEnd}, {"sig include S", 14, api.ErrEnd}, {"sig sharing", 12, api.ErrEnd},
		{"sig sharing type", 17, api.ErrEnd}, {"sig sharing type t", 19, api.ErrEnd}, {"sig sharing type t =", 21, api.ErrEnd}, {"sig sharing type t = M.", 24, api.ErrEnd},
		{"sig x", 5, api.ErrForm}, {"sig sig end", 5, api.ErrForm}, {"sig S end", 5, api.ErrForm}, {"sig val : int end", 9, api.ErrForm}, {"sig val X : int end", 9, api.ErrForm},
		{"sig val x = 1 end", 11, api.ErrForm}, {"sig val x int end", 11, api.ErrForm}, {"sig val x, y : int end", 10, api.ErrForm}, {"sig val x : end", 13, api.ErrForm},
		{"sig val x : 1 end", 13, api.ErrForm}, {"sig val x : int M end", 19, api.ErrForm}, {"sig val x : int; end", 16, api.ErrForm}, {"sig val _ : int end", 9, api.ErrForm},
		{"sig fun f x end", 5, api.ErrForm}, {"sig open M end", 5, api.ErrForm}, {"sig import M; end", 5, api.ErrForm}, {"sig \"val\" x : t end", 5, api.ErrForm},
		{"sig type T end", 10, api.ErrForm}, {"sig type M.t end", 10, api.ErrForm}, {"sig type ('a) t end", 13, api.ErrForm}, {"sig type 'a end", 13, api.ErrForm},
		{"sig type t 'a end", 12, api.ErrForm}, {"sig type (t) u end", 11, api.ErrForm}, {"sig type t : int end", 12, api.ErrForm}, {"sig type t = A | B end", 16, api.ErrForm},
		{"sig type t = end", 14, api.ErrForm}, {"sig type t = 'a 'b end", 17, api.ErrForm}, {"sig type \"t\" end", 10, api.ErrForm},
		{"sig data t end", 12, api.ErrForm}, {"sig data t = int end", 14, api.ErrForm}, {"sig data T = A end", 10, api.ErrForm}, {"sig data t = A of end", 19, api.ErrForm},
		{"sig data t = A | end", 18, api.ErrForm}, {"sig data t = | A end", 14, api.ErrForm}, {"sig data t = A of B end", 21, api.ErrForm}, {"sig data t = A int end", 16, api.ErrForm},
		{"sig data t = A.B end", 15, api.ErrForm}, {"sig data t = A, B end", 15, api.ErrForm}, {"sig data ('a) t = A end", 13, api.ErrForm}, {"sig data t : A end", 12, api.ErrForm},
		{"sig structure x : S end", 15, api.ErrForm}, {"sig structure X = S end", 17, api.ErrForm}, {"sig structure X.Y : S end", 16, api.ErrForm}, {"sig structure X : s end", 19, api.ErrForm},
		{"sig structure X : S (T) end", 21, api.ErrForm}, {"sig structure X :> S end", 17, api.ErrForm}, {"sig structure X : struct end end", 19, api.ErrForm},
		{"sig signature S : T end", 17, api.ErrForm}, {"sig signature s = T end", 15, api.ErrForm}, {"sig signature S = t end", 19, api.ErrForm}, {"sig signature S end", 17, api.ErrForm},
		{"sig include end", 13, api.ErrForm}, {"sig include s end", 13, api.ErrForm}, {"sig include S T end", 15, api.ErrForm}, {"sig include S, T end", 14, api.ErrForm},
		{"sig sharing t = u end", 13, api.ErrForm}, {"sig sharing type 'a t = u end", 18, api.ErrForm}, {"sig sharing type M = N end", 20, api.ErrForm}, {"sig sharing type t u end", 20, api.ErrForm},
		{"sig sharing type t = u list end", 24, api.ErrForm}, {"sig sharing type t = u = v end", 24, api.ErrForm}, {"sig sharing type t = (u) end", 22, api.ErrForm},
		{"sig sharing type t = u -> v end", 24, api.ErrForm}, {"sig sharing structure X = Y end", 13, api.ErrForm}, {"sig sharing type t = 'a end", 22, api.ErrForm}, {"sig type t end end", 16, api.ErrForm},
	})
}

func TestWrongModules(t *testing.T) {
	checkWrong(t, "module", []wrong{
		{"struct val x = 1", 17, api.ErrEnd}, {"M :> S with type t = int", 8, api.ErrForm},
		{"", 1, api.ErrEnd}, {"M.", 3, api.ErrEnd}, {"(", 2, api.ErrEnd}, {"(M", 3, api.ErrEnd}, {"M (", 4, api.ErrEnd}, {"M (N", 5, api.ErrEnd}, {"M :", 4, api.ErrEnd}, {"M :>", 5, api.ErrEnd},
		{"M : (S", 7, api.ErrEnd}, {"struct", 7, api.ErrEnd}, {"let", 4, api.ErrEnd}, {"let in", 7, api.ErrEnd}, {"let in M", 9, api.ErrEnd}, {"unpack", 7, api.ErrEnd}, {"unpack p", 9, api.ErrEnd},
		{"unpack p :", 11, api.ErrEnd}, {"unpack M.", 10, api.ErrEnd}, {"unpack (p", 10, api.ErrEnd}, {"unpack p : M.", 14, api.ErrEnd}, {"functor", 8, api.ErrEnd}, {"functor (X : S) =>", 19, api.ErrEnd},
		{"m", 1, api.ErrForm}, {"M.x", 3, api.ErrForm}, {"M N", 3, api.ErrForm}, {"M x", 3, api.ErrForm}, {"M ()", 4, api.ErrForm}, {"M (N, O)", 5, api.ErrForm}, {"M (x)", 4, api.ErrForm},
		{"M (N))", 6, api.ErrForm}, {"()", 2, api.ErrForm}, {"(M N)", 4, api.ErrForm}, {"M.(N)", 3, api.ErrForm}, {"sig end", 1, api.ErrForm}, {"M = N", 3, api.ErrForm}, {"M; N", 2, api.ErrForm},
		{"M : s", 5, api.ErrForm}, {"M : functor (X : S) => T", 5, api.ErrForm}, {"M :> generative (X : S) => T", 6, api.ErrForm}, {"M : S (N)", 7, api.ErrForm}, {"M : struct end", 5, api.ErrForm},
		{"M : S T", 7, api.ErrForm}, {"M :> S => T", 8, api.ErrForm}, {"M : > S", 5, api.ErrForm}, {"M : S with type t = int", 7, api.ErrForm}, {"M with type t = int", 3, api.ErrForm},
		{"struct end struct end", 12, api.ErrForm}, {"struct val x = 1; end", 17, api.ErrForm}, {"struct val x 1 end", 14, api.ErrForm}, {"struct M end", 8, api.ErrForm}, {"struct end end", 12, api.ErrForm},
		{"struct sharing type t = u end", 8, api.ErrForm}, {"struct in M end", 8, api.ErrForm}, {"let in val", 8, api.ErrForm}, {"let in end", 8, api.ErrForm}, {"let M in N end", 5, api.ErrForm},
		{"let end", 5, api.ErrForm}, {"let val x = 1 in x end", 18, api.ErrForm}, {"let in M N end", 10, api.ErrForm}, {"let in M open N end", 10, api.ErrForm}, {"let import M; in M end", 5, api.ErrForm},
		{"unpack f x : S", 10, api.ErrForm}, {"unpack p", 9, api.ErrEnd}, {"unpack p :> S", 10, api.ErrForm}, {"unpack p : s", 12, api.ErrForm}, {"unpack p : (S)", 12, api.ErrForm},
		{"unpack p : sig end", 12, api.ErrForm}, {"unpack p : S with type t = int", 14, api.ErrForm}, {"unpack ~ p : S", 8, api.ErrForm}, {"unpack fn x => x : S", 8, api.ErrForm},
		{"unpack if p then p else p : S", 8, api.ErrForm}, {"unpack p + p : S", 10, api.ErrForm}, {"unpack M.(p) : S", 10, api.ErrForm}, {"unpack p.q : S", 9, api.ErrForm}, {"unpack M.p.q : S", 11, api.ErrForm},
		{"unpack (p : (module S)) p : S", 25, api.ErrForm}, {"unpack let in p end p : S", 21, api.ErrForm}, {"unpack () () : S", 11, api.ErrForm}, {"unpack 1 1 : S", 10, api.ErrForm},
		{"unpack unpack p : S", 8, api.ErrForm}, {"unpack (unpack p : S)", 9, api.ErrForm}, {"unpack : S", 8, api.ErrForm}, {"unpack 'a : S", 8, api.ErrForm}, {"unpack _ : S", 8, api.ErrForm},
		{"unpack struct end : S", 8, api.ErrForm}, {"unpack p : S.t", 14, api.ErrForm}, {"functor X => M", 9, api.ErrForm}, {"functor (X) => M", 11, api.ErrForm}, {"functor (X : S) : T => M", 17, api.ErrForm},
		{"functor (X : S) => functor", 27, api.ErrEnd}, {"functor (X : S) => x", 20, api.ErrForm}, {"functor (X : S) => sig end", 20, api.ErrForm}, {"functor (X : M (N)) => M", 16, api.ErrForm},
		{"generative (X : S) = M", 20, api.ErrForm}, {"M (functor (X : S)) => M", 19, api.ErrForm}, {"pack M : S", 1, api.ErrForm}, {"fn M => M", 1, api.ErrForm}, {"'a", 1, api.ErrForm}, {"\"struct\" end", 1, api.ErrForm},
		{"1", 1, api.ErrForm}, {"M 1", 3, api.ErrForm}, {"M \"(\" N", 3, api.ErrForm},
	})
}

func TestWrongDeclarations(t *testing.T) {
	for _, rule := range []string{"decls", "unit"} {
		checkWrong(t, rule, []wrong{
			{"val", 4, api.ErrEnd}, {"val x", 6, api.ErrEnd}, {"val x =", 8, api.ErrEnd}, {"val x = 1 +", 12, api.ErrEnd}, {"val x = M.", 11, api.ErrEnd}, {"fun", 4, api.ErrEnd}, {"fun f", 6, api.ErrEnd},
			{"fun f x", 8, api.ErrEnd}, {"fun f x =", 10, api.ErrEnd}, {"type", 5, api.ErrEnd}, {"type t", 7, api.ErrEnd}, {"type t =", 9, api.ErrEnd}, {"type 'a", 8, api.ErrEnd}, {"data t = A of", 14, api.ErrEnd},
			{"structure", 10, api.ErrEnd}, {"structure X", 12, api.ErrEnd}, {"structure X =", 14, api.ErrEnd}, {"structure X = M (", 18, api.ErrEnd}, {"signature S =", 14, api.ErrEnd}, {"open", 5, api.ErrEnd},
			{"include", 8, api.ErrEnd}, {"include M.", 11, api.ErrEnd},
			{"x", 1, api.ErrForm}, {"M", 1, api.ErrForm}, {"end", 1, api.ErrForm}, {"(val x = 1)", 1, api.ErrForm}, {"val x = 1 end", 11, api.ErrForm}, {"val x = 1;", 10, api.ErrForm}, {"val x = 1 import A;", 11, api.ErrForm},
			{"val X = 1", 5, api.ErrForm}, {"val _ = 1", 5, api.ErrForm}, {"val (x, y) = 1", 5, api.ErrForm}, {"val x : int = 1", 7, api.ErrForm}, {"val x y = 1", 7, api.ErrForm}, {"val x = val", 9, api.ErrForm},
			{"val x = y = z = y", 15, api.ErrForm}, {"val x = 1, y = 2", 10, api.ErrForm}, {"val x = (1 val y = 2", 12, api.ErrForm}, {"val x = if 1 then 2 val", 21, api.ErrForm}, {"val x = 1 )", 11, api.ErrForm},
			{"val x = 1 then", 11, api.ErrForm}, {"val x = 1 of", 11, api.ErrForm}, {"val x = 1 |", 11, api.ErrForm}, {"val x = 1 => 2", 11, api.ErrForm}, {"val x = 1 : int", 11, api.ErrForm},
			{"fun F x = 1", 5, api.ErrForm}, {"fun f = 1", 7, api.ErrForm}, {"fun f X = 1", 7, api.ErrForm}, {"fun f x X = 1", 9, api.ErrForm}, {"fun f (x) = 1", 7, api.ErrForm}, {"fun f _ = 1", 7, api.ErrForm},
			{"fun f x => 1", 9, api.ErrForm}, {"fun f x : int = 1", 9, api.ErrForm}, {"type T = int", 6, api.ErrForm}, {"type t int", 8, api.ErrForm}, {"type t type u = t", 8, api.ErrForm}, {"type ('a) t = int", 9, api.ErrForm},
			{"type t = 1", 10, api.ErrForm}, {"type t = int val", 17, api.ErrEnd}, {"type t = int, int", 13, api.ErrForm}, {"type t = A | B", 12, api.ErrForm}, {"type t = M.T", 13, api.ErrEnd}, {"data t = a", 10, api.ErrForm},
			{"data t = A of int | val", 21, api.ErrForm}, {"data t", 7, api.ErrEnd}, {"data t data", 8, api.ErrForm}, {"structure x = M", 11, api.ErrForm}, {"structure X : S = M", 13, api.ErrForm}, {"structure X :> S = M", 13, api.ErrForm},
			{"structure X (Y : S) = M", 13, api.ErrForm}, {"structure X = m", 15, api.ErrForm}, {"structure X = sig end", 15, api.ErrForm}, {"structure X.Y = M", 12, api.ErrForm}, {"structure X = M N", 17, api.ErrForm},
			{"signature S : T", 13, api.ErrForm}, {"signature s = T", 11, api.ErrForm}, {"signature S = struct end", 15, api.ErrForm}, {"signature S = S (T)", 17, api.ErrForm}, {"open m", 6, api.ErrForm},
			{"open M N", 8, api.ErrForm}, {"open M, N", 7, api.ErrForm}, {"open M.x", 8, api.ErrForm}, {"open (M)", 6, api.ErrForm}, {"open M (N)", 8, api.ErrForm}, {"include sig end", 9, api.ErrForm},
			{"include M with type t = int", 11, api.ErrForm}, {"include struct end", 9, api.ErrForm}, {"sharing type t = u", 1, api.ErrForm}, {"functor (X : S) => M", 1, api.ErrForm}, {"unpack p : S", 1, api.ErrForm},
			{"let in M end", 1, api.ErrForm}, {"\"val\" x = 1", 1, api.ErrForm}, {"val \"x\" = 1", 5, api.ErrForm}, {"'a", 1, api.ErrForm}, {"1", 1, api.ErrForm}, {"with", 1, api.ErrForm},
		})
	}
}

func TestWrongImports(t *testing.T) {
	checkWrong(t, "unit", []wrong{
		{"import", 7, api.ErrEnd}, {"import A", 9, api.ErrEnd}, {"import A,", 10, api.ErrEnd}, {"import A, B", 12, api.ErrEnd},
		{"import a;", 8, api.ErrForm}, {"import ;", 8, api.ErrForm}, {"import A B;", 10, api.ErrForm}, {"import A.B;", 9, api.ErrForm}, {"import A,;", 10, api.ErrForm}, {"import ,A;", 8, api.ErrForm},
		{"import A; import B;", 11, api.ErrForm}, {"import A;;", 10, api.ErrForm}, {"import A val x = 1", 10, api.ErrForm}, {"import (A);", 8, api.ErrForm}, {"import \"A\";", 8, api.ErrForm}, {"import 1;", 8, api.ErrForm},
		{";", 1, api.ErrForm}, {"import A; x", 11, api.ErrForm}, {"import 'a;", 8, api.ErrForm}, {"import open M", 8, api.ErrForm},
		// Wrong tokens count before equal imports.
		{"import A, A", 12, api.ErrEnd}, {"import A, A; )", 14, api.ErrForm}, {"import A, A, a;", 14, api.ErrForm},
	})
}

func TestPlacesOfWrongTokens(t *testing.T) {
	for _, x := range []struct {
		rule, s      string
		line, column int
		e            api.Errno
	}{
		{"module", "M\n :> S\n  with", 3, 3, api.ErrForm}, {"module", "struct\n", 2, 1, api.ErrEnd}, {"module", "M : (* \n *)  ", 2, 6, api.ErrEnd},
		{"signature", "(* a\n *) )", 2, 5, api.ErrForm}, {"signature", "sig\n\tval x : int ->\n\tend", 3, 2, api.ErrForm}, {"decls", "val x = 1\n\n)", 3, 1, api.ErrForm},
		{"decls", "\nval x = f (1,\n  2) 3 val y\n= ) ", 4, 3, api.ErrForm}, {"unit", "import A,\n B\n, a;", 3, 3, api.ErrForm}, {"unit", "\n\n", 3, 1, api.OK},
	} {
		want := wrongAt(api.Pos{Line: x.line, Column: x.column}, x.e)
		if x.e == api.OK {
			want = result{}
		}
		expect(t, x.rule, x.s, want)
		check(t, x.rule, x.s)
	}
}

// What the lexer refuses comes before any token that cannot stand there, with the place that the lexer says.
func TestErrorsOfTheLexer(t *testing.T) {
	for _, rule := range rulesOfTexts() {
		checkWrong(t, rule, []wrong{
			{"= = 007", 5, api.ErrForm}, {"= !", 3, api.ErrForm}, {") 9007199254740992", 3, api.ErrBig}, {"+ \"a", 3, api.ErrEnd}, {"= (* a", 3, api.ErrEnd},
			{"= abcdefghijklmnopqrstuvwxy", 3, api.ErrFull}, {"M\r", 2, api.ErrForm}, {"sig ' end", 5, api.ErrForm}, {"struct val x = \"\t\" end", 17, api.ErrForm},
		})
	}
}
