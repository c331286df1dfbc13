/-
  The law LexerBlanks, as a walk: plain facts, and its easy inputs.
-/
import Derived.Test.YtbmkbenlhkcklaaMt
import Derived.Test.YtbmkbenlhkcklaaMu
import Derived.Lib.IndexBytes
namespace Go.Proofs.Ytbmkbenlhkcklaa
open Go.RowKit

def has (s : ByteArray) (c : UInt8) : Bool := decide (0 ≤ Lib.indexByte s.data.toList c)
theorem has_not (s : ByteArray) (c : UInt8) (h : has s c = false) : ∀ b ∈ s.toList, b ≠ c := by
  have hlt : Lib.indexByte s.data.toList c = -1 := by
    have h1 := Lib.indexByte_ge s.data.toList c
    have h2 : ¬ 0 ≤ Lib.indexByte s.data.toList c := of_decide_eq_false h
    omega
  intro b hb he
  subst he
  rw [Pl.toList_eq] at hb
  obtain ⟨i, hi⟩ := List.getElem?_of_mem hb
  exact Lib.indexByte_none hlt i hi
theorem noCom_all (s : ByteArray) (h1 : has s 40 = false) (h2 : has s 42 = false) (h3 : has s 41 = false) : s.toList.all Pl.noCom = true := by
  rw [List.all_eq_true]
  intro b hb
  unfold Pl.noCom
  simp only [Bool.and_eq_true, bne_iff_ne, ne_eq]
  exact ⟨⟨has_not s 40 h1 b hb, has_not s 42 h2 b hb⟩, has_not s 41 h3 b hb⟩
theorem has_any (s : ByteArray) (c : UInt8) (w : World) :
    Calls Try.prog 28 #[.string s, .string ⟨#[c]⟩] w fun e w' => e = .returned (.bool (has s c)) ∧ w' = w := Try.strings_Contains_one s c w
theorem same_kt (A B : List Pl.Tok) (h : A.map Pl.kt = B.map Pl.kt) : A.length = B.length ∧ ∀ j (hj : j < A.length) (hj' : j < B.length), TokEq false A[j] B[j] := by
  have hl : A.length = B.length := by
    have := congrArg List.length h
    rwa [List.length_map, List.length_map] at this
  refine ⟨hl, fun j hj hj' => ?_⟩
  have : (A.map Pl.kt)[j]? = (B.map Pl.kt)[j]? := by rw [h]
  rw [List.getElem?_map, List.getElem?_map, List.getElem?_eq_getElem hj, List.getElem?_eq_getElem hj'] at this
  simp only [Option.map_some, Option.some.injEq, Pl.kt, Prod.mk.injEq] at this
  exact ⟨this.1, this.2, fun h => by cases h⟩
/-- tokens as a slice with its end -/
theorem ended_slice {w : World} {v : Value} {ls : List Pl.Tok} {e : Pl.Tok} (h : TokSlice w v (ls ++ [e])) : ∃ b off c n, ls.length = n ∧ v = .slice (some ⟨b, off, none⟩) (n + 1) c ∧ n + 1 ≤ c ∧ c ≤ maxLen ∧ b < w.heap.size ∧ TokAt w b (off + n * 4) e ∧ ∀ j (hj : j < (ls ++ [e]).length), TokAt w b (off + 4 * j) (ls ++ [e])[j] := by
  rcases h with ⟨h0, _⟩ | ⟨b, off, c, rfl, h1, h2, h3, h4, h5⟩
  · simp at h0
  · have hlen : (ls ++ [e]).length = ls.length + 1 := by simp
    refine ⟨b, off, c, ls.length, rfl, by rw [hlen], by rw [← hlen]; exact h2, h3, h4, ?_, h5⟩
    have := h5 ls.length (by omega)
    rw [List.getElem_append_right (Nat.le_refl _)] at this
    simpa [Nat.mul_comm] using this
namespace Pl
theorem toks_len : ∀ (f : Nat) (l : Bytes) (i : Nat) (acc : List Tok) (O : Out), l.length < 20000 → Ok f l i acc O → O.toks.length ≤ l.length + 1 := by
  intro f
  induction f with
  | zero => intro l i acc O _ h; obtain ⟨h1, h2, _⟩ := h; omega
  | succ f ih =>
    intro l i acc O hl hok
    have hi := hok.2.1
    have ha := hok.2.2.1
    cases hg : (gap (l.drop i)).2
    · by_cases he : i + (gap (l.drop i)).1 = l.length
      · rw [ok_end _ _ _ _ _ hok hg he]
        show (acc ++ [_]).length ≤ _
        rw [List.length_append]; simp; omega
      · have hgl := gap_le _ (l.drop i) (Nat.le_refl _)
        rw [List.length_drop] at hgl
        have hne : l.drop (i + (gap (l.drop i)).1) ≠ [] := by
          intro h
          have := congrArg List.length h
          rw [List.length_drop, List.length_nil] at this
          omega
        by_cases ht : (tok (l.drop (i + (gap (l.drop i)).1))).err = 0
        · obtain ⟨h1, h2, _⟩ := (fine_tok _ hne).1 ht
          rw [List.length_drop] at h2
          exact ih l _ _ O hl (ok_next _ _ _ _ _ hok hl hg he ht h1 (by omega))
        · rw [ok_bad _ _ _ _ _ hok hl hg he ht]; exact Nat.zero_le _
    · rw [ok_open _ _ _ _ _ hok hg]; exact Nat.zero_le _
theorem tokens_ended (l : Bytes) (hl : l.length ≤ 600) (h : (tokens l).err = 0) : ∃ ls e, (tokens l).toks = ls ++ [e] ∧ ls.length ≤ 600 := by
  have hlen := toks_len (l.length + 1) l 0 [] (tokens l) (by omega) ⟨by omega, Nat.zero_le _, Nat.zero_le _, by unfold tokens; rw [if_neg (by omega)]⟩
  obtain ⟨x, hx⟩ := (tokens_scan l (by omega)).1 h
  have hm := ((tokens_scan l (by omega)).2 x hx).2
  generalize (tokens l).toks = T at hlen hm ⊢
  have hne : T ≠ [] := by rintro rfl; simp at hm
  refine ⟨T.dropLast, T.getLast hne, (List.dropLast_concat_getLast hne).symm, ?_⟩
  rw [List.length_dropLast]; omega
end Pl
set_option maxRecDepth 100000 in
theorem blanks_long (s t : ByteArray) (z : Int) (w : World) (hs : s.size ≤ maxLen) (ht : t.size ≤ maxLen) (h : 600 < s.size ∨ 600 < t.size) :
    Calls Try.prog 7 #[.string s, .string t, .int .u8 z] w fun e w' => e = .returned (.bool true) ∧ Below w.heap.size w w' := by
  unfold maxLen at hs ht
  by_cases h1 : 600 < s.size
  · have l1 : decide ((600 : Int) < (s.size : Int)) = true := by simp; omega
    go_enter Try.func7, Try.ntmps7
    go_wp2_with fail
    refine (awake_any _).mono ?_
    rintro e w1 ⟨rfl, hb1⟩
    have HB1 := Lib.hid hb1
    clear hb1
    go_wp2
    go_ret
    exact ⟨rfl, HB1.out⟩
  · have l1 : decide ((600 : Int) < (s.size : Int)) = false := by simp; omega
    have l2 : decide ((600 : Int) < (t.size : Int)) = true := by simp; omega
    go_enter Try.func7, Try.ntmps7
    go_wp2_with fail
    refine (awake_any _).mono ?_
    rintro e w1 ⟨rfl, hb1⟩
    have HB1 := Lib.hid hb1
    clear hb1
    go_wp2
    go_ret
    exact ⟨rfl, HB1.out⟩
set_option maxRecDepth 100000 in
set_option maxHeartbeats 1000000 in
theorem blanks_first (s t : ByteArray) (z : Int) (w : World) (hs : s.size ≤ 600) (ht : t.size ≤ 600) (h : (Pl.tokens s.toList).err ≠ 0) :
    Calls Try.prog 7 #[.string s, .string t, .int .u8 z] w fun e w' => e = .returned (.bool true) ∧ Below w.heap.size w w' := by
  have l1 : decide ((600 : Int) < (s.size : Int)) = false := by simp; omega
  have l2 : decide ((600 : Int) < (t.size : Int)) = false := by simp; omega
  have HLS := Lib.hid fun W => lexTokens_any s W (by unfold maxLen; omega)
  have HLT := Lib.hid fun W => lexTokens_any t W (by unfold maxLen; omega)
  generalize Pl.tokens s.toList = O at HLS h
  generalize Pl.tokens t.toList = P at HLT
  have p0 : (O.err != 0) = true := by simpa using h
  go_enter Try.func7, Try.ntmps7
  go_wp2_with fail
  refine (awake_any _).mono ?_
  rintro e w1 ⟨rfl, hb1⟩
  have HB1 := Lib.hid hb1
  clear hb1
  go_wp2_with fail
  refine (HLS.out _).mono ?_
  rintro e w2 (⟨he, -⟩ | ⟨-, -, rfl, hb2⟩)
  · exact absurd he h
  have HB2 := Lib.hid ((HB1.out.trans (hb2.mono HB1.out.size)).alloc (Nat.le_trans HB1.out.size hb2.size) (.cells #[.int .i64 O.line, .int .i64 O.col] 26))
  clear hb2
  go_wp2_with fail
  generalize w2.alloc (.cells #[.int .i64 O.line, .int .i64 O.col] 26) = wa at HB2 ⊢
  refine (HLT.out _).mono ?_
  rintro e w3 (⟨he, ⟨v, rfl, hts⟩, hb3⟩ | ⟨he, -, rfl, hb3⟩)
  · obtain ⟨a, c, rfl, -⟩ := hts.form
    have HB3 := Lib.hid ((HB2.out.trans (hb3.mono HB2.out.size)).alloc (Nat.le_trans HB2.out.size hb3.size) (.cells #[.int .i64 0, .int .i64 0] 26))
    clear hb3 he hts
    go_wp2
    go_ret
    exact ⟨rfl, HB3.out⟩
  · have HB3 := Lib.hid ((HB2.out.trans (hb3.mono HB2.out.size)).alloc (Nat.le_trans HB2.out.size hb3.size) (.cells #[.int .i64 P.line, .int .i64 P.col] 26))
    have p1 : (P.err != 0) = true := by simpa using he
    clear hb3 he
    go_wp2
    go_ret
    exact ⟨rfl, HB3.out⟩
set_option maxRecDepth 100000 in
set_option maxHeartbeats 1000000 in
theorem blanks_second (s t : ByteArray) (z : Int) (w : World) (hs : s.size ≤ 600) (ht : t.size ≤ 600) (h0 : (Pl.tokens s.toList).err = 0) (h : (Pl.tokens t.toList).err ≠ 0) :
    Calls Try.prog 7 #[.string s, .string t, .int .u8 z] w fun e w' => e = .returned (.bool true) ∧ Below w.heap.size w w' := by
  have l1 : decide ((600 : Int) < (s.size : Int)) = false := by simp; omega
  have l2 : decide ((600 : Int) < (t.size : Int)) = false := by simp; omega
  have HLS := Lib.hid fun W => lexTokens_any s W (by unfold maxLen; omega)
  have HLT := Lib.hid fun W => lexTokens_any t W (by unfold maxLen; omega)
  generalize Pl.tokens s.toList = O at HLS h0
  generalize Pl.tokens t.toList = P at HLT h
  have p1 : (P.err != 0) = true := by simpa using h
  go_enter Try.func7, Try.ntmps7
  go_wp2_with fail
  refine (awake_any _).mono ?_
  rintro e w1 ⟨rfl, hb1⟩
  have HB1 := Lib.hid hb1
  clear hb1
  go_wp2_with fail
  refine (HLS.out _).mono ?_
  rintro e w2 (⟨-, ⟨v, rfl, hts⟩, hb2⟩ | ⟨he, -⟩)
  · obtain ⟨a, c, rfl, -⟩ := hts.form
    have HB2 := Lib.hid ((HB1.out.trans (hb2.mono HB1.out.size)).alloc (Nat.le_trans HB1.out.size hb2.size) (.cells #[.int .i64 0, .int .i64 0] 26))
    clear hb2 hts
    go_wp2_with fail
    generalize w2.alloc (.cells #[.int .i64 0, .int .i64 0] 26) = wa at HB2 ⊢
    refine (HLT.out _).mono ?_
    rintro e w3 (⟨he, -⟩ | ⟨he, -, rfl, hb3⟩)
    · exact absurd he h
    · have HB3 := Lib.hid ((HB2.out.trans (hb3.mono HB2.out.size)).alloc (Nat.le_trans HB2.out.size hb3.size) (.cells #[.int .i64 P.line, .int .i64 P.col] 26))
      clear hb3 he
      go_wp2
      go_ret
      exact ⟨rfl, HB3.out⟩
  · exact absurd h0 he
end Go.Proofs.Ytbmkbenlhkcklaa
