/-
  Walks of layer 2: Tokens, and the examples that every law begins with.
-/
import Derived.Test.YtbmkbenlhkcklaaDoorLo
namespace Go.Proofs.YtbmkbenlhkcklaaDoor
open Go.RowKit

/-- one token of a list, in memory -/
def TokAt (w : World) (b off : Nat) (t : Pl.Tok) : Prop :=
  w.cell? ⟨b, off, none⟩ = some (.int .i64 t.kind) ∧ w.cell? ⟨b, off + 1, none⟩ = some (.string (Pl.mk t.text)) ∧ w.cell? ⟨b, off + 2, none⟩ = some (.int .i64 t.line) ∧ w.cell? ⟨b, off + 3, none⟩ = some (.int .i64 t.col)
/-- A value that is a slice of these tokens: nil or empty, or somewhere in memory. -/
def TokSlice (w : World) (v : Value) (ts : List Pl.Tok) : Prop :=
  (ts = [] ∧ ∃ a c, v = .slice a 0 c) ∨
  ∃ b off c, v = .slice (some ⟨b, off, none⟩) ts.length c ∧ 1 ≤ ts.length ∧ ts.length ≤ c ∧ c ≤ maxLen ∧ b < w.heap.size ∧ ∀ j (hj : j < ts.length), TokAt w b (off + 4 * j) ts[j]
theorem TokAt.below {w w' : World} {b off B : Nat} {t : Pl.Tok} (h : TokAt w b off t) (hb : Below B w w') (hB : b < B) : TokAt w' b off t := by
  obtain ⟨h1, h2, h3, h4⟩ := h
  refine ⟨?_, ?_, ?_, ?_⟩
  · rw [hb.cell (p := ⟨b, off, none⟩) hB]; exact h1
  · rw [hb.cell (p := ⟨b, off + 1, none⟩) hB]; exact h2
  · rw [hb.cell (p := ⟨b, off + 2, none⟩) hB]; exact h3
  · rw [hb.cell (p := ⟨b, off + 3, none⟩) hB]; exact h4
theorem TokSlice.below {w w' : World} {v : Value} {ts : List Pl.Tok} (h : TokSlice w v ts) (hb : Below w.heap.size w w') : TokSlice w' v ts := by
  rcases h with h | ⟨b, off, c, h1, h2, h3, h4, h5, h6⟩
  · exact .inl h
  · exact .inr ⟨b, off, c, h1, h2, h3, h4, Nat.lt_of_lt_of_le h5 hb.size, fun j hj => (h6 j hj).below hb h5⟩
theorem cells_at : ∀ (l : List Pl.Tok) (j : Nat) (hj : j < l.length), (cells l)[4 * j]? = some (.int .i64 (l[j]).kind) ∧ (cells l)[4 * j + 1]? = some (.string (Pl.mk (l[j]).text)) ∧ (cells l)[4 * j + 2]? = some (.int .i64 (l[j]).line) ∧ (cells l)[4 * j + 3]? = some (.int .i64 (l[j]).col) := by
  intro l
  induction l with
  | nil => intro j hj; exact absurd hj (Nat.not_lt_zero _)
  | cons t r ih =>
    intro j hj
    have hc : cells (t :: r) = tokCells t ++ cells r := by unfold cells; rw [List.flatMap_cons]
    have hl : (tokCells t).length = 4 := rfl
    cases j with
    | zero => rw [hc]; exact ⟨rfl, rfl, rfl, rfl⟩
    | succ j =>
      have := ih j (by simpa using hj)
      have e : ∀ q, (tokCells t ++ cells r)[4 * (j + 1) + q]? = (cells r)[4 * j + q]? := fun q => by
        rw [List.getElem?_append_right (by rw [hl]; omega), hl]
        congr 1; omega
      rw [hc]
      refine ⟨(e 0).trans this.1, (e 1).trans this.2.1, (e 2).trans this.2.2.1, (e 3).trans this.2.2.2⟩
theorem tokSlice_owns {w : World} {base : Nat} {v : Value} {ts : List Pl.Tok} (h : w.ownsRow base 34 4 v ts.length (cells ts)) : TokSlice w v ts := by
  have hf := h.2
  rcases hf with ⟨hv, h0⟩ | ⟨g, cap, cur, rfl, _, hg, hn, hm, _, _⟩
  · exact .inl ⟨List.eq_nil_of_length_eq_zero h0, none, 0, hv⟩
  · rcases Nat.eq_zero_or_pos ts.length with h0 | h1
    · exact .inl ⟨List.eq_nil_of_length_eq_zero h0, _, _, by rw [h0]⟩
    · have hlt : g < w.heap.size := by
        rcases Nat.lt_or_ge g w.heap.size with hb | hb
        · exact hb
        · have hx : w.heap[g]? = none := by simp; omega
          rw [hx] at hg; cases hg
      refine .inr ⟨g, 0, cap, rfl, h1, hn, hm, hlt, fun j hj => ?_⟩
      obtain ⟨e1, e2, e3, e4⟩ := cells_at ts j hj
      rw [Nat.zero_add]
      have hlen := cells_length ts
      refine ⟨?_, ?_, ?_, ?_⟩
      · rw [h.cellAt _ (by omega)]; exact e1
      · rw [h.cellAt _ (by omega)]; exact e2
      · rw [h.cellAt _ (by omega)]; exact e3
      · rw [h.cellAt _ (by omega)]; exact e4
/-- what Tokens answers -/
def TokensPost (w : World) (O : Pl.Out) (e : Ending) (w' : World) : Prop :=
  (O.err = 0 ∧ (∃ v, e = .returned (.tuple #[v, .agg #[.int .i64 0, .int .i64 0], .int .i64 0]) ∧ TokSlice w' v O.toks) ∧ Below w.heap.size w w') ∨
  (O.err ≠ 0 ∧ O.toks = [] ∧ e = .returned (.tuple #[.slice none 0 0, .agg #[.int .i64 O.line, .int .i64 O.col], .int .i64 O.err]) ∧ Below w.heap.size w w')
set_option maxRecDepth 100000 in
set_option maxHeartbeats 1000000 in
theorem lexTokens_any (s : ByteArray) (w : World) (hs : s.size ≤ maxLen) :
    Calls Tryd.prog 5 #[.string s] w (TokensPost w (Pl.tokens s.toList)) := by
  unfold maxLen at hs
  have hb0 : Below w.heap.size w (w.alloc (.cells #[.int .i64 0, .int .i64 0] 25)) := (Below.refl _ _).alloc (Nat.le_refl _) _
  have hk0 := blk_new w #[.int .i64 0, .int .i64 0] 25
  have hsz0 : (w.alloc (.cells #[.int .i64 0, .int .i64 0] 25)).heap.size = w.heap.size + 1 := by simp
  by_cases hl : 16384 < s.size
  · have hl2 : decide ((16384 : Int) < (s.size : Int)) = true := by simp; omega
    have HO := Lib.hid (show Pl.tokens s.toList = ⟨[], 0, 0, 5⟩ from by unfold Pl.tokens; rw [if_pos (by rw [Pl.len_size]; exact hl)])
    have HB := Lib.hid hb0
    clear hk0 hsz0 hb0
    go_enter Tryd.func5, Tryd.ntmps5
    go_wp2
    refine bodyPost_ret (v := .tuple #[.slice none 0 0, .agg #[.int .i64 0, .int .i64 0], .int .i64 5]) (by simp [results, Tryd.results5, go_sem]) rfl ?_
    rw [HO.out]
    exact .inr ⟨show ¬ (5 : Int) = 0 by decide, rfl, rfl, HB.out⟩
  · have hl2 : decide ((16384 : Int) < (s.size : Int)) = false := by simp; omega
    have hO : Pl.tokens s.toList = Pl.toksF (s.size + 1) s.toList 0 [] := by unfold Pl.tokens; rw [if_neg (by rw [Pl.len_size]; exact hl), Pl.len_size]
    generalize hT : Pl.toksF (s.size + 1) s.toList 0 [] = O at hO
    rw [hO]
    have HT := Lib.hid hT
    clear hO hT
    go_enter Tryd.func5, Tryd.ntmps5
    go_wp2_with fail
    have hrd := blk_new (w.alloc (.cells #[.int .i64 0, .int .i64 0] 25)) #[.string s, .int .i64 0, .int .i64 1, .int .i64 0, .int .i64 20000] 40
    have hk1 := hk0.alloc (.cells #[.string s, .int .i64 0, .int .i64 1, .int .i64 0, .int .i64 20000] 40)
    have hb1 := hb0.alloc (by simp) (.cells #[.string s, .int .i64 0, .int .i64 1, .int .i64 0, .int .i64 20000] 40)
    have hsz1 : ((w.alloc (.cells #[.int .i64 0, .int .i64 0] 25)).alloc (.cells #[.string s, .int .i64 0, .int .i64 1, .int .i64 0, .int .i64 20000] 40)).heap.size = w.heap.size + 2 := by simp
    rw [hsz0] at hrd
    generalize (w.alloc (.cells #[.int .i64 0, .int .i64 0] 25)).alloc (.cells #[.string s, .int .i64 0, .int .i64 1, .int .i64 0, .int .i64 20000] 40) = w1 at hrd hk1 hb1 hsz1 ⊢
    have hat : RdAt w1 (w.heap.size + 1) s 0 20000 := hrd
    refine (tokens_any (w.heap.size + 1) s w1 O hat (by omega) HT.out).mono ?_
    rintro e w2 (⟨he, ⟨v, rfl, hown⟩, ho⟩ | ⟨he, htk, rfl, ho⟩)
    · have hs2 := tokSlice_owns hown
      have hb2 := ho.to (B := w.heap.size + 1) (Nat.le_refl _) (by omega)
      have hk2 := hk1.below hb2 (Nat.lt_succ_self _)
      obtain ⟨d0, d1, e0, e1⟩ := psAt_of hk2
      have HK2 := Lib.hid hk2
      have HB2 := Lib.hid (hb1.trans (hb2.mono (Nat.le_succ _)))
      have HOW := Lib.hid hown
      have HE := Lib.hid he
      have HSZ := Lib.hid hsz1
      clear hs2 hb2 hk2 hb1 hk1 hb0 hk0 hrd hat ho hown he hsz0 hsz1
      go_wp2
      obtain ⟨f0, f1, -, -⟩ := psAt_of (ps_put HK2.out (.int .i64 0) (.int .i64 0))
      refine bodyPost_ret (v := .tuple #[v, .agg #[.int .i64 0, .int .i64 0], .int .i64 0]) (by simp [results, Tryd.results5, go_sem, f0, f1]) rfl ?_
      refine .inl ⟨HE.out, ⟨v, rfl, tokSlice_owns (ownsRow_setCell_below (ownsRow_setCell_below HOW.out (a := ⟨w.heap.size, 0, none⟩) ?_ _) (a := ⟨w.heap.size, 1, none⟩) ?_ _)⟩, (HB2.out.setCell (Nat.le_refl _) _).setCell (Nat.le_refl _) _⟩
      · show w.heap.size < w1.heap.size + 1; rw [HSZ.out]; omega
      · show w.heap.size < w1.heap.size + 1; rw [HSZ.out]; omega
    · have hb2 := ho.to (B := w.heap.size + 1) (Nat.le_refl _) (by omega)
      have hk2 := hk1.below hb2 (Nat.lt_succ_self _)
      obtain ⟨d0, d1, e0, e1⟩ := psAt_of hk2
      have HK2 := Lib.hid hk2
      have HB2 := Lib.hid (hb1.trans (hb2.mono (Nat.le_succ _)))
      have HE := Lib.hid he
      have HTK := Lib.hid htk
      clear hb2 hk2 hb1 hk1 hb0 hk0 hrd hat ho he htk hsz0 hsz1
      go_wp2
      obtain ⟨f0, f1, -, -⟩ := psAt_of (ps_put HK2.out (.int .i64 O.line) (.int .i64 O.col))
      refine bodyPost_ret (v := .tuple #[.slice none 0 0, .agg #[.int .i64 O.line, .int .i64 O.col], .int .i64 O.err]) (by simp [results, Tryd.results5, go_sem, f0, f1]) rfl ?_
      exact .inr ⟨HE.out, HTK.out, rfl, (HB2.out.setCell (Nat.le_refl _) _).setCell (Nat.le_refl _) _⟩
end Go.Proofs.YtbmkbenlhkcklaaDoor
