/-
  Walks of layer 4: ParsecorePrefix: the category, the parser of a category, and which token stands at a place.
-/
import Derived.Test.YtjedahcpkcgpeaaGreatDoorH31
import Derived.Test.YtjedahcpkcgpeaaGreatDoorH35
import Derived.Test.YtjedahcpkcgpeaaGreatDoorH34
namespace Go.Proofs.YtjedahcpkcgpeaaGreatDoor
open Go Go.RowKit
set_option linter.unusedSimpArgs false
theorem cat4_any (z k : Nat) (w : World) (hz : (z : Int) < 256) (hk : (z : Int).tmod 3 = k) (h3 : k < 3) : Calls Tryz.prog 7 #[.int .u8 z] w fun e w' => e = .returned (.int .i64 ((k : Int) + 1)) ∧ Below w.heap.size w w' := by
  have HB : Hid (Below w.heap.size w w) := Below.refl _ _
  have q0 : wrap64 (z : Int) = z := by rw [wrap64]; omega
  have q1 : wrap64 (k : Int) = k := by rw [wrap64]; omega
  have q2 : wrap64 (1 + (k : Int)) = (k : Int) + 1 := by rw [wrap64]; omega
  go_enter Tryz.func7, Tryz.ntmps7
  go_wp2_with fail
  go_ret
  exact ⟨by rw [Int.add_comm (k : Int) 1]; rfl, HB.out⟩
set_option maxRecDepth 100000 in
set_option maxHeartbeats 4000000 in
theorem parse1_any (str : ByteArray) (w : World) (hs : str.size ≤ maxLen) : Calls Tryz.prog 8 #[.int .i64 1, .string str] w (SourceOut (typP str.toList) w) := by
  have H := Lib.hid (fun W => pType_any str W hs)
  obtain ⟨R, hR⟩ : ∃ R, R = typP str.toList := ⟨_, rfl⟩
  rw [← hR] at H ⊢
  clear hR
  obtain ⟨k0, k1, k2⟩ := res_boxes w (.int .i64 0) (.int .i64 0) 27 29 #[.int .i64 0, .int .i64 0, .string ⟨#[]⟩, .slice none 0 0, .slice none 0 0]
  have HK := Lib.hid (⟨k0, k1⟩ : Blk _ _ _ _ ∧ Blk _ _ _ _)
  have HB := Lib.hid k2
  clear k0 k1 k2
  go_enter Tryz.func8, Tryz.ntmps8
  go_wp2_with fail
  generalize (w.alloc (.cells #[.int .i64 0, .int .i64 0, .string ⟨#[]⟩, .slice none 0 0, .slice none 0 0] 27)).alloc (.cells #[.int .i64 0, .int .i64 0] 29) = w1 at *
  have h12 : w.heap.size < w.heap.size + 1 := Nat.lt_succ_self _
  generalize w.heap.size + 1 = b7 at *
  obtain ⟨b6, hb6⟩ : ∃ b6, b6 = w.heap.size := ⟨_, rfl⟩
  have HB6 := Lib.hid hb6
  rw [← hb6] at h12 HK
  rw [← hb6]
  clear hb6
  refine (H.out w1).mono ?_
  rintro e w2 ⟨⟨v, rfl, ht⟩, h21⟩
  obtain ⟨x0, x1, x2, xa, xl, xc, xd, xe, xf, rfl⟩ := tree_open ht
  have HK2 := Lib.hid (⟨HK.out.1.of_eq (h21.block _ HK.out.1.lt), HK.out.2.of_eq (h21.block _ HK.out.2.lt)⟩ : Blk _ _ _ _ ∧ Blk _ _ _ _)
  have HB2 := Lib.hid (HB.out.trans (h21.mono HB.out.size))
  have HT := Lib.hid ht
  obtain ⟨c0, c1, c2, c3, c4⟩ := five_cells HK2.out.1
  obtain ⟨c5, c6⟩ := two_cells HK2.out.2
  have f0 := HK2.out.1.thaw 0
  have f1 := HK2.out.1.thaw 1
  have f2 := HK2.out.1.thaw 2
  have f3 := HK2.out.1.thaw 3
  have f4 := HK2.out.1.thaw 4
  have f5 := HK2.out.2.thaw 0
  have f6 := HK2.out.2.thaw 1
  have n0 : ¬ b6 = b7 := by omega
  have n1 : ¬ b7 = b6 := by omega
  obtain ⟨li, hli⟩ : ∃ li, li = R.line := ⟨_, rfl⟩
  obtain ⟨co, hco⟩ : ∃ co, co = R.col := ⟨_, rfl⟩
  obtain ⟨er, her⟩ : ∃ er, er = R.err := ⟨_, rfl⟩
  rw [← hli, ← hco, ← her]
  have HRR := Lib.hid (⟨hli, hco, her⟩ : li = R.line ∧ co = R.col ∧ er = R.err)
  clear ht h21 hli hco her
  go_wp2_with fail
  obtain ⟨q0, q1, q2, q3⟩ := two_put h12 HK2.out.1 HK2.out.2 (.int .i64 x0) (.int .i64 x1) (.string x2) (.slice xa xl xc) (.slice xd xe xf) (.int .i64 li) (.int .i64 co)
  have HQ3 := Lib.hid ((HT.out.keep (fun b hb => q3 b (by have := hb.1; have := HK.out.1.lt; omega) (by have := hb.1; have := HK.out.2.lt; omega))).mono (Q := Own w.heap.size _) (fun b hb => ⟨by have := HB.out.size; have := hb.1; omega, Nat.lt_of_lt_of_le hb.2 (q2 0 (Nat.zero_le _)).size⟩))
  obtain ⟨W, hW⟩ : ∃ W, W = (((putFive w2 b6 (.int .i64 x0) (.int .i64 x1) (.string x2) (.slice xa xl xc) (.slice xd xe xf)).setCell ⟨b7, 0, none⟩ (.int .i64 li)).setCell ⟨b7, 1, none⟩ (.int .i64 co)) := ⟨_, rfl⟩
  have HQ2 := Lib.hid (q2 w.heap.size (by have := HB6.out; omega))
  have HQ0 := Lib.hid q0
  have HQ1 := Lib.hid q1
  rw [← hW] at HQ0 HQ1 HQ2 HQ3
  unfold putFive at hW
  rw [← hW]
  clear hW q0 q1 q2 q3
  obtain ⟨d0, d1, d2, d3, d4⟩ := five_cells HQ0.out
  obtain ⟨d5, d6⟩ := two_cells HQ1.out
  refine bodyPost_ret (v := .tuple #[.agg #[.int .i64 x0, .int .i64 x1, .string x2, .slice xa xl xc, .slice xd xe xf], .agg #[.int .i64 li, .int .i64 co], .int .i64 er]) (by simp [results, Tryz.results8, go_sem, d0, d1, d2, d3, d4, d5, d6]) rfl ?_
  rw [HRR.out.1, HRR.out.2.1, HRR.out.2.2]
  exact ⟨⟨_, rfl, HQ3.out⟩, HB2.out.trans HQ2.out⟩
set_option maxRecDepth 100000 in
set_option maxHeartbeats 4000000 in
theorem parse2_any (str : ByteArray) (w : World) (hs : str.size ≤ maxLen) : Calls Tryz.prog 8 #[.int .i64 2, .string str] w (SourceOut (patP str.toList) w) := by
  have H := Lib.hid (fun W => pPattern_any str W hs)
  obtain ⟨R, hR⟩ : ∃ R, R = patP str.toList := ⟨_, rfl⟩
  rw [← hR] at H ⊢
  clear hR
  obtain ⟨k0, k1, k2⟩ := res_boxes w (.int .i64 0) (.int .i64 0) 27 29 #[.int .i64 0, .int .i64 0, .string ⟨#[]⟩, .slice none 0 0, .slice none 0 0]
  have HK := Lib.hid (⟨k0, k1⟩ : Blk _ _ _ _ ∧ Blk _ _ _ _)
  have HB := Lib.hid k2
  clear k0 k1 k2
  go_enter Tryz.func8, Tryz.ntmps8
  go_wp2_with fail
  generalize (w.alloc (.cells #[.int .i64 0, .int .i64 0, .string ⟨#[]⟩, .slice none 0 0, .slice none 0 0] 27)).alloc (.cells #[.int .i64 0, .int .i64 0] 29) = w1 at *
  have h12 : w.heap.size < w.heap.size + 1 := Nat.lt_succ_self _
  generalize w.heap.size + 1 = b7 at *
  obtain ⟨b6, hb6⟩ : ∃ b6, b6 = w.heap.size := ⟨_, rfl⟩
  have HB6 := Lib.hid hb6
  rw [← hb6] at h12 HK
  rw [← hb6]
  clear hb6
  refine (H.out w1).mono ?_
  rintro e w2 ⟨⟨v, rfl, ht⟩, h21⟩
  obtain ⟨x0, x1, x2, xa, xl, xc, xd, xe, xf, rfl⟩ := tree_open ht
  have HK2 := Lib.hid (⟨HK.out.1.of_eq (h21.block _ HK.out.1.lt), HK.out.2.of_eq (h21.block _ HK.out.2.lt)⟩ : Blk _ _ _ _ ∧ Blk _ _ _ _)
  have HB2 := Lib.hid (HB.out.trans (h21.mono HB.out.size))
  have HT := Lib.hid ht
  obtain ⟨c0, c1, c2, c3, c4⟩ := five_cells HK2.out.1
  obtain ⟨c5, c6⟩ := two_cells HK2.out.2
  have f0 := HK2.out.1.thaw 0
  have f1 := HK2.out.1.thaw 1
  have f2 := HK2.out.1.thaw 2
  have f3 := HK2.out.1.thaw 3
  have f4 := HK2.out.1.thaw 4
  have f5 := HK2.out.2.thaw 0
  have f6 := HK2.out.2.thaw 1
  have n0 : ¬ b6 = b7 := by omega
  have n1 : ¬ b7 = b6 := by omega
  obtain ⟨li, hli⟩ : ∃ li, li = R.line := ⟨_, rfl⟩
  obtain ⟨co, hco⟩ : ∃ co, co = R.col := ⟨_, rfl⟩
  obtain ⟨er, her⟩ : ∃ er, er = R.err := ⟨_, rfl⟩
  rw [← hli, ← hco, ← her]
  have HRR := Lib.hid (⟨hli, hco, her⟩ : li = R.line ∧ co = R.col ∧ er = R.err)
  clear ht h21 hli hco her
  go_wp2_with fail
  obtain ⟨q0, q1, q2, q3⟩ := two_put h12 HK2.out.1 HK2.out.2 (.int .i64 x0) (.int .i64 x1) (.string x2) (.slice xa xl xc) (.slice xd xe xf) (.int .i64 li) (.int .i64 co)
  have HQ3 := Lib.hid ((HT.out.keep (fun b hb => q3 b (by have := hb.1; have := HK.out.1.lt; omega) (by have := hb.1; have := HK.out.2.lt; omega))).mono (Q := Own w.heap.size _) (fun b hb => ⟨by have := HB.out.size; have := hb.1; omega, Nat.lt_of_lt_of_le hb.2 (q2 0 (Nat.zero_le _)).size⟩))
  obtain ⟨W, hW⟩ : ∃ W, W = (((putFive w2 b6 (.int .i64 x0) (.int .i64 x1) (.string x2) (.slice xa xl xc) (.slice xd xe xf)).setCell ⟨b7, 0, none⟩ (.int .i64 li)).setCell ⟨b7, 1, none⟩ (.int .i64 co)) := ⟨_, rfl⟩
  have HQ2 := Lib.hid (q2 w.heap.size (by have := HB6.out; omega))
  have HQ0 := Lib.hid q0
  have HQ1 := Lib.hid q1
  rw [← hW] at HQ0 HQ1 HQ2 HQ3
  unfold putFive at hW
  rw [← hW]
  clear hW q0 q1 q2 q3
  obtain ⟨d0, d1, d2, d3, d4⟩ := five_cells HQ0.out
  obtain ⟨d5, d6⟩ := two_cells HQ1.out
  refine bodyPost_ret (v := .tuple #[.agg #[.int .i64 x0, .int .i64 x1, .string x2, .slice xa xl xc, .slice xd xe xf], .agg #[.int .i64 li, .int .i64 co], .int .i64 er]) (by simp [results, Tryz.results8, go_sem, d0, d1, d2, d3, d4, d5, d6]) rfl ?_
  rw [HRR.out.1, HRR.out.2.1, HRR.out.2.2]
  exact ⟨⟨_, rfl, HQ3.out⟩, HB2.out.trans HQ2.out⟩
set_option maxRecDepth 100000 in
set_option maxHeartbeats 4000000 in
theorem parse3_any (str : ByteArray) (w : World) (hs : str.size ≤ maxLen) : Calls Tryz.prog 8 #[.int .i64 3, .string str] w (SourceOut (exprP str.toList) w) := by
  have H := Lib.hid (fun W => pExpr_any str W hs)
  obtain ⟨R, hR⟩ : ∃ R, R = exprP str.toList := ⟨_, rfl⟩
  rw [← hR] at H ⊢
  clear hR
  obtain ⟨k0, k1, k2⟩ := res_boxes w (.int .i64 0) (.int .i64 0) 27 29 #[.int .i64 0, .int .i64 0, .string ⟨#[]⟩, .slice none 0 0, .slice none 0 0]
  have HK := Lib.hid (⟨k0, k1⟩ : Blk _ _ _ _ ∧ Blk _ _ _ _)
  have HB := Lib.hid k2
  clear k0 k1 k2
  go_enter Tryz.func8, Tryz.ntmps8
  go_wp2_with fail
  generalize (w.alloc (.cells #[.int .i64 0, .int .i64 0, .string ⟨#[]⟩, .slice none 0 0, .slice none 0 0] 27)).alloc (.cells #[.int .i64 0, .int .i64 0] 29) = w1 at *
  have h12 : w.heap.size < w.heap.size + 1 := Nat.lt_succ_self _
  generalize w.heap.size + 1 = b7 at *
  obtain ⟨b6, hb6⟩ : ∃ b6, b6 = w.heap.size := ⟨_, rfl⟩
  have HB6 := Lib.hid hb6
  rw [← hb6] at h12 HK
  rw [← hb6]
  clear hb6
  refine (H.out w1).mono ?_
  rintro e w2 ⟨⟨v, rfl, ht⟩, h21⟩
  obtain ⟨x0, x1, x2, xa, xl, xc, xd, xe, xf, rfl⟩ := tree_open ht
  have HK2 := Lib.hid (⟨HK.out.1.of_eq (h21.block _ HK.out.1.lt), HK.out.2.of_eq (h21.block _ HK.out.2.lt)⟩ : Blk _ _ _ _ ∧ Blk _ _ _ _)
  have HB2 := Lib.hid (HB.out.trans (h21.mono HB.out.size))
  have HT := Lib.hid ht
  obtain ⟨c0, c1, c2, c3, c4⟩ := five_cells HK2.out.1
  obtain ⟨c5, c6⟩ := two_cells HK2.out.2
  have f0 := HK2.out.1.thaw 0
  have f1 := HK2.out.1.thaw 1
  have f2 := HK2.out.1.thaw 2
  have f3 := HK2.out.1.thaw 3
  have f4 := HK2.out.1.thaw 4
  have f5 := HK2.out.2.thaw 0
  have f6 := HK2.out.2.thaw 1
  have n0 : ¬ b6 = b7 := by omega
  have n1 : ¬ b7 = b6 := by omega
  obtain ⟨li, hli⟩ : ∃ li, li = R.line := ⟨_, rfl⟩
  obtain ⟨co, hco⟩ : ∃ co, co = R.col := ⟨_, rfl⟩
  obtain ⟨er, her⟩ : ∃ er, er = R.err := ⟨_, rfl⟩
  rw [← hli, ← hco, ← her]
  have HRR := Lib.hid (⟨hli, hco, her⟩ : li = R.line ∧ co = R.col ∧ er = R.err)
  clear ht h21 hli hco her
  go_wp2_with fail
  obtain ⟨q0, q1, q2, q3⟩ := two_put h12 HK2.out.1 HK2.out.2 (.int .i64 x0) (.int .i64 x1) (.string x2) (.slice xa xl xc) (.slice xd xe xf) (.int .i64 li) (.int .i64 co)
  have HQ3 := Lib.hid ((HT.out.keep (fun b hb => q3 b (by have := hb.1; have := HK.out.1.lt; omega) (by have := hb.1; have := HK.out.2.lt; omega))).mono (Q := Own w.heap.size _) (fun b hb => ⟨by have := HB.out.size; have := hb.1; omega, Nat.lt_of_lt_of_le hb.2 (q2 0 (Nat.zero_le _)).size⟩))
  obtain ⟨W, hW⟩ : ∃ W, W = (((putFive w2 b6 (.int .i64 x0) (.int .i64 x1) (.string x2) (.slice xa xl xc) (.slice xd xe xf)).setCell ⟨b7, 0, none⟩ (.int .i64 li)).setCell ⟨b7, 1, none⟩ (.int .i64 co)) := ⟨_, rfl⟩
  have HQ2 := Lib.hid (q2 w.heap.size (by have := HB6.out; omega))
  have HQ0 := Lib.hid q0
  have HQ1 := Lib.hid q1
  rw [← hW] at HQ0 HQ1 HQ2 HQ3
  unfold putFive at hW
  rw [← hW]
  clear hW q0 q1 q2 q3
  obtain ⟨d0, d1, d2, d3, d4⟩ := five_cells HQ0.out
  obtain ⟨d5, d6⟩ := two_cells HQ1.out
  refine bodyPost_ret (v := .tuple #[.agg #[.int .i64 x0, .int .i64 x1, .string x2, .slice xa xl xc, .slice xd xe xf], .agg #[.int .i64 li, .int .i64 co], .int .i64 er]) (by simp [results, Tryz.results8, go_sem, d0, d1, d2, d3, d4, d5, d6]) rfl ?_
  rw [HRR.out.1, HRR.out.2.1, HRR.out.2.2]
  exact ⟨⟨_, rfl, HQ3.out⟩, HB2.out.trans HQ2.out⟩
def atB (li co : Int) (t : Pl.Tok) : Bool := t.line == li && t.col == co
set_option maxRecDepth 100000 in
theorem atPlace_any (t : Pl.Tok) (g : Nat) (li co : Int) (w : World) (hg : g < w.heap.size) (h0 : w.cell? ⟨g, 0, none⟩ = some (.int .i64 li)) (h1 : w.cell? ⟨g, 1, none⟩ = some (.int .i64 co)) :
    Calls Tryz.prog 16 #[tokVal t, .pointer (some ⟨g, 0, none⟩)] w fun e w' => e = .returned (.bool (atB li co t)) ∧ Below w.heap.size w w' := by
  have HR := Lib.hid (show atB li co t = (t.line == li && t.col == co) from rfl)
  unfold tokVal tkc
  generalize atB li co t = r at HR ⊢
  generalize t.kind = kd
  generalize Pl.mk t.text = tx
  obtain ⟨hk, hb⟩ := tok_block w kd tx t.line t.col
  obtain ⟨-, -, d2, d3, -⟩ := hk
  have c0 := (hb.cell (p := ⟨g, 0, none⟩) hg).trans h0
  have c1 := (hb.cell (p := ⟨g, 1, none⟩) hg).trans h1
  generalize t.line = tl at *
  generalize t.col = tc at *
  have HB := Lib.hid hb
  clear hb h0 h1
  by_cases q0 : (tl == li) = true
  · by_cases q1 : (tc == co) = true
    · have HF := Lib.hid (show r = true from by rw [HR.out, q0, q1]; rfl)
      clear HR
      go_enter Tryz.func16, Tryz.ntmps16
      go_wp2
      go_ret
      exact ⟨by rw [HF.out]; rfl, HB.out⟩
    · have q1 : (tc == co) = false := by simpa using q1
      have HF := Lib.hid (show r = false from by rw [HR.out, q1, Bool.and_false])
      clear HR
      go_enter Tryz.func16, Tryz.ntmps16
      go_wp2
      go_ret
      exact ⟨by rw [HF.out]; rfl, HB.out⟩
  · have q0 : (tl == li) = false := by simpa using q0
    have HF := Lib.hid (show r = false from by rw [HR.out, q0, Bool.false_and])
    clear HR
    go_enter Tryz.func16, Tryz.ntmps16
    go_wp2
    go_ret
    exact ⟨by rw [HF.out]; rfl, HB.out⟩
set_option maxRecDepth 100000 in
theorem indexAt_any (b off c n g : Nat) (li co : Int) (ts : List Pl.Tok) (w : World) (hn : ts.length = n) (hm : n ≤ maxLen) (hb : b < w.heap.size) (ha : ∀ j (hj : j < ts.length), TokAt w b (off + 4 * j) ts[j]) (hg : g < w.heap.size) (h0 : w.cell? ⟨g, 0, none⟩ = some (.int .i64 li)) (h1 : w.cell? ⟨g, 1, none⟩ = some (.int .i64 co)) (p : Nat) (hp : p < ts.length) (hat : atB li co ts[p] = true) (hfirst : ∀ j (hj : j < ts.length), j < p → atB li co ts[j] = false) :
    Calls Tryz.prog 15 #[.slice (some ⟨b, off, none⟩) n c, .func (.func 16) #[] #[.pointer (some ⟨g, 0, none⟩)]] w fun e w' => e = .returned (.int .i64 p) ∧ Below w.heap.size w w' := by
  unfold maxLen at hm
  have HA := Lib.hid ha
  have HBL : Hid (Below w.heap.size w w) := Below.refl _ _
  have HG := Lib.hid (⟨h0, h1⟩ : w.cell? ⟨g, 0, none⟩ = some (.int .i64 li) ∧ w.cell? ⟨g, 1, none⟩ = some (.int .i64 co))
  have HAT := Lib.hid hat
  have HFI := Lib.hid hfirst
  clear ha h0 h1 hat hfirst
  go_enter Tryz.func15, Tryz.ntmps15
  go_wp2_with fail
  go_loopg [8] (n + 1) (fun q v wr => ∃ k : Nat, k ≤ p ∧ v = .int .i64 k ∧ q = n + 1 - k ∧ Below w.heap.size w wr)
  case atStart => exact ⟨0, by omega, rfl, by omega, HBL.out⟩
  case round =>
    obtain ⟨k, hk, rfl, hq, hbw⟩ := hrel
    have HBW := Lib.hid hbw
    have hlt : k < n := by omega
    obtain ⟨a0, a1, a2, a3⟩ := (show TokAt wr b (off + k * 4) (ts[k]'(by omega)) from by rw [Nat.mul_comm]; exact (HA.out k (by omega)).below hbw hb)
    have hcall := fun W (hW : Below w.heap.size w W) => atPlace_any (ts[k]'(by omega)) g li co W (Nat.lt_of_lt_of_le hg hW.size) ((hW.cell (p := ⟨g, 0, none⟩) hg).trans HG.out.1) ((hW.cell (p := ⟨g, 1, none⟩) hg).trans HG.out.2)
    unfold tokVal tkc at hcall
    by_cases hkp : k = p
    · have hr : atB li co (ts[k]'(by omega)) = true := by subst hkp; exact HAT.out
      rw [hr] at hcall
      generalize (ts[k]'(by omega)).kind = kd at a0 hcall
      generalize Pl.mk (ts[k]'(by omega)).text = tx at a1 hcall
      generalize (ts[k]'(by omega)).line = tl at a2 hcall
      generalize (ts[k]'(by omega)).col = tc at a3 hcall
      have HC := Lib.hid hcall
      have HKP := Lib.hid hkp
      clear hcall hbw hr hkp
      go_wp2_with fail
      refine (HC.out _ HBW.out).mono ?_
      rintro e w2 ⟨rfl, hb2⟩
      have HB2 := Lib.hid (HBW.out.trans (hb2.mono HBW.out.size))
      clear hb2 a0 a1 a2 a3
      go_wp2
      go_ret
      exact ⟨by rw [HKP.out]; rfl, HB2.out⟩
    · have hr : atB li co (ts[k]'(by omega)) = false := HFI.out k (by omega) (by omega)
      rw [hr] at hcall
      generalize (ts[k]'(by omega)).kind = kd at a0 hcall
      generalize Pl.mk (ts[k]'(by omega)).text = tx at a1 hcall
      generalize (ts[k]'(by omega)).line = tl at a2 hcall
      generalize (ts[k]'(by omega)).col = tc at a3 hcall
      have HC := Lib.hid hcall
      clear hcall hbw hr
      go_wp2_with fail
      refine (HC.out _ HBW.out).mono ?_
      rintro e w2 ⟨rfl, hb2⟩
      have HB2 := Lib.hid (HBW.out.trans (hb2.mono HBW.out.size))
      clear hb2 a0 a1 a2 a3
      go_wp2
      go_roundg (gk - 1)
      case measure => omega
      case rel => exact ⟨k + 1, by omega, by go_num, by omega, HB2.out⟩
end Go.Proofs.YtjedahcpkcgpeaaGreatDoor
