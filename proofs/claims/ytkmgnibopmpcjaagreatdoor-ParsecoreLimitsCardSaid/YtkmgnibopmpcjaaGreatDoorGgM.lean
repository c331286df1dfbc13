/-
  Walks of layer 4: ParsecoreLimits.
-/
import Derived.Test.YtkmgnibopmpcjaaGreatDoorH51
namespace Go.Proofs.YtkmgnibopmpcjaaGreatDoor
open Go Go.RowKit
set_option linter.unusedSimpArgs false
theorem source_big {cat : Int} {rd : List Pl.Tok → Pl.PR Pl.Syn} (hsm : ∀ (ts : List Pl.Tok) t j, ts.length ≤ 16384 → rd ts = .ok t j → t.big ≤ 536870912) (b : Pl.Bytes) : (sourceP cat rd (Pl.tokens b)).t.big ≤ 536870912 := by
  have h0 : Pl.none0.big ≤ 536870912 := by
    have : Pl.none0.big = 1 := by kernel_rfl
    omega
  by_cases h : (Pl.tokens b).err = 0
  · obtain ⟨ts, en, h1, -, -, -, h2⟩ := Pl.tokens_ends b h
    have he : sourceP cat rd (Pl.tokens b) = wholeP cat (Pl.tokens b).toks (wholeR ts (rd ts)) := by unfold sourceP; rw [if_pos h, h1, List.dropLast_concat]
    rw [he]
    cases hw : wholeR ts (rd ts) with
    | bad j => exact h0
    | ok t j =>
      have hb := hsm ts t j h2 (whole_ok hw)
      by_cases hv : validP cat t = true
      · have : wholeP cat (Pl.tokens b).toks (.ok t j) = ⟨t, 0, 0, 0⟩ := if_pos hv
        rw [this]; exact hb
      · have : wholeP cat (Pl.tokens b).toks (.ok t j) = ⟨Pl.none0, 0, 0, 5⟩ := if_neg hv
        rw [this]; exact h0
  · have : sourceP cat rd (Pl.tokens b) = ⟨Pl.none0, (Pl.tokens b).line, (Pl.tokens b).col, (Pl.tokens b).err⟩ := by unfold sourceP; rw [if_neg h]
    rw [this]; exact h0
theorem expr_big (b : Pl.Bytes) : (exprP b).t.big ≤ 536870912 := source_big (fun ts t j hl h => by
  have h1 := (Pl.full_small ts numOfText).expr 0 _ _ h
  have h2 := (Pl.full_ends ts numOfText).expr 0 _ _ h
  simp only [Pl.mT] at h1
  omega) b
theorem fam_len (k n : Nat) (hk : k < 5) (hn : n < 500) : (⟨(famB k n).toArray⟩ : ByteArray).size ≤ maxLen := by
  have hs : (⟨(famB k n).toArray⟩ : ByteArray).size = (famB k n).length := by show (famB k n).toArray.size = _; simp
  have : (famB k n).length ≤ 4100 := by
    match k, hk with
    | 0, _ => show (40 :: (Pl.rep n _ ++ _)).length ≤ _; rw [List.length_cons, List.length_append, Pl.rep_len]; simp only [List.length_cons, List.length_nil]; omega
    | 1, _ => show (Pl.rep n _ ++ _).length ≤ _; rw [List.length_append, Pl.rep_len]; simp only [List.length_cons, List.length_nil]; omega
    | 2, _ => show (Pl.rep n _ ++ _).length ≤ _; rw [List.length_append, Pl.rep_len]; simp only [List.length_cons, List.length_nil]; omega
    | 3, _ => show (Pl.rep n _ ++ _ :: Pl.rep n _).length ≤ _; rw [List.length_append, List.length_cons, Pl.rep_len, Pl.rep_len]; simp only [List.length_cons, List.length_nil]; omega
    | 4, _ => show (102 :: Pl.rep n _).length ≤ _; rw [List.length_cons, Pl.rep_len]; simp only [List.length_cons, List.length_nil]; omega
  rw [hs]
  unfold maxLen
  omega
theorem mk2 (a b : Pl.Bytes) : (⟨a.toArray⟩ : ByteArray) ++ ⟨b.toArray⟩ = ⟨(a ++ b).toArray⟩ := mk_app a b
theorem mk3 (a b c : Pl.Bytes) : (⟨a.toArray⟩ : ByteArray) ++ ⟨b.toArray⟩ ++ ⟨c.toArray⟩ = ⟨(a ++ (b ++ c)).toArray⟩ := by rw [mk_app, mk_app, List.append_assoc]
theorem mk3' (a b c : Pl.Bytes) : (⟨a.toArray⟩ : ByteArray) ++ ⟨b.toArray⟩ ++ ⟨c.toArray⟩ = ⟨(a ++ (b ++ c)).toArray⟩ := mk3 a b c
theorem mk_list (l : Pl.Bytes) : (⟨l.toArray⟩ : ByteArray).toList = l := Pl.mk_toList l
set_option maxRecDepth 100000 in
set_option maxHeartbeats 8000000 in
theorem limits0 (z m n : Nat) (w : World) (hz : (z : Int).tmod 5 = 0) (hm : (m : Int).tmod 500 = n) (hn : n < 500) : Calls Tryz.prog 8 #[.int .u8 z, .int .u16 m] w fun e w' => e = .returned (.bool true) ∧ Below w.heap.size w w' := by
  have HA := Lib.hid awake_any4
  have HN := Lib.hid hn
  have hwr : wrap64 (n : Int) = n := by rw [wrap64]; omega
  have hg0 : ¬ 9223372036854775807 < 1 + (Pl.rep n [120, 44, 32]).length := by simp only [Pl.rep_len, List.length_cons, List.length_nil]; omega
  have hg1 : ¬ 9223372036854775807 < 1 + (Pl.rep n [120, 44, 32]).length + 2 := by simp only [Pl.rep_len, List.length_cons, List.length_nil]; omega
  have HREP0 := Lib.hid (fun W => repeat_any [120, 44, 32] n W (by decide) hn)
  have HS := Lib.hid (mk3 [40] (Pl.rep n [120, 44, 32]) [120, 41] : _ = (⟨(famB 0 n).toArray⟩ : ByteArray))
  have HX := Lib.hid (fun W => pExpr_any ⟨(famB 0 n).toArray⟩ W (fam_len 0 n (by decide) hn))
  have HF := Lib.hid (fam_ok 0 n (by decide) hn)
  have HG := Lib.hid (expr_big (famB 0 n))
  rw [mk_list] at HX
  obtain ⟨R, hR⟩ : ∃ R, R = exprP (famB 0 n) := ⟨_, rfl⟩
  rw [← hR] at HX HF HG
  clear hR hn
  go_enter Tryz.func8, Tryz.ntmps8
  go_wp2_with fail
  refine (HA.out _).mono ?_
  rintro e w1 ⟨rfl, hb1⟩
  have HB := Lib.hid hb1
  clear hb1
  go_wp2_with fail
  refine (HREP0.out _).mono ?_
  rintro e w2 ⟨rfl, hb2⟩
  replace HB := Lib.hid (HB.out.trans (hb2.mono HB.out.size))
  clear hb2
  go_wp2_with fail
  rw [HS.out]
  refine (HX.out _).mono ?_
  rintro e w3 ⟨⟨v, rfl, ht⟩, hb3⟩
  obtain ⟨x0, x1, x2, xa, xl, xc, xd, xe, xf, rfl⟩ := tree_open ht
  have HB3 := Lib.hid (HB.out.trans (hb3.mono HB.out.size))
  have HT := Lib.hid ht
  clear ht hb3 HS HX
  by_cases hle : n ≤ famL 0
  · obtain ⟨h0, h1⟩ := HF.out.1 hle
    have hle' : decide ((n : Int) ≤ 8) = true := decide_eq_true (by have : famL 0 = 8 := rfl; omega)
    have HV := Lib.hid h1
    obtain ⟨li, hli⟩ : ∃ li, li = R.line := ⟨_, rfl⟩
    obtain ⟨co, hco⟩ : ∃ co, co = R.col := ⟨_, rfl⟩
    rw [h0, ← hli, ← hco]
    clear h0 h1 hli hco hle
    obtain ⟨k0, k1, k2⟩ := res_boxes w3 (.int .i64 li) (.int .i64 co) 28 30 #[.int .i64 x0, .int .i64 x1, .string x2, .slice xa xl xc, .slice xd xe xf]
    have HC := Lib.hid k0
    have HB4 := Lib.hid (HB3.out.trans (k2.mono HB3.out.size))
    have HVA := Lib.hid (valid_any (Own _ _) R.t 3 _ _ (fun b hb => Nat.lt_of_lt_of_le hb.2 k2.size) (HT.out.keep (fun b hb => k2.block b hb.2)) HG.out)
    clear k0 k1 k2
    go_wp2_with fail
    generalize (w3.alloc (.cells #[.int .i64 x0, .int .i64 x1, .string x2, .slice xa xl xc, .slice xd xe xf] 28)).alloc (.cells #[.int .i64 li, .int .i64 co] 30) = w4 at *
    obtain ⟨c0, c1, c2, c3, c4⟩ := five_cells HC.out
    go_wp2_with fail
    refine HVA.out.mono ?_
    rintro e w5 ⟨rfl, hb5⟩
    have HB5 := Lib.hid (HB4.out.trans (hb5.mono HB4.out.size))
    have hv := HV.out
    clear hb5
    go_wp2
    go_ret
    exact ⟨rfl, HB5.out⟩
  · have hRE := HF.out.2 hle
    have hle' : decide ((n : Int) ≤ 8) = false := decide_eq_false (by have : famL 0 = 8 := rfl; omega)
    subst hRE
    obtain ⟨k0, k1, k2⟩ := res_boxes w3 (.int .i64 0) (.int .i64 0) 28 30 #[.int .i64 x0, .int .i64 x1, .string x2, .slice xa xl xc, .slice xd xe xf]
    have HC := Lib.hid (⟨k0, k1⟩ : Blk _ _ _ _ ∧ Blk _ _ _ _)
    have HB4 := Lib.hid (HB3.out.trans (k2.mono HB3.out.size))
    have HVA := Lib.hid (none_any Pl.none0 (Own _ _) _ _ (fun b hb => Nat.lt_of_lt_of_le hb.2 k2.size) (HT.out.keep (fun b hb => k2.block b hb.2)))
    clear k0 k1 k2 hle
    go_wp2_with fail
    generalize (w3.alloc (.cells #[.int .i64 x0, .int .i64 x1, .string x2, .slice xa xl xc, .slice xd xe xf] 28)).alloc (.cells #[.int .i64 0, .int .i64 0] 30) = w4 at *
    obtain ⟨c0, c1, c2, c3, c4⟩ := five_cells HC.out.1
    go_wp2_with fail
    refine HVA.out.mono ?_
    rintro e w5 ⟨r, rfl, hr, hb5⟩
    obtain rfl : r = true := hr.2 trivial
    have HB5 := Lib.hid (HB4.out.trans (hb5.mono HB4.out.size))
    have hp := HC.out.2.of_eq (hb5.block _ HC.out.2.lt)
    obtain ⟨d0, d1⟩ := two_cells hp
    clear hb5 hr hp
    go_wp2
    go_ret
    exact ⟨rfl, HB5.out⟩
set_option maxRecDepth 100000 in
set_option maxHeartbeats 8000000 in
theorem limits1 (z m n : Nat) (w : World) (hz : (z : Int).tmod 5 = 1) (hm : (m : Int).tmod 500 = n) (hn : n < 500) : Calls Tryz.prog 8 #[.int .u8 z, .int .u16 m] w fun e w' => e = .returned (.bool true) ∧ Below w.heap.size w w' := by
  have HA := Lib.hid awake_any4
  have HN := Lib.hid hn
  have hwr : wrap64 (n : Int) = n := by rw [wrap64]; omega
  have hg0 : ¬ 9223372036854775807 < (Pl.rep n [102, 110, 32, 120, 32, 61, 62, 32]).length + 1 := by simp only [Pl.rep_len, List.length_cons, List.length_nil]; omega
  have HREP0 := Lib.hid (fun W => repeat_any [102, 110, 32, 120, 32, 61, 62, 32] n W (by decide) hn)
  have HS := Lib.hid (mk2 (Pl.rep n [102, 110, 32, 120, 32, 61, 62, 32]) [49] : _ = (⟨(famB 1 n).toArray⟩ : ByteArray))
  have HX := Lib.hid (fun W => pExpr_any ⟨(famB 1 n).toArray⟩ W (fam_len 1 n (by decide) hn))
  have HF := Lib.hid (fam_ok 1 n (by decide) hn)
  have HG := Lib.hid (expr_big (famB 1 n))
  rw [mk_list] at HX
  obtain ⟨R, hR⟩ : ∃ R, R = exprP (famB 1 n) := ⟨_, rfl⟩
  rw [← hR] at HX HF HG
  clear hR hn
  go_enter Tryz.func8, Tryz.ntmps8
  go_wp2_with fail
  refine (HA.out _).mono ?_
  rintro e w1 ⟨rfl, hb1⟩
  have HB := Lib.hid hb1
  clear hb1
  go_wp2_with fail
  refine (HREP0.out _).mono ?_
  rintro e w2 ⟨rfl, hb2⟩
  replace HB := Lib.hid (HB.out.trans (hb2.mono HB.out.size))
  clear hb2
  go_wp2_with fail
  rw [HS.out]
  refine (HX.out _).mono ?_
  rintro e w3 ⟨⟨v, rfl, ht⟩, hb3⟩
  obtain ⟨x0, x1, x2, xa, xl, xc, xd, xe, xf, rfl⟩ := tree_open ht
  have HB3 := Lib.hid (HB.out.trans (hb3.mono HB.out.size))
  have HT := Lib.hid ht
  clear ht hb3 HS HX
  by_cases hle : n ≤ famL 1
  · obtain ⟨h0, h1⟩ := HF.out.1 hle
    have hle' : decide ((n : Int) ≤ 399) = true := decide_eq_true (by have : famL 1 = 399 := rfl; omega)
    have HV := Lib.hid h1
    obtain ⟨li, hli⟩ : ∃ li, li = R.line := ⟨_, rfl⟩
    obtain ⟨co, hco⟩ : ∃ co, co = R.col := ⟨_, rfl⟩
    rw [h0, ← hli, ← hco]
    clear h0 h1 hli hco hle
    obtain ⟨k0, k1, k2⟩ := res_boxes w3 (.int .i64 li) (.int .i64 co) 28 30 #[.int .i64 x0, .int .i64 x1, .string x2, .slice xa xl xc, .slice xd xe xf]
    have HC := Lib.hid k0
    have HB4 := Lib.hid (HB3.out.trans (k2.mono HB3.out.size))
    have HVA := Lib.hid (valid_any (Own _ _) R.t 3 _ _ (fun b hb => Nat.lt_of_lt_of_le hb.2 k2.size) (HT.out.keep (fun b hb => k2.block b hb.2)) HG.out)
    clear k0 k1 k2
    go_wp2_with fail
    generalize (w3.alloc (.cells #[.int .i64 x0, .int .i64 x1, .string x2, .slice xa xl xc, .slice xd xe xf] 28)).alloc (.cells #[.int .i64 li, .int .i64 co] 30) = w4 at *
    obtain ⟨c0, c1, c2, c3, c4⟩ := five_cells HC.out
    go_wp2_with fail
    refine HVA.out.mono ?_
    rintro e w5 ⟨rfl, hb5⟩
    have HB5 := Lib.hid (HB4.out.trans (hb5.mono HB4.out.size))
    have hv := HV.out
    clear hb5
    go_wp2
    go_ret
    exact ⟨rfl, HB5.out⟩
  · have hRE := HF.out.2 hle
    have hle' : decide ((n : Int) ≤ 399) = false := decide_eq_false (by have : famL 1 = 399 := rfl; omega)
    subst hRE
    obtain ⟨k0, k1, k2⟩ := res_boxes w3 (.int .i64 0) (.int .i64 0) 28 30 #[.int .i64 x0, .int .i64 x1, .string x2, .slice xa xl xc, .slice xd xe xf]
    have HC := Lib.hid (⟨k0, k1⟩ : Blk _ _ _ _ ∧ Blk _ _ _ _)
    have HB4 := Lib.hid (HB3.out.trans (k2.mono HB3.out.size))
    have HVA := Lib.hid (none_any Pl.none0 (Own _ _) _ _ (fun b hb => Nat.lt_of_lt_of_le hb.2 k2.size) (HT.out.keep (fun b hb => k2.block b hb.2)))
    clear k0 k1 k2 hle
    go_wp2_with fail
    generalize (w3.alloc (.cells #[.int .i64 x0, .int .i64 x1, .string x2, .slice xa xl xc, .slice xd xe xf] 28)).alloc (.cells #[.int .i64 0, .int .i64 0] 30) = w4 at *
    obtain ⟨c0, c1, c2, c3, c4⟩ := five_cells HC.out.1
    go_wp2_with fail
    refine HVA.out.mono ?_
    rintro e w5 ⟨r, rfl, hr, hb5⟩
    obtain rfl : r = true := hr.2 trivial
    have HB5 := Lib.hid (HB4.out.trans (hb5.mono HB4.out.size))
    have hp := HC.out.2.of_eq (hb5.block _ HC.out.2.lt)
    obtain ⟨d0, d1⟩ := two_cells hp
    clear hb5 hr hp
    go_wp2
    go_ret
    exact ⟨rfl, HB5.out⟩
set_option maxRecDepth 100000 in
set_option maxHeartbeats 8000000 in
theorem limits2 (z m n : Nat) (w : World) (hz : (z : Int).tmod 5 = 2) (hm : (m : Int).tmod 500 = n) (hn : n < 500) : Calls Tryz.prog 8 #[.int .u8 z, .int .u16 m] w fun e w' => e = .returned (.bool true) ∧ Below w.heap.size w w' := by
  have HA := Lib.hid awake_any4
  have HN := Lib.hid hn
  have hwr : wrap64 (n : Int) = n := by rw [wrap64]; omega
  have hg0 : ¬ 9223372036854775807 < (Pl.rep n [77, 46]).length + 1 := by simp only [Pl.rep_len, List.length_cons, List.length_nil]; omega
  have HREP0 := Lib.hid (fun W => repeat_any [77, 46] n W (by decide) hn)
  have HS := Lib.hid (mk2 (Pl.rep n [77, 46]) [120] : _ = (⟨(famB 2 n).toArray⟩ : ByteArray))
  have HX := Lib.hid (fun W => pExpr_any ⟨(famB 2 n).toArray⟩ W (fam_len 2 n (by decide) hn))
  have HF := Lib.hid (fam_ok 2 n (by decide) hn)
  have HG := Lib.hid (expr_big (famB 2 n))
  rw [mk_list] at HX
  obtain ⟨R, hR⟩ : ∃ R, R = exprP (famB 2 n) := ⟨_, rfl⟩
  rw [← hR] at HX HF HG
  clear hR hn
  go_enter Tryz.func8, Tryz.ntmps8
  go_wp2_with fail
  refine (HA.out _).mono ?_
  rintro e w1 ⟨rfl, hb1⟩
  have HB := Lib.hid hb1
  clear hb1
  go_wp2_with fail
  refine (HREP0.out _).mono ?_
  rintro e w2 ⟨rfl, hb2⟩
  replace HB := Lib.hid (HB.out.trans (hb2.mono HB.out.size))
  clear hb2
  go_wp2_with fail
  rw [HS.out]
  refine (HX.out _).mono ?_
  rintro e w3 ⟨⟨v, rfl, ht⟩, hb3⟩
  obtain ⟨x0, x1, x2, xa, xl, xc, xd, xe, xf, rfl⟩ := tree_open ht
  have HB3 := Lib.hid (HB.out.trans (hb3.mono HB.out.size))
  have HT := Lib.hid ht
  clear ht hb3 HS HX
  by_cases hle : n ≤ famL 2
  · obtain ⟨h0, h1⟩ := HF.out.1 hle
    have hle' : decide ((n : Int) ≤ 7) = true := decide_eq_true (by have : famL 2 = 7 := rfl; omega)
    have HV := Lib.hid h1
    obtain ⟨li, hli⟩ : ∃ li, li = R.line := ⟨_, rfl⟩
    obtain ⟨co, hco⟩ : ∃ co, co = R.col := ⟨_, rfl⟩
    rw [h0, ← hli, ← hco]
    clear h0 h1 hli hco hle
    obtain ⟨k0, k1, k2⟩ := res_boxes w3 (.int .i64 li) (.int .i64 co) 28 30 #[.int .i64 x0, .int .i64 x1, .string x2, .slice xa xl xc, .slice xd xe xf]
    have HC := Lib.hid k0
    have HB4 := Lib.hid (HB3.out.trans (k2.mono HB3.out.size))
    have HVA := Lib.hid (valid_any (Own _ _) R.t 3 _ _ (fun b hb => Nat.lt_of_lt_of_le hb.2 k2.size) (HT.out.keep (fun b hb => k2.block b hb.2)) HG.out)
    clear k0 k1 k2
    go_wp2_with fail
    generalize (w3.alloc (.cells #[.int .i64 x0, .int .i64 x1, .string x2, .slice xa xl xc, .slice xd xe xf] 28)).alloc (.cells #[.int .i64 li, .int .i64 co] 30) = w4 at *
    obtain ⟨c0, c1, c2, c3, c4⟩ := five_cells HC.out
    go_wp2_with fail
    refine HVA.out.mono ?_
    rintro e w5 ⟨rfl, hb5⟩
    have HB5 := Lib.hid (HB4.out.trans (hb5.mono HB4.out.size))
    have hv := HV.out
    clear hb5
    go_wp2
    go_ret
    exact ⟨rfl, HB5.out⟩
  · have hRE := HF.out.2 hle
    have hle' : decide ((n : Int) ≤ 7) = false := decide_eq_false (by have : famL 2 = 7 := rfl; omega)
    subst hRE
    obtain ⟨k0, k1, k2⟩ := res_boxes w3 (.int .i64 0) (.int .i64 0) 28 30 #[.int .i64 x0, .int .i64 x1, .string x2, .slice xa xl xc, .slice xd xe xf]
    have HC := Lib.hid (⟨k0, k1⟩ : Blk _ _ _ _ ∧ Blk _ _ _ _)
    have HB4 := Lib.hid (HB3.out.trans (k2.mono HB3.out.size))
    have HVA := Lib.hid (none_any Pl.none0 (Own _ _) _ _ (fun b hb => Nat.lt_of_lt_of_le hb.2 k2.size) (HT.out.keep (fun b hb => k2.block b hb.2)))
    clear k0 k1 k2 hle
    go_wp2_with fail
    generalize (w3.alloc (.cells #[.int .i64 x0, .int .i64 x1, .string x2, .slice xa xl xc, .slice xd xe xf] 28)).alloc (.cells #[.int .i64 0, .int .i64 0] 30) = w4 at *
    obtain ⟨c0, c1, c2, c3, c4⟩ := five_cells HC.out.1
    go_wp2_with fail
    refine HVA.out.mono ?_
    rintro e w5 ⟨r, rfl, hr, hb5⟩
    obtain rfl : r = true := hr.2 trivial
    have HB5 := Lib.hid (HB4.out.trans (hb5.mono HB4.out.size))
    have hp := HC.out.2.of_eq (hb5.block _ HC.out.2.lt)
    obtain ⟨d0, d1⟩ := two_cells hp
    clear hb5 hr hp
    go_wp2
    go_ret
    exact ⟨rfl, HB5.out⟩
set_option maxRecDepth 100000 in
set_option maxHeartbeats 8000000 in
theorem limits3 (z m n : Nat) (w : World) (hz : (z : Int).tmod 5 = 3) (hm : (m : Int).tmod 500 = n) (hn : n < 500) : Calls Tryz.prog 8 #[.int .u8 z, .int .u16 m] w fun e w' => e = .returned (.bool true) ∧ Below w.heap.size w w' := by
  have HA := Lib.hid awake_any4
  have HN := Lib.hid hn
  have hwr : wrap64 (n : Int) = n := by rw [wrap64]; omega
  have hg0 : ¬ 9223372036854775807 < (Pl.rep n [40]).length + 1 := by simp only [Pl.rep_len, List.length_cons, List.length_nil]; omega
  have hg1 : ¬ 9223372036854775807 < (Pl.rep n [40]).length + 1 + (Pl.rep n [41]).length := by simp only [Pl.rep_len, List.length_cons, List.length_nil]; omega
  have HREP0 := Lib.hid (fun W => repeat_any [40] n W (by decide) hn)
  have HREP1 := Lib.hid (fun W => repeat_any [41] n W (by decide) hn)
  have HS := Lib.hid (mk3' (Pl.rep n [40]) [120] (Pl.rep n [41]) : _ = (⟨(famB 3 n).toArray⟩ : ByteArray))
  have HX := Lib.hid (fun W => pExpr_any ⟨(famB 3 n).toArray⟩ W (fam_len 3 n (by decide) hn))
  have HF := Lib.hid (fam_ok 3 n (by decide) hn)
  have HG := Lib.hid (expr_big (famB 3 n))
  rw [mk_list] at HX
  obtain ⟨R, hR⟩ : ∃ R, R = exprP (famB 3 n) := ⟨_, rfl⟩
  rw [← hR] at HX HF HG
  clear hR hn
  go_enter Tryz.func8, Tryz.ntmps8
  go_wp2_with fail
  refine (HA.out _).mono ?_
  rintro e w1 ⟨rfl, hb1⟩
  have HB := Lib.hid hb1
  clear hb1
  go_wp2_with fail
  refine (HREP0.out _).mono ?_
  rintro e w2 ⟨rfl, hb2⟩
  replace HB := Lib.hid (HB.out.trans (hb2.mono HB.out.size))
  clear hb2
  go_wp2_with fail
  refine (HREP1.out _).mono ?_
  rintro e w2 ⟨rfl, hb2⟩
  replace HB := Lib.hid (HB.out.trans (hb2.mono HB.out.size))
  clear hb2
  go_wp2_with fail
  rw [HS.out]
  refine (HX.out _).mono ?_
  rintro e w3 ⟨⟨v, rfl, ht⟩, hb3⟩
  obtain ⟨x0, x1, x2, xa, xl, xc, xd, xe, xf, rfl⟩ := tree_open ht
  have HB3 := Lib.hid (HB.out.trans (hb3.mono HB.out.size))
  have HT := Lib.hid ht
  clear ht hb3 HS HX
  by_cases hle : n ≤ famL 3
  · obtain ⟨h0, h1⟩ := HF.out.1 hle
    have hle' : decide ((n : Int) ≤ 500) = true := decide_eq_true (by have : famL 3 = 500 := rfl; omega)
    have HV := Lib.hid h1
    obtain ⟨li, hli⟩ : ∃ li, li = R.line := ⟨_, rfl⟩
    obtain ⟨co, hco⟩ : ∃ co, co = R.col := ⟨_, rfl⟩
    rw [h0, ← hli, ← hco]
    clear h0 h1 hli hco hle
    obtain ⟨k0, k1, k2⟩ := res_boxes w3 (.int .i64 li) (.int .i64 co) 28 30 #[.int .i64 x0, .int .i64 x1, .string x2, .slice xa xl xc, .slice xd xe xf]
    have HC := Lib.hid k0
    have HB4 := Lib.hid (HB3.out.trans (k2.mono HB3.out.size))
    have HVA := Lib.hid (valid_any (Own _ _) R.t 3 _ _ (fun b hb => Nat.lt_of_lt_of_le hb.2 k2.size) (HT.out.keep (fun b hb => k2.block b hb.2)) HG.out)
    clear k0 k1 k2
    go_wp2_with fail
    generalize (w3.alloc (.cells #[.int .i64 x0, .int .i64 x1, .string x2, .slice xa xl xc, .slice xd xe xf] 28)).alloc (.cells #[.int .i64 li, .int .i64 co] 30) = w4 at *
    obtain ⟨c0, c1, c2, c3, c4⟩ := five_cells HC.out
    go_wp2_with fail
    refine HVA.out.mono ?_
    rintro e w5 ⟨rfl, hb5⟩
    have HB5 := Lib.hid (HB4.out.trans (hb5.mono HB4.out.size))
    have hv := HV.out
    clear hb5
    go_wp2
    go_ret
    exact ⟨rfl, HB5.out⟩
  · exact absurd hle (by have : famL 3 = 500 := rfl; have := HN.out; omega)
set_option maxRecDepth 100000 in
set_option maxHeartbeats 8000000 in
theorem limits4 (z m n : Nat) (w : World) (hz : (z : Int).tmod 5 = 4) (hm : (m : Int).tmod 500 = n) (hn : n < 500) : Calls Tryz.prog 8 #[.int .u8 z, .int .u16 m] w fun e w' => e = .returned (.bool true) ∧ Below w.heap.size w w' := by
  have HA := Lib.hid awake_any4
  have HN := Lib.hid hn
  have hwr : wrap64 (n : Int) = n := by rw [wrap64]; omega
  have hg0 : ¬ 9223372036854775807 < 1 + (Pl.rep n [32, 120]).length := by simp only [Pl.rep_len, List.length_cons, List.length_nil]; omega
  have HREP0 := Lib.hid (fun W => repeat_any [32, 120] n W (by decide) hn)
  have HS := Lib.hid (mk2 [102] (Pl.rep n [32, 120]) : _ = (⟨(famB 4 n).toArray⟩ : ByteArray))
  have HX := Lib.hid (fun W => pExpr_any ⟨(famB 4 n).toArray⟩ W (fam_len 4 n (by decide) hn))
  have HF := Lib.hid (fam_ok 4 n (by decide) hn)
  have HG := Lib.hid (expr_big (famB 4 n))
  rw [mk_list] at HX
  obtain ⟨R, hR⟩ : ∃ R, R = exprP (famB 4 n) := ⟨_, rfl⟩
  rw [← hR] at HX HF HG
  clear hR hn
  go_enter Tryz.func8, Tryz.ntmps8
  go_wp2_with fail
  refine (HA.out _).mono ?_
  rintro e w1 ⟨rfl, hb1⟩
  have HB := Lib.hid hb1
  clear hb1
  go_wp2_with fail
  refine (HREP0.out _).mono ?_
  rintro e w2 ⟨rfl, hb2⟩
  replace HB := Lib.hid (HB.out.trans (hb2.mono HB.out.size))
  clear hb2
  go_wp2_with fail
  rw [HS.out]
  refine (HX.out _).mono ?_
  rintro e w3 ⟨⟨v, rfl, ht⟩, hb3⟩
  obtain ⟨x0, x1, x2, xa, xl, xc, xd, xe, xf, rfl⟩ := tree_open ht
  have HB3 := Lib.hid (HB.out.trans (hb3.mono HB.out.size))
  have HT := Lib.hid ht
  clear ht hb3 HS HX
  by_cases hle : n ≤ famL 4
  · obtain ⟨h0, h1⟩ := HF.out.1 hle
    have hle' : decide ((n : Int) ≤ 399) = true := decide_eq_true (by have : famL 4 = 399 := rfl; omega)
    have HV := Lib.hid h1
    obtain ⟨li, hli⟩ : ∃ li, li = R.line := ⟨_, rfl⟩
    obtain ⟨co, hco⟩ : ∃ co, co = R.col := ⟨_, rfl⟩
    rw [h0, ← hli, ← hco]
    clear h0 h1 hli hco hle
    obtain ⟨k0, k1, k2⟩ := res_boxes w3 (.int .i64 li) (.int .i64 co) 28 30 #[.int .i64 x0, .int .i64 x1, .string x2, .slice xa xl xc, .slice xd xe xf]
    have HC := Lib.hid k0
    have HB4 := Lib.hid (HB3.out.trans (k2.mono HB3.out.size))
    have HVA := Lib.hid (valid_any (Own _ _) R.t 3 _ _ (fun b hb => Nat.lt_of_lt_of_le hb.2 k2.size) (HT.out.keep (fun b hb => k2.block b hb.2)) HG.out)
    clear k0 k1 k2
    go_wp2_with fail
    generalize (w3.alloc (.cells #[.int .i64 x0, .int .i64 x1, .string x2, .slice xa xl xc, .slice xd xe xf] 28)).alloc (.cells #[.int .i64 li, .int .i64 co] 30) = w4 at *
    obtain ⟨c0, c1, c2, c3, c4⟩ := five_cells HC.out
    go_wp2_with fail
    refine HVA.out.mono ?_
    rintro e w5 ⟨rfl, hb5⟩
    have HB5 := Lib.hid (HB4.out.trans (hb5.mono HB4.out.size))
    have hv := HV.out
    clear hb5
    go_wp2
    go_ret
    exact ⟨rfl, HB5.out⟩
  · have hRE := HF.out.2 hle
    have hle' : decide ((n : Int) ≤ 399) = false := decide_eq_false (by have : famL 4 = 399 := rfl; omega)
    subst hRE
    obtain ⟨k0, k1, k2⟩ := res_boxes w3 (.int .i64 0) (.int .i64 0) 28 30 #[.int .i64 x0, .int .i64 x1, .string x2, .slice xa xl xc, .slice xd xe xf]
    have HC := Lib.hid (⟨k0, k1⟩ : Blk _ _ _ _ ∧ Blk _ _ _ _)
    have HB4 := Lib.hid (HB3.out.trans (k2.mono HB3.out.size))
    have HVA := Lib.hid (none_any Pl.none0 (Own _ _) _ _ (fun b hb => Nat.lt_of_lt_of_le hb.2 k2.size) (HT.out.keep (fun b hb => k2.block b hb.2)))
    clear k0 k1 k2 hle
    go_wp2_with fail
    generalize (w3.alloc (.cells #[.int .i64 x0, .int .i64 x1, .string x2, .slice xa xl xc, .slice xd xe xf] 28)).alloc (.cells #[.int .i64 0, .int .i64 0] 30) = w4 at *
    obtain ⟨c0, c1, c2, c3, c4⟩ := five_cells HC.out.1
    go_wp2_with fail
    refine HVA.out.mono ?_
    rintro e w5 ⟨r, rfl, hr, hb5⟩
    obtain rfl : r = true := hr.2 trivial
    have HB5 := Lib.hid (HB4.out.trans (hb5.mono HB4.out.size))
    have hp := HC.out.2.of_eq (hb5.block _ HC.out.2.lt)
    obtain ⟨d0, d1⟩ := two_cells hp
    clear hb5 hr hp
    go_wp2
    go_ret
    exact ⟨rfl, HB5.out⟩
theorem parsecoreLimits_walk (z m : Int) (w : World) (hz : (Lit.int .u8 z).wf = true) (hm : (Lit.int .u16 m).wf = true) : Calls Tryz.prog 8 #[.int .u8 z, .int .u16 m] w fun e w' => e = .returned (.bool true) ∧ Below w.heap.size w w' := by
  have h0 : 0 ≤ z := by
    have h : (decide ((0 : Int) ≤ z) && decide (z ≤ 255)) = true := hz
    rw [Bool.and_eq_true] at h
    exact of_decide_eq_true h.1
  have h1 : 0 ≤ m := by
    have h : (decide ((0 : Int) ≤ m) && decide (m ≤ 65535)) = true := hm
    rw [Bool.and_eq_true] at h
    exact of_decide_eq_true h.1
  obtain ⟨a, rfl⟩ : ∃ a : Nat, z = a := ⟨z.toNat, by omega⟩
  obtain ⟨b, rfl⟩ : ∃ b : Nat, m = b := ⟨m.toNat, by omega⟩
  have e1 : (a : Int).tmod 5 = ((a % 5 : Nat) : Int) := by rw [Int.tmod_eq_emod_of_nonneg h0]; rfl
  have e2 : (b : Int).tmod 500 = ((b % 500 : Nat) : Int) := by rw [Int.tmod_eq_emod_of_nonneg h1]; rfl
  have hb : b % 500 < 500 := Nat.mod_lt _ (by decide)
  have ha : a % 5 < 5 := Nat.mod_lt _ (by decide)
  generalize a % 5 = k at *
  match k, ha with
  | 0, _ => exact limits0 a b _ w e1 e2 hb
  | 1, _ => exact limits1 a b _ w e1 e2 hb
  | 2, _ => exact limits2 a b _ w e1 e2 hb
  | 3, _ => exact limits3 a b _ w e1 e2 hb
  | 4, _ => exact limits4 a b _ w e1 e2 hb
end Go.Proofs.YtkmgnibopmpcjaaGreatDoor
