/-
  Walks and plain mathematics, several texts in one (Eb Ec Ed Ee).
-/
import Derived.Test.YtjedahcpkcgpeaaGreatDoorH13
/-
  Walks of layer 4: an expression.
-/
namespace Go.Proofs.YtjedahcpkcgpeaaGreatDoor
open Go Go.RowKit
set_option linter.unusedSimpArgs false
set_option maxRecDepth 100000 in
set_option maxHeartbeats 8000000 in
theorem pexpression_any (s : Src) (g i : Nat) (F : Pl.Fs) (hfn : ∀ W j, i < j → PAt W g s j → Calls Tryz.prog 65 #[.pointer (some ⟨g, 0, none⟩)] W (TreeOut s g (Pl.fnB s.ts F j) W)) (hch : ∀ W j, i < j → PAt W g s j → Calls Tryz.prog 66 #[.pointer (some ⟨g, 0, none⟩)] W (TreeOut s g (Pl.ifB s.ts F j) W)) (hop : ∀ W, PAt W g s i → Calls Tryz.prog 67 #[.pointer (some ⟨g, 0, none⟩), .int .i64 1] W (TreeOut s g (F.oper 1 i) W)) (w : World) (h : PAt w g s i) :
    Calls Tryz.prog 38 #[.pointer (some ⟨g, 0, none⟩)] w (TreeOut s g (Pl.exprB s.ts F i) w) := by
  have HP := Lib.hid h
  have HG := Lib.hid h.blk.lt
  have Hfn := Lib.hid hfn
  have Hch := Lib.hid hch
  have Hop := Lib.hid hop
  obtain ⟨r, hr⟩ : ∃ r, r = Pl.exprB s.ts F i := ⟨_, rfl⟩
  rw [← hr]
  have HR := Lib.hid hr
  rw [Pl.exprB] at HR
  have HF := Lib.hid (Fr.refl (· = g) w)
  obtain ⟨B, hB⟩ : ∃ B, B = w.heap.size + 1 := ⟨_, rfl⟩
  have HGB := Lib.hid (show g < B from by have := HG.out; omega)
  have HXB := Lib.hid (show w.heap.size < B from by omega)
  have HX := Lib.hid (blk_new w #[.int .i64 0, .int .i64 0, .string ⟨#[]⟩, .slice none 0 0, .slice none 0 0] 27)
  have HXL := Lib.hid (Nat.le_refl w.heap.size)
  have hn := fr_new g w (.cells #[.int .i64 0, .int .i64 0, .string ⟨#[]⟩, .slice none 0 0, .slice none 0 0] 27)
  replace HF := Lib.hid (HF.out.trans hn)
  have HW := Lib.hid (show B ≤ (w.alloc (.cells #[.int .i64 0, .int .i64 0, .string ⟨#[]⟩, .slice none 0 0, .slice none 0 0] 27)).heap.size from by rw [hB]; simp)
  replace HP := Lib.hid (HP.out.below ((Below.refl _ _).alloc (Nat.le_refl _) (.cells #[.int .i64 0, .int .i64 0, .string ⟨#[]⟩, .slice none 0 0, .slice none 0 0] 27)))
  clear h hr hn hB hfn hch hop
  go_enter Tryz.func38, Tryz.ntmps38
  go_wp2_with fail
  generalize w.alloc (.cells #[.int .i64 0, .int .i64 0, .string ⟨#[]⟩, .slice none 0 0, .slice none 0 0] 27) = w1 at *
  cases hpb1 : Pl.passes s.ts i [102, 110]
  · refine (ppass_not (by decide) HP.out hpb1).mono ?_
    rintro e w2 ⟨rfl, hp, hf⟩
    rw [hpb1, if_neg Bool.false_ne_true] at HR
    replace HF := Lib.hid (HF.out.trans hf)
    replace HW := Lib.hid (Nat.le_trans HW.out (Fr.size hf))
    replace HX := Lib.hid (blk_fr HX.out (by have := HXL.out; have := HG.out; omega) hf)
    replace HP := Lib.hid (hp)
    clear hp hf
    go_wp2_with fail
    cases hpb2 : Pl.passes s.ts i [105, 102]
    · refine (ppass_not (by decide) HP.out hpb2).mono ?_
      rintro e w3 ⟨rfl, hp, hf⟩
      rw [hpb2, if_neg Bool.false_ne_true] at HR
      replace HF := Lib.hid (HF.out.trans hf)
      replace HW := Lib.hid (Nat.le_trans HW.out (Fr.size hf))
      replace HX := Lib.hid (blk_fr HX.out (by have := HXL.out; have := HG.out; omega) hf)
      replace HP := Lib.hid (hp)
      clear hp hf
      go_wp2_with fail
      refine (Hop.out _ HP.out).mono ?_
      rintro e w4 ho
      rcases TreeOut.split ho with ⟨q3, hri3, rfl, hf⟩ | ⟨tx, q3, x0, x1, x2, xa, xl, xc, xd, xe, xf, hri3, rfl, ht, hp, hf⟩
      · exact ⟨rfl, tree_bad (HR.out.trans hri3) (HF.out.trans hf)⟩
      replace HR := Lib.hid (HR.out.trans hri3)
      have HTx := Lib.hid (ht.mono (own_low HW.out))
      replace HF := Lib.hid (HF.out.trans hf)
      replace HW := Lib.hid (Nat.le_trans HW.out (Fr.size hf))
      replace HX := Lib.hid (blk_fr HX.out (by have := HXL.out; have := HG.out; omega) hf)
      replace HP := Lib.hid (hp)
      clear ho hp hf ht hri3
      obtain ⟨hxc0, hxc1, hxc2, hxc3, hxc4⟩ := five_cells HX.out
      have hxf0 := HX.out.thaw 0
      have hxf1 := HX.out.thaw 1
      have hxf2 := HX.out.thaw 2
      have hxf3 := HX.out.thaw 3
      have hxf4 := HX.out.thaw 4
      go_wp2_with fail
      have HEN := putFive_blk HX.out (.int .i64 x0) (.int .i64 x1) (.string x2) (.slice xa xl xc) (.slice xd xe xf)
      have HFI := tree_fin HG.out HF.out HTx.out HXB.out HP.out (.int .i64 x0) (.int .i64 x1) (.string x2) (.slice xa xl xc) (.slice xd xe xf)
      unfold putFive at HEN HFI
      obtain ⟨k0, k1, k2, k3, k4⟩ := five_cells HEN
      refine bodyPost_ret (v := .agg #[.int .i64 x0, .int .i64 x1, .string x2, .slice xa xl xc, .slice xd xe xf]) (by simp [results, Tryz.results38, go_sem, k0, k1, k2, k3, k4]) rfl ?_
      exact tree_ok HR.out HFI
    · refine (ppass_yes (by decide) HP.out hpb2).mono ?_
      rintro e w5 ⟨rfl, hp, hf⟩
      rw [hpb2, if_pos rfl] at HR
      replace HF := Lib.hid (HF.out.trans hf)
      replace HW := Lib.hid (Nat.le_trans HW.out (Fr.size hf))
      replace HX := Lib.hid (blk_fr HX.out (by have := HXL.out; have := HG.out; omega) hf)
      replace HP := Lib.hid (hp)
      clear hp hf
      go_wp2_with fail
      refine (Hch.out _ _ (by omega) HP.out).mono ?_
      rintro e w6 ho
      rcases TreeOut.split ho with ⟨q4, hri4, rfl, hf⟩ | ⟨tx, q4, x0, x1, x2, xa, xl, xc, xd, xe, xf, hri4, rfl, ht, hp, hf⟩
      · exact ⟨rfl, tree_bad (HR.out.trans hri4) (HF.out.trans hf)⟩
      replace HR := Lib.hid (HR.out.trans hri4)
      have HTx := Lib.hid (ht.mono (own_low HW.out))
      replace HF := Lib.hid (HF.out.trans hf)
      replace HW := Lib.hid (Nat.le_trans HW.out (Fr.size hf))
      replace HX := Lib.hid (blk_fr HX.out (by have := HXL.out; have := HG.out; omega) hf)
      replace HP := Lib.hid (hp)
      clear ho hp hf ht hri4
      obtain ⟨hxc0, hxc1, hxc2, hxc3, hxc4⟩ := five_cells HX.out
      have hxf0 := HX.out.thaw 0
      have hxf1 := HX.out.thaw 1
      have hxf2 := HX.out.thaw 2
      have hxf3 := HX.out.thaw 3
      have hxf4 := HX.out.thaw 4
      go_wp2_with fail
      have HEN := putFive_blk HX.out (.int .i64 x0) (.int .i64 x1) (.string x2) (.slice xa xl xc) (.slice xd xe xf)
      have HFI := tree_fin HG.out HF.out HTx.out HXB.out HP.out (.int .i64 x0) (.int .i64 x1) (.string x2) (.slice xa xl xc) (.slice xd xe xf)
      unfold putFive at HEN HFI
      obtain ⟨k0, k1, k2, k3, k4⟩ := five_cells HEN
      refine bodyPost_ret (v := .agg #[.int .i64 x0, .int .i64 x1, .string x2, .slice xa xl xc, .slice xd xe xf]) (by simp [results, Tryz.results38, go_sem, k0, k1, k2, k3, k4]) rfl ?_
      exact tree_ok HR.out HFI
  · refine (ppass_yes (by decide) HP.out hpb1).mono ?_
    rintro e w7 ⟨rfl, hp, hf⟩
    rw [hpb1, if_pos rfl] at HR
    replace HF := Lib.hid (HF.out.trans hf)
    replace HW := Lib.hid (Nat.le_trans HW.out (Fr.size hf))
    replace HX := Lib.hid (blk_fr HX.out (by have := HXL.out; have := HG.out; omega) hf)
    replace HP := Lib.hid (hp)
    clear hp hf
    go_wp2_with fail
    refine (Hfn.out _ _ (by omega) HP.out).mono ?_
    rintro e w8 ho
    rcases TreeOut.split ho with ⟨q5, hri5, rfl, hf⟩ | ⟨tx, q5, x0, x1, x2, xa, xl, xc, xd, xe, xf, hri5, rfl, ht, hp, hf⟩
    · exact ⟨rfl, tree_bad (HR.out.trans hri5) (HF.out.trans hf)⟩
    replace HR := Lib.hid (HR.out.trans hri5)
    have HTx := Lib.hid (ht.mono (own_low HW.out))
    replace HF := Lib.hid (HF.out.trans hf)
    replace HW := Lib.hid (Nat.le_trans HW.out (Fr.size hf))
    replace HX := Lib.hid (blk_fr HX.out (by have := HXL.out; have := HG.out; omega) hf)
    replace HP := Lib.hid (hp)
    clear ho hp hf ht hri5
    obtain ⟨hxc0, hxc1, hxc2, hxc3, hxc4⟩ := five_cells HX.out
    have hxf0 := HX.out.thaw 0
    have hxf1 := HX.out.thaw 1
    have hxf2 := HX.out.thaw 2
    have hxf3 := HX.out.thaw 3
    have hxf4 := HX.out.thaw 4
    go_wp2_with fail
    have HEN := putFive_blk HX.out (.int .i64 x0) (.int .i64 x1) (.string x2) (.slice xa xl xc) (.slice xd xe xf)
    have HFI := tree_fin HG.out HF.out HTx.out HXB.out HP.out (.int .i64 x0) (.int .i64 x1) (.string x2) (.slice xa xl xc) (.slice xd xe xf)
    unfold putFive at HEN HFI
    obtain ⟨k0, k1, k2, k3, k4⟩ := five_cells HEN
    refine bodyPost_ret (v := .agg #[.int .i64 x0, .int .i64 x1, .string x2, .slice xa xl xc, .slice xd xe xf]) (by simp [results, Tryz.results38, go_sem, k0, k1, k2, k3, k4]) rfl ?_
    exact tree_ok HR.out HFI
end Go.Proofs.YtjedahcpkcgpeaaGreatDoor

/-
  Walks of layer 4: a function.
-/
namespace Go.Proofs.YtjedahcpkcgpeaaGreatDoor
open Go Go.RowKit
set_option linter.unusedSimpArgs false
set_option maxRecDepth 100000 in
set_option maxHeartbeats 8000000 in
theorem pfunction_any (s : Src) (g i : Nat) (F : Pl.Fs) (hex : ∀ W j, i < j → PAt W g s j → Calls Tryz.prog 38 #[.pointer (some ⟨g, 0, none⟩)] W (TreeOut s g (F.expr j) W)) (w : World) (h : PAt w g s i) :
    Calls Tryz.prog 65 #[.pointer (some ⟨g, 0, none⟩)] w (TreeOut s g (Pl.fnB s.ts F i) w) := by
  have HP := Lib.hid h
  have HG := Lib.hid h.blk.lt
  have Hex := Lib.hid hex
  obtain ⟨r, hr⟩ : ∃ r, r = Pl.fnB s.ts F i := ⟨_, rfl⟩
  rw [← hr]
  have HR := Lib.hid hr
  rw [Pl.fnB] at HR
  have HF := Lib.hid (Fr.refl (· = g) w)
  obtain ⟨B, hB⟩ : ∃ B, B = w.heap.size + 1 := ⟨_, rfl⟩
  have HGB := Lib.hid (show g < B from by have := HG.out; omega)
  have HXB := Lib.hid (show w.heap.size < B from by omega)
  have HX := Lib.hid (blk_new w #[.int .i64 0, .int .i64 0, .string ⟨#[]⟩, .slice none 0 0, .slice none 0 0] 27)
  have HXL := Lib.hid (Nat.le_refl w.heap.size)
  have hn := fr_new g w (.cells #[.int .i64 0, .int .i64 0, .string ⟨#[]⟩, .slice none 0 0, .slice none 0 0] 27)
  replace HF := Lib.hid (HF.out.trans hn)
  have HW := Lib.hid (show B ≤ (w.alloc (.cells #[.int .i64 0, .int .i64 0, .string ⟨#[]⟩, .slice none 0 0, .slice none 0 0] 27)).heap.size from by rw [hB]; simp)
  replace HP := Lib.hid (HP.out.below ((Below.refl _ _).alloc (Nat.le_refl _) (.cells #[.int .i64 0, .int .i64 0, .string ⟨#[]⟩, .slice none 0 0, .slice none 0 0] 27)))
  clear h hr hn hB hex
  have e1 : (World.heap (w.alloc (.cells #[.int .i64 0, .int .i64 0, .string ⟨#[]⟩, .slice none 0 0, .slice none 0 0] 27))).size = w.heap.size + 1 := by simp
  have HZL := Lib.hid (show w.heap.size ≤ (w.alloc (.cells #[.int .i64 0, .int .i64 0, .string ⟨#[]⟩, .slice none 0 0, .slice none 0 0] 27)).heap.size from HF.out.size)
  have HZB := Lib.hid (show w.heap.size < (w.alloc (.cells #[.int .i64 0, .int .i64 0, .string ⟨#[]⟩, .slice none 0 0, .slice none 0 0] 27)).heap.size from Nat.lt_of_lt_of_le HXB.out HW.out)
  have HBZ := Lib.hid (show B ≤ (w.alloc (.cells #[.int .i64 0, .int .i64 0, .string ⟨#[]⟩, .slice none 0 0, .slice none 0 0] 27)).heap.size from HW.out)
  have hz := blk_new (w.alloc (.cells #[.int .i64 0, .int .i64 0, .string ⟨#[]⟩, .slice none 0 0, .slice none 0 0] 27)) #[.int .i64 25, .int .i64 0, .string ⟨#[]⟩, .slice none 0 0, .slice none 0 0] 27
  have hn := fr_new g (w.alloc (.cells #[.int .i64 0, .int .i64 0, .string ⟨#[]⟩, .slice none 0 0, .slice none 0 0] 27)) (.cells #[.int .i64 25, .int .i64 0, .string ⟨#[]⟩, .slice none 0 0, .slice none 0 0] 27)
  replace HF := Lib.hid (HF.out.trans hn)
  replace HW := Lib.hid (Nat.le_trans HW.out (Fr.size hn))
  replace HX := Lib.hid (blk_fr HX.out (by have := HXL.out; have := HG.out; omega) hn)
  replace HP := Lib.hid (HP.out.below ((Below.refl _ _).alloc (Nat.le_refl _) (.cells #[.int .i64 25, .int .i64 0, .string ⟨#[]⟩, .slice none 0 0, .slice none 0 0] 27)))
  clear hn
  have HZ := Lib.hid hz
  clear hz
  obtain ⟨C, hC⟩ : ∃ C, C = (w.alloc (.cells #[.int .i64 0, .int .i64 0, .string ⟨#[]⟩, .slice none 0 0, .slice none 0 0] 27)).heap.size + 1 := ⟨_, rfl⟩
  have HBC := Lib.hid (show B ≤ C from by have := HBZ.out; omega)
  have HZC := Lib.hid (show (w.alloc (.cells #[.int .i64 0, .int .i64 0, .string ⟨#[]⟩, .slice none 0 0, .slice none 0 0] 27)).heap.size < C from by omega)
  have HGC := Lib.hid (show g < C from by have := HZL.out; have := HG.out; omega)
  have HWC := Lib.hid (show C ≤ (World.heap ((w.alloc (.cells #[.int .i64 0, .int .i64 0, .string ⟨#[]⟩, .slice none 0 0, .slice none 0 0] 27)).alloc (.cells #[.int .i64 25, .int .i64 0, .string ⟨#[]⟩, .slice none 0 0, .slice none 0 0] 27))).size from by rw [hC]; exact HZ.out.lt)
  clear hC
  rw [e1] at HZ HZL HZB HZC HBZ
  clear e1
  go_enter Tryz.func65, Tryz.ntmps65
  go_wp2_with fail
  generalize ((w.alloc (.cells #[.int .i64 0, .int .i64 0, .string ⟨#[]⟩, .slice none 0 0, .slice none 0 0] 27)).alloc (.cells #[.int .i64 25, .int .i64 0, .string ⟨#[]⟩, .slice none 0 0, .slice none 0 0] 27)) = w1 at *
  generalize w.heap.size + 1 = z at *
  cases hpb1 : Pl.passes s.ts i [95]
  · refine (ppass_not (by decide) HP.out hpb1).mono ?_
    rintro e w2 ⟨rfl, hp, hf⟩
    rw [hpb1, if_neg Bool.false_ne_true] at HR
    replace HF := Lib.hid (HF.out.trans hf)
    replace HW := Lib.hid (Nat.le_trans HW.out (Fr.size hf))
    replace HWC := Lib.hid (Nat.le_trans HWC.out (Fr.size hf))
    replace HX := Lib.hid (blk_fr HX.out (by have := HXL.out; have := HG.out; omega) hf)
    replace HZ := Lib.hid (blk_fr HZ.out (by have := HZL.out; have := HG.out; omega) hf)
    replace HP := Lib.hid (hp)
    clear hp hf
    go_wp2_with fail
    refine (ptake_any s g i 1 (by decide) _ HP.out).mono ?_
    rintro e w3 ho
    rcases TakeOut.split ho with ⟨q2, hri2, rfl, hf⟩ | ⟨t1, q2, hri2, rfl, hp, hf⟩
    · exact ⟨rfl, tree_bad (HR.out.trans (by rw [hri2, Pl.PR.then_bad])) (HF.out.trans hf)⟩
    have hgo2 := take_next hri2
    have HLs := Lib.hid (take_len HP.out hri2)
    rw [hri2, Pl.PR.then_ok] at HR
    replace HF := Lib.hid (HF.out.trans hf)
    replace HW := Lib.hid (Nat.le_trans HW.out (Fr.size hf))
    replace HWC := Lib.hid (Nat.le_trans HWC.out (Fr.size hf))
    replace HX := Lib.hid (blk_fr HX.out (by have := HXL.out; have := HG.out; omega) hf)
    replace HZ := Lib.hid (blk_fr HZ.out (by have := HZL.out; have := HG.out; omega) hf)
    replace HP := Lib.hid (hp)
    clear ho hp hf
    obtain ⟨hzc0, hzc1, hzc2, hzc3, hzc4⟩ := five_cells HZ.out
    have hzf0 := HZ.out.thaw 0
    have hzf1 := HZ.out.thaw 1
    have hzf2 := HZ.out.thaw 2
    have hzf3 := HZ.out.thaw 3
    have hzf4 := HZ.out.thaw 4
    have hn := fr_put w3 (z) 2 (.string (Pl.mk t1))
    have hz : Blk (World.setCell w3 ⟨z, 2, none⟩ (.string (Pl.mk t1))) z 27 #[.int .i64 25, .int .i64 0, .string (Pl.mk t1), .slice none 0 0, .slice none 0 0] := by
      have := HZ.out.set 2 (.string (Pl.mk t1))
      simpa using this
    replace HF := Lib.hid (fr_over HF.out HZL.out hn)
    replace HW := Lib.hid (Nat.le_trans HW.out (Fr.size hn))
    replace HWC := Lib.hid (Nat.le_trans HWC.out (Fr.size hn))
    replace HX := Lib.hid (blk_fr HX.out (by have := HZB.out; have := HXB.out; omega) hn)
    replace HP := Lib.hid (pat_fr HP.out (Nat.lt_of_lt_of_le HG.out HZL.out) hn)
    replace HZ := Lib.hid hz
    clear hn hz
    go_wp2_with fail
    generalize (World.setCell w3 ⟨z, 2, none⟩ (.string (Pl.mk t1))) = w4 at *
    clear hzc0 hzc1 hzc2 hzc3 hzc4 hzf0 hzf1 hzf2 hzf3 hzf4
    refine (pneed_any s g q2 [61, 62] (by decide) _ HP.out).mono ?_
    rintro e w5 ho
    rcases NeedOut.split ho with ⟨q3, hri3, rfl, hf⟩ | ⟨q3, nv, hri3, rfl, hp, hf⟩
    · exact ⟨rfl, tree_bad (HR.out.trans (by rw [hri3, Pl.PR.then_bad])) (HF.out.trans hf)⟩
    have hgo3 := need_next hri3
    rw [hri3, Pl.PR.then_ok] at HR
    replace HF := Lib.hid (HF.out.trans hf)
    replace HW := Lib.hid (Nat.le_trans HW.out (Fr.size hf))
    replace HWC := Lib.hid (Nat.le_trans HWC.out (Fr.size hf))
    replace HX := Lib.hid (blk_fr HX.out (by have := HXL.out; have := HG.out; omega) hf)
    replace HZ := Lib.hid (blk_fr HZ.out (by have := HZL.out; have := HG.out; omega) hf)
    replace HP := Lib.hid (hp)
    clear ho hp hf
    go_wp2_with fail
    refine (Hex.out _ _ (by skip; omega) HP.out).mono ?_
    rintro e w6 ho
    rcases TreeOut.split ho with ⟨q4, hri4, rfl, hf⟩ | ⟨tu, q4, u0, u1, u2, ua, ul, uc, ud, ue, uf, hri4, rfl, ht, hp, hf⟩
    · exact ⟨rfl, tree_bad (HR.out.trans (by rw [hri4, Pl.PR.then_bad])) (HF.out.trans hf)⟩
    rw [hri4, Pl.PR.then_ok] at HR
    have HTu := Lib.hid (ht.mono (own_low HWC.out))
    replace HF := Lib.hid (HF.out.trans hf)
    replace HW := Lib.hid (Nat.le_trans HW.out (Fr.size hf))
    replace HWC := Lib.hid (Nat.le_trans HWC.out (Fr.size hf))
    replace HX := Lib.hid (blk_fr HX.out (by have := HXL.out; have := HG.out; omega) hf)
    replace HZ := Lib.hid (blk_fr HZ.out (by have := HZL.out; have := HG.out; omega) hf)
    replace HP := Lib.hid (hp)
    clear ho hp hf ht hri4
    have hl := trees_one_at HWC.out HTu.out
    have hn := fr_new g w6 (.cells #[.int .i64 u0, .int .i64 u1, .string u2, .slice ua ul uc, .slice ud ue uf] 27)
    replace HF := Lib.hid (HF.out.trans hn)
    replace HW := Lib.hid (Nat.le_trans HW.out (Fr.size hn))
    replace HWC := Lib.hid (Nat.le_trans HWC.out (Fr.size hn))
    replace HX := Lib.hid (blk_fr HX.out (by have := HXL.out; have := HG.out; omega) hn)
    replace HZ := Lib.hid (blk_fr HZ.out (by have := HZL.out; have := HG.out; omega) hn)
    replace HP := Lib.hid (HP.out.below ((Below.refl _ _).alloc (Nat.le_refl _) (.cells #[.int .i64 u0, .int .i64 u1, .string u2, .slice ua ul uc, .slice ud ue uf] 27)))
    clear hn
    have HL := Lib.hid hl
    clear hl
    have hzx : ¬ z = w.heap.size := by have := HZB.out; omega
    have hxz : ¬ w.heap.size = z := by have := HZB.out; omega
    obtain ⟨hxc0, hxc1, hxc2, hxc3, hxc4⟩ := five_cells HX.out
    have hxf0 := HX.out.thaw 0
    have hxf1 := HX.out.thaw 1
    have hxf2 := HX.out.thaw 2
    have hxf3 := HX.out.thaw 3
    have hxf4 := HX.out.thaw 4
    obtain ⟨hzc0, hzc1, hzc2, hzc3, hzc4⟩ := five_cells HZ.out
    have hzf0 := HZ.out.thaw 0
    have hzf1 := HZ.out.thaw 1
    have hzf2 := HZ.out.thaw 2
    have hzf3 := HZ.out.thaw 3
    have hzf4 := HZ.out.thaw 4
    have hn := fr_put (w6.alloc (.cells #[.int .i64 u0, .int .i64 u1, .string u2, .slice ua ul uc, .slice ud ue uf] 27)) (z) 4 (.slice (some ⟨w6.heap.size, 0, none⟩) 1 1)
    have hz : Blk (World.setCell (w6.alloc (.cells #[.int .i64 u0, .int .i64 u1, .string u2, .slice ua ul uc, .slice ud ue uf] 27)) ⟨z, 4, none⟩ (.slice (some ⟨w6.heap.size, 0, none⟩) 1 1)) z 27 #[.int .i64 25, .int .i64 0, .string (Pl.mk t1), .slice none 0 0, .slice (some ⟨w6.heap.size, 0, none⟩) 1 1] := by
      have := HZ.out.set 4 (.slice (some ⟨w6.heap.size, 0, none⟩) 1 1)
      simpa using this
    replace HF := Lib.hid (fr_over HF.out HZL.out hn)
    replace HW := Lib.hid (Nat.le_trans HW.out (Fr.size hn))
    replace HWC := Lib.hid (Nat.le_trans HWC.out (Fr.size hn))
    replace HX := Lib.hid (blk_fr HX.out (by have := HZB.out; have := HXB.out; omega) hn)
    replace HL := Lib.hid (HL.out.keep HZC.out hn)
    replace HP := Lib.hid (pat_fr HP.out (Nat.lt_of_lt_of_le HG.out HZL.out) hn)
    replace HZ := Lib.hid hz
    clear hn hz
    have HU := Lib.hid (tree_of (W := (World.setCell (w6.alloc (.cells #[.int .i64 u0, .int .i64 u1, .string u2, .slice ua ul uc, .slice ud ue uf] 27)) ⟨z, 4, none⟩ (.slice (some ⟨w6.heap.size, 0, none⟩) 1 1))) (B := B) (op := 25) (n := 0) HLs.out (strs_none _ _) (SynSl.mono (own_low HBC.out) HL.out.syns))
    go_wp2_with fail
    have HEN := putFive_blk HX.out (.int .i64 25) (.int .i64 0) (.string (Pl.mk t1)) (.slice none 0 0) (.slice (some ⟨w6.heap.size, 0, none⟩) 1 1)
    have HFI := tree_fin HG.out HF.out HU.out HXB.out HP.out (.int .i64 25) (.int .i64 0) (.string (Pl.mk t1)) (.slice none 0 0) (.slice (some ⟨w6.heap.size, 0, none⟩) 1 1)
    unfold putFive at HEN HFI
    obtain ⟨k0, k1, k2, k3, k4⟩ := five_cells HEN
    refine bodyPost_ret (v := .agg #[.int .i64 25, .int .i64 0, .string (Pl.mk t1), .slice none 0 0, .slice (some ⟨w6.heap.size, 0, none⟩) 1 1]) (by simp [results, Tryz.results65, go_sem, k0, k1, k2, k3, k4]) rfl ?_
    exact tree_ok HR.out HFI
  · refine (ppass_yes (by decide) HP.out hpb1).mono ?_
    rintro e w7 ⟨rfl, hp, hf⟩
    rw [hpb1, if_pos rfl] at HR
    replace HF := Lib.hid (HF.out.trans hf)
    replace HW := Lib.hid (Nat.le_trans HW.out (Fr.size hf))
    replace HWC := Lib.hid (Nat.le_trans HWC.out (Fr.size hf))
    replace HX := Lib.hid (blk_fr HX.out (by have := HXL.out; have := HG.out; omega) hf)
    replace HZ := Lib.hid (blk_fr HZ.out (by have := HZL.out; have := HG.out; omega) hf)
    replace HP := Lib.hid (hp)
    clear hp hf
    go_wp2_with fail
    refine (pneed_any s g (i + 1) [61, 62] (by decide) _ HP.out).mono ?_
    rintro e w8 ho
    rcases NeedOut.split ho with ⟨q5, hri5, rfl, hf⟩ | ⟨q5, nv, hri5, rfl, hp, hf⟩
    · exact ⟨rfl, tree_bad (HR.out.trans (by rw [hri5, Pl.PR.then_bad])) (HF.out.trans hf)⟩
    have hgo5 := need_next hri5
    rw [hri5, Pl.PR.then_ok] at HR
    replace HF := Lib.hid (HF.out.trans hf)
    replace HW := Lib.hid (Nat.le_trans HW.out (Fr.size hf))
    replace HWC := Lib.hid (Nat.le_trans HWC.out (Fr.size hf))
    replace HX := Lib.hid (blk_fr HX.out (by have := HXL.out; have := HG.out; omega) hf)
    replace HZ := Lib.hid (blk_fr HZ.out (by have := HZL.out; have := HG.out; omega) hf)
    replace HP := Lib.hid (hp)
    clear ho hp hf
    go_wp2_with fail
    refine (Hex.out _ _ (by skip; omega) HP.out).mono ?_
    rintro e w9 ho
    rcases TreeOut.split ho with ⟨q6, hri6, rfl, hf⟩ | ⟨tu, q6, u0, u1, u2, ua, ul, uc, ud, ue, uf, hri6, rfl, ht, hp, hf⟩
    · exact ⟨rfl, tree_bad (HR.out.trans (by rw [hri6, Pl.PR.then_bad])) (HF.out.trans hf)⟩
    rw [hri6, Pl.PR.then_ok] at HR
    have HTu := Lib.hid (ht.mono (own_low HWC.out))
    replace HF := Lib.hid (HF.out.trans hf)
    replace HW := Lib.hid (Nat.le_trans HW.out (Fr.size hf))
    replace HWC := Lib.hid (Nat.le_trans HWC.out (Fr.size hf))
    replace HX := Lib.hid (blk_fr HX.out (by have := HXL.out; have := HG.out; omega) hf)
    replace HZ := Lib.hid (blk_fr HZ.out (by have := HZL.out; have := HG.out; omega) hf)
    replace HP := Lib.hid (hp)
    clear ho hp hf ht hri6
    have hl := trees_one_at HWC.out HTu.out
    have hn := fr_new g w9 (.cells #[.int .i64 u0, .int .i64 u1, .string u2, .slice ua ul uc, .slice ud ue uf] 27)
    replace HF := Lib.hid (HF.out.trans hn)
    replace HW := Lib.hid (Nat.le_trans HW.out (Fr.size hn))
    replace HWC := Lib.hid (Nat.le_trans HWC.out (Fr.size hn))
    replace HX := Lib.hid (blk_fr HX.out (by have := HXL.out; have := HG.out; omega) hn)
    replace HZ := Lib.hid (blk_fr HZ.out (by have := HZL.out; have := HG.out; omega) hn)
    replace HP := Lib.hid (HP.out.below ((Below.refl _ _).alloc (Nat.le_refl _) (.cells #[.int .i64 u0, .int .i64 u1, .string u2, .slice ua ul uc, .slice ud ue uf] 27)))
    clear hn
    have HL := Lib.hid hl
    clear hl
    have hzx : ¬ z = w.heap.size := by have := HZB.out; omega
    have hxz : ¬ w.heap.size = z := by have := HZB.out; omega
    obtain ⟨hxc0, hxc1, hxc2, hxc3, hxc4⟩ := five_cells HX.out
    have hxf0 := HX.out.thaw 0
    have hxf1 := HX.out.thaw 1
    have hxf2 := HX.out.thaw 2
    have hxf3 := HX.out.thaw 3
    have hxf4 := HX.out.thaw 4
    obtain ⟨hzc0, hzc1, hzc2, hzc3, hzc4⟩ := five_cells HZ.out
    have hzf0 := HZ.out.thaw 0
    have hzf1 := HZ.out.thaw 1
    have hzf2 := HZ.out.thaw 2
    have hzf3 := HZ.out.thaw 3
    have hzf4 := HZ.out.thaw 4
    have hn := fr_put (w9.alloc (.cells #[.int .i64 u0, .int .i64 u1, .string u2, .slice ua ul uc, .slice ud ue uf] 27)) (z) 4 (.slice (some ⟨w9.heap.size, 0, none⟩) 1 1)
    have hz : Blk (World.setCell (w9.alloc (.cells #[.int .i64 u0, .int .i64 u1, .string u2, .slice ua ul uc, .slice ud ue uf] 27)) ⟨z, 4, none⟩ (.slice (some ⟨w9.heap.size, 0, none⟩) 1 1)) z 27 #[.int .i64 25, .int .i64 0, .string ⟨#[]⟩, .slice none 0 0, .slice (some ⟨w9.heap.size, 0, none⟩) 1 1] := by
      have := HZ.out.set 4 (.slice (some ⟨w9.heap.size, 0, none⟩) 1 1)
      simpa using this
    replace HF := Lib.hid (fr_over HF.out HZL.out hn)
    replace HW := Lib.hid (Nat.le_trans HW.out (Fr.size hn))
    replace HWC := Lib.hid (Nat.le_trans HWC.out (Fr.size hn))
    replace HX := Lib.hid (blk_fr HX.out (by have := HZB.out; have := HXB.out; omega) hn)
    replace HL := Lib.hid (HL.out.keep HZC.out hn)
    replace HP := Lib.hid (pat_fr HP.out (Nat.lt_of_lt_of_le HG.out HZL.out) hn)
    replace HZ := Lib.hid hz
    clear hn hz
    have HU := Lib.hid (tree_of (W := (World.setCell (w9.alloc (.cells #[.int .i64 u0, .int .i64 u1, .string u2, .slice ua ul uc, .slice ud ue uf] 27)) ⟨z, 4, none⟩ (.slice (some ⟨w9.heap.size, 0, none⟩) 1 1))) (B := B) (op := 25) (n := 0) (tx := ByteArray.empty) (Nat.zero_le _) (strs_none _ _) (SynSl.mono (own_low HBC.out) HL.out.syns))
    go_wp2_with fail
    have HEN := putFive_blk HX.out (.int .i64 25) (.int .i64 0) (.string ⟨#[]⟩) (.slice none 0 0) (.slice (some ⟨w9.heap.size, 0, none⟩) 1 1)
    have HFI := tree_fin HG.out HF.out HU.out HXB.out HP.out (.int .i64 25) (.int .i64 0) (.string ⟨#[]⟩) (.slice none 0 0) (.slice (some ⟨w9.heap.size, 0, none⟩) 1 1)
    unfold putFive at HEN HFI
    obtain ⟨k0, k1, k2, k3, k4⟩ := five_cells HEN
    refine bodyPost_ret (v := .agg #[.int .i64 25, .int .i64 0, .string ⟨#[]⟩, .slice none 0 0, .slice (some ⟨w9.heap.size, 0, none⟩) 1 1]) (by simp [results, Tryz.results65, go_sem, k0, k1, k2, k3, k4]) rfl ?_
    exact tree_ok HR.out HFI
end Go.Proofs.YtjedahcpkcgpeaaGreatDoor

/-
  Walks of layer 4: a choice.
-/
namespace Go.Proofs.YtjedahcpkcgpeaaGreatDoor
open Go Go.RowKit
set_option linter.unusedSimpArgs false
set_option maxRecDepth 100000 in
set_option maxHeartbeats 8000000 in
theorem pchoice_any (s : Src) (g i : Nat) (F : Pl.Fs) (hex : ∀ W j, i ≤ j → PAt W g s j → Calls Tryz.prog 38 #[.pointer (some ⟨g, 0, none⟩)] W (TreeOut s g (F.expr j) W)) (hgo : Pl.Goes F) (w : World) (h : PAt w g s i) :
    Calls Tryz.prog 66 #[.pointer (some ⟨g, 0, none⟩)] w (TreeOut s g (Pl.ifB s.ts F i) w) := by
  have HP := Lib.hid h
  have HG := Lib.hid h.blk.lt
  obtain ⟨i28, hi0, hz0, hz1, hz2⟩ := info3 infoTree
  have Hex := Lib.hid hex
  have Hgo := Lib.hid hgo
  obtain ⟨r, hr⟩ : ∃ r, r = Pl.ifB s.ts F i := ⟨_, rfl⟩
  rw [← hr]
  have HR := Lib.hid hr
  rw [Pl.ifB] at HR
  have HF := Lib.hid (Fr.refl (· = g) w)
  obtain ⟨B, hB⟩ : ∃ B, B = w.heap.size + 1 := ⟨_, rfl⟩
  have HGB := Lib.hid (show g < B from by have := HG.out; omega)
  have HXB := Lib.hid (show w.heap.size < B from by omega)
  have HX := Lib.hid (blk_new w #[.int .i64 0, .int .i64 0, .string ⟨#[]⟩, .slice none 0 0, .slice none 0 0] 27)
  have HXL := Lib.hid (Nat.le_refl w.heap.size)
  have hn := fr_new g w (.cells #[.int .i64 0, .int .i64 0, .string ⟨#[]⟩, .slice none 0 0, .slice none 0 0] 27)
  replace HF := Lib.hid (HF.out.trans hn)
  have HW := Lib.hid (show B ≤ (w.alloc (.cells #[.int .i64 0, .int .i64 0, .string ⟨#[]⟩, .slice none 0 0, .slice none 0 0] 27)).heap.size from by rw [hB]; simp)
  replace HP := Lib.hid (HP.out.below ((Below.refl _ _).alloc (Nat.le_refl _) (.cells #[.int .i64 0, .int .i64 0, .string ⟨#[]⟩, .slice none 0 0, .slice none 0 0] 27)))
  clear h hr hn hB hex hgo
  go_enter Tryz.func66, Tryz.ntmps66
  go_wp2_with fail
  generalize w.alloc (.cells #[.int .i64 0, .int .i64 0, .string ⟨#[]⟩, .slice none 0 0, .slice none 0 0] 27) = w1 at *
  refine (Hex.out _ _ (Nat.le_refl _) HP.out).mono ?_
  rintro e w2 ho
  rcases TreeOut.split ho with ⟨q1, hri1, rfl, hf⟩ | ⟨tu, q1, u0, u1, u2, ua, ul, uc, ud, ue, uf, hri1, rfl, ht, hp, hf⟩
  · exact ⟨rfl, tree_bad (HR.out.trans (by rw [hri1, Pl.PR.then_bad])) (HF.out.trans hf)⟩
  have hgo1 := Hgo.out.expr _ _ _ hri1
  rw [hri1, Pl.PR.then_ok] at HR
  have HTu := Lib.hid (ht.mono (own_low HW.out))
  replace HF := Lib.hid (HF.out.trans hf)
  replace HW := Lib.hid (Nat.le_trans HW.out (Fr.size hf))
  replace HX := Lib.hid (blk_fr HX.out (by have := HXL.out; have := HG.out; omega) hf)
  replace HP := Lib.hid (hp)
  clear ho hp hf ht hri1
  have hl := trees_one_at HW.out HTu.out
  have hn := fr_new g w2 (.cells #[.int .i64 u0, .int .i64 u1, .string u2, .slice ua ul uc, .slice ud ue uf] 27)
  replace HF := Lib.hid (HF.out.trans hn)
  replace HW := Lib.hid (Nat.le_trans HW.out (Fr.size hn))
  replace HX := Lib.hid (blk_fr HX.out (by have := HXL.out; have := HG.out; omega) hn)
  replace HP := Lib.hid (HP.out.below ((Below.refl _ _).alloc (Nat.le_refl _) (.cells #[.int .i64 u0, .int .i64 u1, .string u2, .slice ua ul uc, .slice ud ue uf] 27)))
  clear hn
  have HL := Lib.hid hl
  clear hl
  go_wp2_with fail
  generalize (w2.alloc (.cells #[.int .i64 u0, .int .i64 u1, .string u2, .slice ua ul uc, .slice ud ue uf] 27)) = w3 at *
  refine (pneed_any s g q1 [116, 104, 101, 110] (by decide) _ HP.out).mono ?_
  rintro e w4 ho
  rcases NeedOut.split ho with ⟨q2, hri2, rfl, hf⟩ | ⟨q2, nv, hri2, rfl, hp, hf⟩
  · exact ⟨rfl, tree_bad (HR.out.trans (by rw [hri2, Pl.PR.then_bad])) (HF.out.trans hf)⟩
  have hgo2 := need_next hri2
  rw [hri2, Pl.PR.then_ok] at HR
  replace HF := Lib.hid (HF.out.trans hf)
  replace HW := Lib.hid (Nat.le_trans HW.out (Fr.size hf))
  replace HX := Lib.hid (blk_fr HX.out (by have := HXL.out; have := HG.out; omega) hf)
  replace HL := Lib.hid (HL.out.keep HGB.out hf)
  replace HP := Lib.hid (hp)
  clear ho hp hf
  go_wp2_with fail
  have HOL := Lib.hid (fun k (hk : Value.ownBlock (.slice (some ⟨w2.heap.size, 0, none⟩) 1 1) = some k) => (HL.out.owned hk).2)
  have HOB := Lib.hid (fun k (hk : Value.ownBlock (.slice (some ⟨w2.heap.size, 0, none⟩) 1 1) = some k) => (HL.out.owned hk).1)
  have HSB := Lib.hid HW.out
  refine (Hex.out _ _ (by omega) HP.out).mono ?_
  rintro e w5 ho
  rcases TreeOut.split ho with ⟨q3, hri3, rfl, hf⟩ | ⟨tv, q3, v0, v1, v2, va, vl, vc, vd, ve, vf, hri3, rfl, ht, hp, hf⟩
  · exact ⟨rfl, tree_bad (HR.out.trans (by rw [hri3, Pl.PR.then_bad])) (HF.out.trans hf)⟩
  have hgo3 := Hgo.out.expr _ _ _ hri3
  rw [hri3, Pl.PR.then_ok] at HR
  have HTv := Lib.hid ht
  replace HF := Lib.hid (HF.out.trans hf)
  replace HW := Lib.hid (Nat.le_trans HW.out (Fr.size hf))
  replace HX := Lib.hid (blk_fr HX.out (by have := HXL.out; have := HG.out; omega) hf)
  replace HL := Lib.hid (HL.out.keep HGB.out hf)
  replace HP := Lib.hid (hp)
  clear ho hp hf ht hri3
  obtain ⟨us, hown, hpush⟩ := trees_append HL.out HTv.out HSB.out HOL.out
  have HROW := Lib.hid (show World.ownsRow (w5.alloc (.cells #[.int .i64 v0, .int .i64 v1, .string v2, .slice va vl vc, .slice vd ve vf] 27)) B 27 5 (.slice (some ⟨w2.heap.size, 0, none⟩) 1 1) 1 us from hown)
  have HPUSH := Lib.hid hpush
  clear hown hpush
  have hn := fr_new g w5 (.cells #[.int .i64 v0, .int .i64 v1, .string v2, .slice va vl vc, .slice vd ve vf] 27)
  replace HF := Lib.hid (HF.out.trans hn)
  replace HW := Lib.hid (Nat.le_trans HW.out (Fr.size hn))
  replace HX := Lib.hid (blk_fr HX.out (by have := HXL.out; have := HG.out; omega) hn)
  replace HP := Lib.hid (HP.out.below ((Below.refl _ _).alloc (Nat.le_refl _) (.cells #[.int .i64 v0, .int .i64 v1, .string v2, .slice va vl vc, .slice vd ve vf] 27)))
  clear hn
  go_wp2_with (at_builtin; refine wpList_append_lies _ rfl _ _ 25 rfl B 27 i28 (.agg #[.int .i64 0, .int .i64 0, .string ⟨#[]⟩, .slice none 0 0, .slice none 0 0]) 5 80 Tryz.underlying25 hi0 hz0 hz1 hz2 rfl (by decide) _ _ _ rfl HROW.out ⟨w5.heap.size, 0, none⟩ 1 1 [.int .i64 v0, .int .i64 v1, .string v2, .slice va vl vc, .slice vd ve vf] rfl rfl ?c1 ?c2 (by decide) ?c3 ?c4 ?c5 (w5.heap.size + 1) (by simp) ?_)
  case c1 => exact World.news_of_block (cs := #[.int .i64 v0, .int .i64 v1, .string v2, .slice va vl vc, .slice vd ve vf]) (t := 27) (fr := (0, 0)) (heap_alloc_new w5 _)
  case c2 => simp [Value.oneCell']
  case c3 => unfold maxLen; omega
  case c4 => omega
  case c5 => exact HW.out
  intro g2 c2 w6 hown hgrow hat hlt
  have HL := Lib.hid (show TreesAt w6 B (.slice (some ⟨g2, 0, none⟩) 2 c2) ([tu, tv]) from HPUSH.out _ _ hown hgrow (fun k hk => by
    have e : some g2 = some k := hk
    injection e with e
    subst e
    rcases hat with hat | hat
    · exact .inl hat
    · right; rw [hat]; exact Nat.le_refl _))
  replace HF := Lib.hid (fr_row HF.out hgrow (fun k hk => by have := HOB.out k hk; have := HXB.out; omega))
  replace HX := Lib.hid (blk_grown HX.out hgrow (fun k hk => by have := HOB.out k hk; have := HXB.out; omega))
  replace HP := Lib.hid (HP.out.grown hgrow (fun k hk => by have := HOB.out k hk; have := HGB.out; omega))
  replace HW := Lib.hid (Nat.le_trans HW.out hgrow.size)
  clear hown hgrow hat hlt HROW HPUSH HOL HOB HSB HTv
  go_wp2_with fail
  refine (pneed_any s g q3 [101, 108, 115, 101] (by decide) _ HP.out).mono ?_
  rintro e w7 ho
  rcases NeedOut.split ho with ⟨q4, hri4, rfl, hf⟩ | ⟨q4, nv, hri4, rfl, hp, hf⟩
  · exact ⟨rfl, tree_bad (HR.out.trans (by rw [hri4, Pl.PR.then_bad])) (HF.out.trans hf)⟩
  have hgo4 := need_next hri4
  rw [hri4, Pl.PR.then_ok] at HR
  replace HF := Lib.hid (HF.out.trans hf)
  replace HW := Lib.hid (Nat.le_trans HW.out (Fr.size hf))
  replace HX := Lib.hid (blk_fr HX.out (by have := HXL.out; have := HG.out; omega) hf)
  replace HL := Lib.hid (HL.out.keep HGB.out hf)
  replace HP := Lib.hid (hp)
  clear ho hp hf
  go_wp2_with fail
  have HOL := Lib.hid (fun k (hk : Value.ownBlock (.slice (some ⟨g2, 0, none⟩) 2 c2) = some k) => (HL.out.owned hk).2)
  have HOB := Lib.hid (fun k (hk : Value.ownBlock (.slice (some ⟨g2, 0, none⟩) 2 c2) = some k) => (HL.out.owned hk).1)
  have HSB := Lib.hid HW.out
  refine (Hex.out _ _ (by omega) HP.out).mono ?_
  rintro e w8 ho
  rcases TreeOut.split ho with ⟨q5, hri5, rfl, hf⟩ | ⟨ty, q5, y0, y1, y2, ya, yl, yc, yd, ye, yf, hri5, rfl, ht, hp, hf⟩
  · exact ⟨rfl, tree_bad (HR.out.trans (by rw [hri5, Pl.PR.then_bad])) (HF.out.trans hf)⟩
  have hgo5 := Hgo.out.expr _ _ _ hri5
  rw [hri5, Pl.PR.then_ok] at HR
  have HTy := Lib.hid ht
  replace HF := Lib.hid (HF.out.trans hf)
  replace HW := Lib.hid (Nat.le_trans HW.out (Fr.size hf))
  replace HX := Lib.hid (blk_fr HX.out (by have := HXL.out; have := HG.out; omega) hf)
  replace HL := Lib.hid (HL.out.keep HGB.out hf)
  replace HP := Lib.hid (hp)
  clear ho hp hf ht hri5
  obtain ⟨us, hown, hpush⟩ := trees_append HL.out HTy.out HSB.out HOL.out
  have HROW := Lib.hid (show World.ownsRow (w8.alloc (.cells #[.int .i64 y0, .int .i64 y1, .string y2, .slice ya yl yc, .slice yd ye yf] 27)) B 27 5 (.slice (some ⟨g2, 0, none⟩) 2 c2) 2 us from hown)
  have HPUSH := Lib.hid hpush
  clear hown hpush
  have hn := fr_new g w8 (.cells #[.int .i64 y0, .int .i64 y1, .string y2, .slice ya yl yc, .slice yd ye yf] 27)
  replace HF := Lib.hid (HF.out.trans hn)
  replace HW := Lib.hid (Nat.le_trans HW.out (Fr.size hn))
  replace HX := Lib.hid (blk_fr HX.out (by have := HXL.out; have := HG.out; omega) hn)
  replace HP := Lib.hid (HP.out.below ((Below.refl _ _).alloc (Nat.le_refl _) (.cells #[.int .i64 y0, .int .i64 y1, .string y2, .slice ya yl yc, .slice yd ye yf] 27)))
  clear hn
  go_wp2_with (at_builtin; refine wpList_append_lies _ rfl _ _ 25 rfl B 27 i28 (.agg #[.int .i64 0, .int .i64 0, .string ⟨#[]⟩, .slice none 0 0, .slice none 0 0]) 5 80 Tryz.underlying25 hi0 hz0 hz1 hz2 rfl (by decide) _ _ _ rfl HROW.out ⟨w8.heap.size, 0, none⟩ 1 1 [.int .i64 y0, .int .i64 y1, .string y2, .slice ya yl yc, .slice yd ye yf] rfl rfl ?c1 ?c2 (by decide) ?c3 ?c4 ?c5 (w8.heap.size + 1) (by simp) ?_)
  case c1 => exact World.news_of_block (cs := #[.int .i64 y0, .int .i64 y1, .string y2, .slice ya yl yc, .slice yd ye yf]) (t := 27) (fr := (0, 0)) (heap_alloc_new w8 _)
  case c2 => simp [Value.oneCell']
  case c3 => unfold maxLen; omega
  case c4 => omega
  case c5 => exact HW.out
  intro g3 c3 w9 hown hgrow hat hlt
  have HL := Lib.hid (show TreesAt w9 B (.slice (some ⟨g3, 0, none⟩) 3 c3) ([tu, tv, ty]) from HPUSH.out _ _ hown hgrow (fun k hk => by
    have e : some g3 = some k := hk
    injection e with e
    subst e
    rcases hat with hat | hat
    · exact .inl hat
    · right; rw [hat]; exact Nat.le_refl _))
  replace HF := Lib.hid (fr_row HF.out hgrow (fun k hk => by have := HOB.out k hk; have := HXB.out; omega))
  replace HX := Lib.hid (blk_grown HX.out hgrow (fun k hk => by have := HOB.out k hk; have := HXB.out; omega))
  replace HP := Lib.hid (HP.out.grown hgrow (fun k hk => by have := HOB.out k hk; have := HGB.out; omega))
  replace HW := Lib.hid (Nat.le_trans HW.out hgrow.size)
  clear hown hgrow hat hlt HROW HPUSH HOL HOB HSB HTy
  obtain ⟨hxc0, hxc1, hxc2, hxc3, hxc4⟩ := five_cells HX.out
  have hxf0 := HX.out.thaw 0
  have hxf1 := HX.out.thaw 1
  have hxf2 := HX.out.thaw 2
  have hxf3 := HX.out.thaw 3
  have hxf4 := HX.out.thaw 4
  have HU := Lib.hid (tree_of (W := w9) (B := B) (op := 28) (n := 0) (tx := ByteArray.empty) (Nat.zero_le _) (strs_none _ _) HL.out.syns)
  go_wp2_with fail
  have HEN := putFive_blk HX.out (.int .i64 28) (.int .i64 0) (.string ⟨#[]⟩) (.slice none 0 0) (.slice (some ⟨g3, 0, none⟩) 3 c3)
  have HFI := tree_fin HG.out HF.out HU.out HXB.out HP.out (.int .i64 28) (.int .i64 0) (.string ⟨#[]⟩) (.slice none 0 0) (.slice (some ⟨g3, 0, none⟩) 3 c3)
  unfold putFive at HEN HFI
  obtain ⟨k0, k1, k2, k3, k4⟩ := five_cells HEN
  refine bodyPost_ret (v := .agg #[.int .i64 28, .int .i64 0, .string ⟨#[]⟩, .slice none 0 0, .slice (some ⟨g3, 0, none⟩) 3 c3]) (by simp [results, Tryz.results66, go_sem, k0, k1, k2, k3, k4]) rfl ?_
  exact tree_ok HR.out HFI
end Go.Proofs.YtjedahcpkcgpeaaGreatDoor

/-
  Walks of layer 4: a pattern in parentheses.
-/
namespace Go.Proofs.YtjedahcpkcgpeaaGreatDoor
open Go Go.RowKit
set_option linter.unusedSimpArgs false
set_option maxRecDepth 100000 in
set_option maxHeartbeats 8000000 in
theorem pcomponents_any (s : Src) (g i : Nat) (F : Pl.Fs) (hpa : ∀ W j, i ≤ j → PAt W g s j → Calls Tryz.prog 40 #[.pointer (some ⟨g, 0, none⟩)] W (TreeOut s g (F.pat j) W)) (hgo : Pl.Goes F) (w : World) (h : PAt w g s i) (hbig : s.ts.length ≤ 536870912) :
    Calls Tryz.prog 116 #[.pointer (some ⟨g, 0, none⟩)] w (TreeOut s g (Pl.compsB s.ts F i) w) := by
  have HP := Lib.hid h
  have HG := Lib.hid h.blk.lt
  have hmf : ∀ (fn : Fn) (first cap : Array Value) (w : World), (Instr.makeFunc fn first cap).run Tryz.prog w = .ok (.func fn first cap) w := fun _ _ _ _ => rfl
  have Hpa := Lib.hid hpa
  have Hgo := Lib.hid hgo
  obtain ⟨r, hr⟩ : ∃ r, r = Pl.compsB s.ts F i := ⟨_, rfl⟩
  rw [← hr]
  have HR := Lib.hid hr
  rw [Pl.compsB] at HR
  have HF := Lib.hid (Fr.refl (· = g) w)
  obtain ⟨B, hB⟩ : ∃ B, B = w.heap.size + 1 := ⟨_, rfl⟩
  have HGB := Lib.hid (show g < B from by have := HG.out; omega)
  have HXB := Lib.hid (show w.heap.size < B from by omega)
  have HX := Lib.hid (blk_new w #[.int .i64 0, .int .i64 0, .string ⟨#[]⟩, .slice none 0 0, .slice none 0 0] 27)
  have HXL := Lib.hid (Nat.le_refl w.heap.size)
  have hn := fr_new g w (.cells #[.int .i64 0, .int .i64 0, .string ⟨#[]⟩, .slice none 0 0, .slice none 0 0] 27)
  replace HF := Lib.hid (HF.out.trans hn)
  have HW := Lib.hid (show B ≤ (w.alloc (.cells #[.int .i64 0, .int .i64 0, .string ⟨#[]⟩, .slice none 0 0, .slice none 0 0] 27)).heap.size from by rw [hB]; simp)
  replace HP := Lib.hid (HP.out.below ((Below.refl _ _).alloc (Nat.le_refl _) (.cells #[.int .i64 0, .int .i64 0, .string ⟨#[]⟩, .slice none 0 0, .slice none 0 0] 27)))
  clear h hr hn hB hpa hgo
  go_enter Tryz.func116, Tryz.ntmps116
  go_wp2_with fail
  generalize w.alloc (.cells #[.int .i64 0, .int .i64 0, .string ⟨#[]⟩, .slice none 0 0, .slice none 0 0] 27) = w1 at *
  cases hpb1 : Pl.passes s.ts i [41]
  · refine (ppass_not (by decide) HP.out hpb1).mono ?_
    rintro e w2 ⟨rfl, hp, hf⟩
    rw [hpb1, if_neg Bool.false_ne_true] at HR
    replace HF := Lib.hid (HF.out.trans hf)
    replace HW := Lib.hid (Nat.le_trans HW.out (Fr.size hf))
    replace HX := Lib.hid (blk_fr HX.out (by have := HXL.out; have := HG.out; omega) hf)
    replace HP := Lib.hid (hp)
    clear hp hf
    go_wp2_with fail
    refine (pseparated_any s g i 40 [44] (by decide) F.pat (fun _ _ _ h => Hgo.out.pat _ _ _ h) (fun W j hj hW => Hpa.out W j (by omega) hW) (fun _ => rfl) _ HP.out hbig).mono ?_
    rintro e w3 ho
    rcases TreesOut.split ho with ⟨q2, hri2, rfl, hf⟩ | ⟨ts, q2, la, lc, hri2, rfl, ht, hp, hf⟩
    · exact ⟨rfl, tree_bad (HR.out.trans (by rw [hri2, Pl.PR.then_bad])) (HF.out.trans hf)⟩
    have hgo2 := Pl.after_sepd _ _ (fun j => Hgo.out.pat j) _ _ _ hri2
    rw [hri2, Pl.PR.then_ok] at HR
    have HL := Lib.hid (ht.low HW.out)
    replace HF := Lib.hid (HF.out.trans hf)
    replace HW := Lib.hid (Nat.le_trans HW.out (Fr.size hf))
    replace HX := Lib.hid (blk_fr HX.out (by have := HXL.out; have := HG.out; omega) hf)
    replace HP := Lib.hid (hp)
    clear ho hp hf ht
    obtain ⟨ln, hln⟩ : ∃ ln, ln = ts.length := ⟨_, rfl⟩
    rw [← hln] at HL ⊢
    have HLN := Lib.hid hln
    clear hln
    go_wp2_with fail
    refine (pneed_any s g q2 [41] (by decide) _ HP.out).mono ?_
    rintro e w4 ho
    rcases NeedOut.split ho with ⟨q3, hri3, rfl, hf⟩ | ⟨q3, nv, hri3, rfl, hp, hf⟩
    · exact ⟨rfl, tree_bad (HR.out.trans (by rw [hri3, Pl.PR.then_bad])) (HF.out.trans hf)⟩
    have hgo3 := need_next hri3
    rw [hri3, Pl.PR.then_ok] at HR
    replace HF := Lib.hid (HF.out.trans hf)
    replace HW := Lib.hid (Nat.le_trans HW.out (Fr.size hf))
    replace HX := Lib.hid (blk_fr HX.out (by have := HXL.out; have := HG.out; omega) hf)
    replace HL := Lib.hid (HL.out.keep HGB.out hf)
    replace HP := Lib.hid (hp)
    clear ho hp hf
    go_wp2_with fail
    have HS := Lib.hid (show SynSl w4 (Own B w4) _ ts from HL.out.syns)
    refine (ptuple_any 15 (Own B w4) ts _ _ (fun b h => h.2) HS.out).mono ?_
    rintro e w5 ⟨⟨v, rfl, hu⟩, hb⟩
    obtain ⟨y0, y1, y2, ya, yl, yc, yd, ye, yf, rfl⟩ := tree_open hu
    have hf := fr_below (o := (· = g)) hb
    have HTy := Lib.hid (hu.mono (own_fr hf))
    replace HF := Lib.hid (HF.out.trans hf)
    replace HW := Lib.hid (Nat.le_trans HW.out (Fr.size hf))
    replace HX := Lib.hid (blk_fr HX.out (by have := HXL.out; have := HG.out; omega) hf)
    replace HP := Lib.hid (HP.out.below hb)
    clear hu hb hf HS HL
    obtain ⟨hxc0, hxc1, hxc2, hxc3, hxc4⟩ := five_cells HX.out
    have hxf0 := HX.out.thaw 0
    have hxf1 := HX.out.thaw 1
    have hxf2 := HX.out.thaw 2
    have hxf3 := HX.out.thaw 3
    have hxf4 := HX.out.thaw 4
    go_wp2_with fail
    have HEN := putFive_blk HX.out (.int .i64 y0) (.int .i64 y1) (.string y2) (.slice ya yl yc) (.slice yd ye yf)
    have HFI := tree_fin HG.out HF.out HTy.out HXB.out HP.out (.int .i64 y0) (.int .i64 y1) (.string y2) (.slice ya yl yc) (.slice yd ye yf)
    unfold putFive at HEN HFI
    obtain ⟨k0, k1, k2, k3, k4⟩ := five_cells HEN
    refine bodyPost_ret (v := .agg #[.int .i64 y0, .int .i64 y1, .string y2, .slice ya yl yc, .slice yd ye yf]) (by simp [results, Tryz.results116, go_sem, k0, k1, k2, k3, k4]) rfl ?_
    exact tree_ok HR.out HFI
  · refine (ppass_yes (by decide) HP.out hpb1).mono ?_
    rintro e w6 ⟨rfl, hp, hf⟩
    rw [hpb1, if_pos rfl] at HR
    replace HF := Lib.hid (HF.out.trans hf)
    replace HW := Lib.hid (Nat.le_trans HW.out (Fr.size hf))
    replace HX := Lib.hid (blk_fr HX.out (by have := HXL.out; have := HG.out; omega) hf)
    replace HP := Lib.hid (hp)
    clear hp hf
    have HU := Lib.hid (tree_of (W := w6) (B := B) (op := 15) (n := 0) (tx := ByteArray.empty) (Nat.zero_le _) (strs_none _ _) (syns_none _ _))
    obtain ⟨hxc0, hxc1, hxc2, hxc3, hxc4⟩ := five_cells HX.out
    have hxf0 := HX.out.thaw 0
    have hxf1 := HX.out.thaw 1
    have hxf2 := HX.out.thaw 2
    have hxf3 := HX.out.thaw 3
    have hxf4 := HX.out.thaw 4
    go_wp2_with fail
    have HEN := putFive_blk HX.out (.int .i64 15) (.int .i64 0) (.string ⟨#[]⟩) (.slice none 0 0) (.slice none 0 0)
    have HFI := tree_fin HG.out HF.out HU.out HXB.out HP.out (.int .i64 15) (.int .i64 0) (.string ⟨#[]⟩) (.slice none 0 0) (.slice none 0 0)
    unfold putFive at HEN HFI
    obtain ⟨k0, k1, k2, k3, k4⟩ := five_cells HEN
    refine bodyPost_ret (v := .agg #[.int .i64 15, .int .i64 0, .string ⟨#[]⟩, .slice none 0 0, .slice none 0 0]) (by simp [results, Tryz.results116, go_sem, k0, k1, k2, k3, k4]) rfl ?_
    exact tree_ok HR.out HFI
end Go.Proofs.YtjedahcpkcgpeaaGreatDoor
