/-
  Walks and plain mathematics, several texts in one (Ef Eg Ei).
-/
import Derived.Test.YtjedahcpkcgpeaaGreatDoorH13
/-
  Walks of layer 4: a pattern.
-/
namespace Go.Proofs.YtjedahcpkcgpeaaGreatDoor
open Go Go.RowKit
set_option linter.unusedSimpArgs false
theorem pbegArg_at (s : Src) (j : Nat) (li co : Int) (w : World) : Calls Tryz.prog 72 #[.agg #[.int .i64 (Pl.tkAt s.ts j).kind, .string (Pl.mk (Pl.tkAt s.ts j).text), .int .i64 li, .int .i64 co]] w fun e w' => e = .returned (.bool (Pl.begArg (Pl.tkAt s.ts j))) ∧ Below w.heap.size w w' := pbegArg_any _ li co _ _ _ w
theorem pbegAtom_at (s : Src) (j : Nat) (li co : Int) (w : World) : Calls Tryz.prog 148 #[.agg #[.int .i64 (Pl.tkAt s.ts j).kind, .string (Pl.mk (Pl.tkAt s.ts j).text), .int .i64 li, .int .i64 co]] w fun e w' => e = .returned (.bool (Pl.begAtom (Pl.tkAt s.ts j))) ∧ Below w.heap.size w w' := pbegAtom_any _ li co _ _ _ w
def begPath (t : Pl.Tok) : Bool := decide (t.kind = 1) || decide (t.kind = 2)
theorem pbegPath_at (s : Src) (j : Nat) (li co : Int) (w : World) : Calls Tryz.prog 139 #[.agg #[.int .i64 (Pl.tkAt s.ts j).kind, .string (Pl.mk (Pl.tkAt s.ts j).text), .int .i64 li, .int .i64 co]] w fun e w' => e = .returned (.bool (begPath (Pl.tkAt s.ts j))) ∧ Below w.heap.size w w' := pbegPath_any _ li co _ w
theorem ptake_is (s : Src) (g i : Nat) (k : Int) (hk8 : k ≠ 8) (hk : (Pl.tkAt s.ts i).kind = k) (V : World) (h : PAt V g s i) : Calls Tryz.prog 108 #[.pointer (some ⟨g, 0, none⟩), .int .i64 k] V fun e w' => e = .returned (.string (Pl.mk (Pl.tkAt s.ts i).text)) ∧ PAt w' g s (i + 1) ∧ Fr (· = g) (· = g) V w' := by
  have := ptake_any s g i k hk8 V h
  unfold TakeOut Pl.takeK at this
  rw [if_pos hk] at this
  exact this.mono fun e w' ⟨⟨a, b⟩, c⟩ => ⟨a, b, c⟩
set_option maxRecDepth 100000 in
set_option maxHeartbeats 8000000 in
theorem ppattern_any (s : Src) (g i : Nat) (F : Pl.Fs) (har : ∀ W j, i ≤ j → PAt W g s j → Calls Tryz.prog 70 #[.pointer (some ⟨g, 0, none⟩)] W (TreeOut s g (F.arg j) W)) (w : World) (h : PAt w g s i) (hbig : s.ts.length ≤ 536870912) :
    Calls Tryz.prog 40 #[.pointer (some ⟨g, 0, none⟩)] w (TreeOut s g (Pl.patB s.ts F i) w) := by
  have HP := Lib.hid h
  have HG := Lib.hid h.blk.lt
  have Har := Lib.hid har
  obtain ⟨r, hr⟩ : ∃ r, r = Pl.patB s.ts F i := ⟨_, rfl⟩
  rw [← hr]
  have HR := Lib.hid hr
  rw [Pl.patB] at HR
  have HF := Lib.hid (Fr.refl (· = g) w)
  obtain ⟨B, hB⟩ : ∃ B, B = w.heap.size + 1 := ⟨_, rfl⟩
  have HGB := Lib.hid (show g < B from by have := HG.out; omega)
  have HXB := Lib.hid (show w.heap.size < B from by omega)
  have HX := Lib.hid (blk_new w #[.int .i64 0, .int .i64 0, .string ⟨#[]⟩, .slice none 0 0, .slice none 0 0] 27)
  have HXL := Lib.hid (Nat.le_refl w.heap.size)
  have hn := fr_new g w (.cells #[.int .i64 0, .int .i64 0, .string ⟨#[]⟩, .slice none 0 0, .slice none 0 0] 27)
  replace HF := Lib.hid (HF.out.trans hn)
  have HW := Lib.hid (show B ≤ (w.alloc (.cells #[.int .i64 0, .int .i64 0, .string ⟨#[]⟩, .slice none 0 0, .slice none 0 0] 27)).heap.size from by rw [hB]; simp)
  replace HP := Lib.hid (HP.out.below ((Below.refl _ _).alloc (Nat.le_refl _) (.cells #[.int .i64 0, .int .i64 0, .string ⟨#[]⟩, .slice none 0 0, .slice none 0 0] 27)))
  clear h hr hn hB har
  go_enter Tryz.func40, Tryz.ntmps40
  go_wp2_with fail
  generalize w.alloc (.cells #[.int .i64 0, .int .i64 0, .string ⟨#[]⟩, .slice none 0 0, .slice none 0 0] 27) = w1 at *
  refine (ptoken_any s g i _ HP.out).mono ?_
  rintro e w2 ho
  obtain ⟨li, co, rfl, hp, hf⟩ := TokenOut.split ho HP.out
  replace HF := Lib.hid (HF.out.trans hf)
  replace HW := Lib.hid (Nat.le_trans HW.out (Fr.size hf))
  replace HX := Lib.hid (blk_fr HX.out (by have := HXL.out; have := HG.out; omega) hf)
  replace HP := Lib.hid (hp)
  clear ho hp hf
  obtain ⟨tk, htk⟩ : ∃ tk, tk = (Pl.tkAt s.ts i).kind := ⟨_, rfl⟩
  obtain ⟨tx, htx⟩ : ∃ tx, tx = Pl.mk (Pl.tkAt s.ts i).text := ⟨_, rfl⟩
  rw [← htk, ← htx]
  rw [← htk] at HR
  have HTK := Lib.hid htk
  have HTX := Lib.hid htx
  clear htk htx
  have hfl : ∀ W, Sem.run Tryz.prog (Instr.field 45 (.agg #[.int .i64 tk, .string tx, .int .i64 li, .int .i64 co]) 0) W = .ok (.int .i64 tk) W := fun _ => rfl
  cases hk2 : (tk == 2)
  · have hkk : ¬ tk = 2 := by simpa using hk2
    rw [if_pos hkk] at HR
    clear hkk
    go_wp2_with fail
    refine (Har.out _ _ (Nat.le_refl _) HP.out).mono ?_
    rintro e w3 ho
    rcases TreeOut.split ho with ⟨q3, hri3, rfl, hf⟩ | ⟨ty, q3, y0, y1, y2, ya, yl, yc, yd, ye, yf, hri3, rfl, ht, hp, hf⟩
    · exact ⟨rfl, tree_bad (HR.out.trans hri3) (HF.out.trans hf)⟩
    replace HR := Lib.hid (HR.out.trans hri3)
    have HTy := Lib.hid (ht.mono (own_low HW.out))
    replace HF := Lib.hid (HF.out.trans hf)
    replace HW := Lib.hid (Nat.le_trans HW.out (Fr.size hf))
    replace HX := Lib.hid (blk_fr HX.out (by have := HXL.out; have := HG.out; omega) hf)
    replace HP := Lib.hid (hp)
    clear ho hp hf ht hri3
    obtain ⟨hxc0, hxc1, hxc2, hxc3, hxc4⟩ := five_cells HX.out
    have hxf0 := HX.out.thaw 0
    have hxf1 := HX.out.thaw 1
    have hxf2 := HX.out.thaw 2
    have hxf3 := HX.out.thaw 3
    have hxf4 := HX.out.thaw 4
    go_wp2_with fail
    have HEN := putFive_blk HX.out (.int .i64 y0) (.int .i64 y1) (.string y2) (.slice ya yl yc) (.slice yd ye yf)
    have HFI := tree_fin HG.out HF.out HTy.out HXB.out HP.out (.int .i64 y0) (.int .i64 y1) (.string y2) (.slice ya yl yc) (.slice yd ye yf)
    unfold putFive at HEN HFI
    obtain ⟨k0, k1, k2, k3, k4⟩ := five_cells HEN
    refine bodyPost_ret (v := .agg #[.int .i64 y0, .int .i64 y1, .string y2, .slice ya yl yc, .slice yd ye yf]) (by simp [results, Tryz.results40, go_sem, k0, k1, k2, k3, k4]) rfl ?_
    exact tree_ok HR.out HFI
  · have hkk : tk = 2 := by simpa using hk2
    rw [if_neg (fun h => h hkk)] at HR
    have HKK := Lib.hid hkk
    clear hkk
    go_wp2_with fail
    clear hfl
    refine (pmodulePath_any s g i _ HP.out hbig).mono ?_
    rintro e w4 ho
    rcases NamesOut.split ho with ⟨q4, hri4, rfl, hf⟩ | ⟨nx, q4, nax, ncx, hri4, rfl, hs, hp, hf⟩
    · exact ⟨rfl, tree_bad (HR.out.trans (by rw [hri4, Pl.PR.then_bad])) (HF.out.trans hf)⟩
    have HNx := Lib.hid (hs.mono (own_low HW.out))
    have hgo4 := Pl.after_mpath _ _ _ _ hri4
    rw [hri4, Pl.PR.then_ok] at HR
    replace HF := Lib.hid (HF.out.trans hf)
    replace HW := Lib.hid (Nat.le_trans HW.out (Fr.size hf))
    replace HX := Lib.hid (blk_fr HX.out (by have := HXL.out; have := HG.out; omega) hf)
    replace HP := Lib.hid (hp)
    clear ho hp hf
    clear hs
    obtain ⟨nlx, hnl⟩ : ∃ nl, nl = nx.length := ⟨_, rfl⟩
    rw [← hnl] at HNx ⊢
    clear hnl
    have HZL := Lib.hid (show w.heap.size ≤ w4.heap.size from HF.out.size)
    have HZB := Lib.hid (show w.heap.size < w4.heap.size from Nat.lt_of_lt_of_le HXB.out HW.out)
    have HBZ := Lib.hid (show B ≤ w4.heap.size from HW.out)
    have hz := blk_new w4 #[.int .i64 14, .int .i64 0, .string ⟨#[]⟩, .slice nax nlx ncx, .slice none 0 0] 27
    replace HNx := Lib.hid (show StrSl w4 (Win B w4.heap.size) _ _ from HNx.out)
    have HZW := Lib.hid (Nat.le_refl w4.heap.size)
    have hn := fr_new g w4 (.cells #[.int .i64 14, .int .i64 0, .string ⟨#[]⟩, .slice nax nlx ncx, .slice none 0 0] 27)
    replace HF := Lib.hid (HF.out.trans hn)
    replace HNx := Lib.hid (strs_win HNx.out (.inl HGB.out) HZW.out hn)
    replace HW := Lib.hid (Nat.le_trans HW.out (Fr.size hn))
    replace HZW := Lib.hid (Nat.le_trans HZW.out (Fr.size hn))
    replace HX := Lib.hid (blk_fr HX.out (by have := HXL.out; have := HG.out; omega) hn)
    replace HP := Lib.hid (HP.out.below ((Below.refl _ _).alloc (Nat.le_refl _) (.cells #[.int .i64 14, .int .i64 0, .string ⟨#[]⟩, .slice nax nlx ncx, .slice none 0 0] 27)))
    clear hn
    have HZ := Lib.hid hz
    clear hz
    obtain ⟨C, hC⟩ : ∃ C, C = w4.heap.size + 1 := ⟨_, rfl⟩
    have HBC := Lib.hid (show B ≤ C from by have := HBZ.out; omega)
    have HZC := Lib.hid (show w4.heap.size < C from by omega)
    have HGC := Lib.hid (show g < C from by have := HZL.out; have := HG.out; omega)
    have HWC := Lib.hid (show C ≤ (World.heap (w4.alloc (.cells #[.int .i64 14, .int .i64 0, .string ⟨#[]⟩, .slice nax nlx ncx, .slice none 0 0] 27))).size from by rw [hC]; exact HZ.out.lt)
    clear hC
    go_wp2_with fail
    generalize (w4.alloc (.cells #[.int .i64 14, .int .i64 0, .string ⟨#[]⟩, .slice nax nlx ncx, .slice none 0 0] 27)) = w5 at *
    refine (ptoken_any s g q4 _ HP.out).mono ?_
    rintro e w6 ho
    obtain ⟨li, co, rfl, hp, hf⟩ := TokenOut.split ho HP.out
    replace HF := Lib.hid (HF.out.trans hf)
    replace HNx := Lib.hid (strs_win HNx.out (.inl HGB.out) HZW.out hf)
    replace HW := Lib.hid (Nat.le_trans HW.out (Fr.size hf))
    replace HWC := Lib.hid (Nat.le_trans HWC.out (Fr.size hf))
    replace HZW := Lib.hid (Nat.le_trans HZW.out (Fr.size hf))
    replace HX := Lib.hid (blk_fr HX.out (by have := HXL.out; have := HG.out; omega) hf)
    replace HZ := Lib.hid (blk_fr HZ.out (by have := HZL.out; have := HG.out; omega) hf)
    replace HP := Lib.hid (hp)
    clear ho hp hf
    go_wp2_with fail
    have hc := pbegArg_at s q4 li co w6
    cases hbg5 : Pl.begArg (Pl.tkAt s.ts q4)
    · rw [hbg5] at hc
      rw [hbg5, if_neg Bool.false_ne_true] at HR
      refine hc.mono ?_
      rintro e w7 ⟨rfl, hb⟩
      have hf := fr_below (o := (· = g)) hb
      replace HF := Lib.hid (HF.out.trans hf)
      replace HNx := Lib.hid (strs_win HNx.out (.inl HGB.out) HZW.out hf)
      replace HW := Lib.hid (Nat.le_trans HW.out (Fr.size hf))
      replace HWC := Lib.hid (Nat.le_trans HWC.out (Fr.size hf))
      replace HZW := Lib.hid (Nat.le_trans HZW.out (Fr.size hf))
      replace HX := Lib.hid (blk_fr HX.out (by have := HXL.out; have := HG.out; omega) hf)
      replace HZ := Lib.hid (blk_fr HZ.out (by have := HZL.out; have := HG.out; omega) hf)
      replace HP := Lib.hid (HP.out.below hb)
      clear hb hf hc
      have HU := Lib.hid (tree_of (W := w7) (B := B) (op := 14) (n := 0) (tx := ByteArray.empty) (Nat.zero_le _) (HNx.out.mono fun b h => ⟨h.1, Nat.lt_of_lt_of_le h.2 HZW.out⟩) (syns_none _ _))
      obtain ⟨hxc0, hxc1, hxc2, hxc3, hxc4⟩ := five_cells HX.out
      have hxf0 := HX.out.thaw 0
      have hxf1 := HX.out.thaw 1
      have hxf2 := HX.out.thaw 2
      have hxf3 := HX.out.thaw 3
      have hxf4 := HX.out.thaw 4
      obtain ⟨hzc0, hzc1, hzc2, hzc3, hzc4⟩ := five_cells HZ.out
      have hzf0 := HZ.out.thaw 0
      have hzf1 := HZ.out.thaw 1
      have hzf2 := HZ.out.thaw 2
      have hzf3 := HZ.out.thaw 3
      have hzf4 := HZ.out.thaw 4
      go_wp2_with fail
      have HEN := putFive_blk HX.out (.int .i64 14) (.int .i64 0) (.string ⟨#[]⟩) (.slice nax nlx ncx) (.slice none 0 0)
      have HFI := tree_fin HG.out HF.out HU.out HXB.out HP.out (.int .i64 14) (.int .i64 0) (.string ⟨#[]⟩) (.slice nax nlx ncx) (.slice none 0 0)
      unfold putFive at HEN HFI
      obtain ⟨k0, k1, k2, k3, k4⟩ := five_cells HEN
      refine bodyPost_ret (v := .agg #[.int .i64 14, .int .i64 0, .string ⟨#[]⟩, .slice nax nlx ncx, .slice none 0 0]) (by simp [results, Tryz.results40, go_sem, k0, k1, k2, k3, k4]) rfl ?_
      exact tree_ok HR.out HFI
    · rw [hbg5] at hc
      rw [hbg5, if_pos rfl] at HR
      refine hc.mono ?_
      rintro e w7 ⟨rfl, hb⟩
      have hf := fr_below (o := (· = g)) hb
      replace HF := Lib.hid (HF.out.trans hf)
      replace HNx := Lib.hid (strs_win HNx.out (.inl HGB.out) HZW.out hf)
      replace HW := Lib.hid (Nat.le_trans HW.out (Fr.size hf))
      replace HWC := Lib.hid (Nat.le_trans HWC.out (Fr.size hf))
      replace HZW := Lib.hid (Nat.le_trans HZW.out (Fr.size hf))
      replace HX := Lib.hid (blk_fr HX.out (by have := HXL.out; have := HG.out; omega) hf)
      replace HZ := Lib.hid (blk_fr HZ.out (by have := HZL.out; have := HG.out; omega) hf)
      replace HP := Lib.hid (HP.out.below hb)
      clear hb hf hc
      go_wp2_with fail
      refine (Har.out _ _ (by omega) HP.out).mono ?_
      rintro e w8 ho
      rcases TreeOut.split ho with ⟨q6, hri6, rfl, hf⟩ | ⟨tu, q6, u0, u1, u2, ua, ul, uc, ud, ue, uf, hri6, rfl, ht, hp, hf⟩
      · exact ⟨rfl, tree_bad (HR.out.trans (by rw [hri6, Pl.PR.then_bad])) (HF.out.trans hf)⟩
      rw [hri6, Pl.PR.then_ok] at HR
      have HTu := Lib.hid (ht.mono (own_low HWC.out))
      replace HF := Lib.hid (HF.out.trans hf)
      replace HNx := Lib.hid (strs_win HNx.out (.inl HGB.out) HZW.out hf)
      replace HW := Lib.hid (Nat.le_trans HW.out (Fr.size hf))
      replace HWC := Lib.hid (Nat.le_trans HWC.out (Fr.size hf))
      replace HZW := Lib.hid (Nat.le_trans HZW.out (Fr.size hf))
      replace HX := Lib.hid (blk_fr HX.out (by have := HXL.out; have := HG.out; omega) hf)
      replace HZ := Lib.hid (blk_fr HZ.out (by have := HZL.out; have := HG.out; omega) hf)
      replace HP := Lib.hid (hp)
      clear ho hp hf ht hri6
      have hl := trees_one_at HWC.out HTu.out
      have hn := fr_new g w8 (.cells #[.int .i64 u0, .int .i64 u1, .string u2, .slice ua ul uc, .slice ud ue uf] 27)
      replace HF := Lib.hid (HF.out.trans hn)
      replace HNx := Lib.hid (strs_win HNx.out (.inl HGB.out) HZW.out hn)
      replace HW := Lib.hid (Nat.le_trans HW.out (Fr.size hn))
      replace HWC := Lib.hid (Nat.le_trans HWC.out (Fr.size hn))
      replace HZW := Lib.hid (Nat.le_trans HZW.out (Fr.size hn))
      replace HX := Lib.hid (blk_fr HX.out (by have := HXL.out; have := HG.out; omega) hn)
      replace HZ := Lib.hid (blk_fr HZ.out (by have := HZL.out; have := HG.out; omega) hn)
      replace HP := Lib.hid (HP.out.below ((Below.refl _ _).alloc (Nat.le_refl _) (.cells #[.int .i64 u0, .int .i64 u1, .string u2, .slice ua ul uc, .slice ud ue uf] 27)))
      clear hn
      have HL := Lib.hid hl
      clear hl
      have hzx : ¬ w4.heap.size = w.heap.size := by have := HZB.out; omega
      have hxz : ¬ w.heap.size = w4.heap.size := by have := HZB.out; omega
      obtain ⟨hxc0, hxc1, hxc2, hxc3, hxc4⟩ := five_cells HX.out
      have hxf0 := HX.out.thaw 0
      have hxf1 := HX.out.thaw 1
      have hxf2 := HX.out.thaw 2
      have hxf3 := HX.out.thaw 3
      have hxf4 := HX.out.thaw 4
      obtain ⟨hzc0, hzc1, hzc2, hzc3, hzc4⟩ := five_cells HZ.out
      have hzf0 := HZ.out.thaw 0
      have hzf1 := HZ.out.thaw 1
      have hzf2 := HZ.out.thaw 2
      have hzf3 := HZ.out.thaw 3
      have hzf4 := HZ.out.thaw 4
      have hn := fr_put (w8.alloc (.cells #[.int .i64 u0, .int .i64 u1, .string u2, .slice ua ul uc, .slice ud ue uf] 27)) (w4.heap.size) 4 (.slice (some ⟨w8.heap.size, 0, none⟩) 1 1)
      have hz : Blk (World.setCell (w8.alloc (.cells #[.int .i64 u0, .int .i64 u1, .string u2, .slice ua ul uc, .slice ud ue uf] 27)) ⟨w4.heap.size, 4, none⟩ (.slice (some ⟨w8.heap.size, 0, none⟩) 1 1)) w4.heap.size 27 #[.int .i64 14, .int .i64 0, .string ⟨#[]⟩, .slice nax nlx ncx, .slice (some ⟨w8.heap.size, 0, none⟩) 1 1] := by
        have := HZ.out.set 4 (.slice (some ⟨w8.heap.size, 0, none⟩) 1 1)
        simpa using this
      replace HF := Lib.hid (fr_over HF.out HZL.out hn)
      replace HNx := Lib.hid (strs_win HNx.out (.inr (Nat.le_refl _)) HZW.out hn)
      replace HW := Lib.hid (Nat.le_trans HW.out (Fr.size hn))
      replace HWC := Lib.hid (Nat.le_trans HWC.out (Fr.size hn))
      replace HZW := Lib.hid (Nat.le_trans HZW.out (Fr.size hn))
      replace HX := Lib.hid (blk_fr HX.out (by have := HZB.out; have := HXB.out; omega) hn)
      replace HL := Lib.hid (HL.out.keep HZC.out hn)
      replace HP := Lib.hid (pat_fr HP.out (Nat.lt_of_lt_of_le HG.out HZL.out) hn)
      replace HZ := Lib.hid hz
      clear hn hz
      have HU := Lib.hid (tree_of (W := (World.setCell (w8.alloc (.cells #[.int .i64 u0, .int .i64 u1, .string u2, .slice ua ul uc, .slice ud ue uf] 27)) ⟨w4.heap.size, 4, none⟩ (.slice (some ⟨w8.heap.size, 0, none⟩) 1 1))) (B := B) (op := 14) (n := 0) (tx := ByteArray.empty) (Nat.zero_le _) (HNx.out.mono fun b h => ⟨h.1, Nat.lt_of_lt_of_le h.2 HZW.out⟩) (SynSl.mono (own_low HBC.out) HL.out.syns))
      go_wp2_with fail
      have HEN := putFive_blk HX.out (.int .i64 14) (.int .i64 0) (.string ⟨#[]⟩) (.slice nax nlx ncx) (.slice (some ⟨w8.heap.size, 0, none⟩) 1 1)
      have HFI := tree_fin HG.out HF.out HU.out HXB.out HP.out (.int .i64 14) (.int .i64 0) (.string ⟨#[]⟩) (.slice nax nlx ncx) (.slice (some ⟨w8.heap.size, 0, none⟩) 1 1)
      unfold putFive at HEN HFI
      obtain ⟨k0, k1, k2, k3, k4⟩ := five_cells HEN
      refine bodyPost_ret (v := .agg #[.int .i64 14, .int .i64 0, .string ⟨#[]⟩, .slice nax nlx ncx, .slice (some ⟨w8.heap.size, 0, none⟩) 1 1]) (by simp [results, Tryz.results40, go_sem, k0, k1, k2, k3, k4]) rfl ?_
      exact tree_ok HR.out HFI
end Go.Proofs.YtjedahcpkcgpeaaGreatDoor

/-
  Walks of layer 4: a simple type, and what stands in its parentheses.
-/
namespace Go.Proofs.YtjedahcpkcgpeaaGreatDoor
open Go Go.RowKit
set_option linter.unusedSimpArgs false
theorem trees_ok {s : Src} {g j : Nat} {w W : World} {r : Pl.PR (List Pl.Syn)} {ts : List Pl.Syn} {v : Value} (hr : r = .ok ts j) (hl : TreesAt W w.heap.size v ts) (hp : PAt W g s j) (hf : Fr (· = g) (· = g) w W) : TreesOut s g r w (.returned v) W := by
  subst hr
  exact ⟨⟨v, rfl, hl, hp⟩, hf⟩
set_option maxRecDepth 100000 in
set_option maxHeartbeats 8000000 in
theorem pbracketed_any (s : Src) (g i : Nat) (F : Pl.Fs) (hty : ∀ W j, i ≤ j → PAt W g s j → Calls Tryz.prog 39 #[.pointer (some ⟨g, 0, none⟩)] W (TreeOut s g (F.typ j) W)) (hgo : Pl.Goes F) (w : World) (h : PAt w g s i) (hbig : s.ts.length ≤ 536870912) :
    Calls Tryz.prog 149 #[.pointer (some ⟨g, 0, none⟩)] w (TreesOut s g (Pl.brackB s.ts F i) w) := by
  have HP := Lib.hid h
  have HG := Lib.hid h.blk.lt
  have hmf : ∀ (fn : Fn) (first cap : Array Value) (w : World), (Instr.makeFunc fn first cap).run Tryz.prog w = .ok (.func fn first cap) w := fun _ _ _ _ => rfl
  have Hty := Lib.hid hty
  have Hgo := Lib.hid hgo
  obtain ⟨r, hr⟩ : ∃ r, r = Pl.brackB s.ts F i := ⟨_, rfl⟩
  rw [← hr]
  have HR := Lib.hid hr
  rw [Pl.brackB] at HR
  have HF := Lib.hid (Fr.refl (· = g) w)
  obtain ⟨B, hB⟩ : ∃ B, B = w.heap.size := ⟨_, rfl⟩
  have HGB := Lib.hid (show g < B from by have := HG.out; omega)
  have HW := Lib.hid (show B ≤ w.heap.size from by omega)
  have HBE := Lib.hid (show w.heap.size ≤ B from by omega)
  clear h hr hB hty hgo
  go_enter Tryz.func149, Tryz.ntmps149
  go_wp2_with fail
  cases hpb1 : Pl.passes s.ts i [109, 111, 100, 117, 108, 101]
  · refine (ppass_not (by decide) HP.out hpb1).mono ?_
    rintro e w1 ⟨rfl, hp, hf⟩
    rw [hpb1, if_neg Bool.false_ne_true] at HR
    replace HF := Lib.hid (HF.out.trans hf)
    replace HW := Lib.hid (Nat.le_trans HW.out (Fr.size hf))
    replace HP := Lib.hid (hp)
    clear hp hf
    go_wp2_with fail
    refine (pseparated_any s g i 39 [44] (by decide) F.typ (fun _ _ _ h => Hgo.out.typ _ _ _ h) (fun W j hj hW => Hty.out W j (by omega) hW) (fun _ => rfl) _ HP.out hbig).mono ?_
    rintro e w2 ho
    rcases TreesOut.split ho with ⟨q2, hri2, rfl, hf⟩ | ⟨ts, q2, la, lc, hri2, rfl, ht, hp, hf⟩
    · exact ⟨rfl, trees_bad (HR.out.trans hri2) (HF.out.trans hf)⟩
    replace HR := Lib.hid (HR.out.trans hri2)
    have HL := Lib.hid (ht.low (B := w.heap.size) (Nat.le_trans HBE.out HW.out))
    replace HF := Lib.hid (HF.out.trans hf)
    replace HW := Lib.hid (Nat.le_trans HW.out (Fr.size hf))
    replace HP := Lib.hid (hp)
    clear ho hp hf ht hri2
    go_wp2_with fail
    go_ret
    exact trees_ok HR.out HL.out HP.out HF.out
  · refine (ppass_yes (by decide) HP.out hpb1).mono ?_
    rintro e w3 ⟨rfl, hp, hf⟩
    rw [hpb1, if_pos rfl] at HR
    replace HF := Lib.hid (HF.out.trans hf)
    replace HW := Lib.hid (Nat.le_trans HW.out (Fr.size hf))
    replace HP := Lib.hid (hp)
    clear hp hf
    go_wp2_with fail
    refine (pmodulePath_any s g (i + 1) _ HP.out hbig).mono ?_
    rintro e w4 ho
    rcases NamesOut.split ho with ⟨q3, hri3, rfl, hf⟩ | ⟨nx, q3, nax, ncx, hri3, rfl, hs, hp, hf⟩
    · exact ⟨rfl, trees_bad (HR.out.trans (by rw [hri3, Pl.PR.then_bad])) (HF.out.trans hf)⟩
    have HNx := Lib.hid (hs.mono (own_low HW.out))
    have hgo3 := Pl.after_mpath _ _ _ _ hri3
    rw [hri3, Pl.PR.then_ok] at HR
    replace HF := Lib.hid (HF.out.trans hf)
    replace HW := Lib.hid (Nat.le_trans HW.out (Fr.size hf))
    replace HP := Lib.hid (hp)
    clear ho hp hf
    clear hs
    obtain ⟨nlx, hnl⟩ : ∃ nl, nl = nx.length := ⟨_, rfl⟩
    rw [← hnl] at HNx ⊢
    clear hnl
    have hu := tree_of (W := w4) (B := B) (op := 5) (n := 0) (tx := ByteArray.empty) (Nat.zero_le _) HNx.out (syns_none _ _)
    have hl := trees_one_at HW.out hu
    have HL := Lib.hid (hl.low (B := w.heap.size) HBE.out)
    clear hl hu
    have hn := fr_new g w4 (.cells #[.int .i64 5, .int .i64 0, .string ⟨#[]⟩, .slice nax nlx ncx, .slice none 0 0] 27)
    replace HF := Lib.hid (HF.out.trans hn)
    replace HW := Lib.hid (Nat.le_trans HW.out (Fr.size hn))
    replace HP := Lib.hid (HP.out.below ((Below.refl _ _).alloc (Nat.le_refl _) (.cells #[.int .i64 5, .int .i64 0, .string ⟨#[]⟩, .slice nax nlx ncx, .slice none 0 0] 27)))
    clear hn
    go_wp2_with fail
    go_ret
    exact trees_ok HR.out HL.out HP.out HF.out
set_option maxRecDepth 100000 in
set_option maxHeartbeats 8000000 in
theorem psimple_any (s : Src) (g i : Nat) (F : Pl.Fs) (hbr : ∀ W j, i < j → PAt W g s j → Calls Tryz.prog 149 #[.pointer (some ⟨g, 0, none⟩)] W (TreesOut s g (F.brack j) W)) (w : World) (h : PAt w g s i) (hbig : s.ts.length ≤ 536870912) :
    Calls Tryz.prog 138 #[.pointer (some ⟨g, 0, none⟩)] w (TreesOut s g (Pl.simpB s.ts F i) w) := by
  have HP := Lib.hid h
  have HG := Lib.hid h.blk.lt
  have Hbr := Lib.hid hbr
  obtain ⟨r, hr⟩ : ∃ r, r = Pl.simpB s.ts F i := ⟨_, rfl⟩
  rw [← hr]
  have HR := Lib.hid hr
  rw [Pl.simpB] at HR
  have HF := Lib.hid (Fr.refl (· = g) w)
  obtain ⟨B, hB⟩ : ∃ B, B = w.heap.size := ⟨_, rfl⟩
  have HGB := Lib.hid (show g < B from by have := HG.out; omega)
  have HW := Lib.hid (show B ≤ w.heap.size from by omega)
  have HBE := Lib.hid (show w.heap.size ≤ B from by omega)
  clear h hr hB hbr
  go_enter Tryz.func138, Tryz.ntmps138
  go_wp2_with fail
  refine (ptoken_any s g i _ HP.out).mono ?_
  rintro e w1 ho
  obtain ⟨li, co, rfl, hp, hf⟩ := TokenOut.split ho HP.out
  replace HF := Lib.hid (HF.out.trans hf)
  replace HW := Lib.hid (Nat.le_trans HW.out (Fr.size hf))
  replace HP := Lib.hid (hp)
  clear ho hp hf
  obtain ⟨tk, htk⟩ : ∃ tk, tk = (Pl.tkAt s.ts i).kind := ⟨_, rfl⟩
  obtain ⟨tx, htx⟩ : ∃ tx, tx = Pl.mk (Pl.tkAt s.ts i).text := ⟨_, rfl⟩
  rw [← htk, ← htx]
  rw [← htk] at HR
  have HTK := Lib.hid htk
  have HTX := Lib.hid htx
  clear htk htx
  have hfl : ∀ W, Sem.run Tryz.prog (Instr.field 45 (.agg #[.int .i64 tk, .string tx, .int .i64 li, .int .i64 co]) 0) W = .ok (.int .i64 tk) W := fun _ => rfl
  cases hk2 : (tk == 3)
  · have hkk : ¬ tk = 3 := by simpa using hk2
    rw [if_neg hkk] at HR
    clear hkk
    go_wp2_with fail
    clear hfl
    cases hpb3 : Pl.passes s.ts i [40]
    · refine (ppass_not (by decide) HP.out hpb3).mono ?_
      rintro e w2 ⟨rfl, hp, hf⟩
      rw [hpb3, if_neg Bool.false_ne_true] at HR
      replace HF := Lib.hid (HF.out.trans hf)
      replace HW := Lib.hid (Nat.le_trans HW.out (Fr.size hf))
      replace HP := Lib.hid (hp)
      clear hp hf
      go_wp2_with fail
      refine (ptypePath_any s g i _ HP.out hbig).mono ?_
      rintro e w3 ho
      rcases NamesOut.split ho with ⟨q4, hri4, rfl, hf⟩ | ⟨nx, q4, nax, ncx, hri4, rfl, hs, hp, hf⟩
      · exact ⟨rfl, trees_bad (HR.out.trans (by rw [hri4, Pl.PR.then_bad])) (HF.out.trans hf)⟩
      have HNx := Lib.hid (hs.mono (own_low HW.out))
      rw [hri4, Pl.PR.then_ok] at HR
      replace HF := Lib.hid (HF.out.trans hf)
      replace HW := Lib.hid (Nat.le_trans HW.out (Fr.size hf))
      replace HP := Lib.hid (hp)
      clear ho hp hf
      clear hs
      obtain ⟨nlx, hnl⟩ : ∃ nl, nl = nx.length := ⟨_, rfl⟩
      rw [← hnl] at HNx ⊢
      clear hnl
      have hu := tree_of (W := w3) (B := B) (op := 2) (n := 0) (tx := ByteArray.empty) (Nat.zero_le _) HNx.out (syns_none _ _)
      have hl := trees_one_at HW.out hu
      have HL := Lib.hid (hl.low (B := w.heap.size) HBE.out)
      clear hl hu
      have hn := fr_new g w3 (.cells #[.int .i64 2, .int .i64 0, .string ⟨#[]⟩, .slice nax nlx ncx, .slice none 0 0] 27)
      replace HF := Lib.hid (HF.out.trans hn)
      replace HW := Lib.hid (Nat.le_trans HW.out (Fr.size hn))
      replace HP := Lib.hid (HP.out.below ((Below.refl _ _).alloc (Nat.le_refl _) (.cells #[.int .i64 2, .int .i64 0, .string ⟨#[]⟩, .slice nax nlx ncx, .slice none 0 0] 27)))
      clear hn
      go_wp2_with fail
      go_ret
      exact trees_ok HR.out HL.out HP.out HF.out
    · refine (ppass_yes (by decide) HP.out hpb3).mono ?_
      rintro e w4 ⟨rfl, hp, hf⟩
      rw [hpb3, if_pos rfl] at HR
      replace HF := Lib.hid (HF.out.trans hf)
      replace HW := Lib.hid (Nat.le_trans HW.out (Fr.size hf))
      replace HP := Lib.hid (hp)
      clear hp hf
      go_wp2_with fail
      refine (Hbr.out _ _ (by omega) HP.out).mono ?_
      rintro e w5 ho
      rcases TreesOut.split ho with ⟨q5, hri5, rfl, hf⟩ | ⟨ts, q5, la, lc, hri5, rfl, ht, hp, hf⟩
      · exact ⟨rfl, trees_bad (HR.out.trans (by rw [hri5, Pl.PR.then_bad])) (HF.out.trans hf)⟩
      rw [hri5, Pl.PR.then_ok] at HR
      have HL := Lib.hid (ht.low HW.out)
      replace HF := Lib.hid (HF.out.trans hf)
      replace HW := Lib.hid (Nat.le_trans HW.out (Fr.size hf))
      replace HP := Lib.hid (hp)
      clear ho hp hf ht
      obtain ⟨ln, hln⟩ : ∃ ln, ln = ts.length := ⟨_, rfl⟩
      rw [← hln] at HL ⊢
      have HLN := Lib.hid hln
      clear hln
      go_wp2_with fail
      refine (pneed_any s g q5 [41] (by decide) _ HP.out).mono ?_
      rintro e w6 ho
      rcases NeedOut.split ho with ⟨q6, hri6, rfl, hf⟩ | ⟨q6, nv, hri6, rfl, hp, hf⟩
      · exact ⟨rfl, trees_bad (HR.out.trans (by rw [hri6, Pl.PR.then_bad])) (HF.out.trans hf)⟩
      have hgo6 := need_next hri6
      rw [hri6, Pl.PR.then_ok] at HR
      replace HF := Lib.hid (HF.out.trans hf)
      replace HW := Lib.hid (Nat.le_trans HW.out (Fr.size hf))
      replace HL := Lib.hid (HL.out.keep HGB.out hf)
      replace HP := Lib.hid (hp)
      clear ho hp hf
      go_wp2_with fail
      go_ret
      exact trees_ok HR.out (HL.out.low HBE.out) HP.out HF.out
  · have hkk : tk = 3 := by simpa using hk2
    rw [if_pos hkk] at HR
    have HKK := Lib.hid hkk
    clear hkk
    go_wp2_with fail
    clear hfl
    refine (ptake_is s g i 3 (by decide) (HTK.out.symm.trans HKK.out) _ HP.out).mono ?_
    rintro e w7 ⟨rfl, hp, hf⟩
    have HLs := Lib.hid (text_lens HP.out.src i)
    obtain ⟨t1, ht1⟩ : ∃ t1, t1 = (Pl.tkAt s.ts i).text := ⟨_, rfl⟩
    rw [← ht1] at HR HLs ⊢
    clear ht1
    replace HF := Lib.hid (HF.out.trans hf)
    replace HW := Lib.hid (Nat.le_trans HW.out (Fr.size hf))
    replace HP := Lib.hid (hp)
    clear hp hf
    have hu := tree_of (W := w7) (B := B) (op := 1) (n := 0) HLs.out (strs_none _ _) (syns_none _ _)
    have hl := trees_one_at HW.out hu
    have HL := Lib.hid (hl.low (B := w.heap.size) HBE.out)
    clear hl hu
    have hn := fr_new g w7 (.cells #[.int .i64 1, .int .i64 0, .string (Pl.mk t1), .slice none 0 0, .slice none 0 0] 27)
    replace HF := Lib.hid (HF.out.trans hn)
    replace HW := Lib.hid (Nat.le_trans HW.out (Fr.size hn))
    replace HP := Lib.hid (HP.out.below ((Below.refl _ _).alloc (Nat.le_refl _) (.cells #[.int .i64 1, .int .i64 0, .string (Pl.mk t1), .slice none 0 0, .slice none 0 0] 27)))
    clear hn
    go_wp2_with fail
    go_ret
    exact trees_ok HR.out HL.out HP.out HF.out
end Go.Proofs.YtjedahcpkcgpeaaGreatDoor

/-
  Walks of layer 4: a declaration.
-/
namespace Go.Proofs.YtjedahcpkcgpeaaGreatDoor
open Go Go.RowKit
set_option linter.unusedSimpArgs false
set_option maxRecDepth 100000 in
set_option maxHeartbeats 8000000 in
theorem pdeclaration_any (s : Src) (g i : Nat) (F : Pl.Fs) (hex : ∀ W j, i < j → PAt W g s j → Calls Tryz.prog 38 #[.pointer (some ⟨g, 0, none⟩)] W (TreeOut s g (F.expr j) W)) (hnm : ∀ W j, i < j → PAt W g s j → Calls Tryz.prog 170 #[.pointer (some ⟨g, 0, none⟩)] W (TreeOut s g (F.named j) W)) (hun : ∀ W j, i < j → PAt W g s j → Calls Tryz.prog 171 #[.pointer (some ⟨g, 0, none⟩)] W (TreeOut s g (F.unpk j) W)) (w : World) (h : PAt w g s i) :
    Calls Tryz.prog 163 #[.pointer (some ⟨g, 0, none⟩)] w (TreeOut s g (Pl.declB s.ts F i) w) := by
  have HP := Lib.hid h
  have HG := Lib.hid h.blk.lt
  have Hex := Lib.hid hex
  have Hnm := Lib.hid hnm
  have Hun := Lib.hid hun
  obtain ⟨r, hr⟩ : ∃ r, r = Pl.declB s.ts F i := ⟨_, rfl⟩
  rw [← hr]
  have HR := Lib.hid hr
  rw [Pl.declB] at HR
  have HF := Lib.hid (Fr.refl (· = g) w)
  obtain ⟨B, hB⟩ : ∃ B, B = w.heap.size + 1 := ⟨_, rfl⟩
  have HGB := Lib.hid (show g < B from by have := HG.out; omega)
  have HXB := Lib.hid (show w.heap.size < B from by omega)
  have HX := Lib.hid (blk_new w #[.int .i64 0, .int .i64 0, .string ⟨#[]⟩, .slice none 0 0, .slice none 0 0] 27)
  have HXL := Lib.hid (Nat.le_refl w.heap.size)
  have hn := fr_new g w (.cells #[.int .i64 0, .int .i64 0, .string ⟨#[]⟩, .slice none 0 0, .slice none 0 0] 27)
  replace HF := Lib.hid (HF.out.trans hn)
  have HW := Lib.hid (show B ≤ (w.alloc (.cells #[.int .i64 0, .int .i64 0, .string ⟨#[]⟩, .slice none 0 0, .slice none 0 0] 27)).heap.size from by rw [hB]; simp)
  replace HP := Lib.hid (HP.out.below ((Below.refl _ _).alloc (Nat.le_refl _) (.cells #[.int .i64 0, .int .i64 0, .string ⟨#[]⟩, .slice none 0 0, .slice none 0 0] 27)))
  clear h hr hn hB hex hnm hun
  go_enter Tryz.func163, Tryz.ntmps163
  go_wp2_with fail
  generalize w.alloc (.cells #[.int .i64 0, .int .i64 0, .string ⟨#[]⟩, .slice none 0 0, .slice none 0 0] 27) = w1 at *
  cases hpb1 : Pl.passes s.ts i [118, 97, 108]
  · refine (ppass_not (by decide) HP.out hpb1).mono ?_
    rintro e w2 ⟨rfl, hp, hf⟩
    rw [hpb1, if_neg Bool.false_ne_true] at HR
    replace HF := Lib.hid (HF.out.trans hf)
    replace HW := Lib.hid (Nat.le_trans HW.out (Fr.size hf))
    replace HX := Lib.hid (blk_fr HX.out (by have := HXL.out; have := HG.out; omega) hf)
    replace HP := Lib.hid (hp)
    clear hp hf
    go_wp2_with fail
    cases hpb2 : Pl.passes s.ts i [102, 117, 110]
    · refine (ppass_not (by decide) HP.out hpb2).mono ?_
      rintro e w3 ⟨rfl, hp, hf⟩
      rw [hpb2, if_neg Bool.false_ne_true] at HR
      replace HF := Lib.hid (HF.out.trans hf)
      replace HW := Lib.hid (Nat.le_trans HW.out (Fr.size hf))
      replace HX := Lib.hid (blk_fr HX.out (by have := HXL.out; have := HG.out; omega) hf)
      replace HP := Lib.hid (hp)
      clear hp hf
      go_wp2_with fail
      refine (pneed_any s g i [115, 116, 114, 117, 99, 116, 117, 114, 101] (by decide) _ HP.out).mono ?_
      rintro e w4 ho
      rcases NeedOut.split ho with ⟨q3, hri3, rfl, hf⟩ | ⟨q3, nv, hri3, rfl, hp, hf⟩
      · exact ⟨rfl, tree_bad (HR.out.trans (by rw [hri3, Pl.PR.then_bad])) (HF.out.trans hf)⟩
      have hgo3 := need_next hri3
      rw [hri3, Pl.PR.then_ok] at HR
      replace HF := Lib.hid (HF.out.trans hf)
      replace HW := Lib.hid (Nat.le_trans HW.out (Fr.size hf))
      replace HX := Lib.hid (blk_fr HX.out (by have := HXL.out; have := HG.out; omega) hf)
      replace HP := Lib.hid (hp)
      clear ho hp hf
      go_wp2_with fail
      refine (Hun.out _ _ (by omega) HP.out).mono ?_
      rintro e w5 ho
      rcases TreeOut.split ho with ⟨q4, hri4, rfl, hf⟩ | ⟨ty, q4, y0, y1, y2, ya, yl, yc, yd, ye, yf, hri4, rfl, ht, hp, hf⟩
      · exact ⟨rfl, tree_bad (HR.out.trans hri4) (HF.out.trans hf)⟩
      replace HR := Lib.hid (HR.out.trans hri4)
      have HTy := Lib.hid (ht.mono (own_low HW.out))
      replace HF := Lib.hid (HF.out.trans hf)
      replace HW := Lib.hid (Nat.le_trans HW.out (Fr.size hf))
      replace HX := Lib.hid (blk_fr HX.out (by have := HXL.out; have := HG.out; omega) hf)
      replace HP := Lib.hid (hp)
      clear ho hp hf ht hri4
      obtain ⟨hxc0, hxc1, hxc2, hxc3, hxc4⟩ := five_cells HX.out
      have hxf0 := HX.out.thaw 0
      have hxf1 := HX.out.thaw 1
      have hxf2 := HX.out.thaw 2
      have hxf3 := HX.out.thaw 3
      have hxf4 := HX.out.thaw 4
      go_wp2_with fail
      have HEN := putFive_blk HX.out (.int .i64 y0) (.int .i64 y1) (.string y2) (.slice ya yl yc) (.slice yd ye yf)
      have HFI := tree_fin HG.out HF.out HTy.out HXB.out HP.out (.int .i64 y0) (.int .i64 y1) (.string y2) (.slice ya yl yc) (.slice yd ye yf)
      unfold putFive at HEN HFI
      obtain ⟨k0, k1, k2, k3, k4⟩ := five_cells HEN
      refine bodyPost_ret (v := .agg #[.int .i64 y0, .int .i64 y1, .string y2, .slice ya yl yc, .slice yd ye yf]) (by simp [results, Tryz.results163, go_sem, k0, k1, k2, k3, k4]) rfl ?_
      exact tree_ok HR.out HFI
    · refine (ppass_yes (by decide) HP.out hpb2).mono ?_
      rintro e w6 ⟨rfl, hp, hf⟩
      rw [hpb2, if_pos rfl] at HR
      replace HF := Lib.hid (HF.out.trans hf)
      replace HW := Lib.hid (Nat.le_trans HW.out (Fr.size hf))
      replace HX := Lib.hid (blk_fr HX.out (by have := HXL.out; have := HG.out; omega) hf)
      replace HP := Lib.hid (hp)
      clear hp hf
      go_wp2_with fail
      refine (Hnm.out _ _ (by omega) HP.out).mono ?_
      rintro e w7 ho
      rcases TreeOut.split ho with ⟨q5, hri5, rfl, hf⟩ | ⟨ty, q5, y0, y1, y2, ya, yl, yc, yd, ye, yf, hri5, rfl, ht, hp, hf⟩
      · exact ⟨rfl, tree_bad (HR.out.trans hri5) (HF.out.trans hf)⟩
      replace HR := Lib.hid (HR.out.trans hri5)
      have HTy := Lib.hid (ht.mono (own_low HW.out))
      replace HF := Lib.hid (HF.out.trans hf)
      replace HW := Lib.hid (Nat.le_trans HW.out (Fr.size hf))
      replace HX := Lib.hid (blk_fr HX.out (by have := HXL.out; have := HG.out; omega) hf)
      replace HP := Lib.hid (hp)
      clear ho hp hf ht hri5
      obtain ⟨hxc0, hxc1, hxc2, hxc3, hxc4⟩ := five_cells HX.out
      have hxf0 := HX.out.thaw 0
      have hxf1 := HX.out.thaw 1
      have hxf2 := HX.out.thaw 2
      have hxf3 := HX.out.thaw 3
      have hxf4 := HX.out.thaw 4
      go_wp2_with fail
      have HEN := putFive_blk HX.out (.int .i64 y0) (.int .i64 y1) (.string y2) (.slice ya yl yc) (.slice yd ye yf)
      have HFI := tree_fin HG.out HF.out HTy.out HXB.out HP.out (.int .i64 y0) (.int .i64 y1) (.string y2) (.slice ya yl yc) (.slice yd ye yf)
      unfold putFive at HEN HFI
      obtain ⟨k0, k1, k2, k3, k4⟩ := five_cells HEN
      refine bodyPost_ret (v := .agg #[.int .i64 y0, .int .i64 y1, .string y2, .slice ya yl yc, .slice yd ye yf]) (by simp [results, Tryz.results163, go_sem, k0, k1, k2, k3, k4]) rfl ?_
      exact tree_ok HR.out HFI
  · refine (ppass_yes (by decide) HP.out hpb1).mono ?_
    rintro e w8 ⟨rfl, hp, hf⟩
    rw [hpb1, if_pos rfl] at HR
    replace HF := Lib.hid (HF.out.trans hf)
    replace HW := Lib.hid (Nat.le_trans HW.out (Fr.size hf))
    replace HX := Lib.hid (blk_fr HX.out (by have := HXL.out; have := HG.out; omega) hf)
    replace HP := Lib.hid (hp)
    clear hp hf
    go_wp2_with fail
    refine (ptake_any s g (i + 1) 1 (by decide) _ HP.out).mono ?_
    rintro e w9 ho
    rcases TakeOut.split ho with ⟨q6, hri6, rfl, hf⟩ | ⟨t1, q6, hri6, rfl, hp, hf⟩
    · exact ⟨rfl, tree_bad (HR.out.trans (by rw [hri6, Pl.PR.then_bad])) (HF.out.trans hf)⟩
    have hgo6 := take_next hri6
    have HLs := Lib.hid (take_len HP.out hri6)
    rw [hri6, Pl.PR.then_ok] at HR
    replace HF := Lib.hid (HF.out.trans hf)
    replace HW := Lib.hid (Nat.le_trans HW.out (Fr.size hf))
    replace HX := Lib.hid (blk_fr HX.out (by have := HXL.out; have := HG.out; omega) hf)
    replace HP := Lib.hid (hp)
    clear ho hp hf
    have HZL := Lib.hid (show w.heap.size ≤ w9.heap.size from HF.out.size)
    have HZB := Lib.hid (show w.heap.size < w9.heap.size from Nat.lt_of_lt_of_le HXB.out HW.out)
    have HBZ := Lib.hid (show B ≤ w9.heap.size from HW.out)
    have hz := blk_new w9 #[.int .i64 41, .int .i64 0, .string (Pl.mk t1), .slice none 0 0, .slice none 0 0] 27
    have hn := fr_new g w9 (.cells #[.int .i64 41, .int .i64 0, .string (Pl.mk t1), .slice none 0 0, .slice none 0 0] 27)
    replace HF := Lib.hid (HF.out.trans hn)
    replace HW := Lib.hid (Nat.le_trans HW.out (Fr.size hn))
    replace HX := Lib.hid (blk_fr HX.out (by have := HXL.out; have := HG.out; omega) hn)
    replace HP := Lib.hid (HP.out.below ((Below.refl _ _).alloc (Nat.le_refl _) (.cells #[.int .i64 41, .int .i64 0, .string (Pl.mk t1), .slice none 0 0, .slice none 0 0] 27)))
    clear hn
    have HZ := Lib.hid hz
    clear hz
    obtain ⟨C, hC⟩ : ∃ C, C = w9.heap.size + 1 := ⟨_, rfl⟩
    have HBC := Lib.hid (show B ≤ C from by have := HBZ.out; omega)
    have HZC := Lib.hid (show w9.heap.size < C from by omega)
    have HGC := Lib.hid (show g < C from by have := HZL.out; have := HG.out; omega)
    have HWC := Lib.hid (show C ≤ (World.heap (w9.alloc (.cells #[.int .i64 41, .int .i64 0, .string (Pl.mk t1), .slice none 0 0, .slice none 0 0] 27))).size from by rw [hC]; exact HZ.out.lt)
    clear hC
    go_wp2_with fail
    generalize (w9.alloc (.cells #[.int .i64 41, .int .i64 0, .string (Pl.mk t1), .slice none 0 0, .slice none 0 0] 27)) = w10 at *
    refine (pneed_any s g q6 [61] (by decide) _ HP.out).mono ?_
    rintro e w11 ho
    rcases NeedOut.split ho with ⟨q7, hri7, rfl, hf⟩ | ⟨q7, nv, hri7, rfl, hp, hf⟩
    · exact ⟨rfl, tree_bad (HR.out.trans (by rw [hri7, Pl.PR.then_bad])) (HF.out.trans hf)⟩
    have hgo7 := need_next hri7
    rw [hri7, Pl.PR.then_ok] at HR
    replace HF := Lib.hid (HF.out.trans hf)
    replace HW := Lib.hid (Nat.le_trans HW.out (Fr.size hf))
    replace HWC := Lib.hid (Nat.le_trans HWC.out (Fr.size hf))
    replace HX := Lib.hid (blk_fr HX.out (by have := HXL.out; have := HG.out; omega) hf)
    replace HZ := Lib.hid (blk_fr HZ.out (by have := HZL.out; have := HG.out; omega) hf)
    replace HP := Lib.hid (hp)
    clear ho hp hf
    go_wp2_with fail
    refine (Hex.out _ _ (by omega) HP.out).mono ?_
    rintro e w12 ho
    rcases TreeOut.split ho with ⟨q8, hri8, rfl, hf⟩ | ⟨tu, q8, u0, u1, u2, ua, ul, uc, ud, ue, uf, hri8, rfl, ht, hp, hf⟩
    · exact ⟨rfl, tree_bad (HR.out.trans (by rw [hri8, Pl.PR.then_bad])) (HF.out.trans hf)⟩
    rw [hri8, Pl.PR.then_ok] at HR
    have HTu := Lib.hid (ht.mono (own_low HWC.out))
    replace HF := Lib.hid (HF.out.trans hf)
    replace HW := Lib.hid (Nat.le_trans HW.out (Fr.size hf))
    replace HWC := Lib.hid (Nat.le_trans HWC.out (Fr.size hf))
    replace HX := Lib.hid (blk_fr HX.out (by have := HXL.out; have := HG.out; omega) hf)
    replace HZ := Lib.hid (blk_fr HZ.out (by have := HZL.out; have := HG.out; omega) hf)
    replace HP := Lib.hid (hp)
    clear ho hp hf ht hri8
    have hl := trees_one_at HWC.out HTu.out
    have hn := fr_new g w12 (.cells #[.int .i64 u0, .int .i64 u1, .string u2, .slice ua ul uc, .slice ud ue uf] 27)
    replace HF := Lib.hid (HF.out.trans hn)
    replace HW := Lib.hid (Nat.le_trans HW.out (Fr.size hn))
    replace HWC := Lib.hid (Nat.le_trans HWC.out (Fr.size hn))
    replace HX := Lib.hid (blk_fr HX.out (by have := HXL.out; have := HG.out; omega) hn)
    replace HZ := Lib.hid (blk_fr HZ.out (by have := HZL.out; have := HG.out; omega) hn)
    replace HP := Lib.hid (HP.out.below ((Below.refl _ _).alloc (Nat.le_refl _) (.cells #[.int .i64 u0, .int .i64 u1, .string u2, .slice ua ul uc, .slice ud ue uf] 27)))
    clear hn
    have HL := Lib.hid hl
    clear hl
    have hzx : ¬ w9.heap.size = w.heap.size := by have := HZB.out; omega
    have hxz : ¬ w.heap.size = w9.heap.size := by have := HZB.out; omega
    obtain ⟨hxc0, hxc1, hxc2, hxc3, hxc4⟩ := five_cells HX.out
    have hxf0 := HX.out.thaw 0
    have hxf1 := HX.out.thaw 1
    have hxf2 := HX.out.thaw 2
    have hxf3 := HX.out.thaw 3
    have hxf4 := HX.out.thaw 4
    obtain ⟨hzc0, hzc1, hzc2, hzc3, hzc4⟩ := five_cells HZ.out
    have hzf0 := HZ.out.thaw 0
    have hzf1 := HZ.out.thaw 1
    have hzf2 := HZ.out.thaw 2
    have hzf3 := HZ.out.thaw 3
    have hzf4 := HZ.out.thaw 4
    have hn := fr_put (w12.alloc (.cells #[.int .i64 u0, .int .i64 u1, .string u2, .slice ua ul uc, .slice ud ue uf] 27)) (w9.heap.size) 4 (.slice (some ⟨w12.heap.size, 0, none⟩) 1 1)
    have hz : Blk (World.setCell (w12.alloc (.cells #[.int .i64 u0, .int .i64 u1, .string u2, .slice ua ul uc, .slice ud ue uf] 27)) ⟨w9.heap.size, 4, none⟩ (.slice (some ⟨w12.heap.size, 0, none⟩) 1 1)) w9.heap.size 27 #[.int .i64 41, .int .i64 0, .string (Pl.mk t1), .slice none 0 0, .slice (some ⟨w12.heap.size, 0, none⟩) 1 1] := by
      have := HZ.out.set 4 (.slice (some ⟨w12.heap.size, 0, none⟩) 1 1)
      simpa using this
    replace HF := Lib.hid (fr_over HF.out HZL.out hn)
    replace HW := Lib.hid (Nat.le_trans HW.out (Fr.size hn))
    replace HWC := Lib.hid (Nat.le_trans HWC.out (Fr.size hn))
    replace HX := Lib.hid (blk_fr HX.out (by have := HZB.out; have := HXB.out; omega) hn)
    replace HL := Lib.hid (HL.out.keep HZC.out hn)
    replace HP := Lib.hid (pat_fr HP.out (Nat.lt_of_lt_of_le HG.out HZL.out) hn)
    replace HZ := Lib.hid hz
    clear hn hz
    have HU := Lib.hid (tree_of (W := (World.setCell (w12.alloc (.cells #[.int .i64 u0, .int .i64 u1, .string u2, .slice ua ul uc, .slice ud ue uf] 27)) ⟨w9.heap.size, 4, none⟩ (.slice (some ⟨w12.heap.size, 0, none⟩) 1 1))) (B := B) (op := 41) (n := 0) HLs.out (strs_none _ _) (SynSl.mono (own_low HBC.out) HL.out.syns))
    go_wp2_with fail
    have HEN := putFive_blk HX.out (.int .i64 41) (.int .i64 0) (.string (Pl.mk t1)) (.slice none 0 0) (.slice (some ⟨w12.heap.size, 0, none⟩) 1 1)
    have HFI := tree_fin HG.out HF.out HU.out HXB.out HP.out (.int .i64 41) (.int .i64 0) (.string (Pl.mk t1)) (.slice none 0 0) (.slice (some ⟨w12.heap.size, 0, none⟩) 1 1)
    unfold putFive at HEN HFI
    obtain ⟨k0, k1, k2, k3, k4⟩ := five_cells HEN
    refine bodyPost_ret (v := .agg #[.int .i64 41, .int .i64 0, .string (Pl.mk t1), .slice none 0 0, .slice (some ⟨w12.heap.size, 0, none⟩) 1 1]) (by simp [results, Tryz.results163, go_sem, k0, k1, k2, k3, k4]) rfl ?_
    exact tree_ok HR.out HFI
end Go.Proofs.YtjedahcpkcgpeaaGreatDoor
