/-
  Walks and plain mathematics, several texts in one (Ep Eq).
-/
import Derived.Test.YtjedahcpkcgpeaaGreatDoorH18
/-
  Walks of layer 4: an unpacked structure.
-/
namespace Go.Proofs.YtjedahcpkcgpeaaGreatDoor
open Go Go.RowKit
set_option linter.unusedSimpArgs false
set_option maxRecDepth 100000 in
set_option maxHeartbeats 8000000 in
theorem punpacked_any (s : Src) (g i : Nat) (F : Pl.Fs) (hat : ∀ W j, i < j → PAt W g s j → Calls Tryz.prog 147 #[.pointer (some ⟨g, 0, none⟩)] W (TreeOut s g (F.atom j) W)) (hgo : Pl.Goes F) (w : World) (h : PAt w g s i) (hbig : s.ts.length ≤ 536870912) :
    Calls Tryz.prog 171 #[.pointer (some ⟨g, 0, none⟩)] w (TreeOut s g (Pl.unpkB s.ts F i) w) := by
  have HP := Lib.hid h
  have HG := Lib.hid h.blk.lt
  obtain ⟨i28, hi0, hz0, hz1, hz2⟩ := info3 infoTree
  have Hat := Lib.hid hat
  have Hgo := Lib.hid hgo
  obtain ⟨r, hr⟩ : ∃ r, r = Pl.unpkB s.ts F i := ⟨_, rfl⟩
  rw [← hr]
  have HR := Lib.hid hr
  rw [Pl.unpkB] at HR
  have HF := Lib.hid (Fr.refl (· = g) w)
  obtain ⟨B, hB⟩ : ∃ B, B = w.heap.size + 1 := ⟨_, rfl⟩
  have HGB := Lib.hid (show g < B from by have := HG.out; omega)
  have HXB := Lib.hid (show w.heap.size < B from by omega)
  have HX := Lib.hid (blk_new w #[.int .i64 0, .int .i64 0, .string ⟨#[]⟩, .slice none 0 0, .slice none 0 0] 27)
  have HXL := Lib.hid (Nat.le_refl w.heap.size)
  have hn := fr_new g w (.cells #[.int .i64 0, .int .i64 0, .string ⟨#[]⟩, .slice none 0 0, .slice none 0 0] 27)
  replace HF := Lib.hid (HF.out.trans hn)
  have HW := Lib.hid (show B ≤ (w.alloc (.cells #[.int .i64 0, .int .i64 0, .string ⟨#[]⟩, .slice none 0 0, .slice none 0 0] 27)).heap.size from by rw [hB]; simp)
  replace HP := Lib.hid (HP.out.below ((Below.refl _ _).alloc (Nat.le_refl _) (.cells #[.int .i64 0, .int .i64 0, .string ⟨#[]⟩, .slice none 0 0, .slice none 0 0] 27)))
  clear h hr hn hB hat hgo
  go_enter Tryz.func171, Tryz.ntmps171
  go_wp2_with fail
  generalize w.alloc (.cells #[.int .i64 0, .int .i64 0, .string ⟨#[]⟩, .slice none 0 0, .slice none 0 0] 27) = w1 at *
  refine (ptake_any s g i 2 (by decide) _ HP.out).mono ?_
  rintro e w2 ho
  rcases TakeOut.split ho with ⟨q1, hri1, rfl, hf⟩ | ⟨t1, q1, hri1, rfl, hp, hf⟩
  · exact ⟨rfl, tree_bad (HR.out.trans (by rw [hri1, Pl.PR.then_bad])) (HF.out.trans hf)⟩
  have hgo1 := take_next hri1
  have HLs := Lib.hid (take_len HP.out hri1)
  rw [hri1, Pl.PR.then_ok] at HR
  replace HF := Lib.hid (HF.out.trans hf)
  replace HW := Lib.hid (Nat.le_trans HW.out (Fr.size hf))
  replace HX := Lib.hid (blk_fr HX.out (by have := HXL.out; have := HG.out; omega) hf)
  replace HP := Lib.hid (hp)
  clear ho hp hf
  have HZL := Lib.hid (show w.heap.size ≤ w2.heap.size from HF.out.size)
  have HZB := Lib.hid (show w.heap.size < w2.heap.size from Nat.lt_of_lt_of_le HXB.out HW.out)
  have HBZ := Lib.hid (show B ≤ w2.heap.size from HW.out)
  have hz := blk_new w2 #[.int .i64 50, .int .i64 0, .string (Pl.mk t1), .slice none 0 0, .slice none 0 0] 27
  have hn := fr_new g w2 (.cells #[.int .i64 50, .int .i64 0, .string (Pl.mk t1), .slice none 0 0, .slice none 0 0] 27)
  replace HF := Lib.hid (HF.out.trans hn)
  replace HW := Lib.hid (Nat.le_trans HW.out (Fr.size hn))
  replace HX := Lib.hid (blk_fr HX.out (by have := HXL.out; have := HG.out; omega) hn)
  replace HP := Lib.hid (HP.out.below ((Below.refl _ _).alloc (Nat.le_refl _) (.cells #[.int .i64 50, .int .i64 0, .string (Pl.mk t1), .slice none 0 0, .slice none 0 0] 27)))
  clear hn
  have HZ := Lib.hid hz
  clear hz
  obtain ⟨C, hC⟩ : ∃ C, C = w2.heap.size + 1 := ⟨_, rfl⟩
  have HBC := Lib.hid (show B ≤ C from by have := HBZ.out; omega)
  have HZC := Lib.hid (show w2.heap.size < C from by omega)
  have HGC := Lib.hid (show g < C from by have := HZL.out; have := HG.out; omega)
  have HWC := Lib.hid (show C ≤ (World.heap (w2.alloc (.cells #[.int .i64 50, .int .i64 0, .string (Pl.mk t1), .slice none 0 0, .slice none 0 0] 27))).size from by rw [hC]; exact HZ.out.lt)
  clear hC
  go_wp2_with fail
  generalize (w2.alloc (.cells #[.int .i64 50, .int .i64 0, .string (Pl.mk t1), .slice none 0 0, .slice none 0 0] 27)) = w3 at *
  refine (pneed_any s g q1 [61] (by decide) _ HP.out).mono ?_
  rintro e w4 ho
  rcases NeedOut.split ho with ⟨q2, hri2, rfl, hf⟩ | ⟨q2, nv, hri2, rfl, hp, hf⟩
  · exact ⟨rfl, tree_bad (HR.out.trans (by rw [hri2, Pl.PR.then_bad])) (HF.out.trans hf)⟩
  have hgo2 := need_next hri2
  rw [hri2, Pl.PR.then_ok] at HR
  replace HF := Lib.hid (HF.out.trans hf)
  replace HW := Lib.hid (Nat.le_trans HW.out (Fr.size hf))
  replace HWC := Lib.hid (Nat.le_trans HWC.out (Fr.size hf))
  replace HX := Lib.hid (blk_fr HX.out (by have := HXL.out; have := HG.out; omega) hf)
  replace HZ := Lib.hid (blk_fr HZ.out (by have := HZL.out; have := HG.out; omega) hf)
  replace HP := Lib.hid (hp)
  clear ho hp hf
  go_wp2_with fail
  refine (pneed_any s g q2 [117, 110, 112, 97, 99, 107] (by decide) _ HP.out).mono ?_
  rintro e w5 ho
  rcases NeedOut.split ho with ⟨q3, hri3, rfl, hf⟩ | ⟨q3, nv, hri3, rfl, hp, hf⟩
  · exact ⟨rfl, tree_bad (HR.out.trans (by rw [hri3, Pl.PR.then_bad])) (HF.out.trans hf)⟩
  have hgo3 := need_next hri3
  rw [hri3, Pl.PR.then_ok] at HR
  replace HF := Lib.hid (HF.out.trans hf)
  replace HW := Lib.hid (Nat.le_trans HW.out (Fr.size hf))
  replace HWC := Lib.hid (Nat.le_trans HWC.out (Fr.size hf))
  replace HX := Lib.hid (blk_fr HX.out (by have := HXL.out; have := HG.out; omega) hf)
  replace HZ := Lib.hid (blk_fr HZ.out (by have := HZL.out; have := HG.out; omega) hf)
  replace HP := Lib.hid (hp)
  clear ho hp hf
  go_wp2_with fail
  refine (Hat.out _ _ (by omega) HP.out).mono ?_
  rintro e w6 ho
  rcases TreeOut.split ho with ⟨q4, hri4, rfl, hf⟩ | ⟨tu, q4, u0, u1, u2, ua, ul, uc, ud, ue, uf, hri4, rfl, ht, hp, hf⟩
  · exact ⟨rfl, tree_bad (HR.out.trans (by rw [hri4, Pl.PR.then_bad])) (HF.out.trans hf)⟩
  have hgo4 := Hgo.out.atom _ _ _ hri4
  rw [hri4, Pl.PR.then_ok] at HR
  have HTu := Lib.hid (ht.mono (own_low HWC.out))
  replace HF := Lib.hid (HF.out.trans hf)
  replace HW := Lib.hid (Nat.le_trans HW.out (Fr.size hf))
  replace HWC := Lib.hid (Nat.le_trans HWC.out (Fr.size hf))
  replace HX := Lib.hid (blk_fr HX.out (by have := HXL.out; have := HG.out; omega) hf)
  replace HZ := Lib.hid (blk_fr HZ.out (by have := HZL.out; have := HG.out; omega) hf)
  replace HP := Lib.hid (hp)
  clear ho hp hf ht hri4
  have hl := trees_one_at HWC.out HTu.out
  have hn := fr_new g w6 (.cells #[.int .i64 u0, .int .i64 u1, .string u2, .slice ua ul uc, .slice ud ue uf] 27)
  replace HF := Lib.hid (HF.out.trans hn)
  replace HW := Lib.hid (Nat.le_trans HW.out (Fr.size hn))
  replace HWC := Lib.hid (Nat.le_trans HWC.out (Fr.size hn))
  replace HX := Lib.hid (blk_fr HX.out (by have := HXL.out; have := HG.out; omega) hn)
  replace HZ := Lib.hid (blk_fr HZ.out (by have := HZL.out; have := HG.out; omega) hn)
  replace HP := Lib.hid (HP.out.below ((Below.refl _ _).alloc (Nat.le_refl _) (.cells #[.int .i64 u0, .int .i64 u1, .string u2, .slice ua ul uc, .slice ud ue uf] 27)))
  clear hn
  have HL := Lib.hid hl
  clear hl
  obtain ⟨hzc0, hzc1, hzc2, hzc3, hzc4⟩ := five_cells HZ.out
  have hzf0 := HZ.out.thaw 0
  have hzf1 := HZ.out.thaw 1
  have hzf2 := HZ.out.thaw 2
  have hzf3 := HZ.out.thaw 3
  have hzf4 := HZ.out.thaw 4
  have hn := fr_put (w6.alloc (.cells #[.int .i64 u0, .int .i64 u1, .string u2, .slice ua ul uc, .slice ud ue uf] 27)) (w2.heap.size) 4 (.slice (some ⟨w6.heap.size, 0, none⟩) 1 1)
  have hz : Blk (World.setCell (w6.alloc (.cells #[.int .i64 u0, .int .i64 u1, .string u2, .slice ua ul uc, .slice ud ue uf] 27)) ⟨w2.heap.size, 4, none⟩ (.slice (some ⟨w6.heap.size, 0, none⟩) 1 1)) w2.heap.size 27 #[.int .i64 50, .int .i64 0, .string (Pl.mk t1), .slice none 0 0, .slice (some ⟨w6.heap.size, 0, none⟩) 1 1] := by
    have := HZ.out.set 4 (.slice (some ⟨w6.heap.size, 0, none⟩) 1 1)
    simpa using this
  replace HF := Lib.hid (fr_over HF.out HZL.out hn)
  replace HW := Lib.hid (Nat.le_trans HW.out (Fr.size hn))
  replace HWC := Lib.hid (Nat.le_trans HWC.out (Fr.size hn))
  replace HX := Lib.hid (blk_fr HX.out (by have := HZB.out; have := HXB.out; omega) hn)
  replace HL := Lib.hid (HL.out.keep HZC.out hn)
  replace HP := Lib.hid (pat_fr HP.out (Nat.lt_of_lt_of_le HG.out HZL.out) hn)
  replace HZ := Lib.hid hz
  clear hn hz
  go_wp2_with fail
  generalize (World.setCell (w6.alloc (.cells #[.int .i64 u0, .int .i64 u1, .string u2, .slice ua ul uc, .slice ud ue uf] 27)) ⟨w2.heap.size, 4, none⟩ (.slice (some ⟨w6.heap.size, 0, none⟩) 1 1)) = w7 at *
  clear hzc0 hzc1 hzc2 hzc3 hzc4 hzf0 hzf1 hzf2 hzf3 hzf4
  refine (pneed_any s g q4 [58] (by decide) _ HP.out).mono ?_
  rintro e w8 ho
  rcases NeedOut.split ho with ⟨q5, hri5, rfl, hf⟩ | ⟨q5, nv, hri5, rfl, hp, hf⟩
  · exact ⟨rfl, tree_bad (HR.out.trans (by rw [hri5, Pl.PR.then_bad])) (HF.out.trans hf)⟩
  have hgo5 := need_next hri5
  rw [hri5, Pl.PR.then_ok] at HR
  replace HF := Lib.hid (HF.out.trans hf)
  replace HW := Lib.hid (Nat.le_trans HW.out (Fr.size hf))
  replace HWC := Lib.hid (Nat.le_trans HWC.out (Fr.size hf))
  replace HX := Lib.hid (blk_fr HX.out (by have := HXL.out; have := HG.out; omega) hf)
  replace HZ := Lib.hid (blk_fr HZ.out (by have := HZL.out; have := HG.out; omega) hf)
  replace HL := Lib.hid (HL.out.keep HGC.out hf)
  replace HP := Lib.hid (hp)
  clear ho hp hf
  go_wp2_with fail
  have HOL := Lib.hid (fun k (hk : Value.ownBlock (.slice (some ⟨w6.heap.size, 0, none⟩) 1 1) = some k) => (HL.out.owned hk).2)
  have HOB := Lib.hid (fun k (hk : Value.ownBlock (.slice (some ⟨w6.heap.size, 0, none⟩) 1 1) = some k) => (HL.out.owned hk).1)
  have HSB := Lib.hid HWC.out
  have HPD := Lib.hid (HP.out.below (Below.refl w8.heap.size w8).drew)
  have hzx : ¬ w2.heap.size = w.heap.size := by have := HZB.out; omega
  have hxz : ¬ w.heap.size = w2.heap.size := by have := HZB.out; omega
  obtain ⟨hzc0, hzc1, hzc2, hzc3, hzc4⟩ := five_cells HZ.out
  go_region_law (first
      | (go_simp; go_at_call 169; refine (psignature_any s g q5 _ HPD.out hbig).mono ?_; rintro e w50 ho; rcases TreeOut.split ho with ⟨q, hri, rfl, hf⟩ | ⟨ty, q, y0, y1, y2, ya, yl, yc, yd, ye, yf, hri, rfl, ht, hp, hf⟩; exact ⟨rfl, tree_bad (HR.out.trans (by rw [hri, Pl.PR.then_bad])) (HF.out.trans ((fr_drew g w8).trans hf))⟩; have HRI := Lib.hid hri; have HYT := Lib.hid ht; have HF5 := Lib.hid ((fr_drew g w8).trans hf); have HP5 := Lib.hid hp; have HZ5 := Lib.hid (blk_fr HZ.out (by have := HZL.out; have := HG.out; omega) HF5.out); have HL5 := Lib.hid (HL.out.keep HGC.out HF5.out); obtain ⟨r0, r1, r2, r3, r4⟩ := five_cells HZ5.out; obtain ⟨s0, s1, s2, s3, s4⟩ := five_cells (blk_fr HZ5.out (show w2.heap.size ≠ g from by have := HZL.out; have := HG.out; omega) (fr_new g w50 (.cells #[.int .i64 y0, .int .i64 y1, .string y2, .slice ya yl yc, .slice yd ye yf] 27))); obtain ⟨us, hown, hpush⟩ := trees_append HL5.out HYT.out HSB.out HOL.out; have HROW := Lib.hid (show World.ownsRow (w50.alloc (.cells #[.int .i64 y0, .int .i64 y1, .string y2, .slice ya yl yc, .slice yd ye yf] 27)) C 27 5 (.slice (some ⟨w6.heap.size, 0, none⟩) 1 1) 1 us from hown); have HPUSH := Lib.hid hpush; have HW5 := Lib.hid (Nat.le_trans HWC.out HF5.out.size); clear ho hri ht hp hf hown hpush)
      | (refine step_append_lies _ (by rfl) _ _ _ (by rfl) C 27 i28 (.agg #[.int .i64 0, .int .i64 0, .string ⟨#[]⟩, .slice none 0 0, .slice none 0 0]) 5 80 Tryz.underlying25 hi0 hz0 hz1 hz2 rfl (by omega) (.slice (some ⟨w6.heap.size, 0, none⟩) 1 1) 1 us (by rfl) HROW.out ⟨w50.heap.size, 0, none⟩ 1 1 [.int .i64 y0, .int .i64 y1, .string y2, .slice ya yl yc, .slice yd ye yf] (by rfl) (by rfl) (World.news_of_block (cs := #[.int .i64 y0, .int .i64 y1, .string y2, .slice ya yl yc, .slice yd ye yf]) (t := 27) (fr := (0, 0)) (heap_alloc_new w50 _)) (by simp [Value.oneCell']) (by omega) (by unfold maxLen; omega) (by omega) (by have h1 := HW5.out; simp; omega) (w50.heap.size + 1) (by simp) ?_; intro gg cap w6 hown1 hgrow hat hlt; have HZ6 := Lib.hid (blk_grown (blk_fr HZ5.out (by have := HZL.out; have := HG.out; omega) (fr_new g w50 (.cells #[.int .i64 y0, .int .i64 y1, .string y2, .slice ya yl yc, .slice yd ye yf] 27))) hgrow (fun k hk => by have := HOB.out k hk; have := HZC.out; omega)); obtain ⟨d0, d1, d2, d3, d4⟩ := five_cells HZ6.out; have f4 := HZ6.out.thaw 4; have HG6 := Lib.hid hgrow; have HL6 := Lib.hid (show TreesAt w6 C (.slice (some ⟨gg, 0, none⟩) 2 cap) [tu, ty] from HPUSH.out _ _ hown1 hgrow (fun k hk => by have e : some gg = some k := hk; injection e with e; subst e; rcases hat with hat | hat; exact .inl hat; right; rw [hat]; exact Nat.le_refl _)); clear hown1 hgrow hat hlt))
  all_goals
    rw [HRI.out, Pl.PR.then_ok] at HR
    have hn := fr_put w6 (w2.heap.size) 4 (.slice (some ⟨gg, 0, none⟩) 2 cap)
    replace HF := Lib.hid (fr_over (fr_row ((HF.out.trans HF5.out).trans (fr_new g w50 (.cells #[.int .i64 y0, .int .i64 y1, .string y2, .slice ya yl yc, .slice yd ye yf] 27))) HG6.out (fun k hk => by have := HOB.out k hk; have := HXB.out; have := HBC.out; omega)) HZL.out hn)
    replace HX := Lib.hid (blk_fr (blk_grown (blk_fr (blk_fr HX.out (by have := HG.out; omega) HF5.out) (by have := HG.out; omega) (fr_new g w50 (.cells #[.int .i64 y0, .int .i64 y1, .string y2, .slice ya yl yc, .slice yd ye yf] 27))) HG6.out (fun k hk => by have := HOB.out k hk; have := HXB.out; have := HBC.out; omega)) hxz hn)
    have hz : Blk (World.setCell w6 ⟨w2.heap.size, 4, none⟩ (.slice (some ⟨gg, 0, none⟩) 2 cap)) w2.heap.size 27 #[.int .i64 50, .int .i64 0, .string (Pl.mk t1), .slice none 0 0, .slice (some ⟨gg, 0, none⟩) 2 cap] := by
      have := HZ6.out.set 4 (.slice (some ⟨gg, 0, none⟩) 2 cap)
      simpa using this
    replace HL := Lib.hid (HL6.out.keep HZC.out hn)
    replace HP := Lib.hid (pat_fr ((HP5.out.below ((Below.refl _ _).alloc (Nat.le_refl _) (.cells #[.int .i64 y0, .int .i64 y1, .string y2, .slice ya yl yc, .slice yd ye yf] 27))).grown HG6.out (fun k hk => by have := HOB.out k hk; have := HGC.out; omega)) (Nat.lt_of_lt_of_le HG.out HZL.out) hn)
    clear hn
    have HZ9 := Lib.hid hz
    clear hz r0 r1 r2 r3 r4 s0 s1 s2 s3 s4
    have HU := Lib.hid (tree_of (W := (World.setCell w6 ⟨w2.heap.size, 4, none⟩ (.slice (some ⟨gg, 0, none⟩) 2 cap))) (B := B) (op := 50) (n := 0) HLs.out (strs_none _ _) (SynSl.mono (own_low HBC.out) HL.out.syns))
    obtain ⟨m0, m1, m2, m3, m4⟩ := five_cells HZ9.out
    obtain ⟨hxc0, hxc1, hxc2, hxc3, hxc4⟩ := five_cells HX.out
    have hxf0 := HX.out.thaw 0
    have hxf1 := HX.out.thaw 1
    have hxf2 := HX.out.thaw 2
    have hxf3 := HX.out.thaw 3
    have hxf4 := HX.out.thaw 4
    go_wp2_with fail
    have HEN := putFive_blk HX.out (.int .i64 50) (.int .i64 0) (.string (Pl.mk t1)) (.slice none 0 0) (.slice (some ⟨gg, 0, none⟩) 2 cap)
    have HFI := tree_fin HG.out HF.out HU.out HXB.out HP.out (.int .i64 50) (.int .i64 0) (.string (Pl.mk t1)) (.slice none 0 0) (.slice (some ⟨gg, 0, none⟩) 2 cap)
    unfold putFive at HEN HFI
    obtain ⟨k0, k1, k2, k3, k4⟩ := five_cells HEN
    refine bodyPost_ret (v := .agg #[.int .i64 50, .int .i64 0, .string (Pl.mk t1), .slice none 0 0, .slice (some ⟨gg, 0, none⟩) 2 cap]) (by simp [results, Tryz.results171, go_sem, k0, k1, k2, k3, k4]) rfl ?_
    exact tree_ok HR.out HFI
end Go.Proofs.YtjedahcpkcgpeaaGreatDoor

/-
  Walks of layer 4: a named function.
-/
namespace Go.Proofs.YtjedahcpkcgpeaaGreatDoor
open Go Go.RowKit
set_option linter.unusedSimpArgs false
theorem names_one_at {W : World} {B : Nat} {z : ByteArray} (hle : B ≤ W.heap.size) (hz : z.size ≤ maxLen) : NamesAt (W.alloc (.cells #[.string z] 9)) B (.slice (some ⟨W.heap.size, 0, none⟩) 1 1) [z] :=
  ⟨World.ownsRow_lit (base := B) (e := 9) (size := 1) W #[.string z] 1 hle (by unfold maxLen; omega) rfl, fun y hy => by simp at hy; subst hy; exact hz⟩
theorem names_append {W : World} {B : Nat} {v : Value} {ns : List ByteArray} {z : ByteArray} (h : NamesAt W B v ns) (hz : z.size ≤ maxLen) :
    (W.alloc (.cells #[.string z] 9)).ownsRow B 9 1 v ns.length (ns.map Value.string) ∧ ∀ w' v', w'.ownsRow B 9 1 v' (ns.length + 1) (ns.map Value.string ++ [.string z]) → NamesAt w' B v' (ns ++ [z]) := by
  have hb : Below W.heap.size W (W.alloc (.cells #[.string z] 9)) := (Below.refl _ _).alloc (Nat.le_refl _) _
  refine ⟨h.row.kept (row := some W.heap.size) ⟨rfl, rfl, rfl, hb.size, fun k hk _ => hb.block k hk⟩ (.inr fun e => by
    have := (h.row.lt _ e).2
    omega), fun w' v' hw => ⟨?_, fun y hy => ?_⟩⟩
  · rw [List.length_append, List.map_append]
    exact hw
  · rw [List.mem_append] at hy
    rcases hy with hy | hy
    · exact h.lens y hy
    · simp at hy; subst hy; exact hz
theorem NamesAt.owned {W : World} {B : Nat} {v : Value} {ns : List ByteArray} (h : NamesAt W B v ns) {k : Nat} (hk : v.ownBlock = some k) : B ≤ k ∧ k < W.heap.size := h.row.lt k hk
set_option maxRecDepth 100000 in
set_option maxHeartbeats 8000000 in
theorem pnamed_any (s : Src) (g i : Nat) (F : Pl.Fs) (hex : ∀ W j, i < j → PAt W g s j → Calls Tryz.prog 38 #[.pointer (some ⟨g, 0, none⟩)] W (TreeOut s g (F.expr j) W)) (hgo : Pl.Goes F) (w : World) (h : PAt w g s i) (hbig : s.ts.length ≤ 536870912) :
    Calls Tryz.prog 170 #[.pointer (some ⟨g, 0, none⟩)] w (TreeOut s g (Pl.namedB s.ts F i) w) := by
  have HP := Lib.hid h
  have HG := Lib.hid h.blk.lt
  obtain ⟨i9, hi0, hz0, hz1, hz2⟩ := info3 infoStr1
  have Hex := Lib.hid hex
  have Hgo := Lib.hid hgo
  obtain ⟨r, hr⟩ : ∃ r, r = Pl.namedB s.ts F i := ⟨_, rfl⟩
  rw [← hr]
  have HR := Lib.hid hr
  rw [Pl.namedB] at HR
  have HF := Lib.hid (Fr.refl (· = g) w)
  obtain ⟨B, hB⟩ : ∃ B, B = w.heap.size + 1 := ⟨_, rfl⟩
  have HGB := Lib.hid (show g < B from by have := HG.out; omega)
  have HXB := Lib.hid (show w.heap.size < B from by omega)
  have HX := Lib.hid (blk_new w #[.int .i64 0, .int .i64 0, .string ⟨#[]⟩, .slice none 0 0, .slice none 0 0] 27)
  have HXL := Lib.hid (Nat.le_refl w.heap.size)
  have hn := fr_new g w (.cells #[.int .i64 0, .int .i64 0, .string ⟨#[]⟩, .slice none 0 0, .slice none 0 0] 27)
  replace HF := Lib.hid (HF.out.trans hn)
  have HW := Lib.hid (show B ≤ (w.alloc (.cells #[.int .i64 0, .int .i64 0, .string ⟨#[]⟩, .slice none 0 0, .slice none 0 0] 27)).heap.size from by rw [hB]; simp)
  replace HP := Lib.hid (HP.out.below ((Below.refl _ _).alloc (Nat.le_refl _) (.cells #[.int .i64 0, .int .i64 0, .string ⟨#[]⟩, .slice none 0 0, .slice none 0 0] 27)))
  clear h hr hn hB hex hgo
  have HMM := Lib.hid (fun n ns j => show Pl.namesMore s.ts (n + 1) ns j = if Pl.passes s.ts j [61] then .ok ns (j + 1) else (Pl.takeK s.ts 1 j).then fun t k => Pl.namesMore s.ts n (ns ++ [Pl.mk t]) k from rfl)
  go_enter Tryz.func170, Tryz.ntmps170
  go_wp2_with fail
  generalize w.alloc (.cells #[.int .i64 0, .int .i64 0, .string ⟨#[]⟩, .slice none 0 0, .slice none 0 0] 27) = w1 at *
  refine (ptake_any s g i 1 (by decide) _ HP.out).mono ?_
  rintro e w2 ho
  rcases TakeOut.split ho with ⟨q1, hri1, rfl, hf⟩ | ⟨t1, q1, hri1, rfl, hp, hf⟩
  · exact ⟨rfl, tree_bad (HR.out.trans (by rw [hri1, Pl.PR.then_bad])) (HF.out.trans hf)⟩
  have hgo1 := take_next hri1
  have HLs := Lib.hid (take_len HP.out hri1)
  rw [hri1, Pl.PR.then_ok] at HR
  replace HF := Lib.hid (HF.out.trans hf)
  replace HW := Lib.hid (Nat.le_trans HW.out (Fr.size hf))
  replace HX := Lib.hid (blk_fr HX.out (by have := HXL.out; have := HG.out; omega) hf)
  replace HP := Lib.hid (hp)
  clear ho hp hf
  have HZL := Lib.hid (show w.heap.size ≤ w2.heap.size from HF.out.size)
  have HZB := Lib.hid (show w.heap.size < w2.heap.size from Nat.lt_of_lt_of_le HXB.out HW.out)
  have HBZ := Lib.hid (show B ≤ w2.heap.size from HW.out)
  have hz := blk_new w2 #[.int .i64 42, .int .i64 0, .string (Pl.mk t1), .slice none 0 0, .slice none 0 0] 27
  have hn := fr_new g w2 (.cells #[.int .i64 42, .int .i64 0, .string (Pl.mk t1), .slice none 0 0, .slice none 0 0] 27)
  replace HF := Lib.hid (HF.out.trans hn)
  replace HW := Lib.hid (Nat.le_trans HW.out (Fr.size hn))
  replace HX := Lib.hid (blk_fr HX.out (by have := HXL.out; have := HG.out; omega) hn)
  replace HP := Lib.hid (HP.out.below ((Below.refl _ _).alloc (Nat.le_refl _) (.cells #[.int .i64 42, .int .i64 0, .string (Pl.mk t1), .slice none 0 0, .slice none 0 0] 27)))
  clear hn
  have HZ := Lib.hid hz
  clear hz
  obtain ⟨C, hC⟩ : ∃ C, C = w2.heap.size + 1 := ⟨_, rfl⟩
  have HBC := Lib.hid (show B ≤ C from by have := HBZ.out; omega)
  have HZC := Lib.hid (show w2.heap.size < C from by omega)
  have HGC := Lib.hid (show g < C from by have := HZL.out; have := HG.out; omega)
  have HWC := Lib.hid (show C ≤ (World.heap (w2.alloc (.cells #[.int .i64 42, .int .i64 0, .string (Pl.mk t1), .slice none 0 0, .slice none 0 0] 27))).size from by rw [hC]; exact HZ.out.lt)
  clear hC
  go_wp2_with fail
  generalize (w2.alloc (.cells #[.int .i64 42, .int .i64 0, .string (Pl.mk t1), .slice none 0 0, .slice none 0 0] 27)) = w3 at *
  refine (ptake_any s g q1 1 (by decide) _ HP.out).mono ?_
  rintro e w4 ho
  rcases TakeOut.split ho with ⟨q2, hri2, rfl, hf⟩ | ⟨t2, q2, hri2, rfl, hp, hf⟩
  · exact ⟨rfl, tree_bad (HR.out.trans (by rw [hri2, Pl.PR.then_bad])) (HF.out.trans hf)⟩
  have hgo2 := take_next hri2
  have HLa := Lib.hid (take_len HP.out hri2)
  rw [hri2, Pl.PR.then_ok] at HR
  replace HF := Lib.hid (HF.out.trans hf)
  replace HW := Lib.hid (Nat.le_trans HW.out (Fr.size hf))
  replace HWC := Lib.hid (Nat.le_trans HWC.out (Fr.size hf))
  replace HX := Lib.hid (blk_fr HX.out (by have := HXL.out; have := HG.out; omega) hf)
  replace HZ := Lib.hid (blk_fr HZ.out (by have := HZL.out; have := HG.out; omega) hf)
  replace HP := Lib.hid (hp)
  clear ho hp hf
  obtain ⟨f, hf⟩ : ∃ f, f = fun (ns : List ByteArray) (m : Nat) => (F.expr m).then fun t q => (Pl.PR.ok ⟨42, 0, Pl.mk t1, ns, [t]⟩ q : Pl.PR Pl.Syn) := ⟨_, rfl⟩
  replace HR : RowKit.Hid (r = (Pl.namesMore s.ts (s.ts.length + 1) [Pl.mk t2] q2).then f) := Lib.hid (by rw [hf]; exact HR.out)
  have HFF := Lib.hid (fun ns j => show f ns j = _ from by rw [hf])
  clear hf
  obtain ⟨z1, hz1'⟩ : ∃ z1, z1 = Pl.mk t1 := ⟨_, rfl⟩
  obtain ⟨z2, hz2'⟩ : ∃ z2, z2 = Pl.mk t2 := ⟨_, rfl⟩
  rw [← hz1'] at HZ HLs HFF
  rw [← hz2'] at HLa HR
  rw [← hz1', ← hz2']
  clear hz1' hz2'
  have hl := names_one_at HWC.out HLa.out
  have hn := fr_new g w4 (.cells #[.string z2] 9)
  replace HF := Lib.hid (HF.out.trans hn)
  replace HW := Lib.hid (Nat.le_trans HW.out (Fr.size hn))
  replace HWC := Lib.hid (Nat.le_trans HWC.out (Fr.size hn))
  replace HX := Lib.hid (blk_fr HX.out (by have := HXL.out; have := HG.out; omega) hn)
  replace HZ := Lib.hid (blk_fr HZ.out (by have := HZL.out; have := HG.out; omega) hn)
  replace HP := Lib.hid (HP.out.below ((Below.refl _ _).alloc (Nat.le_refl _) (.cells #[.string z2] 9)))
  clear hn
  have HNM := Lib.hid hl
  clear hl
  obtain ⟨hzc0, hzc1, hzc2, hzc3, hzc4⟩ := five_cells HZ.out
  have hzf0 := HZ.out.thaw 0
  have hzf1 := HZ.out.thaw 1
  have hzf2 := HZ.out.thaw 2
  have hzf3 := HZ.out.thaw 3
  have hzf4 := HZ.out.thaw 4
  have hn := fr_put (w4.alloc (.cells #[.string z2] 9)) (w2.heap.size) 3 (.slice (some ⟨w4.heap.size, 0, none⟩) 1 1)
  have hz : Blk (World.setCell (w4.alloc (.cells #[.string z2] 9)) ⟨w2.heap.size, 3, none⟩ (.slice (some ⟨w4.heap.size, 0, none⟩) 1 1)) w2.heap.size 27 #[.int .i64 42, .int .i64 0, .string z1, .slice (some ⟨w4.heap.size, 0, none⟩) 1 1, .slice none 0 0] := by
    have := HZ.out.set 3 (.slice (some ⟨w4.heap.size, 0, none⟩) 1 1)
    simpa using this
  replace HF := Lib.hid (fr_over HF.out HZL.out hn)
  replace HW := Lib.hid (Nat.le_trans HW.out (Fr.size hn))
  replace HWC := Lib.hid (Nat.le_trans HWC.out (Fr.size hn))
  replace HX := Lib.hid (blk_fr HX.out (by have := HZB.out; have := HXB.out; omega) hn)
  replace HNM := Lib.hid (HNM.out.keep HZC.out hn)
  replace HP := Lib.hid (pat_fr HP.out (Nat.lt_of_lt_of_le HG.out HZL.out) hn)
  replace HZ := Lib.hid hz
  clear hn hz
  go_wp2_with fail
  clear hzc0 hzc1 hzc2 hzc3 hzc4 hzf0 hzf1 hzf2 hzf3 hzf4
  have hjn0 := HP.out.inn
  go_loopg [] (s.ts.length + 1) (fun gk wr => ∃ (j : Nat) (ns : List ByteArray) (v : Value), PAt wr g s j ∧ Fr (· = g) (· = g) w wr ∧ Blk wr w.heap.size 27 #[.int .i64 0, .int .i64 0, .string ⟨#[]⟩, .slice none 0 0, .slice none 0 0] ∧ Blk wr w2.heap.size 27 #[.int .i64 42, .int .i64 0, .string z1, v, .slice none 0 0] ∧ NamesAt wr C v ns ∧ C ≤ wr.heap.size ∧ r = (Pl.namesMore s.ts gk ns j).then f ∧ s.ts.length + 1 ≤ gk + j ∧ ns.length ≤ j ∧ i < j)
  case atStart => exact ⟨q2, [z2], (.slice (some ⟨w4.heap.size, 0, none⟩) 1 1), HP.out, HF.out, HX.out, HZ.out, HNM.out, HWC.out, HR.out, by omega, by simp; omega, by omega⟩
  case round =>
    clear HZ HNM
    obtain ⟨j, ns, v, hp, hf, hx, hz, hn, hw, hr, hj, hnl, hij⟩ := hrel
    have hjn := hp.inn
    obtain ⟨G, hG⟩ : ∃ G, gk = G + 1 := ⟨gk - 1, by omega⟩
    rw [hG, HMM.out G ns j] at hr
    obtain ⟨va, vc, hv, -⟩ := hn.strs
    subst hv
    obtain ⟨ln, hln⟩ : ∃ ln, ln = ns.length := ⟨_, rfl⟩
    rw [← hln] at hn hz hnl
    have HLN := Lib.hid hln
    replace HP := Lib.hid hp
    replace HF := Lib.hid hf
    replace HX := Lib.hid hx
    have HZ := Lib.hid hz
    have HNM := Lib.hid hn
    replace HWC := Lib.hid hw
    replace HW := Lib.hid (Nat.le_trans HBC.out hw)
    replace HR := Lib.hid hr
    have HGJ := Lib.hid hG
    clear hp hf hx hz hn hw hr hG hln
    go_wp2_with fail
    cases hpb3 : Pl.passes s.ts j [61]
    · refine (ppass_not (by decide) HP.out hpb3).mono ?_
      rintro e w5 ⟨rfl, hp, hf⟩
      rw [hpb3, if_neg Bool.false_ne_true] at HR
      replace HF := Lib.hid (HF.out.trans hf)
      replace HW := Lib.hid (Nat.le_trans HW.out (Fr.size hf))
      replace HWC := Lib.hid (Nat.le_trans HWC.out (Fr.size hf))
      replace HX := Lib.hid (blk_fr HX.out (by have := HXL.out; have := HG.out; omega) hf)
      replace HZ := Lib.hid (blk_fr HZ.out (by have := HZL.out; have := HG.out; omega) hf)
      replace HNM := Lib.hid (HNM.out.keep HGC.out hf)
      replace HP := Lib.hid (hp)
      clear hp hf
      rw [Pl.PR.then_then] at HR
      go_wp2_with fail
      have HPD := Lib.hid (HP.out.below (Below.refl w5.heap.size w5).drew)
      have HOB := Lib.hid (fun k (hk : Value.ownBlock (.slice va ln vc) = some k) => (HNM.out.owned hk).1)
      have hzx : ¬ w2.heap.size = w.heap.size := by have := HZB.out; omega
      have hxz : ¬ w.heap.size = w2.heap.size := by have := HZB.out; omega
      obtain ⟨hzc0, hzc1, hzc2, hzc3, hzc4⟩ := five_cells HZ.out
      go_region_law (first
          | (go_simp; go_at_call 108; refine (ptake_any s g j 1 (by decide) _ HPD.out).mono ?_; rintro e w50 ho; rcases TakeOut.split ho with ⟨q, hri, rfl, hf⟩ | ⟨t3, q, hri, rfl, hp, hf⟩; exact ⟨rfl, tree_bad (HR.out.trans (by rw [hri, Pl.PR.then_bad])) (HF.out.trans ((fr_drew g w5).trans hf))⟩; have HRI := Lib.hid hri; have HLz := Lib.hid (take_len HPD.out hri); have HF5 := Lib.hid ((fr_drew g w5).trans hf); have HP5 := Lib.hid hp; have HZ5 := Lib.hid (blk_fr HZ.out (by have := HZL.out; have := HG.out; omega) HF5.out); have HN5 := Lib.hid (HNM.out.keep HGC.out HF5.out); obtain ⟨r0, r1, r2, r3, r4⟩ := five_cells HZ5.out; obtain ⟨zz, hzz⟩ : ∃ zz, zz = Pl.mk t3 := ⟨_, rfl⟩; rw [← hzz] at HLz; rw [← hzz]; have HZZ := Lib.hid hzz; obtain ⟨s0, s1, s2, s3, s4⟩ := five_cells (blk_fr HZ5.out (show w2.heap.size ≠ g from by have := HZL.out; have := HG.out; omega) (fr_new g w50 (.cells #[.string zz] 9))); obtain ⟨hown, hpush⟩ := names_append HN5.out HLz.out; rw [← HLN.out] at hown hpush; have HROW := Lib.hid hown; have HPUSH := Lib.hid hpush; have HW5 := Lib.hid (Nat.le_trans HWC.out HF5.out.size); clear ho hri hp hf hown hpush hzz)
          | (refine step_append_lies _ (by rfl) _ _ _ (by rfl) C 9 i9 (.string ⟨#[]⟩) 1 16 Tryz.underlying24 hi0 hz0 hz1 hz2 rfl (by omega) (.slice va ln vc) ln (ns.map Value.string) (by rfl) HROW.out ⟨w50.heap.size, 0, none⟩ 1 1 [.string zz] (by rfl) (by rfl) (World.news_of_block (cs := #[.string zz]) (t := 9) (fr := (0, 0)) (heap_alloc_new w50 _)) (by simp [Value.oneCell']) (by omega) (by unfold maxLen; omega) (by omega) (by have h1 := HW5.out; simp; omega) (w50.heap.size + 1) (by simp) ?_; intro gg cap w6 hown1 hgrow hat hlt; have HZ6 := Lib.hid (blk_grown (blk_fr HZ5.out (by have := HZL.out; have := HG.out; omega) (fr_new g w50 (.cells #[.string zz] 9))) hgrow (fun k hk => by have := HOB.out k hk; have := HZC.out; omega)); obtain ⟨d0, d1, d2, d3, d4⟩ := five_cells HZ6.out; have f3 := HZ6.out.thaw 3; have HG6 := Lib.hid hgrow; have HN6 := Lib.hid (HPUSH.out _ _ hown1); clear hown1 hgrow hat hlt))
      all_goals
        have hgo := take_next HRI.out
        rw [HRI.out, Pl.PR.then_ok, ← HZZ.out] at HR
        have hn := fr_put w6 (w2.heap.size) 3 (.slice (some ⟨gg, 0, none⟩) (ln + 1) cap)
        have HN1 := Lib.hid (fr_over (fr_row ((HF.out.trans HF5.out).trans (fr_new g w50 (.cells #[.string zz] 9))) HG6.out (fun k hk => by have := HOB.out k hk; have := HXB.out; have := HBC.out; omega)) HZL.out hn)
        have HN2 := Lib.hid (blk_fr (blk_grown (blk_fr (blk_fr HX.out (by have := HG.out; omega) HF5.out) (by have := HG.out; omega) (fr_new g w50 (.cells #[.string zz] 9))) HG6.out (fun k hk => by have := HOB.out k hk; have := HXB.out; have := HBC.out; omega)) hxz hn)
        have hz : Blk (World.setCell w6 ⟨w2.heap.size, 3, none⟩ (.slice (some ⟨gg, 0, none⟩) (ln + 1) cap)) w2.heap.size 27 #[.int .i64 42, .int .i64 0, .string z1, .slice (some ⟨gg, 0, none⟩) (ln + 1) cap, .slice none 0 0] := by
          have := HZ6.out.set 3 (.slice (some ⟨gg, 0, none⟩) (ln + 1) cap)
          simpa using this
        have HN3 := Lib.hid hz
        have HN4 := Lib.hid (HN6.out.keep HZC.out hn)
        have HN7 := Lib.hid (pat_fr ((HP5.out.below ((Below.refl _ _).alloc (Nat.le_refl _) (.cells #[.string zz] 9))).grown HG6.out (fun k hk => by have := HOB.out k hk; have := HGC.out; omega)) (Nat.lt_of_lt_of_le HG.out HZL.out) hn)
        have HN8 := Lib.hid (show C ≤ (World.heap (World.setCell w6 ⟨w2.heap.size, 3, none⟩ (.slice (some ⟨gg, 0, none⟩) (ln + 1) cap))).size from Nat.le_trans HW5.out (Nat.le_trans (fr_new g w50 (.cells #[.string zz] 9)).size (Nat.le_trans HG6.out.size hn.size)))
        have HNN := Lib.hid (show (ns ++ [zz]).length ≤ q from by rw [List.length_append, ← HLN.out]; simp; omega)
        have hqn := HP5.out.inn
        clear hn hz
        go_wp2
        go_roundg G
        case measure => have := HGJ.out; omega
        case rel => exact ⟨q, ns ++ [zz], _, HN7.out, HN1.out, HN2.out, HN3.out, HN4.out, HN8.out, HR.out, by have := HGJ.out; omega, HNN.out, by omega⟩
    · refine (ppass_yes (by decide) HP.out hpb3).mono ?_
      rintro e w6 ⟨rfl, hp, hf⟩
      rw [hpb3, if_pos rfl] at HR
      replace HF := Lib.hid (HF.out.trans hf)
      replace HW := Lib.hid (Nat.le_trans HW.out (Fr.size hf))
      replace HWC := Lib.hid (Nat.le_trans HWC.out (Fr.size hf))
      replace HX := Lib.hid (blk_fr HX.out (by have := HXL.out; have := HG.out; omega) hf)
      replace HZ := Lib.hid (blk_fr HZ.out (by have := HZL.out; have := HG.out; omega) hf)
      replace HNM := Lib.hid (HNM.out.keep HGC.out hf)
      replace HP := Lib.hid (hp)
      clear hp hf
      rw [Pl.PR.then_ok, HFF.out] at HR
      go_wp2_with fail
      refine (Hex.out _ _ (by omega) HP.out).mono ?_
      rintro e w7 ho
      rcases TreeOut.split ho with ⟨q4, hri4, rfl, hf⟩ | ⟨tu, q4, u0, u1, u2, ua, ul, uc, ud, ue, uf, hri4, rfl, ht, hp, hf⟩
      · exact ⟨rfl, tree_bad (HR.out.trans (by rw [hri4, Pl.PR.then_bad])) (HF.out.trans hf)⟩
      rw [hri4, Pl.PR.then_ok] at HR
      have HTu := Lib.hid (ht.mono (own_low HWC.out))
      replace HF := Lib.hid (HF.out.trans hf)
      replace HW := Lib.hid (Nat.le_trans HW.out (Fr.size hf))
      replace HWC := Lib.hid (Nat.le_trans HWC.out (Fr.size hf))
      replace HX := Lib.hid (blk_fr HX.out (by have := HXL.out; have := HG.out; omega) hf)
      replace HZ := Lib.hid (blk_fr HZ.out (by have := HZL.out; have := HG.out; omega) hf)
      replace HNM := Lib.hid (HNM.out.keep HGC.out hf)
      replace HP := Lib.hid (hp)
      clear ho hp hf ht hri4
      have hl := trees_one_at HWC.out HTu.out
      have hn := fr_new g w7 (.cells #[.int .i64 u0, .int .i64 u1, .string u2, .slice ua ul uc, .slice ud ue uf] 27)
      replace HF := Lib.hid (HF.out.trans hn)
      replace HW := Lib.hid (Nat.le_trans HW.out (Fr.size hn))
      replace HWC := Lib.hid (Nat.le_trans HWC.out (Fr.size hn))
      replace HX := Lib.hid (blk_fr HX.out (by have := HXL.out; have := HG.out; omega) hn)
      replace HZ := Lib.hid (blk_fr HZ.out (by have := HZL.out; have := HG.out; omega) hn)
      replace HNM := Lib.hid (HNM.out.keep HGC.out hn)
      replace HP := Lib.hid (HP.out.below ((Below.refl _ _).alloc (Nat.le_refl _) (.cells #[.int .i64 u0, .int .i64 u1, .string u2, .slice ua ul uc, .slice ud ue uf] 27)))
      clear hn
      have HL := Lib.hid hl
      clear hl
      have hzx : ¬ w2.heap.size = w.heap.size := by have := HZB.out; omega
      have hxz : ¬ w.heap.size = w2.heap.size := by have := HZB.out; omega
      obtain ⟨hxc0, hxc1, hxc2, hxc3, hxc4⟩ := five_cells HX.out
      have hxf0 := HX.out.thaw 0
      have hxf1 := HX.out.thaw 1
      have hxf2 := HX.out.thaw 2
      have hxf3 := HX.out.thaw 3
      have hxf4 := HX.out.thaw 4
      obtain ⟨hzc0, hzc1, hzc2, hzc3, hzc4⟩ := five_cells HZ.out
      have hzf0 := HZ.out.thaw 0
      have hzf1 := HZ.out.thaw 1
      have hzf2 := HZ.out.thaw 2
      have hzf3 := HZ.out.thaw 3
      have hzf4 := HZ.out.thaw 4
      have hn := fr_put (w7.alloc (.cells #[.int .i64 u0, .int .i64 u1, .string u2, .slice ua ul uc, .slice ud ue uf] 27)) (w2.heap.size) 4 (.slice (some ⟨w7.heap.size, 0, none⟩) 1 1)
      have hz : Blk (World.setCell (w7.alloc (.cells #[.int .i64 u0, .int .i64 u1, .string u2, .slice ua ul uc, .slice ud ue uf] 27)) ⟨w2.heap.size, 4, none⟩ (.slice (some ⟨w7.heap.size, 0, none⟩) 1 1)) w2.heap.size 27 #[.int .i64 42, .int .i64 0, .string z1, .slice va ln vc, .slice (some ⟨w7.heap.size, 0, none⟩) 1 1] := by
        have := HZ.out.set 4 (.slice (some ⟨w7.heap.size, 0, none⟩) 1 1)
        simpa using this
      replace HF := Lib.hid (fr_over HF.out HZL.out hn)
      replace HW := Lib.hid (Nat.le_trans HW.out (Fr.size hn))
      replace HWC := Lib.hid (Nat.le_trans HWC.out (Fr.size hn))
      replace HX := Lib.hid (blk_fr HX.out (by have := HZB.out; have := HXB.out; omega) hn)
      replace HNM := Lib.hid (HNM.out.keep HZC.out hn)
      replace HL := Lib.hid (HL.out.keep HZC.out hn)
      replace HP := Lib.hid (pat_fr HP.out (Nat.lt_of_lt_of_le HG.out HZL.out) hn)
      replace HZ := Lib.hid hz
      clear hn hz
      have HU := Lib.hid (tree_of (W := (World.setCell (w7.alloc (.cells #[.int .i64 u0, .int .i64 u1, .string u2, .slice ua ul uc, .slice ud ue uf] 27)) ⟨w2.heap.size, 4, none⟩ (.slice (some ⟨w7.heap.size, 0, none⟩) 1 1))) (B := B) (op := 42) (n := 0) HLs.out (HNM.out.strs.mono (own_low HBC.out)) (SynSl.mono (own_low HBC.out) HL.out.syns))
      go_wp2_with fail
      have HEN := putFive_blk HX.out (.int .i64 42) (.int .i64 0) (.string z1) (.slice va ln vc) (.slice (some ⟨w7.heap.size, 0, none⟩) 1 1)
      have HFI := tree_fin HG.out HF.out HU.out HXB.out HP.out (.int .i64 42) (.int .i64 0) (.string z1) (.slice va ln vc) (.slice (some ⟨w7.heap.size, 0, none⟩) 1 1)
      unfold putFive at HEN HFI
      obtain ⟨k0, k1, k2, k3, k4⟩ := five_cells HEN
      refine bodyPost_ret (v := .agg #[.int .i64 42, .int .i64 0, .string z1, .slice va ln vc, .slice (some ⟨w7.heap.size, 0, none⟩) 1 1]) (by simp [results, Tryz.results170, go_sem, k0, k1, k2, k3, k4]) rfl ?_
      exact tree_ok HR.out HFI
end Go.Proofs.YtjedahcpkcgpeaaGreatDoor
