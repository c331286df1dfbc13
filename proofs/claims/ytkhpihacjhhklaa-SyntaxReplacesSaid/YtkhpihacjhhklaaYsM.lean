/-
  Walks of layer 3: the reference's Replace.
-/
import Derived.Test.YtkhpihacjhhklaaYrM
import Derived.Test.YtkhpihacjhhklaaG20
import Derived.Test.YtkhpihacjhhklaaG16
namespace Go.Proofs.Ytkhpihacjhhklaa
open Go Go.RowKit
open Pl (Syn)
set_option linter.unusedSimpArgs false

/-- a region's end, told -/
def ActQ (A : Act) (W : World) : Exit → Act → World → Prop := fun e a' w' => e = Exit.normal ∧ a' = A ∧ w' = W
theorem wp_act {P : Program} {c : Code} {Q : Exit → Act → World → Prop} {a : Act} {w : World} (W : World) (h : ∃ A, c.wp P (ActQ A W) a w ∧ Q Exit.normal A W) : c.wp P Q a w := by
  obtain ⟨A, h1, h2⟩ := h
  exact Code.wp_mono (fun e a' w' hq => by obtain ⟨rfl, rfl, rfl⟩ := (show e = Exit.normal ∧ a' = A ∧ w' = W from hq); exact h2) h1
/-- what the reference's Replace answers -/
def RRepPost (P Q : Nat → Prop) (t : Syn) (at' : List Int) (by' : Syn) (w : World) (e : Ending) (w' : World) : Prop :=
  ((repCode t at' by' ≠ 0 ∧ e = .returned (.tuple #[zeroSyn, .int .i64 (repCode t at' by')])) ∨ (repCode t at' by' = 0 ∧ ∃ x v, Pl.put at' t by' = some x ∧ e = .returned (.tuple #[v, .int .i64 0]) ∧ SynV w' (fun b => P b ∨ Q b ∨ (w.heap.size ≤ b ∧ b < w'.heap.size)) x v)) ∧ Below w.heap.size w w'
theorem code_any {t : Syn} {at' : List Int} {by' : Syn} (h : anyP t = false) : repCode t at' by' = 1 := by unfold repCode; rw [if_pos h]
theorem code_none {t : Syn} {at' : List Int} {by' : Syn} (h : anyP t = true) (hp : Pl.put at' t by' = none) : repCode t at' by' = 2 := by unfold repCode; rw [if_neg (by rw [h]; decide), hp]
theorem code_some {t x : Syn} {at' : List Int} {by' : Syn} (h : anyP t = true) (hp : Pl.put at' t by' = some x) : repCode t at' by' = if (Pl.formed x && ((Pl.cat x.op == Pl.cat t.op) || (Pl.rbel t.op 5 && Pl.rbel x.op 5))) = true then 0 else 3 := by
  unfold repCode
  rw [if_neg (by rw [h]; decide), hp]
  show (if (Pl.formed x && common t.op x.op) = true then (0 : Int) else 3) = _
  rw [common_same _ _ (any_parts h).1]
  rfl
set_option maxRecDepth 100000 in
set_option maxHeartbeats 8000000 in
theorem rreplace_any (P Q : Nat → Prop) (t : Syn) (at' : List Int) (by' : Syn) (w : World) (tv av bv : Value) (hP : ∀ b, P b → b < w.heap.size) (hQ : ∀ b, Q b → b < w.heap.size) (ht : SynV w P t tv) (hb : SynV w Q by' bv) (ha : AtSl w av at') (hbig : t.big ≤ 134217728) (hbig2 : by'.big ≤ 134217728) :
    Calls Try.prog 26 #[tv, av, bv] w (RRepPost P Q t at' by' w) := by
  have HT := Lib.hid ht
  have HB := Lib.hid hb
  have HA := Lib.hid ha
  have HP := Lib.hid hP
  have HQ := Lib.hid hQ
  obtain ⟨na, nn, nc, la, ln, lc, rfl⟩ := ht.form
  obtain ⟨ma, mn, mc, ka, kn, kc, rfl⟩ := hb.form
  have hbx := boxes_new w #[.int .i64 t.op, .int .i64 t.n, .string t.s, .slice na nn nc, .slice la ln lc] #[.int .i64 by'.op, .int .i64 by'.n, .string by'.s, .slice ma mn mc, .slice ka kn kc]
  have hbz := blk_new ((w.alloc (.cells #[.int .i64 t.op, .int .i64 t.n, .string t.s, .slice na nn nc, .slice la ln lc] 25)).alloc (.cells #[.int .i64 by'.op, .int .i64 by'.n, .string by'.s, .slice ma mn mc, .slice ka kn kc] 25)) #[.int .i64 0, .int .i64 0, .string ⟨#[]⟩, .slice none 0 0, .slice none 0 0] 25
  rw [size_alloc, size_alloc] at hbz
  have HB0 := Lib.hid (show Below w.heap.size w (((w.alloc (.cells #[.int .i64 t.op, .int .i64 t.n, .string t.s, .slice na nn nc, .slice la ln lc] 25)).alloc (.cells #[.int .i64 by'.op, .int .i64 by'.n, .string by'.s, .slice ma mn mc, .slice ka kn kc] 25)).alloc (.cells #[.int .i64 0, .int .i64 0, .string ⟨#[]⟩, .slice none 0 0, .slice none 0 0] 25)) from (below2 w _ _).alloc (by simp; omega) _)
  have HT0 := Lib.hid (hbx.1.alloc (.cells #[.int .i64 0, .int .i64 0, .string ⟨#[]⟩, .slice none 0 0, .slice none 0 0] 25))
  have HY0 := Lib.hid (hbx.2.alloc (.cells #[.int .i64 0, .int .i64 0, .string ⟨#[]⟩, .slice none 0 0, .slice none 0 0] 25))
  have HZ0 := Lib.hid hbz
  have HBG := Lib.hid hbig
  have HBG2 := Lib.hid hbig2
  have HPB := Lib.hid (Pl.put_big at' t by')
  have HPW := Lib.hid (fun W (hW : Below w.heap.size w W) b (hb : P b) => Nat.lt_of_lt_of_le (HP.out b hb) hW.size)
  have HQW := Lib.hid (fun W (hW : Below w.heap.size w W) b (hb : Q b) => Nat.lt_of_lt_of_le (HQ.out b hb) hW.size)
  have HTW := Lib.hid (fun W (hW : Below w.heap.size w W) => HT.out.keep (Same.of_below hW HP.out))
  have HBW := Lib.hid (fun W (hW : Below w.heap.size w W) => HB.out.keep (Same.of_below hW HQ.out))
  have HAW := Lib.hid (fun W (hW : Below w.heap.size w W) => HA.out.below hW)
  obtain ⟨aa, ac, rfl, hal, hacm, -⟩ := ha
  unfold maxLen at hacm
  obtain ⟨x0, x1, x2, x3, x4⟩ := box_cells HT0.out
  have HI := Lib.hid (fun W (hW : Below w.heap.size w W) => rany_any P t W _ (HPW.out W hW) (HTW.out W hW) (by have := HBG.out; omega))
  have HC1 := Lib.hid (fun h => code_any (t := t) (at' := at') (by' := by') h)
  have HC2 := Lib.hid (fun h hp => code_none (t := t) (at' := at') (by' := by') h hp)
  have HC3 := Lib.hid (fun h x hp => code_some (t := t) (x := x) (at' := at') (by' := by') h hp)
  generalize hany : anyP t = an at *
  generalize hput : Pl.put at' t by' = pu at *
  generalize hrc : repCode t at' by' = rc at *
  have HRCE := Lib.hid hrc
  have HPUE := Lib.hid hput
  have HLA := Lib.hid hal
  generalize at'.length = al at *
  clear ht hb hP hQ hbx hbz hbig hbig2 hany hal hput
  go_enter Try.func26, Try.ntmps26
  go_wp2_with fail
  generalize (((w.alloc (.cells #[.int .i64 t.op, .int .i64 t.n, .string t.s, .slice na nn nc, .slice la ln lc] 25)).alloc (.cells #[.int .i64 by'.op, .int .i64 by'.n, .string by'.s, .slice ma mn mc, .slice ka kn kc] 25)).alloc (.cells #[.int .i64 0, .int .i64 0, .string ⟨#[]⟩, .slice none 0 0, .slice none 0 0] 25)) = w0 at HB0 HT0 HY0 HZ0 x0 x1 x2 x3 x4 ⊢
  refine (HI.out _ HB0.out).mono ?_
  rintro e w1 ⟨rfl, hb1⟩
  have HB1 := Lib.hid (belowStep hb1 HB0.out)
  have HT1 := Lib.hid (Blk.of_eq HT0.out (hb1.block _ (Blk.lt HT0.out)))
  have HY1 := Lib.hid (Blk.of_eq HY0.out (hb1.block _ (Blk.lt HY0.out)))
  have HZ1 := Lib.hid (Blk.of_eq HZ0.out (hb1.block _ (Blk.lt HZ0.out)))
  clear x0 x1 x2 x3 x4 hb1
  obtain ⟨x0, x1, x2, x3, x4⟩ := box_cells HT1.out
  obtain ⟨y0, y1, y2, y3, y4⟩ := box_cells HY1.out
  cases an
  · have hr1 := HC1.out (by first | rfl | trivial)
    subst hr1
    obtain ⟨z0, z1, z2, z3, z4⟩ := box_cells HZ1.out
    have t0 := HZ1.out.thaw 0
    have t1 := HZ1.out.thaw 1
    have t2 := HZ1.out.thaw 2
    have t3 := HZ1.out.thaw 3
    have t4 := HZ1.out.thaw 4
    go_wp2
    have HEND := store5_below HB1.out (w.heap.size + 1 + 1) 0 (.int .i64 0) (.int .i64 0) (.string ⟨#[]⟩) (.slice none 0 0) (.slice none 0 0) (by omega)
    have HENB := store5_blk HZ1.out 0 (.int .i64 0) (.int .i64 0) (.string ⟨#[]⟩) (.slice none 0 0) (.slice none 0 0)
    unfold store5 at HEND HENB
    simp only [Nat.zero_add] at HEND HENB
    obtain ⟨k0, k1, k2, k3, k4⟩ := box_cells (by simpa [put5] using HENB)
    refine bodyPost_ret (v := .tuple #[zeroSyn, .int .i64 1]) (by simp [results, Try.results26, go_sem, k0, k1, k2, k3, k4, zeroSyn]; try rfl) rfl ?_
    exact ⟨.inl ⟨by rw [hrc]; decide, by rw [hrc]⟩, HEND⟩
  · have HRP := Lib.hid (rput_any P Q by' at' t w1 _ _ _ (HPW.out _ HB1.out) (HQW.out _ HB1.out) (HTW.out _ HB1.out) (HBW.out _ HB1.out) (HAW.out _ HB1.out) (by have := HBG.out; omega))
    rw [HPUE.out] at HRP
    go_wp2_with fail
    refine HRP.out.mono ?_
    rintro e w2 ⟨hr, hb2⟩
    have HB2 := Lib.hid (belowStep hb2 HB1.out)
    have HB12 := Lib.hid hb2
    have HT2 := Lib.hid (Blk.of_eq HT1.out (hb2.block _ (Blk.lt HT1.out)))
    have HZ2 := Lib.hid (Blk.of_eq HZ1.out (hb2.block _ (Blk.lt HZ1.out)))
    clear x0 x1 x2 x3 x4 y0 y1 y2 y3 y4 hb2
    cases pu with
    | none =>
      have hr2 := HC2.out (by first | rfl | trivial) (by first | rfl | trivial)
      subst hr2
      subst hr
      have HBA := Lib.hid (show Below w.heap.size w (w2.alloc (.cells #[.int .i64 0, .int .i64 0, .string ⟨#[]⟩, .slice none 0 0, .slice none 0 0] 25)) from HB2.out.alloc HB2.out.size _)
      have HZA := Lib.hid (HZ2.out.alloc (.cells #[.int .i64 0, .int .i64 0, .string ⟨#[]⟩, .slice none 0 0, .slice none 0 0] 25))
      obtain ⟨z0, z1, z2, z3, z4⟩ := box_cells HZA.out
      have t0 := HZA.out.thaw 0
      have t1 := HZA.out.thaw 1
      have t2 := HZA.out.thaw 2
      have t3 := HZA.out.thaw 3
      have t4 := HZA.out.thaw 4
      rw [show zeroSyn = (.agg #[.int .i64 0, .int .i64 0, .string ⟨#[]⟩, .slice none 0 0, .slice none 0 0] : Value) from rfl]
      go_wp2
      have HEND := store5_below HBA.out (w.heap.size + 1 + 1) 0 (.int .i64 0) (.int .i64 0) (.string ⟨#[]⟩) (.slice none 0 0) (.slice none 0 0) (by omega)
      have HENB := store5_blk HZA.out 0 (.int .i64 0) (.int .i64 0) (.string ⟨#[]⟩) (.slice none 0 0) (.slice none 0 0)
      unfold store5 at HEND HENB
      simp only [Nat.zero_add] at HEND HENB
      obtain ⟨k0, k1, k2, k3, k4⟩ := box_cells (by simpa [put5] using HENB)
      refine bodyPost_ret (v := .tuple #[zeroSyn, .int .i64 2]) (by simp [results, Try.results26, go_sem, k0, k1, k2, k3, k4, zeroSyn]; try rfl) rfl ?_
      exact ⟨.inl ⟨by rw [hrc]; decide, by rw [hrc]⟩, HEND⟩
    | some x =>
      obtain ⟨v', rfl, hv'⟩ := hr
      obtain ⟨qna, qnn, qnc, qla, qln, qlc, rfl⟩ := hv'.form
      have HXB := Lib.hid (HPB.out x rfl)
      have HBA := Lib.hid (show Below w2.heap.size w2 (w2.alloc (.cells #[.int .i64 x.op, .int .i64 x.n, .string x.s, .slice qna qnn qnc, .slice qla qln qlc] 25)) from (Below.refl _ _).alloc (Nat.le_refl _) _)
      have HSR := Lib.hid (show ∀ b, (P b ∨ Q b ∨ (w1.heap.size ≤ b ∧ b < w2.heap.size)) → b < w2.heap.size from fun b hb => by
        have h1 := HP.out b
        have h2 := HQ.out b
        have h3 := HB2.out.size
        rcases hb with hb | hb | hb
        · have := h1 hb; omega
        · have := h2 hb; omega
        · exact hb.2)
      have HVX := Lib.hid (fun W (hW : Below w2.heap.size w2 W) => hv'.keep (Same.of_below hW HSR.out))
      have HPX := Lib.hid (fun W (hW : Below w2.heap.size w2 W) b hb => Nat.lt_of_lt_of_le (HSR.out b hb) hW.size)
      have HXA := Lib.hid (blk_new w2 #[.int .i64 x.op, .int .i64 x.n, .string x.s, .slice qna qnn qnc, .slice qla qln qlc] 25)
      have HTA := Lib.hid (HT2.out.alloc (.cells #[.int .i64 x.op, .int .i64 x.n, .string x.s, .slice qna qnn qnc, .slice qla qln qlc] 25))
      have HZA := Lib.hid (HZ2.out.alloc (.cells #[.int .i64 x.op, .int .i64 x.n, .string x.s, .slice qna qnn qnc, .slice qla qln qlc] 25))
      have HRC := Lib.hid (HC3.out (by first | rfl | trivial) x rfl)
      have HFO := Lib.hid (fun W (hW : Below w2.heap.size w2 W) => rformed_any _ x W _ (HPX.out _ hW) (HVX.out _ hW) (by have := HXB.out; have := HBG.out; have := HBG2.out; omega))
      have HC4 := Lib.hid (fun W => rcategory_any x.op W)
      have HC5 := Lib.hid (fun W => rcategory_any t.op W)
      have HC6 := Lib.hid (fun W => rbelongs_any t.op 5 W)
      have HC7 := Lib.hid (fun W => rbelongs_any x.op 5 W)
      clear hv'
      go_wp2_with fail
      generalize hwx : (w2.alloc (.cells #[.int .i64 x.op, .int .i64 x.n, .string x.s, .slice qna qnn qnc, .slice qla qln qlc] 25)) = wx at HBA HXA HTA HZA ⊢
      clear hwx
      obtain ⟨x0, x1, x2, x3, x4⟩ := box_cells HTA.out
      obtain ⟨y0, y1, y2, y3, y4⟩ := box_cells HXA.out
      generalize Pl.cat x.op = cx at HRC HC4
      generalize Pl.cat t.op = ct at HRC HC5
      generalize Pl.rbel t.op 5 = b2 at HRC HC6
      generalize Pl.rbel x.op 5 = b3 at HRC HC7
      obtain ⟨b1, hb1⟩ : ∃ b1, (cx == ct) = b1 := ⟨_, rfl⟩
      rw [hb1] at HRC
      cases b1
      · cases b2
        · refine wp_region_quiet_lit (by kernel_rfl) (by kernel_rfl) ?_
          iterate 2 (quiet_step (fail))
          quiet_step ((go_at_call 14; exact Calls.quiet_of_same ((HC4.out _).mono fun _ _ ⟨he, hw⟩ => ⟨he, hw.symm⟩)))
          iterate 2 (quiet_step (fail))
          quiet_step ((go_at_call 14; exact Calls.quiet_of_same ((HC5.out _).mono fun _ _ ⟨he, hw⟩ => ⟨he, hw.symm⟩)))
          iterate 4 (quiet_step (fail))
          quiet_step ((go_at_call 33; exact Calls.quiet_of_same ((HC6.out _).mono fun _ _ ⟨he, hw⟩ => ⟨he, hw.symm⟩)))
          iterate 7 (quiet_step (fail))
          refine wpQuiet_nil ?_
          intro _ hw'
          obtain ⟨nq, hw''⟩ := hw'
          subst hw''
          have HBD := Lib.hid (show Below w2.heap.size w2 (wx.drewN nq) from below_drewN HBA.out nq)
          have HXD := Lib.hid (show Blk (wx.drewN nq) w2.heap.size 25 #[.int .i64 x.op, .int .i64 x.n, .string x.s, .slice qna qnn qnc, .slice qla qln qlc] from HXA.out)
          have HZD := Lib.hid (show Blk (wx.drewN nq) (w.heap.size + 1 + 1) 25 #[.int .i64 0, .int .i64 0, .string ⟨#[]⟩, .slice none 0 0, .slice none 0 0] from HZA.out)
          clear hb1 x0 x1 x2 x3 x4 y0 y1 y2 y3 y4 HC4 HC5 HC6 HC7 HXA HTA HZA HBA
          generalize wx.drewN nq = wd at HBD HXD HZD ⊢
          have HBW2 := Lib.hid (belowStep HBD.out HB2.out)
          obtain ⟨z0, z1, z2, z3, z4⟩ := box_cells HZD.out
          have t0 := HZD.out.thaw 0
          have t1 := HZD.out.thaw 1
          have t2 := HZD.out.thaw 2
          have t3 := HZD.out.thaw 3
          have t4 := HZD.out.thaw 4
          go_wp2
          have HEND := store5_below HBW2.out (w.heap.size + 1 + 1) 0 (.int .i64 0) (.int .i64 0) (.string ⟨#[]⟩) (.slice none 0 0) (.slice none 0 0) (by omega)
          have HENB := store5_blk HZD.out 0 (.int .i64 0) (.int .i64 0) (.string ⟨#[]⟩) (.slice none 0 0) (.slice none 0 0)
          unfold store5 at HEND HENB
          simp only [Nat.zero_add] at HEND HENB
          obtain ⟨k0, k1, k2, k3, k4⟩ := box_cells (by simpa [put5] using HENB)
          refine bodyPost_ret (v := .tuple #[zeroSyn, .int .i64 3]) (by simp [results, Try.results26, go_sem, k0, k1, k2, k3, k4, zeroSyn]; try rfl) rfl ?_
          exact ⟨.inl ⟨by rw [hrc, HRC.out]; simp, by rw [hrc, HRC.out]; simp⟩, HEND⟩
        · cases b3
          · refine wp_region_quiet_lit (by kernel_rfl) (by kernel_rfl) ?_
            iterate 2 (quiet_step (fail))
            quiet_step ((go_at_call 14; exact Calls.quiet_of_same ((HC4.out _).mono fun _ _ ⟨he, hw⟩ => ⟨he, hw.symm⟩)))
            iterate 2 (quiet_step (fail))
            quiet_step ((go_at_call 14; exact Calls.quiet_of_same ((HC5.out _).mono fun _ _ ⟨he, hw⟩ => ⟨he, hw.symm⟩)))
            iterate 4 (quiet_step (fail))
            quiet_step ((go_at_call 33; exact Calls.quiet_of_same ((HC6.out _).mono fun _ _ ⟨he, hw⟩ => ⟨he, hw.symm⟩)))
            iterate 3 (quiet_step (fail))
            quiet_step ((go_at_call 33; exact Calls.quiet_of_same ((HC7.out _).mono fun _ _ ⟨he, hw⟩ => ⟨he, hw.symm⟩)))
            iterate 3 (quiet_step (fail))
            refine wpQuiet_nil ?_
            intro _ hw'
            obtain ⟨nq, hw''⟩ := hw'
            subst hw''
            have HBD := Lib.hid (show Below w2.heap.size w2 (wx.drewN nq) from below_drewN HBA.out nq)
            have HXD := Lib.hid (show Blk (wx.drewN nq) w2.heap.size 25 #[.int .i64 x.op, .int .i64 x.n, .string x.s, .slice qna qnn qnc, .slice qla qln qlc] from HXA.out)
            have HZD := Lib.hid (show Blk (wx.drewN nq) (w.heap.size + 1 + 1) 25 #[.int .i64 0, .int .i64 0, .string ⟨#[]⟩, .slice none 0 0, .slice none 0 0] from HZA.out)
            clear hb1 x0 x1 x2 x3 x4 y0 y1 y2 y3 y4 HC4 HC5 HC6 HC7 HXA HTA HZA HBA
            generalize wx.drewN nq = wd at HBD HXD HZD ⊢
            have HBW2 := Lib.hid (belowStep HBD.out HB2.out)
            obtain ⟨z0, z1, z2, z3, z4⟩ := box_cells HZD.out
            have t0 := HZD.out.thaw 0
            have t1 := HZD.out.thaw 1
            have t2 := HZD.out.thaw 2
            have t3 := HZD.out.thaw 3
            have t4 := HZD.out.thaw 4
            go_wp2
            have HEND := store5_below HBW2.out (w.heap.size + 1 + 1) 0 (.int .i64 0) (.int .i64 0) (.string ⟨#[]⟩) (.slice none 0 0) (.slice none 0 0) (by omega)
            have HENB := store5_blk HZD.out 0 (.int .i64 0) (.int .i64 0) (.string ⟨#[]⟩) (.slice none 0 0) (.slice none 0 0)
            unfold store5 at HEND HENB
            simp only [Nat.zero_add] at HEND HENB
            obtain ⟨k0, k1, k2, k3, k4⟩ := box_cells (by simpa [put5] using HENB)
            refine bodyPost_ret (v := .tuple #[zeroSyn, .int .i64 3]) (by simp [results, Try.results26, go_sem, k0, k1, k2, k3, k4, zeroSyn]; try rfl) rfl ?_
            exact ⟨.inl ⟨by rw [hrc, HRC.out]; simp, by rw [hrc, HRC.out]; simp⟩, HEND⟩
          · refine wp_region_quiet_lit (by kernel_rfl) (by kernel_rfl) ?_
            iterate 2 (quiet_step (fail))
            quiet_step ((go_at_call 14; exact Calls.quiet_of_same ((HC4.out _).mono fun _ _ ⟨he, hw⟩ => ⟨he, hw.symm⟩)))
            iterate 2 (quiet_step (fail))
            quiet_step ((go_at_call 14; exact Calls.quiet_of_same ((HC5.out _).mono fun _ _ ⟨he, hw⟩ => ⟨he, hw.symm⟩)))
            iterate 4 (quiet_step (fail))
            quiet_step ((go_at_call 33; exact Calls.quiet_of_same ((HC6.out _).mono fun _ _ ⟨he, hw⟩ => ⟨he, hw.symm⟩)))
            iterate 3 (quiet_step (fail))
            quiet_step ((go_at_call 33; exact Calls.quiet_of_same ((HC7.out _).mono fun _ _ ⟨he, hw⟩ => ⟨he, hw.symm⟩)))
            iterate 3 (quiet_step (fail))
            refine wpQuiet_nil ?_
            intro _ hw'
            obtain ⟨nq, hw''⟩ := hw'
            subst hw''
            have HBD := Lib.hid (show Below w2.heap.size w2 (wx.drewN nq) from below_drewN HBA.out nq)
            have HXD := Lib.hid (show Blk (wx.drewN nq) w2.heap.size 25 #[.int .i64 x.op, .int .i64 x.n, .string x.s, .slice qna qnn qnc, .slice qla qln qlc] from HXA.out)
            have HZD := Lib.hid (show Blk (wx.drewN nq) (w.heap.size + 1 + 1) 25 #[.int .i64 0, .int .i64 0, .string ⟨#[]⟩, .slice none 0 0, .slice none 0 0] from HZA.out)
            clear hb1 x0 x1 x2 x3 x4 y0 y1 y2 y3 y4 HC4 HC5 HC6 HC7 HXA HTA HZA HBA
            generalize wx.drewN nq = wd at HBD HXD HZD ⊢
            have HBW2 := Lib.hid (belowStep HBD.out HB2.out)
            obtain ⟨x0, x1, x2, x3, x4⟩ := box_cells HXD.out
            have HFC := Lib.hid (HFO.out _ HBD.out)
            generalize Pl.formed x = fo at *
            go_wp2_with fail
            refine HFC.out.mono ?_
            rintro e w3 ⟨rfl, hb3⟩
            have HB3 := Lib.hid (belowStep hb3 HBW2.out)
            have HB23 := Lib.hid (belowStep hb3 HBD.out)
            have HX3 := Lib.hid (Blk.of_eq HXD.out (hb3.block _ (Blk.lt HXD.out)))
            have HZ3 := Lib.hid (Blk.of_eq HZD.out (hb3.block _ (Blk.lt HZD.out)))
            clear hb3 x0 x1 x2 x3 x4
            obtain ⟨y0, y1, y2, y3, y4⟩ := box_cells HX3.out
            obtain ⟨z0, z1, z2, z3, z4⟩ := box_cells HZ3.out
            have t0 := HZ3.out.thaw 0
            have t1 := HZ3.out.thaw 1
            have t2 := HZ3.out.thaw 2
            have t3 := HZ3.out.thaw 3
            have t4 := HZ3.out.thaw 4
            have n1 : ¬ w2.heap.size = w.heap.size + 1 + 1 := by have := Blk.lt HZ2.out; omega
            have n2 : ¬ w.heap.size + 1 + 1 = w2.heap.size := by have := Blk.lt HZ2.out; omega
            cases fo
            · go_wp2
              have HEND := store5_below HB3.out (w.heap.size + 1 + 1) 0 (.int .i64 0) (.int .i64 0) (.string ⟨#[]⟩) (.slice none 0 0) (.slice none 0 0) (by omega)
              have HENB := store5_blk HZ3.out 0 (.int .i64 0) (.int .i64 0) (.string ⟨#[]⟩) (.slice none 0 0) (.slice none 0 0)
              unfold store5 at HEND HENB
              simp only [Nat.zero_add] at HEND HENB
              obtain ⟨k0, k1, k2, k3, k4⟩ := box_cells (by simpa [put5] using HENB)
              refine bodyPost_ret (v := .tuple #[zeroSyn, .int .i64 3]) (by simp [results, Try.results26, go_sem, k0, k1, k2, k3, k4, zeroSyn]; try rfl) rfl ?_
              exact ⟨.inl ⟨by rw [hrc, HRC.out]; simp, by rw [hrc, HRC.out]; simp⟩, HEND⟩
            · go_wp2
              have HEND := store5_below HB3.out (w.heap.size + 1 + 1) 0 (.int .i64 x.op) (.int .i64 x.n) (.string x.s) (.slice qna qnn qnc) (.slice qla qln qlc) (by omega)
              have HENB := store5_blk HZ3.out 0 (.int .i64 x.op) (.int .i64 x.n) (.string x.s) (.slice qna qnn qnc) (.slice qla qln qlc)
              have HESZ := store5_size w3 (w.heap.size + 1 + 1) 0 (.int .i64 x.op) (.int .i64 x.n) (.string x.s) (.slice qna qnn qnc) (.slice qla qln qlc)
              have HNZ := Lib.hid (fun b (hb : P b ∨ Q b ∨ (w1.heap.size ≤ b ∧ b < w2.heap.size)) => show b ≠ w.heap.size + 1 + 1 from by
                have h4 := Blk.lt HZ1.out
                rcases hb with hb | hb | hb
                · have := HP.out b hb; omega
                · have := HQ.out b hb; omega
                · omega)
              have HENV := ((HVX.out _ HB23.out).keep (w' := store5 w3 (w.heap.size + 1 + 1) 0 (.int .i64 x.op) (.int .i64 x.n) (.string x.s) (.slice qna qnn qnc) (.slice qla qln qlc)) (fun b hb => store5_other w3 (w.heap.size + 1 + 1) 0 (.int .i64 x.op) (.int .i64 x.n) (.string x.s) (.slice qna qnn qnc) (.slice qla qln qlc) b (HNZ.out b hb))).mono (Q := fun b => P b ∨ Q b ∨ (w.heap.size ≤ b ∧ b < (store5 w3 (w.heap.size + 1 + 1) 0 (.int .i64 x.op) (.int .i64 x.n) (.string x.s) (.slice qna qnn qnc) (.slice qla qln qlc)).heap.size)) (fun b hb => by
                have h1 := HB1.out.size
                have h2 := HB23.out.size
                rcases hb with hb | hb | hb
                · exact .inl hb
                · exact .inr (.inl hb)
                · exact .inr (.inr ⟨by omega, by rw [HESZ]; omega⟩))
              clear HESZ
              unfold store5 at HEND HENB HENV
              simp only [Nat.zero_add] at HEND HENB HENV
              obtain ⟨k0, k1, k2, k3, k4⟩ := box_cells (by simpa [put5] using HENB)
              refine bodyPost_ret (v := .tuple #[.agg #[.int .i64 x.op, .int .i64 x.n, .string x.s, .slice qna qnn qnc, .slice qla qln qlc], .int .i64 0]) (by simp [results, Try.results26, go_sem, k0, k1, k2, k3, k4]) rfl ?_
              exact ⟨.inr ⟨by rw [hrc, HRC.out]; simp, x, _, HPUE.out, rfl, HENV⟩, HEND⟩
      · have hcc : cx = ct := by simpa using hb1
        subst hcc
        clear hb1
        refine wp_act wx.drew ?_
        apply Exists.intro
        refine ⟨?_, ?_⟩
        · refine wp_region_any (by kernel_rfl) ?_
          change wpAny _ _ _ _ _ _ _ (World.drew _)
          refine wpAny_ready (rs := [0, 3]) (by kernel_rfl) (by simp) ?_
          refine AllReady.cons rfl (fun K hK => ?_) (AllReady.cons rfl (fun K hK => ?_) AllReady.nil)
          · go_simp
            refine hK _ _ ?_
            clear hK K
            refine wpAny_ready (rs := [1, 3]) (by kernel_rfl) (by simp) ?_
            refine AllReady.cons rfl (fun K hK => ?_) (AllReady.cons rfl (fun K hK => ?_) AllReady.nil)
            · go_simp
              refine hK _ _ ?_
              clear hK K
              refine wpAny_ready (rs := [2, 3]) (by kernel_rfl) (by simp) ?_
              refine AllReady.cons rfl (fun K hK => ?_) (AllReady.cons rfl (fun K hK => ?_) AllReady.nil)
              · go_simp
                go_wp2_with fail
                refine (HC4.out _).mono ?_
                rintro e wn ⟨rfl, rfl⟩
                refine hK _ _ ?_
                clear hK K
                refine wpAny_ready (rs := [3]) (by kernel_rfl) (by simp) ?_
                refine AllReady.cons rfl (fun K hK => ?_) AllReady.nil
                go_simp
                refine hK _ _ ?_
                clear hK K
                refine wpAny_ready (rs := [4]) (by kernel_rfl) (by simp) ?_
                refine AllReady.cons rfl (fun K hK => ?_) AllReady.nil
                go_simp
                refine hK _ _ ?_
                clear hK K
                refine wpAny_ready (rs := [5]) (by kernel_rfl) (by simp) ?_
                refine AllReady.cons rfl (fun K hK => ?_) AllReady.nil
                go_simp
                go_wp2_with fail
                refine (HC5.out _).mono ?_
                rintro e wn ⟨rfl, rfl⟩
                refine hK _ _ ?_
                clear hK K
                refine wpAny_ready (rs := [6]) (by kernel_rfl) (by simp) ?_
                refine AllReady.cons rfl (fun K hK => ?_) AllReady.nil
                go_simp
                refine hK _ _ ?_
                clear hK K
                refine wpAny_ready (rs := [7]) (by kernel_rfl) (by simp) ?_
                refine AllReady.cons rfl (fun K hK => ?_) AllReady.nil
                go_simp
                refine hK _ _ ?_
                clear hK K
                refine wpAny_ready (rs := [8]) (by kernel_rfl) (by simp) ?_
                refine AllReady.cons rfl (fun K hK => ?_) AllReady.nil
                go_simp
                refine hK _ _ ?_
                clear hK K
                refine wpAny_ready (rs := [9]) (by kernel_rfl) (by simp) ?_
                refine AllReady.cons rfl (fun K hK => ?_) AllReady.nil
                go_simp
                refine hK _ _ ?_
                clear hK K
                refine wpAny_ready (rs := [10]) (by kernel_rfl) (by simp) ?_
                refine AllReady.cons rfl (fun K hK => ?_) AllReady.nil
                go_simp
                refine hK _ _ ?_
                clear hK K
                refine wpAny_ready (rs := [11]) (by kernel_rfl) (by simp) ?_
                refine AllReady.cons rfl (fun K hK => ?_) AllReady.nil
                go_simp
                refine hK _ _ ?_
                clear hK K
                refine wpAny_ready (rs := [12]) (by kernel_rfl) (by simp) ?_
                refine AllReady.cons rfl (fun K hK => ?_) AllReady.nil
                go_simp
                refine hK _ _ ?_
                clear hK K
                refine wpAny_ready (rs := [13]) (by kernel_rfl) (by simp) ?_
                refine AllReady.cons rfl (fun K hK => ?_) AllReady.nil
                go_simp
                refine hK _ _ ?_
                clear hK K
                refine wpAny_ready (rs := [14]) (by kernel_rfl) (by simp) ?_
                refine AllReady.cons rfl (fun K hK => ?_) AllReady.nil
                go_simp
                refine hK _ _ ?_
                clear hK K
                refine wpAny_ready (rs := [15]) (by kernel_rfl) (by simp) ?_
                refine AllReady.cons rfl (fun K hK => ?_) AllReady.nil
                go_simp
                refine hK _ _ ?_
                clear hK K
                refine wpAny_ready (rs := [16]) (by kernel_rfl) (by simp) ?_
                refine AllReady.cons rfl (fun K hK => ?_) AllReady.nil
                go_simp
                refine hK _ _ ?_
                clear hK K
                refine wpAny_ready (rs := [17]) (by kernel_rfl) (by simp) ?_
                refine AllReady.cons rfl (fun K hK => ?_) AllReady.nil
                go_simp
                refine hK _ _ ?_
                clear hK K
                refine wpAny_done (by kernel_rfl) ?_ _
                exact ⟨rfl, rfl, rfl⟩
              · go_simp
                refine hK _ _ ?_
                clear hK K
                refine wpAny_ready (rs := [2, 4]) (by kernel_rfl) (by simp) ?_
                refine AllReady.cons rfl (fun K hK => ?_) (AllReady.cons rfl (fun K hK => ?_) AllReady.nil)
                · go_simp
                  go_wp2_with fail
                  refine (HC4.out _).mono ?_
                  rintro e wn ⟨rfl, rfl⟩
                  refine hK _ _ ?_
                  clear hK K
                  refine wpAny_ready (rs := [4]) (by kernel_rfl) (by simp) ?_
                  refine AllReady.cons rfl (fun K hK => ?_) AllReady.nil
                  go_simp
                  refine hK _ _ ?_
                  clear hK K
                  refine wpAny_ready (rs := [5]) (by kernel_rfl) (by simp) ?_
                  refine AllReady.cons rfl (fun K hK => ?_) AllReady.nil
                  go_simp
                  go_wp2_with fail
                  refine (HC5.out _).mono ?_
                  rintro e wn ⟨rfl, rfl⟩
                  refine hK _ _ ?_
                  clear hK K
                  refine wpAny_ready (rs := [6]) (by kernel_rfl) (by simp) ?_
                  refine AllReady.cons rfl (fun K hK => ?_) AllReady.nil
                  go_simp
                  refine hK _ _ ?_
                  clear hK K
                  refine wpAny_ready (rs := [7]) (by kernel_rfl) (by simp) ?_
                  refine AllReady.cons rfl (fun K hK => ?_) AllReady.nil
                  go_simp
                  refine hK _ _ ?_
                  clear hK K
                  refine wpAny_ready (rs := [8]) (by kernel_rfl) (by simp) ?_
                  refine AllReady.cons rfl (fun K hK => ?_) AllReady.nil
                  go_simp
                  refine hK _ _ ?_
                  clear hK K
                  refine wpAny_ready (rs := [9]) (by kernel_rfl) (by simp) ?_
                  refine AllReady.cons rfl (fun K hK => ?_) AllReady.nil
                  go_simp
                  refine hK _ _ ?_
                  clear hK K
                  refine wpAny_ready (rs := [10]) (by kernel_rfl) (by simp) ?_
                  refine AllReady.cons rfl (fun K hK => ?_) AllReady.nil
                  go_simp
                  refine hK _ _ ?_
                  clear hK K
                  refine wpAny_ready (rs := [11]) (by kernel_rfl) (by simp) ?_
                  refine AllReady.cons rfl (fun K hK => ?_) AllReady.nil
                  go_simp
                  refine hK _ _ ?_
                  clear hK K
                  refine wpAny_ready (rs := [12]) (by kernel_rfl) (by simp) ?_
                  refine AllReady.cons rfl (fun K hK => ?_) AllReady.nil
                  go_simp
                  refine hK _ _ ?_
                  clear hK K
                  refine wpAny_ready (rs := [13]) (by kernel_rfl) (by simp) ?_
                  refine AllReady.cons rfl (fun K hK => ?_) AllReady.nil
                  go_simp
                  refine hK _ _ ?_
                  clear hK K
                  refine wpAny_ready (rs := [14]) (by kernel_rfl) (by simp) ?_
                  refine AllReady.cons rfl (fun K hK => ?_) AllReady.nil
                  go_simp
                  refine hK _ _ ?_
                  clear hK K
                  refine wpAny_ready (rs := [15]) (by kernel_rfl) (by simp) ?_
                  refine AllReady.cons rfl (fun K hK => ?_) AllReady.nil
                  go_simp
                  refine hK _ _ ?_
                  clear hK K
                  refine wpAny_ready (rs := [16]) (by kernel_rfl) (by simp) ?_
                  refine AllReady.cons rfl (fun K hK => ?_) AllReady.nil
                  go_simp
                  refine hK _ _ ?_
                  clear hK K
                  refine wpAny_ready (rs := [17]) (by kernel_rfl) (by simp) ?_
                  refine AllReady.cons rfl (fun K hK => ?_) AllReady.nil
                  go_simp
                  refine hK _ _ ?_
                  clear hK K
                  refine wpAny_done (by kernel_rfl) ?_ _
                  exact ⟨rfl, rfl, rfl⟩
                · go_simp
                  refine hK _ _ ?_
                  clear hK K
                  refine wpAny_ready (rs := [2]) (by kernel_rfl) (by simp) ?_
                  refine AllReady.cons rfl (fun K hK => ?_) AllReady.nil
                  go_simp
                  go_wp2_with fail
                  refine (HC4.out _).mono ?_
                  rintro e wn ⟨rfl, rfl⟩
                  refine hK _ _ ?_
                  clear hK K
                  refine wpAny_ready (rs := [5]) (by kernel_rfl) (by simp) ?_
                  refine AllReady.cons rfl (fun K hK => ?_) AllReady.nil
                  go_simp
                  go_wp2_with fail
                  refine (HC5.out _).mono ?_
                  rintro e wn ⟨rfl, rfl⟩
                  refine hK _ _ ?_
                  clear hK K
                  refine wpAny_ready (rs := [6]) (by kernel_rfl) (by simp) ?_
                  refine AllReady.cons rfl (fun K hK => ?_) AllReady.nil
                  go_simp
                  refine hK _ _ ?_
                  clear hK K
                  refine wpAny_ready (rs := [7]) (by kernel_rfl) (by simp) ?_
                  refine AllReady.cons rfl (fun K hK => ?_) AllReady.nil
                  go_simp
                  refine hK _ _ ?_
                  clear hK K
                  refine wpAny_ready (rs := [8]) (by kernel_rfl) (by simp) ?_
                  refine AllReady.cons rfl (fun K hK => ?_) AllReady.nil
                  go_simp
                  refine hK _ _ ?_
                  clear hK K
                  refine wpAny_ready (rs := [9]) (by kernel_rfl) (by simp) ?_
                  refine AllReady.cons rfl (fun K hK => ?_) AllReady.nil
                  go_simp
                  refine hK _ _ ?_
                  clear hK K
                  refine wpAny_ready (rs := [10]) (by kernel_rfl) (by simp) ?_
                  refine AllReady.cons rfl (fun K hK => ?_) AllReady.nil
                  go_simp
                  refine hK _ _ ?_
                  clear hK K
                  refine wpAny_ready (rs := [11]) (by kernel_rfl) (by simp) ?_
                  refine AllReady.cons rfl (fun K hK => ?_) AllReady.nil
                  go_simp
                  refine hK _ _ ?_
                  clear hK K
                  refine wpAny_ready (rs := [12]) (by kernel_rfl) (by simp) ?_
                  refine AllReady.cons rfl (fun K hK => ?_) AllReady.nil
                  go_simp
                  refine hK _ _ ?_
                  clear hK K
                  refine wpAny_ready (rs := [13]) (by kernel_rfl) (by simp) ?_
                  refine AllReady.cons rfl (fun K hK => ?_) AllReady.nil
                  go_simp
                  refine hK _ _ ?_
                  clear hK K
                  refine wpAny_ready (rs := [14]) (by kernel_rfl) (by simp) ?_
                  refine AllReady.cons rfl (fun K hK => ?_) AllReady.nil
                  go_simp
                  refine hK _ _ ?_
                  clear hK K
                  refine wpAny_ready (rs := [15]) (by kernel_rfl) (by simp) ?_
                  refine AllReady.cons rfl (fun K hK => ?_) AllReady.nil
                  go_simp
                  refine hK _ _ ?_
                  clear hK K
                  refine wpAny_ready (rs := [16]) (by kernel_rfl) (by simp) ?_
                  refine AllReady.cons rfl (fun K hK => ?_) AllReady.nil
                  go_simp
                  refine hK _ _ ?_
                  clear hK K
                  refine wpAny_ready (rs := [17]) (by kernel_rfl) (by simp) ?_
                  refine AllReady.cons rfl (fun K hK => ?_) AllReady.nil
                  go_simp
                  refine hK _ _ ?_
                  clear hK K
                  refine wpAny_done (by kernel_rfl) ?_ _
                  exact ⟨rfl, rfl, rfl⟩
            · go_simp
              refine hK _ _ ?_
              clear hK K
              refine wpAny_ready (rs := [1, 4]) (by kernel_rfl) (by simp) ?_
              refine AllReady.cons rfl (fun K hK => ?_) (AllReady.cons rfl (fun K hK => ?_) AllReady.nil)
              · go_simp
                refine hK _ _ ?_
                clear hK K
                refine wpAny_ready (rs := [2, 4]) (by kernel_rfl) (by simp) ?_
                refine AllReady.cons rfl (fun K hK => ?_) (AllReady.cons rfl (fun K hK => ?_) AllReady.nil)
                · go_simp
                  go_wp2_with fail
                  refine (HC4.out _).mono ?_
                  rintro e wn ⟨rfl, rfl⟩
                  refine hK _ _ ?_
                  clear hK K
                  refine wpAny_ready (rs := [4]) (by kernel_rfl) (by simp) ?_
                  refine AllReady.cons rfl (fun K hK => ?_) AllReady.nil
                  go_simp
                  refine hK _ _ ?_
                  clear hK K
                  refine wpAny_ready (rs := [5]) (by kernel_rfl) (by simp) ?_
                  refine AllReady.cons rfl (fun K hK => ?_) AllReady.nil
                  go_simp
                  go_wp2_with fail
                  refine (HC5.out _).mono ?_
                  rintro e wn ⟨rfl, rfl⟩
                  refine hK _ _ ?_
                  clear hK K
                  refine wpAny_ready (rs := [6]) (by kernel_rfl) (by simp) ?_
                  refine AllReady.cons rfl (fun K hK => ?_) AllReady.nil
                  go_simp
                  refine hK _ _ ?_
                  clear hK K
                  refine wpAny_ready (rs := [7]) (by kernel_rfl) (by simp) ?_
                  refine AllReady.cons rfl (fun K hK => ?_) AllReady.nil
                  go_simp
                  refine hK _ _ ?_
                  clear hK K
                  refine wpAny_ready (rs := [8]) (by kernel_rfl) (by simp) ?_
                  refine AllReady.cons rfl (fun K hK => ?_) AllReady.nil
                  go_simp
                  refine hK _ _ ?_
                  clear hK K
                  refine wpAny_ready (rs := [9]) (by kernel_rfl) (by simp) ?_
                  refine AllReady.cons rfl (fun K hK => ?_) AllReady.nil
                  go_simp
                  refine hK _ _ ?_
                  clear hK K
                  refine wpAny_ready (rs := [10]) (by kernel_rfl) (by simp) ?_
                  refine AllReady.cons rfl (fun K hK => ?_) AllReady.nil
                  go_simp
                  refine hK _ _ ?_
                  clear hK K
                  refine wpAny_ready (rs := [11]) (by kernel_rfl) (by simp) ?_
                  refine AllReady.cons rfl (fun K hK => ?_) AllReady.nil
                  go_simp
                  refine hK _ _ ?_
                  clear hK K
                  refine wpAny_ready (rs := [12]) (by kernel_rfl) (by simp) ?_
                  refine AllReady.cons rfl (fun K hK => ?_) AllReady.nil
                  go_simp
                  refine hK _ _ ?_
                  clear hK K
                  refine wpAny_ready (rs := [13]) (by kernel_rfl) (by simp) ?_
                  refine AllReady.cons rfl (fun K hK => ?_) AllReady.nil
                  go_simp
                  refine hK _ _ ?_
                  clear hK K
                  refine wpAny_ready (rs := [14]) (by kernel_rfl) (by simp) ?_
                  refine AllReady.cons rfl (fun K hK => ?_) AllReady.nil
                  go_simp
                  refine hK _ _ ?_
                  clear hK K
                  refine wpAny_ready (rs := [15]) (by kernel_rfl) (by simp) ?_
                  refine AllReady.cons rfl (fun K hK => ?_) AllReady.nil
                  go_simp
                  refine hK _ _ ?_
                  clear hK K
                  refine wpAny_ready (rs := [16]) (by kernel_rfl) (by simp) ?_
                  refine AllReady.cons rfl (fun K hK => ?_) AllReady.nil
                  go_simp
                  refine hK _ _ ?_
                  clear hK K
                  refine wpAny_ready (rs := [17]) (by kernel_rfl) (by simp) ?_
                  refine AllReady.cons rfl (fun K hK => ?_) AllReady.nil
                  go_simp
                  refine hK _ _ ?_
                  clear hK K
                  refine wpAny_done (by kernel_rfl) ?_ _
                  exact ⟨rfl, rfl, rfl⟩
                · go_simp
                  refine hK _ _ ?_
                  clear hK K
                  refine wpAny_ready (rs := [2]) (by kernel_rfl) (by simp) ?_
                  refine AllReady.cons rfl (fun K hK => ?_) AllReady.nil
                  go_simp
                  go_wp2_with fail
                  refine (HC4.out _).mono ?_
                  rintro e wn ⟨rfl, rfl⟩
                  refine hK _ _ ?_
                  clear hK K
                  refine wpAny_ready (rs := [5]) (by kernel_rfl) (by simp) ?_
                  refine AllReady.cons rfl (fun K hK => ?_) AllReady.nil
                  go_simp
                  go_wp2_with fail
                  refine (HC5.out _).mono ?_
                  rintro e wn ⟨rfl, rfl⟩
                  refine hK _ _ ?_
                  clear hK K
                  refine wpAny_ready (rs := [6]) (by kernel_rfl) (by simp) ?_
                  refine AllReady.cons rfl (fun K hK => ?_) AllReady.nil
                  go_simp
                  refine hK _ _ ?_
                  clear hK K
                  refine wpAny_ready (rs := [7]) (by kernel_rfl) (by simp) ?_
                  refine AllReady.cons rfl (fun K hK => ?_) AllReady.nil
                  go_simp
                  refine hK _ _ ?_
                  clear hK K
                  refine wpAny_ready (rs := [8]) (by kernel_rfl) (by simp) ?_
                  refine AllReady.cons rfl (fun K hK => ?_) AllReady.nil
                  go_simp
                  refine hK _ _ ?_
                  clear hK K
                  refine wpAny_ready (rs := [9]) (by kernel_rfl) (by simp) ?_
                  refine AllReady.cons rfl (fun K hK => ?_) AllReady.nil
                  go_simp
                  refine hK _ _ ?_
                  clear hK K
                  refine wpAny_ready (rs := [10]) (by kernel_rfl) (by simp) ?_
                  refine AllReady.cons rfl (fun K hK => ?_) AllReady.nil
                  go_simp
                  refine hK _ _ ?_
                  clear hK K
                  refine wpAny_ready (rs := [11]) (by kernel_rfl) (by simp) ?_
                  refine AllReady.cons rfl (fun K hK => ?_) AllReady.nil
                  go_simp
                  refine hK _ _ ?_
                  clear hK K
                  refine wpAny_ready (rs := [12]) (by kernel_rfl) (by simp) ?_
                  refine AllReady.cons rfl (fun K hK => ?_) AllReady.nil
                  go_simp
                  refine hK _ _ ?_
                  clear hK K
                  refine wpAny_ready (rs := [13]) (by kernel_rfl) (by simp) ?_
                  refine AllReady.cons rfl (fun K hK => ?_) AllReady.nil
                  go_simp
                  refine hK _ _ ?_
                  clear hK K
                  refine wpAny_ready (rs := [14]) (by kernel_rfl) (by simp) ?_
                  refine AllReady.cons rfl (fun K hK => ?_) AllReady.nil
                  go_simp
                  refine hK _ _ ?_
                  clear hK K
                  refine wpAny_ready (rs := [15]) (by kernel_rfl) (by simp) ?_
                  refine AllReady.cons rfl (fun K hK => ?_) AllReady.nil
                  go_simp
                  refine hK _ _ ?_
                  clear hK K
                  refine wpAny_ready (rs := [16]) (by kernel_rfl) (by simp) ?_
                  refine AllReady.cons rfl (fun K hK => ?_) AllReady.nil
                  go_simp
                  refine hK _ _ ?_
                  clear hK K
                  refine wpAny_ready (rs := [17]) (by kernel_rfl) (by simp) ?_
                  refine AllReady.cons rfl (fun K hK => ?_) AllReady.nil
                  go_simp
                  refine hK _ _ ?_
                  clear hK K
                  refine wpAny_done (by kernel_rfl) ?_ _
                  exact ⟨rfl, rfl, rfl⟩
              · go_simp
                refine hK _ _ ?_
                clear hK K
                refine wpAny_ready (rs := [1]) (by kernel_rfl) (by simp) ?_
                refine AllReady.cons rfl (fun K hK => ?_) AllReady.nil
                go_simp
                refine hK _ _ ?_
                clear hK K
                refine wpAny_ready (rs := [2]) (by kernel_rfl) (by simp) ?_
                refine AllReady.cons rfl (fun K hK => ?_) AllReady.nil
                go_simp
                go_wp2_with fail
                refine (HC4.out _).mono ?_
                rintro e wn ⟨rfl, rfl⟩
                refine hK _ _ ?_
                clear hK K
                refine wpAny_ready (rs := [5]) (by kernel_rfl) (by simp) ?_
                refine AllReady.cons rfl (fun K hK => ?_) AllReady.nil
                go_simp
                go_wp2_with fail
                refine (HC5.out _).mono ?_
                rintro e wn ⟨rfl, rfl⟩
                refine hK _ _ ?_
                clear hK K
                refine wpAny_ready (rs := [6]) (by kernel_rfl) (by simp) ?_
                refine AllReady.cons rfl (fun K hK => ?_) AllReady.nil
                go_simp
                refine hK _ _ ?_
                clear hK K
                refine wpAny_ready (rs := [7]) (by kernel_rfl) (by simp) ?_
                refine AllReady.cons rfl (fun K hK => ?_) AllReady.nil
                go_simp
                refine hK _ _ ?_
                clear hK K
                refine wpAny_ready (rs := [8]) (by kernel_rfl) (by simp) ?_
                refine AllReady.cons rfl (fun K hK => ?_) AllReady.nil
                go_simp
                refine hK _ _ ?_
                clear hK K
                refine wpAny_ready (rs := [9]) (by kernel_rfl) (by simp) ?_
                refine AllReady.cons rfl (fun K hK => ?_) AllReady.nil
                go_simp
                refine hK _ _ ?_
                clear hK K
                refine wpAny_ready (rs := [10]) (by kernel_rfl) (by simp) ?_
                refine AllReady.cons rfl (fun K hK => ?_) AllReady.nil
                go_simp
                refine hK _ _ ?_
                clear hK K
                refine wpAny_ready (rs := [11]) (by kernel_rfl) (by simp) ?_
                refine AllReady.cons rfl (fun K hK => ?_) AllReady.nil
                go_simp
                refine hK _ _ ?_
                clear hK K
                refine wpAny_ready (rs := [12]) (by kernel_rfl) (by simp) ?_
                refine AllReady.cons rfl (fun K hK => ?_) AllReady.nil
                go_simp
                refine hK _ _ ?_
                clear hK K
                refine wpAny_ready (rs := [13]) (by kernel_rfl) (by simp) ?_
                refine AllReady.cons rfl (fun K hK => ?_) AllReady.nil
                go_simp
                refine hK _ _ ?_
                clear hK K
                refine wpAny_ready (rs := [14]) (by kernel_rfl) (by simp) ?_
                refine AllReady.cons rfl (fun K hK => ?_) AllReady.nil
                go_simp
                refine hK _ _ ?_
                clear hK K
                refine wpAny_ready (rs := [15]) (by kernel_rfl) (by simp) ?_
                refine AllReady.cons rfl (fun K hK => ?_) AllReady.nil
                go_simp
                refine hK _ _ ?_
                clear hK K
                refine wpAny_ready (rs := [16]) (by kernel_rfl) (by simp) ?_
                refine AllReady.cons rfl (fun K hK => ?_) AllReady.nil
                go_simp
                refine hK _ _ ?_
                clear hK K
                refine wpAny_ready (rs := [17]) (by kernel_rfl) (by simp) ?_
                refine AllReady.cons rfl (fun K hK => ?_) AllReady.nil
                go_simp
                refine hK _ _ ?_
                clear hK K
                refine wpAny_done (by kernel_rfl) ?_ _
                exact ⟨rfl, rfl, rfl⟩
          · go_simp
            refine hK _ _ ?_
            clear hK K
            refine wpAny_ready (rs := [0, 4]) (by kernel_rfl) (by simp) ?_
            refine AllReady.cons rfl (fun K hK => ?_) (AllReady.cons rfl (fun K hK => ?_) AllReady.nil)
            · go_simp
              refine hK _ _ ?_
              clear hK K
              refine wpAny_ready (rs := [1, 4]) (by kernel_rfl) (by simp) ?_
              refine AllReady.cons rfl (fun K hK => ?_) (AllReady.cons rfl (fun K hK => ?_) AllReady.nil)
              · go_simp
                refine hK _ _ ?_
                clear hK K
                refine wpAny_ready (rs := [2, 4]) (by kernel_rfl) (by simp) ?_
                refine AllReady.cons rfl (fun K hK => ?_) (AllReady.cons rfl (fun K hK => ?_) AllReady.nil)
                · go_simp
                  go_wp2_with fail
                  refine (HC4.out _).mono ?_
                  rintro e wn ⟨rfl, rfl⟩
                  refine hK _ _ ?_
                  clear hK K
                  refine wpAny_ready (rs := [4]) (by kernel_rfl) (by simp) ?_
                  refine AllReady.cons rfl (fun K hK => ?_) AllReady.nil
                  go_simp
                  refine hK _ _ ?_
                  clear hK K
                  refine wpAny_ready (rs := [5]) (by kernel_rfl) (by simp) ?_
                  refine AllReady.cons rfl (fun K hK => ?_) AllReady.nil
                  go_simp
                  go_wp2_with fail
                  refine (HC5.out _).mono ?_
                  rintro e wn ⟨rfl, rfl⟩
                  refine hK _ _ ?_
                  clear hK K
                  refine wpAny_ready (rs := [6]) (by kernel_rfl) (by simp) ?_
                  refine AllReady.cons rfl (fun K hK => ?_) AllReady.nil
                  go_simp
                  refine hK _ _ ?_
                  clear hK K
                  refine wpAny_ready (rs := [7]) (by kernel_rfl) (by simp) ?_
                  refine AllReady.cons rfl (fun K hK => ?_) AllReady.nil
                  go_simp
                  refine hK _ _ ?_
                  clear hK K
                  refine wpAny_ready (rs := [8]) (by kernel_rfl) (by simp) ?_
                  refine AllReady.cons rfl (fun K hK => ?_) AllReady.nil
                  go_simp
                  refine hK _ _ ?_
                  clear hK K
                  refine wpAny_ready (rs := [9]) (by kernel_rfl) (by simp) ?_
                  refine AllReady.cons rfl (fun K hK => ?_) AllReady.nil
                  go_simp
                  refine hK _ _ ?_
                  clear hK K
                  refine wpAny_ready (rs := [10]) (by kernel_rfl) (by simp) ?_
                  refine AllReady.cons rfl (fun K hK => ?_) AllReady.nil
                  go_simp
                  refine hK _ _ ?_
                  clear hK K
                  refine wpAny_ready (rs := [11]) (by kernel_rfl) (by simp) ?_
                  refine AllReady.cons rfl (fun K hK => ?_) AllReady.nil
                  go_simp
                  refine hK _ _ ?_
                  clear hK K
                  refine wpAny_ready (rs := [12]) (by kernel_rfl) (by simp) ?_
                  refine AllReady.cons rfl (fun K hK => ?_) AllReady.nil
                  go_simp
                  refine hK _ _ ?_
                  clear hK K
                  refine wpAny_ready (rs := [13]) (by kernel_rfl) (by simp) ?_
                  refine AllReady.cons rfl (fun K hK => ?_) AllReady.nil
                  go_simp
                  refine hK _ _ ?_
                  clear hK K
                  refine wpAny_ready (rs := [14]) (by kernel_rfl) (by simp) ?_
                  refine AllReady.cons rfl (fun K hK => ?_) AllReady.nil
                  go_simp
                  refine hK _ _ ?_
                  clear hK K
                  refine wpAny_ready (rs := [15]) (by kernel_rfl) (by simp) ?_
                  refine AllReady.cons rfl (fun K hK => ?_) AllReady.nil
                  go_simp
                  refine hK _ _ ?_
                  clear hK K
                  refine wpAny_ready (rs := [16]) (by kernel_rfl) (by simp) ?_
                  refine AllReady.cons rfl (fun K hK => ?_) AllReady.nil
                  go_simp
                  refine hK _ _ ?_
                  clear hK K
                  refine wpAny_ready (rs := [17]) (by kernel_rfl) (by simp) ?_
                  refine AllReady.cons rfl (fun K hK => ?_) AllReady.nil
                  go_simp
                  refine hK _ _ ?_
                  clear hK K
                  refine wpAny_done (by kernel_rfl) ?_ _
                  exact ⟨rfl, rfl, rfl⟩
                · go_simp
                  refine hK _ _ ?_
                  clear hK K
                  refine wpAny_ready (rs := [2]) (by kernel_rfl) (by simp) ?_
                  refine AllReady.cons rfl (fun K hK => ?_) AllReady.nil
                  go_simp
                  go_wp2_with fail
                  refine (HC4.out _).mono ?_
                  rintro e wn ⟨rfl, rfl⟩
                  refine hK _ _ ?_
                  clear hK K
                  refine wpAny_ready (rs := [5]) (by kernel_rfl) (by simp) ?_
                  refine AllReady.cons rfl (fun K hK => ?_) AllReady.nil
                  go_simp
                  go_wp2_with fail
                  refine (HC5.out _).mono ?_
                  rintro e wn ⟨rfl, rfl⟩
                  refine hK _ _ ?_
                  clear hK K
                  refine wpAny_ready (rs := [6]) (by kernel_rfl) (by simp) ?_
                  refine AllReady.cons rfl (fun K hK => ?_) AllReady.nil
                  go_simp
                  refine hK _ _ ?_
                  clear hK K
                  refine wpAny_ready (rs := [7]) (by kernel_rfl) (by simp) ?_
                  refine AllReady.cons rfl (fun K hK => ?_) AllReady.nil
                  go_simp
                  refine hK _ _ ?_
                  clear hK K
                  refine wpAny_ready (rs := [8]) (by kernel_rfl) (by simp) ?_
                  refine AllReady.cons rfl (fun K hK => ?_) AllReady.nil
                  go_simp
                  refine hK _ _ ?_
                  clear hK K
                  refine wpAny_ready (rs := [9]) (by kernel_rfl) (by simp) ?_
                  refine AllReady.cons rfl (fun K hK => ?_) AllReady.nil
                  go_simp
                  refine hK _ _ ?_
                  clear hK K
                  refine wpAny_ready (rs := [10]) (by kernel_rfl) (by simp) ?_
                  refine AllReady.cons rfl (fun K hK => ?_) AllReady.nil
                  go_simp
                  refine hK _ _ ?_
                  clear hK K
                  refine wpAny_ready (rs := [11]) (by kernel_rfl) (by simp) ?_
                  refine AllReady.cons rfl (fun K hK => ?_) AllReady.nil
                  go_simp
                  refine hK _ _ ?_
                  clear hK K
                  refine wpAny_ready (rs := [12]) (by kernel_rfl) (by simp) ?_
                  refine AllReady.cons rfl (fun K hK => ?_) AllReady.nil
                  go_simp
                  refine hK _ _ ?_
                  clear hK K
                  refine wpAny_ready (rs := [13]) (by kernel_rfl) (by simp) ?_
                  refine AllReady.cons rfl (fun K hK => ?_) AllReady.nil
                  go_simp
                  refine hK _ _ ?_
                  clear hK K
                  refine wpAny_ready (rs := [14]) (by kernel_rfl) (by simp) ?_
                  refine AllReady.cons rfl (fun K hK => ?_) AllReady.nil
                  go_simp
                  refine hK _ _ ?_
                  clear hK K
                  refine wpAny_ready (rs := [15]) (by kernel_rfl) (by simp) ?_
                  refine AllReady.cons rfl (fun K hK => ?_) AllReady.nil
                  go_simp
                  refine hK _ _ ?_
                  clear hK K
                  refine wpAny_ready (rs := [16]) (by kernel_rfl) (by simp) ?_
                  refine AllReady.cons rfl (fun K hK => ?_) AllReady.nil
                  go_simp
                  refine hK _ _ ?_
                  clear hK K
                  refine wpAny_ready (rs := [17]) (by kernel_rfl) (by simp) ?_
                  refine AllReady.cons rfl (fun K hK => ?_) AllReady.nil
                  go_simp
                  refine hK _ _ ?_
                  clear hK K
                  refine wpAny_done (by kernel_rfl) ?_ _
                  exact ⟨rfl, rfl, rfl⟩
              · go_simp
                refine hK _ _ ?_
                clear hK K
                refine wpAny_ready (rs := [1]) (by kernel_rfl) (by simp) ?_
                refine AllReady.cons rfl (fun K hK => ?_) AllReady.nil
                go_simp
                refine hK _ _ ?_
                clear hK K
                refine wpAny_ready (rs := [2]) (by kernel_rfl) (by simp) ?_
                refine AllReady.cons rfl (fun K hK => ?_) AllReady.nil
                go_simp
                go_wp2_with fail
                refine (HC4.out _).mono ?_
                rintro e wn ⟨rfl, rfl⟩
                refine hK _ _ ?_
                clear hK K
                refine wpAny_ready (rs := [5]) (by kernel_rfl) (by simp) ?_
                refine AllReady.cons rfl (fun K hK => ?_) AllReady.nil
                go_simp
                go_wp2_with fail
                refine (HC5.out _).mono ?_
                rintro e wn ⟨rfl, rfl⟩
                refine hK _ _ ?_
                clear hK K
                refine wpAny_ready (rs := [6]) (by kernel_rfl) (by simp) ?_
                refine AllReady.cons rfl (fun K hK => ?_) AllReady.nil
                go_simp
                refine hK _ _ ?_
                clear hK K
                refine wpAny_ready (rs := [7]) (by kernel_rfl) (by simp) ?_
                refine AllReady.cons rfl (fun K hK => ?_) AllReady.nil
                go_simp
                refine hK _ _ ?_
                clear hK K
                refine wpAny_ready (rs := [8]) (by kernel_rfl) (by simp) ?_
                refine AllReady.cons rfl (fun K hK => ?_) AllReady.nil
                go_simp
                refine hK _ _ ?_
                clear hK K
                refine wpAny_ready (rs := [9]) (by kernel_rfl) (by simp) ?_
                refine AllReady.cons rfl (fun K hK => ?_) AllReady.nil
                go_simp
                refine hK _ _ ?_
                clear hK K
                refine wpAny_ready (rs := [10]) (by kernel_rfl) (by simp) ?_
                refine AllReady.cons rfl (fun K hK => ?_) AllReady.nil
                go_simp
                refine hK _ _ ?_
                clear hK K
                refine wpAny_ready (rs := [11]) (by kernel_rfl) (by simp) ?_
                refine AllReady.cons rfl (fun K hK => ?_) AllReady.nil
                go_simp
                refine hK _ _ ?_
                clear hK K
                refine wpAny_ready (rs := [12]) (by kernel_rfl) (by simp) ?_
                refine AllReady.cons rfl (fun K hK => ?_) AllReady.nil
                go_simp
                refine hK _ _ ?_
                clear hK K
                refine wpAny_ready (rs := [13]) (by kernel_rfl) (by simp) ?_
                refine AllReady.cons rfl (fun K hK => ?_) AllReady.nil
                go_simp
                refine hK _ _ ?_
                clear hK K
                refine wpAny_ready (rs := [14]) (by kernel_rfl) (by simp) ?_
                refine AllReady.cons rfl (fun K hK => ?_) AllReady.nil
                go_simp
                refine hK _ _ ?_
                clear hK K
                refine wpAny_ready (rs := [15]) (by kernel_rfl) (by simp) ?_
                refine AllReady.cons rfl (fun K hK => ?_) AllReady.nil
                go_simp
                refine hK _ _ ?_
                clear hK K
                refine wpAny_ready (rs := [16]) (by kernel_rfl) (by simp) ?_
                refine AllReady.cons rfl (fun K hK => ?_) AllReady.nil
                go_simp
                refine hK _ _ ?_
                clear hK K
                refine wpAny_ready (rs := [17]) (by kernel_rfl) (by simp) ?_
                refine AllReady.cons rfl (fun K hK => ?_) AllReady.nil
                go_simp
                refine hK _ _ ?_
                clear hK K
                refine wpAny_done (by kernel_rfl) ?_ _
                exact ⟨rfl, rfl, rfl⟩
            · go_simp
              refine hK _ _ ?_
              clear hK K
              refine wpAny_ready (rs := [0]) (by kernel_rfl) (by simp) ?_
              refine AllReady.cons rfl (fun K hK => ?_) AllReady.nil
              go_simp
              refine hK _ _ ?_
              clear hK K
              refine wpAny_ready (rs := [1]) (by kernel_rfl) (by simp) ?_
              refine AllReady.cons rfl (fun K hK => ?_) AllReady.nil
              go_simp
              refine hK _ _ ?_
              clear hK K
              refine wpAny_ready (rs := [2]) (by kernel_rfl) (by simp) ?_
              refine AllReady.cons rfl (fun K hK => ?_) AllReady.nil
              go_simp
              go_wp2_with fail
              refine (HC4.out _).mono ?_
              rintro e wn ⟨rfl, rfl⟩
              refine hK _ _ ?_
              clear hK K
              refine wpAny_ready (rs := [5]) (by kernel_rfl) (by simp) ?_
              refine AllReady.cons rfl (fun K hK => ?_) AllReady.nil
              go_simp
              go_wp2_with fail
              refine (HC5.out _).mono ?_
              rintro e wn ⟨rfl, rfl⟩
              refine hK _ _ ?_
              clear hK K
              refine wpAny_ready (rs := [6]) (by kernel_rfl) (by simp) ?_
              refine AllReady.cons rfl (fun K hK => ?_) AllReady.nil
              go_simp
              refine hK _ _ ?_
              clear hK K
              refine wpAny_ready (rs := [7]) (by kernel_rfl) (by simp) ?_
              refine AllReady.cons rfl (fun K hK => ?_) AllReady.nil
              go_simp
              refine hK _ _ ?_
              clear hK K
              refine wpAny_ready (rs := [8]) (by kernel_rfl) (by simp) ?_
              refine AllReady.cons rfl (fun K hK => ?_) AllReady.nil
              go_simp
              refine hK _ _ ?_
              clear hK K
              refine wpAny_ready (rs := [9]) (by kernel_rfl) (by simp) ?_
              refine AllReady.cons rfl (fun K hK => ?_) AllReady.nil
              go_simp
              refine hK _ _ ?_
              clear hK K
              refine wpAny_ready (rs := [10]) (by kernel_rfl) (by simp) ?_
              refine AllReady.cons rfl (fun K hK => ?_) AllReady.nil
              go_simp
              refine hK _ _ ?_
              clear hK K
              refine wpAny_ready (rs := [11]) (by kernel_rfl) (by simp) ?_
              refine AllReady.cons rfl (fun K hK => ?_) AllReady.nil
              go_simp
              refine hK _ _ ?_
              clear hK K
              refine wpAny_ready (rs := [12]) (by kernel_rfl) (by simp) ?_
              refine AllReady.cons rfl (fun K hK => ?_) AllReady.nil
              go_simp
              refine hK _ _ ?_
              clear hK K
              refine wpAny_ready (rs := [13]) (by kernel_rfl) (by simp) ?_
              refine AllReady.cons rfl (fun K hK => ?_) AllReady.nil
              go_simp
              refine hK _ _ ?_
              clear hK K
              refine wpAny_ready (rs := [14]) (by kernel_rfl) (by simp) ?_
              refine AllReady.cons rfl (fun K hK => ?_) AllReady.nil
              go_simp
              refine hK _ _ ?_
              clear hK K
              refine wpAny_ready (rs := [15]) (by kernel_rfl) (by simp) ?_
              refine AllReady.cons rfl (fun K hK => ?_) AllReady.nil
              go_simp
              refine hK _ _ ?_
              clear hK K
              refine wpAny_ready (rs := [16]) (by kernel_rfl) (by simp) ?_
              refine AllReady.cons rfl (fun K hK => ?_) AllReady.nil
              go_simp
              refine hK _ _ ?_
              clear hK K
              refine wpAny_ready (rs := [17]) (by kernel_rfl) (by simp) ?_
              refine AllReady.cons rfl (fun K hK => ?_) AllReady.nil
              go_simp
              refine hK _ _ ?_
              clear hK K
              refine wpAny_done (by kernel_rfl) ?_ _
              exact ⟨rfl, rfl, rfl⟩
        have HBD := Lib.hid (show Below w2.heap.size w2 wx.drew from HBA.out.drew)
        have HXD := Lib.hid (show Blk wx.drew w2.heap.size 25 #[.int .i64 x.op, .int .i64 x.n, .string x.s, .slice qna qnn qnc, .slice qla qln qlc] from HXA.out)
        have HZD := Lib.hid (show Blk wx.drew (w.heap.size + 1 + 1) 25 #[.int .i64 0, .int .i64 0, .string ⟨#[]⟩, .slice none 0 0, .slice none 0 0] from HZA.out)
        clear x0 x1 x2 x3 x4 y0 y1 y2 y3 y4 HC4 HC5 HC6 HC7 HXA HTA HZA HBA
        generalize wx.drew = wd at HBD HXD HZD ⊢
        have HBW2 := Lib.hid (belowStep HBD.out HB2.out)
        obtain ⟨x0, x1, x2, x3, x4⟩ := box_cells HXD.out
        have HFC := Lib.hid (HFO.out _ HBD.out)
        generalize Pl.formed x = fo at *
        go_wp2_with fail
        refine HFC.out.mono ?_
        rintro e w3 ⟨rfl, hb3⟩
        have HB3 := Lib.hid (belowStep hb3 HBW2.out)
        have HB23 := Lib.hid (belowStep hb3 HBD.out)
        have HX3 := Lib.hid (Blk.of_eq HXD.out (hb3.block _ (Blk.lt HXD.out)))
        have HZ3 := Lib.hid (Blk.of_eq HZD.out (hb3.block _ (Blk.lt HZD.out)))
        clear hb3 x0 x1 x2 x3 x4
        obtain ⟨y0, y1, y2, y3, y4⟩ := box_cells HX3.out
        obtain ⟨z0, z1, z2, z3, z4⟩ := box_cells HZ3.out
        have t0 := HZ3.out.thaw 0
        have t1 := HZ3.out.thaw 1
        have t2 := HZ3.out.thaw 2
        have t3 := HZ3.out.thaw 3
        have t4 := HZ3.out.thaw 4
        have n1 : ¬ w2.heap.size = w.heap.size + 1 + 1 := by have := Blk.lt HZ2.out; omega
        have n2 : ¬ w.heap.size + 1 + 1 = w2.heap.size := by have := Blk.lt HZ2.out; omega
        cases fo
        · go_wp2
          have HEND := store5_below HB3.out (w.heap.size + 1 + 1) 0 (.int .i64 0) (.int .i64 0) (.string ⟨#[]⟩) (.slice none 0 0) (.slice none 0 0) (by omega)
          have HENB := store5_blk HZ3.out 0 (.int .i64 0) (.int .i64 0) (.string ⟨#[]⟩) (.slice none 0 0) (.slice none 0 0)
          unfold store5 at HEND HENB
          simp only [Nat.zero_add] at HEND HENB
          obtain ⟨k0, k1, k2, k3, k4⟩ := box_cells (by simpa [put5] using HENB)
          refine bodyPost_ret (v := .tuple #[zeroSyn, .int .i64 3]) (by simp [results, Try.results26, go_sem, k0, k1, k2, k3, k4, zeroSyn]; try rfl) rfl ?_
          exact ⟨.inl ⟨by rw [hrc, HRC.out]; simp, by rw [hrc, HRC.out]; simp⟩, HEND⟩
        · go_wp2
          have HEND := store5_below HB3.out (w.heap.size + 1 + 1) 0 (.int .i64 x.op) (.int .i64 x.n) (.string x.s) (.slice qna qnn qnc) (.slice qla qln qlc) (by omega)
          have HENB := store5_blk HZ3.out 0 (.int .i64 x.op) (.int .i64 x.n) (.string x.s) (.slice qna qnn qnc) (.slice qla qln qlc)
          have HESZ := store5_size w3 (w.heap.size + 1 + 1) 0 (.int .i64 x.op) (.int .i64 x.n) (.string x.s) (.slice qna qnn qnc) (.slice qla qln qlc)
          have HNZ := Lib.hid (fun b (hb : P b ∨ Q b ∨ (w1.heap.size ≤ b ∧ b < w2.heap.size)) => show b ≠ w.heap.size + 1 + 1 from by
            have h4 := Blk.lt HZ1.out
            rcases hb with hb | hb | hb
            · have := HP.out b hb; omega
            · have := HQ.out b hb; omega
            · omega)
          have HENV := ((HVX.out _ HB23.out).keep (w' := store5 w3 (w.heap.size + 1 + 1) 0 (.int .i64 x.op) (.int .i64 x.n) (.string x.s) (.slice qna qnn qnc) (.slice qla qln qlc)) (fun b hb => store5_other w3 (w.heap.size + 1 + 1) 0 (.int .i64 x.op) (.int .i64 x.n) (.string x.s) (.slice qna qnn qnc) (.slice qla qln qlc) b (HNZ.out b hb))).mono (Q := fun b => P b ∨ Q b ∨ (w.heap.size ≤ b ∧ b < (store5 w3 (w.heap.size + 1 + 1) 0 (.int .i64 x.op) (.int .i64 x.n) (.string x.s) (.slice qna qnn qnc) (.slice qla qln qlc)).heap.size)) (fun b hb => by
            have h1 := HB1.out.size
            have h2 := HB23.out.size
            rcases hb with hb | hb | hb
            · exact .inl hb
            · exact .inr (.inl hb)
            · exact .inr (.inr ⟨by omega, by rw [HESZ]; omega⟩))
          clear HESZ
          unfold store5 at HEND HENB HENV
          simp only [Nat.zero_add] at HEND HENB HENV
          obtain ⟨k0, k1, k2, k3, k4⟩ := box_cells (by simpa [put5] using HENB)
          refine bodyPost_ret (v := .tuple #[.agg #[.int .i64 x.op, .int .i64 x.n, .string x.s, .slice qna qnn qnc, .slice qla qln qlc], .int .i64 0]) (by simp [results, Try.results26, go_sem, k0, k1, k2, k3, k4]) rfl ?_
          exact ⟨.inr ⟨by rw [hrc, HRC.out]; simp, x, _, HPUE.out, rfl, HENV⟩, HEND⟩
end Go.Proofs.Ytkhpihacjhhklaa
