/-
  Walks of layer 3: Replace.
-/
import Derived.Test.YtkhpihacjhhklaaYg
import Derived.Test.YtkhpihacjhhklaaTq
namespace Go.Proofs.Ytkhpihacjhhklaa
open Go Go.RowKit
open Pl (Syn)
set_option linter.unusedSimpArgs false

/-- what Replace answers -/
def repCode (t : Syn) (at' : List Int) (by' : Syn) : Int :=
  if anyP t = false then 1 else match Pl.put at' t by' with
    | none => 2
    | some x => if (Pl.formed x && common t.op x.op) = true then 0 else 3
def ReplacePost (t : Syn) (at' : List Int) (by' : Syn) (w : World) (e : Ending) (w' : World) : Prop :=
  ((repCode t at' by' ≠ 0 ∧ e = .returned (.tuple #[zeroSyn, .int .i64 (repCode t at' by')])) ∨ (repCode t at' by' = 0 ∧ ∃ x v, Pl.put at' t by' = some x ∧ e = .returned (.tuple #[v, .int .i64 0]) ∧ SynV w' (fun b => w.heap.size ≤ b ∧ b < w'.heap.size) x v)) ∧ Below w.heap.size w w'
set_option maxRecDepth 100000 in
set_option maxHeartbeats 8000000 in
theorem replace_any (P Q : Nat → Prop) (t : Syn) (at' : List Int) (by' : Syn) (w : World) (tv av bv : Value) (hP : ∀ b, P b → b < w.heap.size) (hQ : ∀ b, Q b → b < w.heap.size) (ht : SynV w P t tv) (hb : SynV w Q by' bv) (ha : AtSl w av at') (hbig : t.big ≤ 134217728) (hbig2 : by'.big ≤ 134217728) :
    Calls Try.prog 25 #[tv, av, bv] w (ReplacePost t at' by' w) := by
  have HT := Lib.hid ht
  have HB := Lib.hid hb
  have HA := Lib.hid ha
  have HP := Lib.hid hP
  have HQ := Lib.hid hQ
  obtain ⟨na, nn, nc, la, ln, lc, rfl⟩ := ht.form
  obtain ⟨ma, mn, mc, ka, kn, kc, rfl⟩ := hb.form
  have hbx := boxes_new w #[.int .i64 t.op, .int .i64 t.n, .string t.s, .slice na nn nc, .slice la ln lc] #[.int .i64 by'.op, .int .i64 by'.n, .string by'.s, .slice ma mn mc, .slice ka kn kc]
  have hbz := blk_new ((w.alloc (.cells #[.int .i64 t.op, .int .i64 t.n, .string t.s, .slice na nn nc, .slice la ln lc] 25)).alloc (.cells #[.int .i64 by'.op, .int .i64 by'.n, .string by'.s, .slice ma mn mc, .slice ka kn kc] 25)) #[.int .i64 0, .int .i64 0, .string ⟨#[]⟩, .slice none 0 0, .slice none 0 0] 25
  rw [size_alloc, size_alloc] at hbz
  have HB0 := Lib.hid (show Below w.heap.size w (((w.alloc (.cells #[.int .i64 t.op, .int .i64 t.n, .string t.s, .slice na nn nc, .slice la ln lc] 25)).alloc (.cells #[.int .i64 by'.op, .int .i64 by'.n, .string by'.s, .slice ma mn mc, .slice ka kn kc] 25)).alloc (.cells #[.int .i64 0, .int .i64 0, .string ⟨#[]⟩, .slice none 0 0, .slice none 0 0] 25)) from (below2 w _ _).alloc (by simp; omega) _)
  have HT0 := Lib.hid (hbx.1.alloc (.cells #[.int .i64 0, .int .i64 0, .string ⟨#[]⟩, .slice none 0 0, .slice none 0 0] 25))
  have HY0 := Lib.hid (hbx.2.alloc (.cells #[.int .i64 0, .int .i64 0, .string ⟨#[]⟩, .slice none 0 0, .slice none 0 0] 25))
  have HZ0 := Lib.hid hbz
  have HBG := Lib.hid hbig
  have HBG2 := Lib.hid hbig2
  have HRC := Lib.hid (show repCode t at' by' = (if anyP t = false then 1 else match Pl.put at' t by' with | none => 2 | some x => if (Pl.formed x && common t.op x.op) = true then 0 else 3) from rfl)
  have HPB := Lib.hid (Pl.put_big at' t by')
  have HPW := Lib.hid (fun W (hW : Below w.heap.size w W) b (hb : P b) => Nat.lt_of_lt_of_le (HP.out b hb) hW.size)
  have HQW := Lib.hid (fun W (hW : Below w.heap.size w W) b (hb : Q b) => Nat.lt_of_lt_of_le (HQ.out b hb) hW.size)
  have HTW := Lib.hid (fun W (hW : Below w.heap.size w W) => HT.out.keep (Same.of_below hW HP.out))
  have HBW := Lib.hid (fun W (hW : Below w.heap.size w W) => HB.out.keep (Same.of_below hW HQ.out))
  have HAW := Lib.hid (fun W (hW : Below w.heap.size w W) => HA.out.below hW)
  obtain ⟨aa, ac, rfl, hal, hacm, -⟩ := ha
  unfold maxLen at hacm
  obtain ⟨x0, x1, x2, x3, x4⟩ := box_cells HT0.out
  have HI := Lib.hid (fun W (hW : Below w.heap.size w W) => isTree_any P t W _ (HPW.out W hW) (HTW.out W hW) (by have := HBG.out; omega))
  generalize hany : anyP t = an at *
  generalize hput : Pl.put at' t by' = pu at *
  generalize hrc : repCode t at' by' = rc at *
  have HLA := Lib.hid hal
  generalize at'.length = al at *
  clear ht hb hP hQ hbx hbz hbig hbig2 hany hal
  go_enter Try.func25, Try.ntmps25
  go_wp2_with fail
  generalize ((w.alloc (.cells #[.int .i64 t.op, .int .i64 t.n, .string t.s, .slice na nn nc, .slice la ln lc] 25)).alloc (.cells #[.int .i64 by'.op, .int .i64 by'.n, .string by'.s, .slice ma mn mc, .slice ka kn kc] 25)).alloc (.cells #[.int .i64 0, .int .i64 0, .string ⟨#[]⟩, .slice none 0 0, .slice none 0 0] 25) = w0 at HB0 HT0 HY0 HZ0 x0 x1 x2 x3 x4 ⊢
  refine (HI.out _ HB0.out).mono ?_
  rintro e w1 ⟨rfl, hb1⟩
  have HB1 := Lib.hid (belowStep hb1 HB0.out)
  have HT1 := Lib.hid (Blk.of_eq HT0.out (hb1.block _ (Blk.lt HT0.out)))
  have HY1 := Lib.hid (Blk.of_eq HY0.out (hb1.block _ (Blk.lt HY0.out)))
  have HZ1 := Lib.hid (Blk.of_eq HZ0.out (hb1.block _ (Blk.lt HZ0.out)))
  clear x0 x1 x2 x3 x4 hb1
  obtain ⟨x0, x1, x2, x3, x4⟩ := box_cells HT1.out
  obtain ⟨y0, y1, y2, y3, y4⟩ := box_cells HY1.out
  obtain ⟨z0, z1, z2, z3, z4⟩ := box_cells HZ1.out
  have t0 := HZ1.out.thaw 0
  have t1 := HZ1.out.thaw 1
  have t2 := HZ1.out.thaw 2
  have t3 := HZ1.out.thaw 3
  have t4 := HZ1.out.thaw 4
  cases an
  · rw [if_pos rfl] at HRC
    go_wp2
    have HEND := store5_below HB1.out (w.heap.size + 1 + 1) 0 (.int .i64 0) (.int .i64 0) (.string ⟨#[]⟩) (.slice none 0 0) (.slice none 0 0) (by omega)
    have HENB := store5_blk HZ1.out 0 (.int .i64 0) (.int .i64 0) (.string ⟨#[]⟩) (.slice none 0 0) (.slice none 0 0)
    unfold store5 at HEND HENB
    simp only [Nat.zero_add] at HEND HENB
    obtain ⟨k0, k1, k2, k3, k4⟩ := box_cells (by simpa [put5] using HENB)
    refine bodyPost_ret (v := .tuple #[zeroSyn, .int .i64 1]) (by simp [results, Try.results25, go_sem, k0, k1, k2, k3, k4, zeroSyn]; try rfl) rfl ?_
    exact ⟨.inl ⟨by rw [hrc, HRC.out]; decide, by rw [hrc, HRC.out]⟩, HEND⟩
  · rw [if_neg (by decide)] at HRC
    clear z0 z1 z2 z3 z4 t0 t1 t2 t3 t4
    have HRP := Lib.hid (replaced_any P Q by' at' t w1 _ _ _ (HPW.out _ HB1.out) (HQW.out _ HB1.out) (HTW.out _ HB1.out) (HBW.out _ HB1.out) (HAW.out _ HB1.out) (by have := HBG.out; omega))
    rw [hput] at HRP
    go_wp2_with fail
    refine HRP.out.mono ?_
    rintro e w2 ⟨hr, hb2⟩
    have HB2 := Lib.hid (belowStep hb2 HB1.out)
    have HT2 := Lib.hid (Blk.of_eq HT1.out (hb2.block _ (Blk.lt HT1.out)))
    have HY2 := Lib.hid (Blk.of_eq HY1.out (hb2.block _ (Blk.lt HY1.out)))
    have HZ2 := Lib.hid (Blk.of_eq HZ1.out (hb2.block _ (Blk.lt HZ1.out)))
    clear x0 x1 x2 x3 x4 y0 y1 y2 y3 y4 hb2
    cases pu with
    | none =>
      subst hr
      have HBA := Lib.hid (show Below w.heap.size w (w2.alloc (.cells #[.int .i64 0, .int .i64 0, .string ⟨#[]⟩, .slice none 0 0, .slice none 0 0] 25)) from HB2.out.alloc HB2.out.size _)
      have HZA := Lib.hid (HZ2.out.alloc (.cells #[.int .i64 0, .int .i64 0, .string ⟨#[]⟩, .slice none 0 0, .slice none 0 0] 25))
      obtain ⟨z0, z1, z2, z3, z4⟩ := box_cells HZA.out
      have t0 := HZA.out.thaw 0
      have t1 := HZA.out.thaw 1
      have t2 := HZA.out.thaw 2
      have t3 := HZA.out.thaw 3
      have t4 := HZA.out.thaw 4
      rw [show zeroSyn = (.agg #[.int .i64 0, .int .i64 0, .string ⟨#[]⟩, .slice none 0 0, .slice none 0 0] : Value) from rfl]
      go_wp2
      have HEND := store5_below HBA.out (w.heap.size + 1 + 1) 0 (.int .i64 0) (.int .i64 0) (.string ⟨#[]⟩) (.slice none 0 0) (.slice none 0 0) (by omega)
      have HENB := store5_blk HZA.out 0 (.int .i64 0) (.int .i64 0) (.string ⟨#[]⟩) (.slice none 0 0) (.slice none 0 0)
      unfold store5 at HEND HENB
      simp only [Nat.zero_add] at HEND HENB
      obtain ⟨k0, k1, k2, k3, k4⟩ := box_cells (by simpa [put5] using HENB)
      refine bodyPost_ret (v := .tuple #[zeroSyn, .int .i64 2]) (by simp [results, Try.results25, go_sem, k0, k1, k2, k3, k4, zeroSyn]; try rfl) rfl ?_
      exact ⟨.inl ⟨by rw [hrc, HRC.out]; decide, by rw [hrc, HRC.out]⟩, HEND⟩
    | some x =>
      obtain ⟨v', rfl, hv'⟩ := hr
      obtain ⟨qna, qnn, qnc, qla, qln, qlc, rfl⟩ := hv'.form
      have HXB := Lib.hid (HPB.out x rfl)
      have HBA := Lib.hid (show Below w2.heap.size w2 (w2.alloc (.cells #[.int .i64 x.op, .int .i64 x.n, .string x.s, .slice qna qnn qnc, .slice qla qln qlc] 25)) from (Below.refl _ _).alloc (Nat.le_refl _) _)
      have HSR := Lib.hid (show ∀ b, (P b ∨ Q b ∨ (w1.heap.size ≤ b ∧ b < w2.heap.size)) → b < w2.heap.size from fun b hb => by
        have h1 := HP.out b
        have h2 := HQ.out b
        have h3 := HB2.out.size
        rcases hb with hb | hb | hb
        · have := h1 hb; omega
        · have := h2 hb; omega
        · exact hb.2)
      have HVX := Lib.hid (fun W (hW : Below w2.heap.size w2 W) => hv'.keep (Same.of_below hW HSR.out))
      have HPX := Lib.hid (fun W (hW : Below w2.heap.size w2 W) b hb => Nat.lt_of_lt_of_le (HSR.out b hb) hW.size)
      have HWF := Lib.hid (isWellFormed_any _ x _ _ (HPX.out _ HBA.out) (HVX.out _ HBA.out) (by have := HXB.out; have := HBG.out; have := HBG2.out; omega))
      have HXA := Lib.hid (blk_new w2 #[.int .i64 x.op, .int .i64 x.n, .string x.s, .slice qna qnn qnc, .slice qla qln qlc] 25)
      generalize hfo : Pl.formed x = fo at *
      have HRC2 := Lib.hid (HRC.out.trans (show _ = (if (fo && common t.op x.op) = true then (0 : Int) else 3) from by rw [← hfo]))
      go_wp2_with fail
      refine HWF.out.mono ?_
      rintro e w3 ⟨rfl, hb3⟩
      have HB23 := Lib.hid (belowStep hb3 HBA.out)
      have HB3 := Lib.hid (belowStep (belowStep hb3 HBA.out) HB2.out)
      have HX3 := Lib.hid (Blk.of_eq HXA.out (hb3.block _ (Blk.lt HXA.out)))
      have HT3 := Lib.hid (Blk.of_eq HT2.out (HB23.out.block _ (Blk.lt HT2.out)))
      have HZ3 := Lib.hid (Blk.of_eq HZ2.out (HB23.out.block _ (Blk.lt HZ2.out)))
      clear hb3 hv'
      obtain ⟨x0, x1, x2, x3, x4⟩ := box_cells HT3.out
      obtain ⟨y0, y1, y2, y3, y4⟩ := box_cells HX3.out
      obtain ⟨z0, z1, z2, z3, z4⟩ := box_cells HZ3.out
      have t0 := HZ3.out.thaw 0
      have t1 := HZ3.out.thaw 1
      have t2 := HZ3.out.thaw 2
      have t3 := HZ3.out.thaw 3
      have t4 := HZ3.out.thaw 4
      cases fo
      · go_wp2
        have HEND := store5_below HB3.out (w.heap.size + 1 + 1) 0 (.int .i64 0) (.int .i64 0) (.string ⟨#[]⟩) (.slice none 0 0) (.slice none 0 0) (by omega)
        have HENB := store5_blk HZ3.out 0 (.int .i64 0) (.int .i64 0) (.string ⟨#[]⟩) (.slice none 0 0) (.slice none 0 0)
        unfold store5 at HEND HENB
        simp only [Nat.zero_add] at HEND HENB
        obtain ⟨k0, k1, k2, k3, k4⟩ := box_cells (by simpa [put5] using HENB)
        refine bodyPost_ret (v := .tuple #[zeroSyn, .int .i64 3]) (by simp [results, Try.results25, go_sem, k0, k1, k2, k3, k4, zeroSyn]; try rfl) rfl ?_
        exact ⟨.inl ⟨by rw [hrc, HRC2.out]; simp, by rw [hrc, HRC2.out]; simp⟩, HEND⟩
      · have HCM := Lib.hid (common_any t.op x.op w3)
        generalize hcm : common t.op x.op = cm at *
        have HCP := Lib.hid (copied_any _ x w3 _ (HPX.out _ HB23.out) (HVX.out _ HB23.out) (by have := HXB.out; have := HBG.out; have := HBG2.out; omega))
        cases cm
        · go_wp2_with fail
          refine HCM.out.mono ?_
          rintro e w4 ⟨rfl, rfl⟩
          go_wp2
          have HEND := store5_below HB3.out (w.heap.size + 1 + 1) 0 (.int .i64 0) (.int .i64 0) (.string ⟨#[]⟩) (.slice none 0 0) (.slice none 0 0) (by omega)
          have HENB := store5_blk HZ3.out 0 (.int .i64 0) (.int .i64 0) (.string ⟨#[]⟩) (.slice none 0 0) (.slice none 0 0)
          unfold store5 at HEND HENB
          simp only [Nat.zero_add] at HEND HENB
          obtain ⟨k0, k1, k2, k3, k4⟩ := box_cells (by simpa [put5] using HENB)
          refine bodyPost_ret (v := .tuple #[zeroSyn, .int .i64 3]) (by simp [results, Try.results25, go_sem, k0, k1, k2, k3, k4, zeroSyn]; try rfl) rfl ?_
          exact ⟨.inl ⟨by rw [hrc, HRC2.out]; simp, by rw [hrc, HRC2.out]; simp⟩, HEND⟩
        · clear z0 z1 z2 z3 z4 t0 t1 t2 t3 t4
          go_wp2_with fail
          refine HCM.out.mono ?_
          rintro e w4 ⟨rfl, rfl⟩
          go_wp2_with fail
          refine HCP.out.mono ?_
          rintro e w5 ⟨⟨u, rfl, hu⟩, hb5⟩
          obtain ⟨rna, rnn, rnc, rla, rln, rlc, rfl⟩ := hu.form
          have HU := Lib.hid hu
          have HB5 := Lib.hid (belowStep hb5 HB3.out)
          have HZ5 := Lib.hid (Blk.of_eq HZ3.out (hb5.block _ (Blk.lt HZ3.out)))
          have HZL := Lib.hid (Blk.lt HZ3.out)
          clear hu hb5 x0 x1 x2 x3 x4 y0 y1 y2 y3 y4
          obtain ⟨z0, z1, z2, z3, z4⟩ := box_cells HZ5.out
          have t0 := HZ5.out.thaw 0
          have t1 := HZ5.out.thaw 1
          have t2 := HZ5.out.thaw 2
          have t3 := HZ5.out.thaw 3
          have t4 := HZ5.out.thaw 4
          go_wp2
          have HEND := store5_below HB5.out (w.heap.size + 1 + 1) 0 (.int .i64 x.op) (.int .i64 x.n) (.string x.s) (.slice rna rnn rnc) (.slice rla rln rlc) (by omega)
          have HENB := store5_blk HZ5.out 0 (.int .i64 x.op) (.int .i64 x.n) (.string x.s) (.slice rna rnn rnc) (.slice rla rln rlc)
          have HENV := HU.out.keep (w' := store5 _ (w.heap.size + 1 + 1) 0 (.int .i64 x.op) (.int .i64 x.n) (.string x.s) (.slice rna rnn rnc) (.slice rla rln rlc)) (fun b hb => store5_other _ (w.heap.size + 1 + 1) 0 (.int .i64 x.op) (.int .i64 x.n) (.string x.s) (.slice rna rnn rnc) (.slice rla rln rlc) b (by have := HZL.out; omega))
          have HESZ := store5_size w5 (w.heap.size + 1 + 1) 0 (.int .i64 x.op) (.int .i64 x.n) (.string x.s) (.slice rna rnn rnc) (.slice rla rln rlc)
          have HENW := HENV.mono (Q := fun b => w.heap.size ≤ b ∧ b < (store5 w5 (w.heap.size + 1 + 1) 0 (.int .i64 x.op) (.int .i64 x.n) (.string x.s) (.slice rna rnn rnc) (.slice rla rln rlc)).heap.size) (fun b hb => by have := HB3.out.size; rw [HESZ]; omega)
          clear HENV HESZ
          unfold store5 at HEND HENB HENW
          simp only [Nat.zero_add] at HEND HENB HENW
          obtain ⟨k0, k1, k2, k3, k4⟩ := box_cells (by simpa [put5] using HENB)
          refine bodyPost_ret (v := .tuple #[.agg #[.int .i64 x.op, .int .i64 x.n, .string x.s, .slice rna rnn rnc, .slice rla rln rlc], .int .i64 0]) (by simp [results, Try.results25, go_sem, k0, k1, k2, k3, k4]) rfl ?_
          exact ⟨.inr ⟨by rw [hrc, HRC2.out]; rfl, x, _, hput, rfl, HENW⟩, HEND⟩
end Go.Proofs.Ytkhpihacjhhklaa
