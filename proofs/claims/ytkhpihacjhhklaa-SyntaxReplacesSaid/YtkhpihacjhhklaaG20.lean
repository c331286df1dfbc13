/-
  Walks and plain mathematics, several texts in one (Yh Yi Yj Yl).
-/
import Derived.Test.YtkhpihacjhhklaaG19
import Derived.Test.YtkhpihacjhhklaaG8
/-
  Walks of layer 3: Replace.
-/
namespace Go.Proofs.Ytkhpihacjhhklaa
open Go Go.RowKit
open Pl (Syn)
set_option linter.unusedSimpArgs false

/-- what Replace answers -/
def repCode (t : Syn) (at' : List Int) (by' : Syn) : Int :=
  if anyP t = false then 1 else match Pl.put at' t by' with
    | none => 2
    | some x => if (Pl.formed x && common t.op x.op) = true then 0 else 3
def ReplacePost (t : Syn) (at' : List Int) (by' : Syn) (w : World) (e : Ending) (w' : World) : Prop :=
  ((repCode t at' by' ≠ 0 ∧ e = .returned (.tuple #[zeroSyn, .int .i64 (repCode t at' by')])) ∨ (repCode t at' by' = 0 ∧ ∃ x v, Pl.put at' t by' = some x ∧ e = .returned (.tuple #[v, .int .i64 0]) ∧ SynV w' (fun b => w.heap.size ≤ b ∧ b < w'.heap.size) x v)) ∧ Below w.heap.size w w'
set_option maxRecDepth 100000 in
set_option maxHeartbeats 8000000 in
theorem replace_any (P Q : Nat → Prop) (t : Syn) (at' : List Int) (by' : Syn) (w : World) (tv av bv : Value) (hP : ∀ b, P b → b < w.heap.size) (hQ : ∀ b, Q b → b < w.heap.size) (ht : SynV w P t tv) (hb : SynV w Q by' bv) (ha : AtSl w av at') (hbig : t.big ≤ 134217728) (hbig2 : by'.big ≤ 134217728) :
    Calls Try.prog 25 #[tv, av, bv] w (ReplacePost t at' by' w) := by
  have HT := Lib.hid ht
  have HB := Lib.hid hb
  have HA := Lib.hid ha
  have HP := Lib.hid hP
  have HQ := Lib.hid hQ
  obtain ⟨na, nn, nc, la, ln, lc, rfl⟩ := ht.form
  obtain ⟨ma, mn, mc, ka, kn, kc, rfl⟩ := hb.form
  have hbx := boxes_new w #[.int .i64 t.op, .int .i64 t.n, .string t.s, .slice na nn nc, .slice la ln lc] #[.int .i64 by'.op, .int .i64 by'.n, .string by'.s, .slice ma mn mc, .slice ka kn kc]
  have hbz := blk_new ((w.alloc (.cells #[.int .i64 t.op, .int .i64 t.n, .string t.s, .slice na nn nc, .slice la ln lc] 25)).alloc (.cells #[.int .i64 by'.op, .int .i64 by'.n, .string by'.s, .slice ma mn mc, .slice ka kn kc] 25)) #[.int .i64 0, .int .i64 0, .string ⟨#[]⟩, .slice none 0 0, .slice none 0 0] 25
  rw [size_alloc, size_alloc] at hbz
  have HB0 := Lib.hid (show Below w.heap.size w (((w.alloc (.cells #[.int .i64 t.op, .int .i64 t.n, .string t.s, .slice na nn nc, .slice la ln lc] 25)).alloc (.cells #[.int .i64 by'.op, .int .i64 by'.n, .string by'.s, .slice ma mn mc, .slice ka kn kc] 25)).alloc (.cells #[.int .i64 0, .int .i64 0, .string ⟨#[]⟩, .slice none 0 0, .slice none 0 0] 25)) from (below2 w _ _).alloc (by simp; omega) _)
  have HT0 := Lib.hid (hbx.1.alloc (.cells #[.int .i64 0, .int .i64 0, .string ⟨#[]⟩, .slice none 0 0, .slice none 0 0] 25))
  have HY0 := Lib.hid (hbx.2.alloc (.cells #[.int .i64 0, .int .i64 0, .string ⟨#[]⟩, .slice none 0 0, .slice none 0 0] 25))
  have HZ0 := Lib.hid hbz
  have HBG := Lib.hid hbig
  have HBG2 := Lib.hid hbig2
  have HRC := Lib.hid (show repCode t at' by' = (if anyP t = false then 1 else match Pl.put at' t by' with | none => 2 | some x => if (Pl.formed x && common t.op x.op) = true then 0 else 3) from rfl)
  have HPB := Lib.hid (Pl.put_big at' t by')
  have HPW := Lib.hid (fun W (hW : Below w.heap.size w W) b (hb : P b) => Nat.lt_of_lt_of_le (HP.out b hb) hW.size)
  have HQW := Lib.hid (fun W (hW : Below w.heap.size w W) b (hb : Q b) => Nat.lt_of_lt_of_le (HQ.out b hb) hW.size)
  have HTW := Lib.hid (fun W (hW : Below w.heap.size w W) => HT.out.keep (Same.of_below hW HP.out))
  have HBW := Lib.hid (fun W (hW : Below w.heap.size w W) => HB.out.keep (Same.of_below hW HQ.out))
  have HAW := Lib.hid (fun W (hW : Below w.heap.size w W) => HA.out.below hW)
  obtain ⟨aa, ac, rfl, hal, hacm, -⟩ := ha
  unfold maxLen at hacm
  obtain ⟨x0, x1, x2, x3, x4⟩ := box_cells HT0.out
  have HI := Lib.hid (fun W (hW : Below w.heap.size w W) => isTree_any P t W _ (HPW.out W hW) (HTW.out W hW) (by have := HBG.out; omega))
  generalize hany : anyP t = an at *
  generalize hput : Pl.put at' t by' = pu at *
  generalize hrc : repCode t at' by' = rc at *
  have HLA := Lib.hid hal
  generalize at'.length = al at *
  clear ht hb hP hQ hbx hbz hbig hbig2 hany hal
  go_enter Try.func25, Try.ntmps25
  go_wp2_with fail
  generalize ((w.alloc (.cells #[.int .i64 t.op, .int .i64 t.n, .string t.s, .slice na nn nc, .slice la ln lc] 25)).alloc (.cells #[.int .i64 by'.op, .int .i64 by'.n, .string by'.s, .slice ma mn mc, .slice ka kn kc] 25)).alloc (.cells #[.int .i64 0, .int .i64 0, .string ⟨#[]⟩, .slice none 0 0, .slice none 0 0] 25) = w0 at HB0 HT0 HY0 HZ0 x0 x1 x2 x3 x4 ⊢
  refine (HI.out _ HB0.out).mono ?_
  rintro e w1 ⟨rfl, hb1⟩
  have HB1 := Lib.hid (belowStep hb1 HB0.out)
  have HT1 := Lib.hid (Blk.of_eq HT0.out (hb1.block _ (Blk.lt HT0.out)))
  have HY1 := Lib.hid (Blk.of_eq HY0.out (hb1.block _ (Blk.lt HY0.out)))
  have HZ1 := Lib.hid (Blk.of_eq HZ0.out (hb1.block _ (Blk.lt HZ0.out)))
  clear x0 x1 x2 x3 x4 hb1
  obtain ⟨x0, x1, x2, x3, x4⟩ := box_cells HT1.out
  obtain ⟨y0, y1, y2, y3, y4⟩ := box_cells HY1.out
  obtain ⟨z0, z1, z2, z3, z4⟩ := box_cells HZ1.out
  have t0 := HZ1.out.thaw 0
  have t1 := HZ1.out.thaw 1
  have t2 := HZ1.out.thaw 2
  have t3 := HZ1.out.thaw 3
  have t4 := HZ1.out.thaw 4
  cases an
  · rw [if_pos rfl] at HRC
    go_wp2
    have HEND := store5_below HB1.out (w.heap.size + 1 + 1) 0 (.int .i64 0) (.int .i64 0) (.string ⟨#[]⟩) (.slice none 0 0) (.slice none 0 0) (by omega)
    have HENB := store5_blk HZ1.out 0 (.int .i64 0) (.int .i64 0) (.string ⟨#[]⟩) (.slice none 0 0) (.slice none 0 0)
    unfold store5 at HEND HENB
    simp only [Nat.zero_add] at HEND HENB
    obtain ⟨k0, k1, k2, k3, k4⟩ := box_cells (by simpa [put5] using HENB)
    refine bodyPost_ret (v := .tuple #[zeroSyn, .int .i64 1]) (by simp [results, Try.results25, go_sem, k0, k1, k2, k3, k4, zeroSyn]; try rfl) rfl ?_
    exact ⟨.inl ⟨by rw [hrc, HRC.out]; decide, by rw [hrc, HRC.out]⟩, HEND⟩
  · rw [if_neg (by decide)] at HRC
    clear z0 z1 z2 z3 z4 t0 t1 t2 t3 t4
    have HRP := Lib.hid (replaced_any P Q by' at' t w1 _ _ _ (HPW.out _ HB1.out) (HQW.out _ HB1.out) (HTW.out _ HB1.out) (HBW.out _ HB1.out) (HAW.out _ HB1.out) (by have := HBG.out; omega))
    rw [hput] at HRP
    go_wp2_with fail
    refine HRP.out.mono ?_
    rintro e w2 ⟨hr, hb2⟩
    have HB2 := Lib.hid (belowStep hb2 HB1.out)
    have HT2 := Lib.hid (Blk.of_eq HT1.out (hb2.block _ (Blk.lt HT1.out)))
    have HY2 := Lib.hid (Blk.of_eq HY1.out (hb2.block _ (Blk.lt HY1.out)))
    have HZ2 := Lib.hid (Blk.of_eq HZ1.out (hb2.block _ (Blk.lt HZ1.out)))
    clear x0 x1 x2 x3 x4 y0 y1 y2 y3 y4 hb2
    cases pu with
    | none =>
      subst hr
      have HBA := Lib.hid (show Below w.heap.size w (w2.alloc (.cells #[.int .i64 0, .int .i64 0, .string ⟨#[]⟩, .slice none 0 0, .slice none 0 0] 25)) from HB2.out.alloc HB2.out.size _)
      have HZA := Lib.hid (HZ2.out.alloc (.cells #[.int .i64 0, .int .i64 0, .string ⟨#[]⟩, .slice none 0 0, .slice none 0 0] 25))
      obtain ⟨z0, z1, z2, z3, z4⟩ := box_cells HZA.out
      have t0 := HZA.out.thaw 0
      have t1 := HZA.out.thaw 1
      have t2 := HZA.out.thaw 2
      have t3 := HZA.out.thaw 3
      have t4 := HZA.out.thaw 4
      rw [show zeroSyn = (.agg #[.int .i64 0, .int .i64 0, .string ⟨#[]⟩, .slice none 0 0, .slice none 0 0] : Value) from rfl]
      go_wp2
      have HEND := store5_below HBA.out (w.heap.size + 1 + 1) 0 (.int .i64 0) (.int .i64 0) (.string ⟨#[]⟩) (.slice none 0 0) (.slice none 0 0) (by omega)
      have HENB := store5_blk HZA.out 0 (.int .i64 0) (.int .i64 0) (.string ⟨#[]⟩) (.slice none 0 0) (.slice none 0 0)
      unfold store5 at HEND HENB
      simp only [Nat.zero_add] at HEND HENB
      obtain ⟨k0, k1, k2, k3, k4⟩ := box_cells (by simpa [put5] using HENB)
      refine bodyPost_ret (v := .tuple #[zeroSyn, .int .i64 2]) (by simp [results, Try.results25, go_sem, k0, k1, k2, k3, k4, zeroSyn]; try rfl) rfl ?_
      exact ⟨.inl ⟨by rw [hrc, HRC.out]; decide, by rw [hrc, HRC.out]⟩, HEND⟩
    | some x =>
      obtain ⟨v', rfl, hv'⟩ := hr
      obtain ⟨qna, qnn, qnc, qla, qln, qlc, rfl⟩ := hv'.form
      have HXB := Lib.hid (HPB.out x rfl)
      have HBA := Lib.hid (show Below w2.heap.size w2 (w2.alloc (.cells #[.int .i64 x.op, .int .i64 x.n, .string x.s, .slice qna qnn qnc, .slice qla qln qlc] 25)) from (Below.refl _ _).alloc (Nat.le_refl _) _)
      have HSR := Lib.hid (show ∀ b, (P b ∨ Q b ∨ (w1.heap.size ≤ b ∧ b < w2.heap.size)) → b < w2.heap.size from fun b hb => by
        have h1 := HP.out b
        have h2 := HQ.out b
        have h3 := HB2.out.size
        rcases hb with hb | hb | hb
        · have := h1 hb; omega
        · have := h2 hb; omega
        · exact hb.2)
      have HVX := Lib.hid (fun W (hW : Below w2.heap.size w2 W) => hv'.keep (Same.of_below hW HSR.out))
      have HPX := Lib.hid (fun W (hW : Below w2.heap.size w2 W) b hb => Nat.lt_of_lt_of_le (HSR.out b hb) hW.size)
      have HWF := Lib.hid (isWellFormed_any _ x _ _ (HPX.out _ HBA.out) (HVX.out _ HBA.out) (by have := HXB.out; have := HBG.out; have := HBG2.out; omega))
      have HXA := Lib.hid (blk_new w2 #[.int .i64 x.op, .int .i64 x.n, .string x.s, .slice qna qnn qnc, .slice qla qln qlc] 25)
      generalize hfo : Pl.formed x = fo at *
      have HRC2 := Lib.hid (HRC.out.trans (show _ = (if (fo && common t.op x.op) = true then (0 : Int) else 3) from by rw [← hfo]))
      go_wp2_with fail
      refine HWF.out.mono ?_
      rintro e w3 ⟨rfl, hb3⟩
      have HB23 := Lib.hid (belowStep hb3 HBA.out)
      have HB3 := Lib.hid (belowStep (belowStep hb3 HBA.out) HB2.out)
      have HX3 := Lib.hid (Blk.of_eq HXA.out (hb3.block _ (Blk.lt HXA.out)))
      have HT3 := Lib.hid (Blk.of_eq HT2.out (HB23.out.block _ (Blk.lt HT2.out)))
      have HZ3 := Lib.hid (Blk.of_eq HZ2.out (HB23.out.block _ (Blk.lt HZ2.out)))
      clear hb3 hv'
      obtain ⟨x0, x1, x2, x3, x4⟩ := box_cells HT3.out
      obtain ⟨y0, y1, y2, y3, y4⟩ := box_cells HX3.out
      obtain ⟨z0, z1, z2, z3, z4⟩ := box_cells HZ3.out
      have t0 := HZ3.out.thaw 0
      have t1 := HZ3.out.thaw 1
      have t2 := HZ3.out.thaw 2
      have t3 := HZ3.out.thaw 3
      have t4 := HZ3.out.thaw 4
      cases fo
      · go_wp2
        have HEND := store5_below HB3.out (w.heap.size + 1 + 1) 0 (.int .i64 0) (.int .i64 0) (.string ⟨#[]⟩) (.slice none 0 0) (.slice none 0 0) (by omega)
        have HENB := store5_blk HZ3.out 0 (.int .i64 0) (.int .i64 0) (.string ⟨#[]⟩) (.slice none 0 0) (.slice none 0 0)
        unfold store5 at HEND HENB
        simp only [Nat.zero_add] at HEND HENB
        obtain ⟨k0, k1, k2, k3, k4⟩ := box_cells (by simpa [put5] using HENB)
        refine bodyPost_ret (v := .tuple #[zeroSyn, .int .i64 3]) (by simp [results, Try.results25, go_sem, k0, k1, k2, k3, k4, zeroSyn]; try rfl) rfl ?_
        exact ⟨.inl ⟨by rw [hrc, HRC2.out]; simp, by rw [hrc, HRC2.out]; simp⟩, HEND⟩
      · have HCM := Lib.hid (common_any t.op x.op w3)
        generalize hcm : common t.op x.op = cm at *
        have HCP := Lib.hid (copied_any _ x w3 _ (HPX.out _ HB23.out) (HVX.out _ HB23.out) (by have := HXB.out; have := HBG.out; have := HBG2.out; omega))
        cases cm
        · go_wp2_with fail
          refine HCM.out.mono ?_
          rintro e w4 ⟨rfl, rfl⟩
          go_wp2
          have HEND := store5_below HB3.out (w.heap.size + 1 + 1) 0 (.int .i64 0) (.int .i64 0) (.string ⟨#[]⟩) (.slice none 0 0) (.slice none 0 0) (by omega)
          have HENB := store5_blk HZ3.out 0 (.int .i64 0) (.int .i64 0) (.string ⟨#[]⟩) (.slice none 0 0) (.slice none 0 0)
          unfold store5 at HEND HENB
          simp only [Nat.zero_add] at HEND HENB
          obtain ⟨k0, k1, k2, k3, k4⟩ := box_cells (by simpa [put5] using HENB)
          refine bodyPost_ret (v := .tuple #[zeroSyn, .int .i64 3]) (by simp [results, Try.results25, go_sem, k0, k1, k2, k3, k4, zeroSyn]; try rfl) rfl ?_
          exact ⟨.inl ⟨by rw [hrc, HRC2.out]; simp, by rw [hrc, HRC2.out]; simp⟩, HEND⟩
        · clear z0 z1 z2 z3 z4 t0 t1 t2 t3 t4
          go_wp2_with fail
          refine HCM.out.mono ?_
          rintro e w4 ⟨rfl, rfl⟩
          go_wp2_with fail
          refine HCP.out.mono ?_
          rintro e w5 ⟨⟨u, rfl, hu⟩, hb5⟩
          obtain ⟨rna, rnn, rnc, rla, rln, rlc, rfl⟩ := hu.form
          have HU := Lib.hid hu
          have HB5 := Lib.hid (belowStep hb5 HB3.out)
          have HZ5 := Lib.hid (Blk.of_eq HZ3.out (hb5.block _ (Blk.lt HZ3.out)))
          have HZL := Lib.hid (Blk.lt HZ3.out)
          clear hu hb5 x0 x1 x2 x3 x4 y0 y1 y2 y3 y4
          obtain ⟨z0, z1, z2, z3, z4⟩ := box_cells HZ5.out
          have t0 := HZ5.out.thaw 0
          have t1 := HZ5.out.thaw 1
          have t2 := HZ5.out.thaw 2
          have t3 := HZ5.out.thaw 3
          have t4 := HZ5.out.thaw 4
          go_wp2
          have HEND := store5_below HB5.out (w.heap.size + 1 + 1) 0 (.int .i64 x.op) (.int .i64 x.n) (.string x.s) (.slice rna rnn rnc) (.slice rla rln rlc) (by omega)
          have HENB := store5_blk HZ5.out 0 (.int .i64 x.op) (.int .i64 x.n) (.string x.s) (.slice rna rnn rnc) (.slice rla rln rlc)
          have HENV := HU.out.keep (w' := store5 _ (w.heap.size + 1 + 1) 0 (.int .i64 x.op) (.int .i64 x.n) (.string x.s) (.slice rna rnn rnc) (.slice rla rln rlc)) (fun b hb => store5_other _ (w.heap.size + 1 + 1) 0 (.int .i64 x.op) (.int .i64 x.n) (.string x.s) (.slice rna rnn rnc) (.slice rla rln rlc) b (by have := HZL.out; omega))
          have HESZ := store5_size w5 (w.heap.size + 1 + 1) 0 (.int .i64 x.op) (.int .i64 x.n) (.string x.s) (.slice rna rnn rnc) (.slice rla rln rlc)
          have HENW := HENV.mono (Q := fun b => w.heap.size ≤ b ∧ b < (store5 w5 (w.heap.size + 1 + 1) 0 (.int .i64 x.op) (.int .i64 x.n) (.string x.s) (.slice rna rnn rnc) (.slice rla rln rlc)).heap.size) (fun b hb => by have := HB3.out.size; rw [HESZ]; omega)
          clear HENV HESZ
          unfold store5 at HEND HENB HENW
          simp only [Nat.zero_add] at HEND HENB HENW
          obtain ⟨k0, k1, k2, k3, k4⟩ := box_cells (by simpa [put5] using HENB)
          refine bodyPost_ret (v := .tuple #[.agg #[.int .i64 x.op, .int .i64 x.n, .string x.s, .slice rna rnn rnc, .slice rla rln rlc], .int .i64 0]) (by simp [results, Try.results25, go_sem, k0, k1, k2, k3, k4]) rfl ?_
          exact ⟨.inr ⟨by rw [hrc, HRC2.out]; rfl, x, _, hput, rfl, HENW⟩, HEND⟩
end Go.Proofs.Ytkhpihacjhhklaa

/-
  Walks of layer 3: a part at a place.
-/
namespace Go.Proofs.Ytkhpihacjhhklaa
open Go Go.RowKit
open Pl (Syn)
set_option linter.unusedSimpArgs false

namespace Pl
theorem find_in (r : List Int) (t : Syn) (m : Nat) (h : m < t.l.length) : find ((m : Int) :: r) t = find r t.l[m] := by
  rw [find, dif_pos ⟨by omega, by simpa using h⟩]
  simp
theorem find_out (r : List Int) (t : Syn) (i : Int) (h : ¬ (0 ≤ i ∧ i.toNat < t.l.length)) : find (i :: r) t = none := by
  rw [find, dif_neg h]
end Pl
def FindPost (P : Nat → Prop) (x : Option Syn) (w : World) (e : Ending) (w' : World) : Prop :=
  (match x with
    | some y => ∃ v, e = .returned (.tuple #[v, .bool true]) ∧ SynV w' P y v
    | none => e = .returned (.tuple #[zeroSyn, .bool false])) ∧ Below w.heap.size w w'
/-- where the search stands -/
def FI (P : Nat → Prop) (t : Syn) (at' : List Int) (w wr : World) (k : Nat) : Prop :=
  ∃ (c : Syn) (na : Option Addr) (nn nc : Nat) (la : Option Addr) (ln lc : Nat), Below w.heap.size w wr ∧ Blk wr w.heap.size 25 #[.int .i64 c.op, .int .i64 c.n, .string c.s, .slice na nn nc, .slice la ln lc] ∧
    Blk wr (w.heap.size + 1) 25 #[.int .i64 0, .int .i64 0, .string ⟨#[]⟩, .slice none 0 0, .slice none 0 0] ∧ SynV wr P c (.agg #[.int .i64 c.op, .int .i64 c.n, .string c.s, .slice na nn nc, .slice la ln lc]) ∧ Pl.find (at'.drop k) c = Pl.find at' t
set_option maxRecDepth 100000 in
set_option maxHeartbeats 8000000 in
theorem find_any (P : Nat → Prop) (t : Syn) (at' : List Int) (w : World) (tv av : Value) (ga : Nat) (hP : ∀ b, P b → b < w.heap.size) (ht : SynV w P t tv) (hg : Blk w ga 39 #[av]) (ha : AtSl w av at') :
    Calls Try.prog 29 #[tv, .pointer (some ⟨ga, 0, none⟩)] w (FindPost P (Pl.find at' t) w) := by
  have HT := Lib.hid ht
  have HP := Lib.hid hP
  have HG := Lib.hid hg
  have HA := Lib.hid ha
  obtain ⟨na, nn, nc, la, ln, lc, rfl⟩ := ht.form
  obtain ⟨aa, ac, rfl, hal, hacm, -⟩ := ha
  unfold maxLen at hacm
  have hb0 := below2 w (.cells #[.int .i64 t.op, .int .i64 t.n, .string t.s, .slice na nn nc, .slice la ln lc] 25) (.cells #[.int .i64 0, .int .i64 0, .string ⟨#[]⟩, .slice none 0 0, .slice none 0 0] 25)
  have hbx := boxes_new w #[.int .i64 t.op, .int .i64 t.n, .string t.s, .slice na nn nc, .slice la ln lc] #[.int .i64 0, .int .i64 0, .string ⟨#[]⟩, .slice none 0 0, .slice none 0 0]
  have HF0 := Lib.hid (show FI P t at' w ((w.alloc (.cells #[.int .i64 t.op, .int .i64 t.n, .string t.s, .slice na nn nc, .slice la ln lc] 25)).alloc (.cells #[.int .i64 0, .int .i64 0, .string ⟨#[]⟩, .slice none 0 0, .slice none 0 0] 25)) 0 from ⟨t, na, nn, nc, la, ln, lc, hb0, hbx.1, hbx.2, HT.out.keep (Same.of_below hb0 HP.out), rfl⟩)
  have g0 := (hg.of_eq (hb0.block _ hg.lt)).cell 0 _ rfl
  have HGL := Lib.hid hg.lt
  obtain ⟨al, hla⟩ : ∃ al, al = at'.length := ⟨_, rfl⟩
  rw [← hla] at hal g0 HA HG
  have HLA := Lib.hid hla.symm
  clear ht hP hg hb0 hbx hla
  go_enter Try.func29, Try.ntmps29
  go_wp2_with fail
  generalize (w.alloc (.cells #[.int .i64 t.op, .int .i64 t.n, .string t.s, .slice na nn nc, .slice la ln lc] 25)).alloc (.cells #[.int .i64 0, .int .i64 0, .string ⟨#[]⟩, .slice none 0 0, .slice none 0 0] 25) = w0 at HF0 g0 ⊢
  go_loopg [9] (al + 1) (fun g iv wr => ∃ k : Nat, k ≤ al ∧ iv = .int .i64 k ∧ g = al + 1 - k ∧ FI P t at' w wr k)
  case atStart => exact ⟨0, by omega, rfl, by omega, HF0.out⟩
  case round =>
    obtain ⟨k, hk, rfl, hg, c, cna, cnn, cnc, cla, cln, clc, hbw, hbx, hbz, hcv, hfi⟩ := hrel
    have HBW := Lib.hid hbw
    have HBX := Lib.hid hbx
    have HBZ := Lib.hid hbz
    have HCV := Lib.hid hcv
    have HFI := Lib.hid hfi
    obtain ⟨x0, x1, x2, x3, x4⟩ := box_cells hbx
    obtain ⟨z0, z1, z2, z3, z4⟩ := box_cells hbz
    have q0 := hbz.thaw 0
    have q1 := hbz.thaw 1
    have q2 := hbz.thaw 2
    have q3 := hbz.thaw 3
    have q4 := hbz.thaw 4
    by_cases hlt : k < al
    · have hkl : k < at'.length := by rw [HLA.out]; exact hlt
      obtain ⟨a', c', he, -, -, h3⟩ := HA.out.below hbw
      injection he with he1 he2 he3
      subst he1 he3
      clear he2
      rcases h3 with h3 | ⟨ab, ao, rfl, -, hints⟩
      · rw [h3] at hkl; simp at hkl
      have a0 := hints k hkl
      have hdr : at'.drop k = at'[k] :: at'.drop (k + 1) := List.drop_eq_getElem_cons hkl
      rw [hdr] at hfi
      have hlen := synV_len hcv
      obtain ⟨hl1, hl2⟩ := hlen
      unfold maxLen at hl2
      generalize at'[k] = i at *
      by_cases hin : 0 ≤ i ∧ i.toNat < c.l.length
      · obtain ⟨m, rfl⟩ : ∃ m : Nat, i = m := ⟨i.toNat, by omega⟩
        have hm : m < c.l.length := by have := hin.2; simpa using this
        rw [Pl.find_in _ c m hm] at hfi
        have hcl := ((synV_iff _ _ _ _).1 hcv)
        obtain ⟨-, nv, lv, hve, -, hsl⟩ := hcl
        simp only [Value.agg.injEq, Array.mk.injEq, List.cons.injEq, and_true, true_and] at hve
        obtain ⟨rfl, rfl⟩ := hve
        rcases SynSl.cases hsl with ⟨hk0, -⟩ | ⟨b, off, n', cc', hv, hnl, hn0, hnc, hcm, hPb, hka⟩
        · rw [hk0] at hm; simp at hm
        injection hv with hv1 hv2 hv3
        subst hv1 hv2 hv3
        obtain ⟨xo, xn, xs, xna, xnn, xnc, xla, xln, xlc, hxo, e0, e1, e2, e3, e4, hxs⟩ := hka.part m hm
        have hxs2 := hxs
        rw [synV_iff] at hxs2
        obtain ⟨-, nv2, lv2, hve2, -, -⟩ := hxs2
        simp only [Value.agg.injEq, Array.mk.injEq, List.cons.injEq, and_true, Value.int.injEq, Value.string.injEq, true_and] at hve2
        obtain ⟨rfl, rfl, rfl, -, -⟩ := hve2
        have hmln : m < cln := by omega
        have w1 : decide ((m : Int) < 0) = false := decide_eq_false (by omega)
        have w2 : decide ((m : Int) ≥ (cln : Int)) = false := decide_eq_false (by omega)
        have w3 : decide ((cln : Int) ≤ (m : Int)) = false := decide_eq_false (by omega)
        have s0 := hbx.thaw 0
        have s1 := hbx.thaw 1
        have s2 := hbx.thaw 2
        have s3 := hbx.thaw 3
        have s4 := hbx.thaw 4
        have HNX := Lib.hid (show FI P t at' w (store5 wr w.heap.size 0 (.int .i64 c.l[m].op) (.int .i64 c.l[m].n) (.string c.l[m].s) (.slice xna xnn xnc) (.slice xla xln xlc)) (k + 1) from
          ⟨c.l[m], xna, xnn, xnc, xla, xln, xlc, store5_below HBW.out _ _ _ _ _ _ _ (Nat.le_refl _), by simpa [put5] using store5_blk HBX.out 0 (.int .i64 c.l[m].op) (.int .i64 c.l[m].n) (.string c.l[m].s) (.slice xna xnn xnc) (.slice xla xln xlc), HBZ.out.of_eq (store5_other _ _ _ _ _ _ _ _ _ (by omega)), hxs.keep (fun b hb => store5_other _ _ _ _ _ _ _ _ b (by have := HP.out b hb; omega)), hfi⟩)
        unfold store5 at HNX
        simp only [Nat.zero_add] at HNX
        have HG2 := Lib.hid hmln
        generalize c.l[m] = y at *
        clear hbw hbx hbz hcv hfi hdr hin hm hxs hsl hka hnl hl1 hints hkl
        go_wp2
        go_roundg (gk - 1)
        case measure => omega
        case rel => exact ⟨k + 1, by omega, by go_num, by omega, HNX.out⟩
      · rw [Pl.find_out _ c i hin] at hfi
        have HR := Lib.hid (show Pl.find at' t = none from hfi.symm)
        rw [hl1] at hin
        clear hbw hbx hbz hcv hfi hdr hints hkl
        by_cases hneg : i < 0
        · have w1 : decide (i < 0) = true := decide_eq_true hneg
          clear hneg hin
          go_wp2
          have HEND := store5_below HBW.out (w.heap.size + 1) 0 (.int .i64 0) (.int .i64 0) (.string ⟨#[]⟩) (.slice none 0 0) (.slice none 0 0) (by omega)
          have HENB := store5_blk HBZ.out 0 (.int .i64 0) (.int .i64 0) (.string ⟨#[]⟩) (.slice none 0 0) (.slice none 0 0)
          unfold store5 at HEND HENB
          simp only [Nat.zero_add] at HEND HENB
          obtain ⟨k0, k1, k2, k3, k4⟩ := box_cells (by simpa [put5] using HENB)
          refine bodyPost_ret (v := .tuple #[zeroSyn, .bool false]) (by simp [results, Try.results29, go_sem, k0, k1, k2, k3, k4, zeroSyn]; try rfl) rfl ?_
          rw [HR.out]
          exact ⟨rfl, HEND⟩
        · have w1 : decide (i < 0) = false := decide_eq_false hneg
          have w2 : decide (i ≥ (cln : Int)) = true := decide_eq_true (by omega)
          have w3 : decide ((cln : Int) ≤ i) = true := decide_eq_true (by omega)
          clear hneg hin
          go_wp2
          have HEND := store5_below HBW.out (w.heap.size + 1) 0 (.int .i64 0) (.int .i64 0) (.string ⟨#[]⟩) (.slice none 0 0) (.slice none 0 0) (by omega)
          have HENB := store5_blk HBZ.out 0 (.int .i64 0) (.int .i64 0) (.string ⟨#[]⟩) (.slice none 0 0) (.slice none 0 0)
          unfold store5 at HEND HENB
          simp only [Nat.zero_add] at HEND HENB
          obtain ⟨k0, k1, k2, k3, k4⟩ := box_cells (by simpa [put5] using HENB)
          refine bodyPost_ret (v := .tuple #[zeroSyn, .bool false]) (by simp [results, Try.results29, go_sem, k0, k1, k2, k3, k4, zeroSyn]; try rfl) rfl ?_
          rw [HR.out]
          exact ⟨rfl, HEND⟩
    · have hdr : at'.drop k = [] := List.drop_eq_nil_of_le (by rw [HLA.out]; omega)
      have HR := Lib.hid (show Pl.find at' t = some c from by rw [← hfi, hdr]; rfl)
      have n1 : ¬ w.heap.size + 1 = w.heap.size := by omega
      clear hbw hbx hbz hcv hfi g0 hdr
      go_wp2
      have HEND := store5_below HBW.out (w.heap.size + 1) 0 (.int .i64 c.op) (.int .i64 c.n) (.string c.s) (.slice cna cnn cnc) (.slice cla cln clc) (by omega)
      have HENB := store5_blk HBZ.out 0 (.int .i64 c.op) (.int .i64 c.n) (.string c.s) (.slice cna cnn cnc) (.slice cla cln clc)
      have HENV := HCV.out.keep (w' := store5 _ (w.heap.size + 1) 0 (.int .i64 c.op) (.int .i64 c.n) (.string c.s) (.slice cna cnn cnc) (.slice cla cln clc)) (fun b hb => store5_other _ (w.heap.size + 1) 0 (.int .i64 c.op) (.int .i64 c.n) (.string c.s) (.slice cna cnn cnc) (.slice cla cln clc) b (by have := HP.out b hb; omega))
      unfold store5 at HEND HENB HENV
      simp only [Nat.zero_add] at HEND HENB HENV
      obtain ⟨k0, k1, k2, k3, k4⟩ := box_cells (by simpa [put5] using HENB)
      refine bodyPost_ret (v := .tuple #[.agg #[.int .i64 c.op, .int .i64 c.n, .string c.s, .slice cna cnn cnc, .slice cla cln clc], .bool true]) (by simp [results, Try.results29, go_sem, k0, k1, k2, k3, k4]) rfl ?_
      rw [HR.out]
      exact ⟨⟨_, rfl, HENV⟩, HEND⟩
end Go.Proofs.Ytkhpihacjhhklaa

/-
  Plain mathematics of layer 3: what Replace answers where a part is put somewhere, and put back.
-/
namespace Go.Proofs.Ytkhpihacjhhklaa
open Go Go.RowKit
open Pl (Syn)

theorem any_of_valid (t : Syn) (h : validP (Pl.cat t.op) t = true) : anyP t = true := by
  unfold validP at h
  unfold anyP
  rw [Bool.and_eq_true] at h ⊢
  refine ⟨decide_eq_true (fun e => ?_), h.2⟩
  have h1 := h.1
  rw [e, Pl.bel_zero] at h1
  cases h1
theorem any_parts {t : Syn} (h : anyP t = true) : Pl.cat t.op ≠ 0 ∧ Pl.formed t = true := by
  unfold anyP at h
  rw [Bool.and_eq_true] at h
  exact ⟨of_decide_eq_true h.1, h.2⟩
theorem bel_cat (op : Int) (h : Pl.cat op ≠ 0) : Pl.bel op (Pl.cat op) = true := by
  rw [Pl.bel_eq _ _ h]
  unfold Pl.rbel
  exact decide_eq_true (.inl rfl)
theorem cat_of_bel (op c : Int) (h : Pl.bel op c = true) : Pl.cat op ≠ 0 := by
  unfold Pl.bel at h
  split at h
  · next h1 => rcases h1 with rfl | rfl <;> decide
  · have := of_decide_eq_true h
    omega
theorem common_self (op : Int) (h : Pl.cat op ≠ 0) : common op op = true := by
  rw [common_iff]
  have hr := Pl.cat_range op
  refine ⟨(Pl.cat op).toNat, by omega, by omega, ?_⟩
  rw [Int.toNat_of_nonneg hr.1, bel_cat op h]; rfl
theorem common_turn (op o : Int) (h : common op o = true) : common o op = true := by
  rw [common_iff] at h ⊢
  obtain ⟨c, h1, h2, h3⟩ := h
  exact ⟨c, h1, h2, by rw [Bool.and_comm]; exact h3⟩
theorem common_cat (op o : Int) (h : common op o = true) : Pl.cat o ≠ 0 := by
  rw [common_iff] at h
  obtain ⟨c, h1, h2, h3⟩ := h
  rw [Bool.and_eq_true] at h3
  exact cat_of_bel o c h3.2
/-- no such place -/
theorem rep_range (t : Syn) (at' : List Int) (by' : Syn) (ha : anyP t = true) (hf : Pl.find at' t = none) : repCode t at' by' = 2 := by
  unfold repCode
  rw [if_neg (by rw [ha]; decide), (Pl.put_none at' t by').2 hf]
/-- the part itself -/
theorem rep_self (t : Syn) (at' : List Int) (old : Syn) (ha : anyP t = true) (hf : Pl.find at' t = some old) : repCode t at' old = 0 ∧ Pl.put at' t old = some t := by
  have hp := Pl.put_self at' t old hf
  refine ⟨?_, hp⟩
  unfold repCode
  rw [if_neg (by rw [ha]; decide), hp]
  have h := any_parts ha
  show (if (Pl.formed t && common t.op t.op) = true then (0 : Int) else 3) = 0
  rw [h.2, common_self _ h.1]; rfl
/-- another part: it is there, or the tree would not be well-formed -/
theorem rep_other (t : Syn) (at' : List Int) (by' old : Syn) (ha : anyP t = true) (hf : Pl.find at' t = some old) : repCode t at' by' = 3 ∨ (repCode t at' by' = 0 ∧ ∃ x, Pl.put at' t by' = some x ∧ Pl.find at' x = some by' ∧ anyP x = true ∧ repCode x at' old = 0 ∧ Pl.put at' x old = some t ∧ x.size + old.size = t.size + by'.size) := by
  have hne : Pl.put at' t by' ≠ none := fun e => by
    rw [(Pl.put_none at' t by').1 e] at hf; cases hf
  cases hp : Pl.put at' t by' with
  | none => exact absurd hp hne
  | some x =>
    have h := any_parts ha
    by_cases hc : (Pl.formed x && common t.op x.op) = true
    · right
      have hc2 := hc
      rw [Bool.and_eq_true] at hc2
      have hax : anyP x = true := by
        unfold anyP
        rw [hc2.1, decide_eq_true (common_cat _ _ hc2.2)]; rfl
      have hpx : Pl.put at' x old = some t := by rw [Pl.put_put at' t by' x old hp, Pl.put_self at' t old hf]
      refine ⟨?_, x, rfl, Pl.put_find at' t by' x hp, hax, ?_, hpx, Pl.put_size at' t by' x old hp hf⟩
      · unfold repCode
        rw [if_neg (by rw [ha]; decide), hp]
        exact if_pos hc
      · unfold repCode
        rw [if_neg (by rw [hax]; decide), hpx]
        show (if (Pl.formed t && common x.op t.op) = true then (0 : Int) else 3) = 0
        rw [h.2, common_turn _ _ hc2.2]; rfl
    · left
      unfold repCode
      rw [if_neg (by rw [ha]; decide), hp]
      exact if_neg hc
end Go.Proofs.Ytkhpihacjhhklaa

/-
  Plain mathematics of layer 3: two kinds have a common category, as the program and as the reference say it.
-/
namespace Go.Proofs.Ytkhpihacjhhklaa
open Go Go.RowKit
open Pl (Syn)

theorem common_same (op o : Int) (h : Pl.cat op ≠ 0) : common op o = (decide (Pl.cat o = Pl.cat op) || (Pl.rbel op 5 && Pl.rbel o 5)) := by
  rw [Bool.eq_iff_iff, common_iff, Bool.or_eq_true, Bool.and_eq_true, decide_eq_true_iff]
  constructor
  · rintro ⟨c, h1, h2, h3⟩
    rw [Bool.and_eq_true, Pl.bel_eq _ _ (by omega), Pl.bel_eq _ _ (by omega)] at h3
    by_cases hc : (c : Int) = 5
    · right; rw [hc] at h3; exact h3
    · left
      have h4 := of_decide_eq_true h3.1
      have h5 := of_decide_eq_true h3.2
      omega
  · rintro (h1 | h1)
    · have hr := Pl.cat_range op
      refine ⟨(Pl.cat op).toNat, by omega, by omega, ?_⟩
      rw [Int.toNat_of_nonneg hr.1, bel_cat op h, Bool.true_and, ← h1]
      exact bel_cat o (by rw [h1]; exact h)
    · refine ⟨5, by omega, by omega, ?_⟩
      rw [Bool.and_eq_true]
      exact ⟨(Pl.bel_eq op 5 (by decide)).trans h1.1, (Pl.bel_eq o 5 (by decide)).trans h1.2⟩
end Go.Proofs.Ytkhpihacjhhklaa
