/-
  Walks of layer 3: SyntaxReplaces.
-/
import Derived.Test.YtkhpihacjhhklaaYsM
namespace Go.Proofs.Ytkhpihacjhhklaa
open Go Go.RowKit
open Pl (Syn)
set_option linter.unusedSimpArgs false

/-- the tree that both answer with -/
def ansTree (t : Syn) (at' : List Int) (by' : Syn) : Syn := if repCode t at' by' = 0 then (Pl.put at' t by').getD Pl.none0 else Pl.none0
theorem ans_form {w : World} {P : Nat → Prop} {y : Syn} {v : Value} (h : SynV w P y v) : ∃ o n s na nn nc la ln lc, v = .agg #[.int .i64 o, .int .i64 n, .string s, .slice na nn nc, .slice la ln lc] := by
  obtain ⟨na, nn, nc, la, ln, lc, rfl⟩ := h.form
  exact ⟨_, _, _, _, _, _, _, _, _, rfl⟩
theorem rep_ans {t : Syn} {at' : List Int} {by' : Syn} {w : World} {e : Ending} {w' : World} (h : ReplacePost t at' by' w e w') : ∃ xo xn xs xna xnn xnc xla xln xlc, e = .returned (.tuple #[.agg #[.int .i64 xo, .int .i64 xn, .string xs, .slice xna xnn xnc, .slice xla xln xlc], .int .i64 (repCode t at' by')]) ∧ SynV w' (fun b => b < w'.heap.size) (ansTree t at' by') (.agg #[.int .i64 xo, .int .i64 xn, .string xs, .slice xna xnn xnc, .slice xla xln xlc]) ∧ Below w.heap.size w w' := by
  obtain ⟨h, hb⟩ := h
  have hz : zeroSyn = (.agg #[.int .i64 0, .int .i64 0, .string ByteArray.empty, .slice none 0 0, .slice none 0 0] : Value) := rfl
  rcases h with ⟨h0, rfl⟩ | ⟨h0, x, v, hp, rfl, hv⟩
  · refine ⟨_, _, _, _, _, _, _, _, _, by rw [hz], ?_, hb⟩
    unfold ansTree
    rw [if_neg h0]
    exact synV_none _ _
  · obtain ⟨o, n, s, na, nn, nc, la, ln, lc, rfl⟩ := ans_form hv
    refine ⟨_, _, _, _, _, _, _, _, _, by rw [h0], ?_, hb⟩
    unfold ansTree
    rw [if_pos h0, hp]
    exact hv.mono (fun b hb => hb.2)
theorem rrep_ans {P Q : Nat → Prop} {t : Syn} {at' : List Int} {by' : Syn} {w : World} {e : Ending} {w' : World} (hP : ∀ b, P b → b < w.heap.size) (hQ : ∀ b, Q b → b < w.heap.size) (h : RRepPost P Q t at' by' w e w') : ∃ xo xn xs xna xnn xnc xla xln xlc, e = .returned (.tuple #[.agg #[.int .i64 xo, .int .i64 xn, .string xs, .slice xna xnn xnc, .slice xla xln xlc], .int .i64 (repCode t at' by')]) ∧ SynV w' (fun b => b < w'.heap.size) (ansTree t at' by') (.agg #[.int .i64 xo, .int .i64 xn, .string xs, .slice xna xnn xnc, .slice xla xln xlc]) ∧ Below w.heap.size w w' := by
  obtain ⟨h, hb⟩ := h
  have hz : zeroSyn = (.agg #[.int .i64 0, .int .i64 0, .string ByteArray.empty, .slice none 0 0, .slice none 0 0] : Value) := rfl
  rcases h with ⟨h0, rfl⟩ | ⟨h0, x, v, hp, rfl, hv⟩
  · refine ⟨_, _, _, _, _, _, _, _, _, by rw [hz], ?_, hb⟩
    unfold ansTree
    rw [if_neg h0]
    exact synV_none _ _
  · obtain ⟨o, n, s, na, nn, nc, la, ln, lc, rfl⟩ := ans_form hv
    refine ⟨_, _, _, _, _, _, _, _, _, by rw [h0], ?_, hb⟩
    unfold ansTree
    rw [if_pos h0, hp]
    refine hv.mono (fun b hb' => ?_)
    rcases hb' with hb' | hb' | hb'
    · exact Nat.lt_of_lt_of_le (hP b hb') hb.size
    · exact Nat.lt_of_lt_of_le (hQ b hb') hb.size
    · exact hb'.2
set_option maxRecDepth 100000 in
set_option maxHeartbeats 8000000 in
theorem replaces_any (P : Nat → Prop) (t : Syn) (at' : List Int) (by' : Syn) (w : World) (tv av bv : Value) (hP : ∀ i, P i → i < w.heap.size) (ht : SynV w P t tv) (ha : AtSl w av at') (hb : SynV w P by' bv) :
    Calls Try.prog 6 #[tv, av, bv] w fun e w' => e = .returned (.bool true) ∧ Below w.heap.size w w' := by
  have HT := Lib.hid ht
  have HY := Lib.hid hb
  have HA := Lib.hid ha
  have HP := Lib.hid hP
  obtain ⟨na, nn, nc, la, ln, lc, rfl⟩ := ht.form
  obtain ⟨ma, mn, mc, ka, kn, kc, rfl⟩ := hb.form
  obtain ⟨aa, ac, rfl, hal, hacm, -⟩ := ha
  unfold maxLen at hacm
  obtain ⟨al, hla⟩ : ∃ al, al = at'.length := ⟨_, rfl⟩
  rw [← hla] at hal HA ⊢
  have hbx := boxes_new w #[.int .i64 t.op, .int .i64 t.n, .string t.s, .slice na nn nc, .slice la ln lc] #[.int .i64 by'.op, .int .i64 by'.n, .string by'.s, .slice ma mn mc, .slice ka kn kc]
  have HXT := Lib.hid hbx.1
  have HXY := Lib.hid hbx.2
  have HB0 := Lib.hid (show Below w.heap.size w ((w.alloc (.cells #[.int .i64 t.op, .int .i64 t.n, .string t.s, .slice na nn nc, .slice la ln lc] 25)).alloc (.cells #[.int .i64 by'.op, .int .i64 by'.n, .string by'.s, .slice ma mn mc, .slice ka kn kc] 25)) from below2 w _ _)
  obtain ⟨dl, hdl⟩ : ∃ dl, decide ((50 : Int) < (al : Int)) = dl := ⟨_, rfl⟩
  have hdl2 : decide ((al : Int) > 50) = dl := hdl
  clear hP ht hb hbx hla
  go_enter Try.func6, Try.ntmps6
  go_wp2_with fail
  generalize ((w.alloc (.cells #[.int .i64 t.op, .int .i64 t.n, .string t.s, .slice na nn nc, .slice la ln lc] 25)).alloc (.cells #[.int .i64 by'.op, .int .i64 by'.n, .string by'.s, .slice ma mn mc, .slice ka kn kc] 25)) = w0 at *
  have HS := Lib.hid (fun W (hW : Below w0.heap.size w0 W) => (show _ ∧ _ from ⟨box_cells (HXT.out.of_eq (hW.block _ (Blk.lt HXT.out))), box_cells (HXY.out.of_eq (hW.block _ (Blk.lt HXY.out)))⟩))
  have HPW := Lib.hid (fun W (hW : Below w0.heap.size w0 W) b (hb : P b) => Nat.lt_of_lt_of_le (HP.out b hb) (Nat.le_trans HB0.out.size hW.size))
  have HTW := Lib.hid (fun W (hW : Below w0.heap.size w0 W) => HT.out.keep (Same.of_below (belowStep hW HB0.out) HP.out))
  have HYW := Lib.hid (fun W (hW : Below w0.heap.size w0 W) => HY.out.keep (Same.of_below (belowStep hW HB0.out) HP.out))
  have HAW := Lib.hid (fun W (hW : Below w0.heap.size w0 W) => HA.out.below (belowStep hW HB0.out))
  refine (awake_any _).mono ?_
  rintro e w1 ⟨rfl, hb1⟩
  have HB1 := Lib.hid (show Below w0.heap.size w0 w1 from hb1)
  clear hb1
  obtain ⟨⟨x0, x1, x2, x3, x4⟩, ⟨y0, y1, y2, y3, y4⟩⟩ := HS.out _ HB1.out
  go_wp2_with fail
  refine (fits_any P t w1 _ (HPW.out _ HB1.out) (HTW.out _ HB1.out)).mono ?_
  rintro e w2 ⟨r, rfl, hr, hb2⟩
  have HB2 := Lib.hid (belowStep hb2 HB1.out)
  have HR := Lib.hid hr
  clear hb2 hr x0 x1 x2 x3 x4 y0 y1 y2 y3 y4
  obtain ⟨⟨x0, x1, x2, x3, x4⟩, ⟨y0, y1, y2, y3, y4⟩⟩ := HS.out _ HB2.out
  cases r
  · go_wp2
    go_ret
    exact ⟨by first | rfl | trivial, belowStep HB2.out HB0.out⟩
  have HTB := Lib.hid (HR.out (by first | rfl | trivial))
  go_wp2_with fail
  refine (fits_any P by' w2 _ (HPW.out _ HB2.out) (HYW.out _ HB2.out)).mono ?_
  rintro e w3 ⟨r, rfl, hr, hb3⟩
  have HB3 := Lib.hid (belowStep hb3 HB2.out)
  have HR2 := Lib.hid hr
  clear hb3 hr x0 x1 x2 x3 x4 y0 y1 y2 y3 y4
  obtain ⟨⟨x0, x1, x2, x3, x4⟩, ⟨y0, y1, y2, y3, y4⟩⟩ := HS.out _ HB3.out
  cases r
  · go_wp2
    go_ret
    exact ⟨by first | rfl | trivial, belowStep HB3.out HB0.out⟩
  have HYB := Lib.hid (HR2.out (by first | rfl | trivial))
  cases dl
  · have HRP := Lib.hid ((replace_any P P t at' by' w3 _ _ _ (HPW.out _ HB3.out) (HPW.out _ HB3.out) (HTW.out _ HB3.out) (HYW.out _ HB3.out) (HAW.out _ HB3.out) (by have := HTB.out; omega) (by have := HYB.out; omega)).mono fun _ _ => rep_ans)
    have HRQ := Lib.hid (fun W (hW : Below w0.heap.size w0 W) => (rreplace_any P P t at' by' W _ _ _ (HPW.out _ hW) (HPW.out _ hW) (HTW.out _ hW) (HYW.out _ hW) (HAW.out _ hW) (by have := HTB.out; omega) (by have := HYB.out; omega)).mono fun _ _ h => rrep_ans (HPW.out _ hW) (HPW.out _ hW) h)
    generalize repCode t at' by' = c at HRP HRQ
    generalize ansTree t at' by' = y at HRP HRQ
    go_wp2_with fail
    refine HRP.out.mono ?_
    rintro e w4 ⟨xo, xn, xs, xna, xnn, xnc, xla, xln, xlc, rfl, hxv, hb4⟩
    have HB4 := Lib.hid (belowStep hb4 HB3.out)
    have HXV := Lib.hid (fun W (hW : Below w4.heap.size w4 W) => hxv.keep (Same.of_below hW (fun b hb => hb)))
    clear hb4 hxv x0 x1 x2 x3 x4 y0 y1 y2 y3 y4
    have hxb := blk_new w4 #[.int .i64 xo, .int .i64 xn, .string xs, .slice xna xnn xnc, .slice xla xln xlc] 25
    have HBX := Lib.hid (show Below w0.heap.size w0 (w4.alloc (.cells #[.int .i64 xo, .int .i64 xn, .string xs, .slice xna xnn xnc, .slice xla xln xlc] 25)) from HB4.out.alloc HB4.out.size _)
    have HB4X := Lib.hid (show Below w4.heap.size w4 (w4.alloc (.cells #[.int .i64 xo, .int .i64 xn, .string xs, .slice xna xnn xnc, .slice xla xln xlc] 25)) from (Below.refl _ _).alloc (Nat.le_refl _) _)
    have HKX := Lib.hid (fun W (hW : Below (w4.alloc (.cells #[.int .i64 xo, .int .i64 xn, .string xs, .slice xna xnn xnc, .slice xla xln xlc] 25)).heap.size (w4.alloc (.cells #[.int .i64 xo, .int .i64 xn, .string xs, .slice xna xnn xnc, .slice xla xln xlc] 25)) W) => hxb.of_eq (hW.block _ (Blk.lt hxb)))
    have HRR := Lib.hid (HRQ.out _ HBX.out)
    clear hxb
    obtain ⟨⟨x0, x1, x2, x3, x4⟩, ⟨y0, y1, y2, y3, y4⟩⟩ := HS.out _ HBX.out
    go_wp2_with fail
    generalize (w4.alloc (.cells #[.int .i64 xo, .int .i64 xn, .string xs, .slice xna xnn xnc, .slice xla xln xlc] 25)) = wx at HBX HB4X HKX HRR x0 x1 x2 x3 x4 y0 y1 y2 y3 y4 ⊢
    refine HRR.out.mono ?_
    rintro e w5 ⟨zo, zn, zs, zna, znn, znc, zla, zln, zlc, rfl, hzv, hb5⟩
    have HB5 := Lib.hid (belowStep hb5 HBX.out)
    have HX5 := Lib.hid hb5
    clear hb5 x0 x1 x2 x3 x4 y0 y1 y2 y3 y4
    have hzb := blk_new w5 #[.int .i64 zo, .int .i64 zn, .string zs, .slice zna znn znc, .slice zla zln zlc] 25
    have HB5Z := Lib.hid (show Below w5.heap.size w5 (w5.alloc (.cells #[.int .i64 zo, .int .i64 zn, .string zs, .slice zna znn znc, .slice zla zln zlc] 25)) from (Below.refl _ _).alloc (Nat.le_refl _) _)
    have HBZ := Lib.hid (show Below w0.heap.size w0 (w5.alloc (.cells #[.int .i64 zo, .int .i64 zn, .string zs, .slice zna znn znc, .slice zla zln zlc] 25)) from HB5.out.alloc HB5.out.size _)
    have HXZ := Lib.hid (belowStep HB5Z.out HX5.out)
    have HEQ := Lib.hid ((requal_any y _ _ y _ _ _ (fun b hb => Nat.lt_of_lt_of_le hb (belowStep HXZ.out HB4X.out).size) (fun b hb => Nat.lt_of_lt_of_le hb HB5Z.out.size) (HXV.out _ (belowStep HXZ.out HB4X.out)) (hzv.keep (Same.of_below HB5Z.out (fun b hb => hb)))).mono fun _ _ => tells_yesB)
    rw [yes_true (show y = y from rfl)] at HEQ
    obtain ⟨z0, z1, z2, z3, z4⟩ := box_cells hzb
    obtain ⟨q0, q1, q2, q3, q4⟩ := box_cells (HKX.out _ HXZ.out)
    clear hzb hzv
    go_wp2_with fail
    generalize (w5.alloc (.cells #[.int .i64 zo, .int .i64 zn, .string zs, .slice zna znn znc, .slice zla zln zlc] 25)) = wz at HB5Z HBZ HXZ HEQ z0 z1 z2 z3 z4 q0 q1 q2 q3 q4 ⊢
    refine HEQ.out.mono ?_
    rintro e w6 ⟨rfl, hb6⟩
    have HB6 := Lib.hid (belowStep hb6 HBZ.out)
    clear hb6 z0 z1 z2 z3 z4 q0 q1 q2 q3 q4
    go_wp2
    go_ret
    exact ⟨by first | rfl | trivial | simp, belowStep HB6.out HB0.out⟩
  · go_wp2
    go_ret
    exact ⟨by first | rfl | trivial, belowStep HB3.out HB0.out⟩
end Go.Proofs.Ytkhpihacjhhklaa
