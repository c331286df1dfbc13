/-
  Walks of layer 3: SyntaxForms.
-/
import Derived.Test.YtkhpihacjhhklaaG16
import Derived.Test.YtkhpihacjhhklaaG9
import Derived.Deep.RegionHeld3
namespace Go.Proofs.Ytkhpihacjhhklaa
open Go Go.RowKit
open Pl (Syn)
set_option linter.unusedSimpArgs false

set_option maxRecDepth 100000 in
set_option maxHeartbeats 8000000 in
theorem forms_any (P : Nat → Prop) (c : Int) (a : Syn) (o : Int) (w : World) (u : Value) (hP : ∀ i, P i → i < w.heap.size) (ha : SynV w P a u) :
    Calls Try.prog 3 #[.int .i64 c, u, .int .i64 o] w fun e w' => e = .returned (.bool true) ∧ Below w.heap.size w w' := by
  have HA := Lib.hid ha
  obtain ⟨na, nn, nc, la, ln, lc, rfl⟩ := ha.form
  have hw0 : Below w.heap.size w (w.alloc (.cells #[.int .i64 a.op, .int .i64 a.n, .string a.s, .slice na nn nc, .slice la ln lc] 25)) := (Below.refl _ _).alloc (Nat.le_refl _) _
  have hbx := blk_new w #[.int .i64 a.op, .int .i64 a.n, .string a.s, .slice na nn nc, .slice la ln lc] 25
  have HW0 := Lib.hid hw0
  have HBX := Lib.hid hbx
  have HP := Lib.hid hP
  clear ha hw0 hbx hP
  go_enter Try.func3, Try.ntmps3
  go_wp2_with fail
  generalize w.alloc (.cells #[.int .i64 a.op, .int .i64 a.n, .string a.s, .slice na nn nc, .slice la ln lc] 25) = w0 at *
  refine (awake_any _).mono ?_
  rintro e w1 ⟨rfl, hb1⟩
  have HB1 := Lib.hid (HW0.out.trans (hb1.mono HW0.out.size))
  have HX1 := Lib.hid (Blk.of_eq HBX.out (hb1.block _ (Blk.lt HBX.out)))
  obtain ⟨x0, x1, x2, x3, x4⟩ := box_cells HX1.out
  clear hb1
  go_wp2_with fail
  refine (fits_any P a w1 _ (fun i hi => Nat.lt_of_lt_of_le (HP.out i hi) HB1.out.size) (HA.out.keep (Same.of_below HB1.out HP.out))).mono ?_
  rintro e w2 ⟨r, rfl, hr, hb2⟩
  have HB2 := Lib.hid (belowStep hb2 HB1.out)
  have HX2 := Lib.hid (Blk.of_eq HX1.out (hb2.block _ (Blk.lt HX1.out)))
  have HR := Lib.hid hr
  clear hb2 hr x0 x1 x2 x3 x4
  obtain ⟨x0, x1, x2, x3, x4⟩ := box_cells HX2.out
  cases r
  · go_wp2
    go_ret
    exact ⟨rfl, HB2.out⟩
  have hba := HR.out rfl
  have HS := Lib.hid (fun W (hW : Below w2.heap.size w2 W) => (show _ ∧ _ from ⟨hW, box_cells (Blk.of_eq HX2.out (hW.block _ (Blk.lt HX2.out)))⟩))
  have hPW := fun W (hW : Below w2.heap.size w2 W) i (hi : P i) => Nat.lt_of_lt_of_le (HP.out i hi) (Nat.le_trans HB2.out.size hW.size)
  have hAW := fun W (hW : Below w2.heap.size w2 W) => HA.out.keep (Same.of_below (belowStep hW HB2.out) HP.out)
  have H11 := Lib.hid (fun W hW => valid_any P a c W _ (hPW W hW) (hAW W hW) (by omega))
  have H12 := Lib.hid (fun W hW => rvalid_any P a c W _ (hPW W hW) (hAW W hW) (by omega))
  have H13 := Lib.hid (fun W => category_any o W)
  have H14 := Lib.hid (fun W => rcategory_any o W)
  generalize validP c a = r at H11 H12
  generalize Pl.cat o = k at H13 H14
  clear hPW hAW hba
  have HD0 := Lib.hid (Below.refl w2.heap.size w2).drew
  cases r
  all_goals
    go_wp2
    go_region_held3 (fun W => Below w2.heap.size w2 W ∧ (W.cell? ⟨w.heap.size, 0, none⟩ = some (.int .i64 a.op) ∧ W.cell? ⟨w.heap.size, 1, none⟩ = some (.int .i64 a.n) ∧ W.cell? ⟨w.heap.size, 2, none⟩ = some (.string a.s) ∧ W.cell? ⟨w.heap.size, 3, none⟩ = some (.slice na nn nc) ∧ W.cell? ⟨w.heap.size, 4, none⟩ = some (.slice la ln lc)))
      (first | exact HS.out _ HD0.out | exact HS.out _ (by assumption))
      (first
      | (go_at_call 11; refine (H11.out _ (by assumption)).mono ?_; rintro e wn ⟨rfl, hbn⟩; have hbn2 := belowStep (a := w2) hbn (by assumption))
      | (go_at_call 12; refine (H12.out _ (by assumption)).mono ?_; rintro e wn ⟨rfl, hbn⟩; have hbn2 := belowStep (a := w2) hbn (by assumption))
      | (go_at_call 13; refine (H13.out _).mono ?_; rintro e wn ⟨rfl, rfl⟩)
      | (go_at_call 14; refine (H14.out _).mono ?_; rintro e wn ⟨rfl, rfl⟩))
  all_goals
    go_wp2
    go_ret
    exact ⟨by first | rfl | trivial, belowStep (by assumption) HB2.out⟩
end Go.Proofs.Ytkhpihacjhhklaa
