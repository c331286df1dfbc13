/-
  Walks of layer 3: trees that are few; SyntaxSizes.
-/
import Derived.Test.YtkhpihacjhhklaaTt
import Derived.Test.YtkhpihacjhhklaaSs
import Derived.Deep.RegionHeld3
namespace Go.Proofs.Ytkhpihacjhhklaa
open Go Go.RowKit
open Pl (Syn)
set_option linter.unusedSimpArgs false

def FitsPost (t : Syn) (w : World) (e : Ending) (w' : World) : Prop := ∃ r : Bool, e = .returned (.bool r) ∧ (r = true → t.big ≤ 139500) ∧ Below w.heap.size w w'
set_option maxRecDepth 100000 in
set_option maxHeartbeats 4000000 in
theorem fits_any (P : Nat → Prop) (t : Syn) (w : World) (v : Value) (hP : ∀ b, P b → b < w.heap.size) (ht : SynV w P t v) : Calls Try.prog 10 #[v] w (FitsPost t w) := by
  have HT := Lib.hid ht
  obtain ⟨na, nn, nc, la, ln, lc, rfl⟩ := ht.form
  have hb : Below w.heap.size w ((w.alloc (.cells #[.int .i64 t.op, .int .i64 t.n, .string t.s, .slice na nn nc, .slice la ln lc] 25)).alloc (.cells #[.int .i64 4500] 3)) := (((Below.refl _ _).alloc (Nat.le_refl _) _).alloc (by simp) _)
  have hi : Cell1 (w.heap.size + 1) (4500 : Int) ((w.alloc (.cells #[.int .i64 t.op, .int .i64 t.n, .string t.s, .slice na nn nc, .slice la ln lc] 25)).alloc (.cells #[.int .i64 4500] 3)) := by
    have := blk_new (w.alloc (.cells #[.int .i64 t.op, .int .i64 t.n, .string t.s, .slice na nn nc, .slice la ln lc] 25)) #[.int .i64 4500] 3
    rw [size_alloc] at this
    exact this
  have HC := Lib.hid (few_any t P _ (.agg #[.int .i64 t.op, .int .i64 t.n, .string t.s, .slice na nn nc, .slice la ln lc]) (w.heap.size + 1) 4500 0 hi (HT.out.keep (Same.of_below hb hP)) (fun b hbp => ⟨Nat.lt_of_lt_of_le (hP b hbp) hb.size, fun e => by have := hP b hbp; omega⟩) (by omega) (by omega) (by omega) (by omega))
  have HB := Lib.hid hb
  clear ht hb hi hP
  go_enter Try.func10, Try.ntmps10
  go_wp2_with fail
  refine HC.out.mono ?_
  rintro e w1 ⟨r, rfl, left', hc1, hf1, h1, h2, h3⟩
  have HF1 := Lib.hid (fr_above HB.out hf1 HB.out.size (fun i hi => by have h1 : i = w.heap.size + 1 := hi; omega))
  have H3 := Lib.hid h3
  clear hf1 hc1 h3
  go_wp2
  go_ret
  refine ⟨r, rfl, fun h => ?_, HF1.out⟩
  have := H3.out h
  omega
open Classical in
/-- a Bool for what holds -/
noncomputable def yes (p : Prop) : Bool := decide p
open Classical in
theorem yes_iff {p : Prop} : yes p = true ↔ p := by unfold yes; exact decide_eq_true_iff
theorem tells_yesB {p : Prop} {w w' : World} {e : Ending} (h : Tells p w e w') : e = .returned (.bool (yes p)) ∧ Below w.heap.size w w' := by
  obtain ⟨r, rfl, hr, hb⟩ := h
  refine ⟨?_, hb⟩
  have : r = yes p := by
    rw [Bool.eq_iff_iff, hr, yes_iff]
  rw [this]
theorem yes_true {p : Prop} (h : p) : yes p = true := yes_iff.2 h
theorem belowStep {a b c : World} (h2 : Below b.heap.size b c) (h1 : Below a.heap.size a b) : Below a.heap.size a c := h1.trans (h2.mono h1.size)
theorem box_cells {w : World} {g : Nat} {a b c d e : Value} (h : Blk w g 25 #[a, b, c, d, e]) : w.cell? ⟨g, 0, none⟩ = some a ∧ w.cell? ⟨g, 1, none⟩ = some b ∧ w.cell? ⟨g, 2, none⟩ = some c ∧ w.cell? ⟨g, 3, none⟩ = some d ∧ w.cell? ⟨g, 4, none⟩ = some e :=
  ⟨h.cell 0 _ rfl, h.cell 1 _ rfl, h.cell 2 _ rfl, h.cell 3 _ rfl, h.cell 4 _ rfl⟩
set_option maxRecDepth 100000 in
set_option maxHeartbeats 8000000 in
theorem sizes_any (P Q : Nat → Prop) (a b : Syn) (w : World) (u v : Value) (hP : ∀ i, P i → i < w.heap.size) (hQ : ∀ i, Q i → i < w.heap.size) (ha : SynV w P a u) (hb : SynV w Q b v) :
    Calls Try.prog 4 #[u, v] w fun e w' => e = .returned (.bool true) ∧ Below w.heap.size w w' := by
  have HA := Lib.hid ha
  have HBB := Lib.hid hb
  obtain ⟨na, nn, nc, la, ln, lc, rfl⟩ := ha.form
  obtain ⟨ma, mn, mc, ka, kn, kc, rfl⟩ := hb.form
  have hw0 := below2 w (.cells #[.int .i64 a.op, .int .i64 a.n, .string a.s, .slice na nn nc, .slice la ln lc] 25) (.cells #[.int .i64 b.op, .int .i64 b.n, .string b.s, .slice ma mn mc, .slice ka kn kc] 25)
  have hbx := boxes_new w #[.int .i64 a.op, .int .i64 a.n, .string a.s, .slice na nn nc, .slice la ln lc] #[.int .i64 b.op, .int .i64 b.n, .string b.s, .slice ma mn mc, .slice ka kn kc]
  have HW0 := Lib.hid hw0
  have HBX := Lib.hid hbx
  have HP := Lib.hid hP
  have HQ := Lib.hid hQ
  clear ha hb hw0 hbx hP hQ
  go_enter Try.func4, Try.ntmps4
  go_wp2_with fail
  generalize (w.alloc (.cells #[.int .i64 a.op, .int .i64 a.n, .string a.s, .slice na nn nc, .slice la ln lc] 25)).alloc (.cells #[.int .i64 b.op, .int .i64 b.n, .string b.s, .slice ma mn mc, .slice ka kn kc] 25) = w0 at *
  refine (awake_any _).mono ?_
  rintro e w1 ⟨rfl, hb1⟩
  have HB1 := Lib.hid (HW0.out.trans (hb1.mono HW0.out.size))
  have HX1 := Lib.hid (HBX.out.below hb1)
  obtain ⟨x0, x1, x2, x3, x4⟩ := box_cells HX1.out.1
  obtain ⟨y0, y1, y2, y3, y4⟩ := box_cells HX1.out.2
  clear hb1
  go_wp2_with fail
  refine (fits_any P a w1 _ (fun i hi => Nat.lt_of_lt_of_le (HP.out i hi) HB1.out.size) (HA.out.keep (Same.of_below HB1.out HP.out))).mono ?_
  rintro e w2 ⟨r, rfl, hr, hb2⟩
  have HB2 := Lib.hid (belowStep hb2 HB1.out)
  have HX2 := Lib.hid (HX1.out.below hb2)
  have HR := Lib.hid hr
  clear hb2 hr x0 x1 x2 x3 x4 y0 y1 y2 y3 y4
  obtain ⟨x0, x1, x2, x3, x4⟩ := box_cells HX2.out.1
  obtain ⟨y0, y1, y2, y3, y4⟩ := box_cells HX2.out.2
  cases r
  · go_wp2
    go_ret
    exact ⟨rfl, HB2.out⟩
  have hba := HR.out rfl
  go_wp2_with fail
  refine (fits_any Q b w2 _ (fun i hi => Nat.lt_of_lt_of_le (HQ.out i hi) HB2.out.size) (HBB.out.keep (Same.of_below HB2.out HQ.out))).mono ?_
  rintro e w3 ⟨r, rfl, hr, hb3⟩
  have HB3 := Lib.hid (belowStep hb3 HB2.out)
  have HX3 := Lib.hid (HX2.out.below hb3)
  have HR2 := Lib.hid hr
  clear hb3 hr x0 x1 x2 x3 x4 y0 y1 y2 y3 y4
  obtain ⟨x0, x1, x2, x3, x4⟩ := box_cells HX3.out.1
  obtain ⟨y0, y1, y2, y3, y4⟩ := box_cells HX3.out.2
  cases r
  · go_wp2
    go_ret
    exact ⟨rfl, HB3.out⟩
  have hbb := HR2.out rfl
  have HS := Lib.hid (fun W (hW : Below w3.heap.size w3 W) => (show _ ∧ _ ∧ _ from ⟨hW, box_cells (HX3.out.below hW).1, box_cells (HX3.out.below hW).2⟩))
  have hPW := fun W (hW : Below w3.heap.size w3 W) i (hi : P i) => Nat.lt_of_lt_of_le (HP.out i hi) (Nat.le_trans HB3.out.size hW.size)
  have hQW := fun W (hW : Below w3.heap.size w3 W) i (hi : Q i) => Nat.lt_of_lt_of_le (HQ.out i hi) (Nat.le_trans HB3.out.size hW.size)
  have hAW := fun W (hW : Below w3.heap.size w3 W) => HA.out.keep (Same.of_below (belowStep hW HB3.out) HP.out)
  have hBW := fun W (hW : Below w3.heap.size w3 W) => HBB.out.keep (Same.of_below (belowStep hW HB3.out) HQ.out)
  have H15 := Lib.hid (fun W hW => size_any P a W _ (hPW W hW) (hAW W hW) (by omega))
  have H16 := Lib.hid (fun W hW => rsize_any P a W _ (hPW W hW) (hAW W hW) (by omega))
  have H17 := Lib.hid (fun W hW => depth_any P a W _ (hPW W hW) (hAW W hW) (by omega))
  have H18 := Lib.hid (fun W hW => rdepth_any P a W _ (hPW W hW) (hAW W hW) (by omega))
  have H19 := Lib.hid (fun W hW => (equal_any a P Q b W _ _ (hPW W hW) (hQW W hW) (hAW W hW) (hBW W hW)).mono fun _ _ => tells_yesB)
  have H20 := Lib.hid (fun W hW => (requal_any a P Q b W _ _ (hPW W hW) (hQW W hW) (hAW W hW) (hBW W hW)).mono fun _ _ => tells_yesB)
  have H21 := Lib.hid (fun W hW => (equal_any b Q Q b W _ _ (hQW W hW) (hQW W hW) (hBW W hW) (hBW W hW)).mono fun _ _ => tells_yesB)
  rw [yes_true (show b = b from rfl)] at H21
  generalize yes (a = b) = r at H19 H20
  clear hPW hQW hAW hBW hba hbb
  have HD0 := Lib.hid (Below.refl w3.heap.size w3).drew
  go_wp2
  go_region_held3 (fun W => Below w3.heap.size w3 W ∧ (W.cell? ⟨w.heap.size, 0, none⟩ = some (.int .i64 a.op) ∧ W.cell? ⟨w.heap.size, 1, none⟩ = some (.int .i64 a.n) ∧ W.cell? ⟨w.heap.size, 2, none⟩ = some (.string a.s) ∧ W.cell? ⟨w.heap.size, 3, none⟩ = some (.slice na nn nc) ∧ W.cell? ⟨w.heap.size, 4, none⟩ = some (.slice la ln lc)) ∧ (W.cell? ⟨w.heap.size + 1, 0, none⟩ = some (.int .i64 b.op) ∧ W.cell? ⟨w.heap.size + 1, 1, none⟩ = some (.int .i64 b.n) ∧ W.cell? ⟨w.heap.size + 1, 2, none⟩ = some (.string b.s) ∧ W.cell? ⟨w.heap.size + 1, 3, none⟩ = some (.slice ma mn mc) ∧ W.cell? ⟨w.heap.size + 1, 4, none⟩ = some (.slice ka kn kc)))
    (first | exact HS.out _ HD0.out | exact HS.out _ (by assumption))
    (first
    | (go_at_call 15; refine (H15.out _ (by assumption)).mono ?_; rintro e wn ⟨rfl, hbn⟩; have hbn2 := belowStep (a := w3) hbn (by assumption))
    | (go_at_call 16; refine (H16.out _ (by assumption)).mono ?_; rintro e wn ⟨rfl, hbn⟩; have hbn2 := belowStep (a := w3) hbn (by assumption))
    | (go_at_call 17; refine (H17.out _ (by assumption)).mono ?_; rintro e wn ⟨rfl, hbn⟩; have hbn2 := belowStep (a := w3) hbn (by assumption))
    | (go_at_call 18; refine (H18.out _ (by assumption)).mono ?_; rintro e wn ⟨rfl, hbn⟩; have hbn2 := belowStep (a := w3) hbn (by assumption))
    | (go_at_call 20; refine (H20.out _ (by assumption)).mono ?_; rintro e wn ⟨rfl, hbn⟩; have hbn2 := belowStep (a := w3) hbn (by assumption))
    | (go_at_call 19; first | ((with_reducible refine (H19.out _ (by assumption)).mono ?_); rintro e wn ⟨rfl, hbn⟩; have hbn2 := belowStep (a := w3) hbn (by assumption)) | ((with_reducible refine (H21.out _ (by assumption)).mono ?_); rintro e wn ⟨rfl, hbn⟩; have hbn2 := belowStep (a := w3) hbn (by assumption))))
  all_goals
    go_wp2
    go_ret
    exact ⟨by first | rfl | trivial, belowStep (by assumption) HB3.out⟩
end Go.Proofs.Ytkhpihacjhhklaa
