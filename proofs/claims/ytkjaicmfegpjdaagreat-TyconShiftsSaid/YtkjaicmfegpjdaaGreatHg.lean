/-
  Layer 9: several texts in one (Rt Ru Rv Rw Rx Ry).
-/
import Derived.Test.YtkjaicmfegpjdaaGreatHe
import Derived.Test.YtkjaicmfegpjdaaGreatHf
import Derived.Test.YtkjaicmfegpjdaaGreatHa
import Derived.Deep.RegionHeld3
import Derived.Test.YtkjaicmfegpjdaaGreatShelf
import Derived.Sort.OwnSortedInts
import Derived.Lib.OwnBridge
import Derived.Lib.RowBridge
import Derived.OwnWalkIn
namespace Go.Proofs.YtkjaicmfegpjdaaGreat
open Go Go.RowKit
open Pl (K Con)
set_option linter.unusedSimpArgs false
set_option linter.unusedVariables false

theorem valid_depth (t : Con) (h : Con.validB t = true) : t.depth ≤ 1000 := by
  unfold Con.validB Con.small at h
  simp only [Bool.and_eq_true, decide_eq_true_eq] at h
  omega
/-- a constructor, or nothing, with a code -/
def OutP (x : Con × Int) (w : World) (e : Ending) (w' : World) : Prop := (∃ y, e = .returned (.tuple #[y, .int .i64 x.2]) ∧ ConV w' (· < w'.heap.size) x.1 y) ∧ Below w.heap.size w w'
set_option maxRecDepth 100000 in
set_option maxHeartbeats 4000000 in
theorem cshift_any (t : Con) (b f : Int) (w : World) (v : Value) (ht : ConV w (· < w.heap.size) t v) (hb0 : -9223372036854775808 ≤ b) (hb1 : b ≤ 9223372036854775807) (hf0 : -9223372036854775808 ≤ f) (hf1 : f ≤ 9223372036854775807) :
    Calls Tryz.prog 11 #[v, .int .i64 b, .int .i64 f] w (OutP (shiftOut t b f) w) := by
  have HV := Lib.hid (fun W (hW : Below w.heap.size w W) => cvalid_any (· < w.heap.size) t W v (fun q hq => Nat.lt_of_lt_of_le hq hW.size) (ht.keep (Same.of_below hW (fun _ h => h))))
  have HF := Lib.hid (fun W (hW : Below w.heap.size w W) (hv : Con.validB t = true) (h : -1000000 ≤ b ∧ b ≤ 1000000) => cfalls_any (· < w.heap.size) t b f W v (fun q hq => Nat.lt_of_lt_of_le hq hW.size) (ht.keep (Same.of_below hW (fun _ h => h))) (valid_all t hv) (valid_depth t hv) h ⟨hf0, hf1⟩)
  have HO := Lib.hid (shiftOut_eq t b f)
  have HR := Lib.hid (fun (G : Nat) (hG : w.heap.size ≤ G) (wb W : World) (hv : Con.validB t = true) (hb : -1000000 ≤ b ∧ b ≤ 1000000) (hw : Below w.heap.size w wb) (hgl : G < wb.heap.size) (hbl : Blk wb G 135 #[.int .i64 20000]) (g1 g2 g3 : Nat) (hW : Below wb.heap.size wb W) (hs : ShiftBoxes W g1 g2 g3 G b f) (h1 : wb.heap.size ≤ g1) (h2 : wb.heap.size ≤ g2) (h3 : wb.heap.size ≤ g3) =>
    result_any w.heap.size G _ _ (shF b f) W (shift_change w.heap.size G g1 g2 g3 b f W hG hs (by omega) (by omega) (by omega) hb ⟨hf0, hf1⟩) hG t v (valid_all t hv) (hbl.of_eq (hW.block _ hgl)) ((ht.keep (Same.of_below (belowStep hW hw) (fun _ h => h)))))
  obtain ⟨ka, kn, kc, na, nn, nc, la, ln, lc, rfl, -, -, -⟩ := ht.shape
  obtain ⟨hbx, hbx2, hb⟩ := twoN_new w 28 28 #[.int .i64 t.op, .int .i64 t.n, .string t.s, .slice ka kn kc, .slice na nn nc, .slice la ln lc] #[.int .i64 0, .int .i64 0, .string ⟨#[]⟩, .slice none 0 0, .slice none 0 0, .slice none 0 0]
  have HBX := Lib.hid hbx
  have HZ := Lib.hid hbx2
  have HB := Lib.hid hb
  have c0 := hbx.cell 0 (.int .i64 t.op) rfl
  have c1 := hbx.cell 1 (.int .i64 t.n) rfl
  have c2 := hbx.cell 2 (.string t.s) rfl
  have c3 := hbx.cell 3 (.slice ka kn kc) rfl
  have c4 := hbx.cell 4 (.slice na nn nc) rfl
  have c5 := hbx.cell 5 (.slice la ln lc) rfl
  clear hbx hbx2 hb ht hb0 hb1 hf0 hf1
  go_enter Tryz.func11, Tryz.ntmps11
  go_wp2_with fail
  clear c0 c1 c2 c3 c4 c5
  generalize ((w.alloc (.cells #[.int .i64 t.op, .int .i64 t.n, .string t.s, .slice ka kn kc, .slice na nn nc, .slice la ln lc] 28)).alloc (.cells #[.int .i64 0, .int .i64 0, .string ⟨#[]⟩, .slice none 0 0, .slice none 0 0, .slice none 0 0] 28)) = w1 at *
  refine (HV.out _ HB.out).mono ?_
  rintro e w2 ⟨rfl, h2⟩
  replace HB := Lib.hid (belowStep h2 HB.out)
  replace HBX := Lib.hid (HBX.out.of_eq (h2.block _ HBX.out.lt))
  replace HZ := Lib.hid (HZ.out.of_eq (h2.block _ HZ.out.lt))
  clear h2
  cases hv : Con.validB t
  · clear HR
    have HO2 := Lib.hid (show shiftOut t b f = (Con.none0, 1) from by rw [HO.out, if_neg (by rw [hv]; simp)])
    have hzz := HZ.out
    have hz := store6_blk hzz 0 (.int .i64 0) (.int .i64 0) (.string ⟨#[]⟩) (.slice none 0 0) (.slice none 0 0) (.slice none 0 0)
    rw [put6_all] at hz
    have HE := Lib.hid (show OutP (shiftOut t b f) w (.returned (.tuple #[.agg #[.int .i64 0, .int .i64 0, .string ⟨#[]⟩, .slice none 0 0, .slice none 0 0, .slice none 0 0], .int .i64 1])) (store6 w2 (w.heap.size + 1) 0 (.int .i64 0) (.int .i64 0) (.string ⟨#[]⟩) (.slice none 0 0) (.slice none 0 0) (.slice none 0 0)) from ⟨⟨_, by rw [HO2.out], by rw [HO2.out]; exact conV_none _ _⟩, store6_below HB.out _ _ _ _ _ _ _ _ (Nat.le_succ _)⟩)
    unfold store6 at hz HE
    simp only [Nat.zero_add] at hz HE
    have z0 := hz.cell 0 (.int .i64 0) rfl
    have z1 := hz.cell 1 (.int .i64 0) rfl
    have z2 := hz.cell 2 (.string ⟨#[]⟩) rfl
    have z3 := hz.cell 3 (.slice none 0 0) rfl
    have z4 := hz.cell 4 (.slice none 0 0) rfl
    have z5 := hz.cell 5 (.slice none 0 0) rfl
    have r0 := hzz.cell 0 (.int .i64 0) rfl
    have r1 := hzz.cell 1 (.int .i64 0) rfl
    have r2 := hzz.cell 2 (.string ⟨#[]⟩) rfl
    have r3 := hzz.cell 3 (.slice none 0 0) rfl
    have r4 := hzz.cell 4 (.slice none 0 0) rfl
    have r5 := hzz.cell 5 (.slice none 0 0) rfl
    have t0 := hzz.thaw 0
    have t1 := hzz.thaw 1
    have t2 := hzz.thaw 2
    have t3 := hzz.thaw 3
    have t4 := hzz.thaw 4
    have t5 := hzz.thaw 5
    clear hz hzz HV HF HO HBX HZ HO2
    go_wp2
    refine bodyPost_ret (v := .tuple #[.agg #[.int .i64 0, .int .i64 0, .string ⟨#[]⟩, .slice none 0 0, .slice none 0 0, .slice none 0 0], .int .i64 1]) (by simp [results, Tryz.results11, go_sem, z0, z1, z2, z3, z4, z5]) rfl ?_
    exact HE.out
  have HVT := Lib.hid hv
  rw [hv] at HV
  clear hv
  cases q1 : decide (f < 0)
  rotate_left
  · clear HR
    have HO2 := Lib.hid (show shiftOut t b f = (Con.none0, 2) from by rw [HO.out, if_pos HVT.out, if_pos (.inl (of_decide_eq_true q1))])
    have hzz := HZ.out
    have hz := store6_blk hzz 0 (.int .i64 0) (.int .i64 0) (.string ⟨#[]⟩) (.slice none 0 0) (.slice none 0 0) (.slice none 0 0)
    rw [put6_all] at hz
    have HE := Lib.hid (show OutP (shiftOut t b f) w (.returned (.tuple #[.agg #[.int .i64 0, .int .i64 0, .string ⟨#[]⟩, .slice none 0 0, .slice none 0 0, .slice none 0 0], .int .i64 2])) (store6 w2 (w.heap.size + 1) 0 (.int .i64 0) (.int .i64 0) (.string ⟨#[]⟩) (.slice none 0 0) (.slice none 0 0) (.slice none 0 0)) from ⟨⟨_, by rw [HO2.out], by rw [HO2.out]; exact conV_none _ _⟩, store6_below HB.out _ _ _ _ _ _ _ _ (Nat.le_succ _)⟩)
    unfold store6 at hz HE
    simp only [Nat.zero_add] at hz HE
    have z0 := hz.cell 0 (.int .i64 0) rfl
    have z1 := hz.cell 1 (.int .i64 0) rfl
    have z2 := hz.cell 2 (.string ⟨#[]⟩) rfl
    have z3 := hz.cell 3 (.slice none 0 0) rfl
    have z4 := hz.cell 4 (.slice none 0 0) rfl
    have z5 := hz.cell 5 (.slice none 0 0) rfl
    have r0 := hzz.cell 0 (.int .i64 0) rfl
    have r1 := hzz.cell 1 (.int .i64 0) rfl
    have r2 := hzz.cell 2 (.string ⟨#[]⟩) rfl
    have r3 := hzz.cell 3 (.slice none 0 0) rfl
    have r4 := hzz.cell 4 (.slice none 0 0) rfl
    have r5 := hzz.cell 5 (.slice none 0 0) rfl
    have t0 := hzz.thaw 0
    have t1 := hzz.thaw 1
    have t2 := hzz.thaw 2
    have t3 := hzz.thaw 3
    have t4 := hzz.thaw 4
    have t5 := hzz.thaw 5
    clear hz hzz HV HF HO HBX HZ HO2
    go_wp2
    refine bodyPost_ret (v := .tuple #[.agg #[.int .i64 0, .int .i64 0, .string ⟨#[]⟩, .slice none 0 0, .slice none 0 0, .slice none 0 0], .int .i64 2]) (by simp [results, Tryz.results11, go_sem, z0, z1, z2, z3, z4, z5]) rfl ?_
    exact HE.out
  cases q2 : decide (b < -20000)
  rotate_left
  · clear HR
    have HO2 := Lib.hid (show shiftOut t b f = (Con.none0, 2) from by rw [HO.out, if_pos HVT.out, if_pos (.inr (.inl (of_decide_eq_true q2)))])
    have hzz := HZ.out
    have hz := store6_blk hzz 0 (.int .i64 0) (.int .i64 0) (.string ⟨#[]⟩) (.slice none 0 0) (.slice none 0 0) (.slice none 0 0)
    rw [put6_all] at hz
    have HE := Lib.hid (show OutP (shiftOut t b f) w (.returned (.tuple #[.agg #[.int .i64 0, .int .i64 0, .string ⟨#[]⟩, .slice none 0 0, .slice none 0 0, .slice none 0 0], .int .i64 2])) (store6 w2 (w.heap.size + 1) 0 (.int .i64 0) (.int .i64 0) (.string ⟨#[]⟩) (.slice none 0 0) (.slice none 0 0) (.slice none 0 0)) from ⟨⟨_, by rw [HO2.out], by rw [HO2.out]; exact conV_none _ _⟩, store6_below HB.out _ _ _ _ _ _ _ _ (Nat.le_succ _)⟩)
    unfold store6 at hz HE
    simp only [Nat.zero_add] at hz HE
    have z0 := hz.cell 0 (.int .i64 0) rfl
    have z1 := hz.cell 1 (.int .i64 0) rfl
    have z2 := hz.cell 2 (.string ⟨#[]⟩) rfl
    have z3 := hz.cell 3 (.slice none 0 0) rfl
    have z4 := hz.cell 4 (.slice none 0 0) rfl
    have z5 := hz.cell 5 (.slice none 0 0) rfl
    have r0 := hzz.cell 0 (.int .i64 0) rfl
    have r1 := hzz.cell 1 (.int .i64 0) rfl
    have r2 := hzz.cell 2 (.string ⟨#[]⟩) rfl
    have r3 := hzz.cell 3 (.slice none 0 0) rfl
    have r4 := hzz.cell 4 (.slice none 0 0) rfl
    have r5 := hzz.cell 5 (.slice none 0 0) rfl
    have t0 := hzz.thaw 0
    have t1 := hzz.thaw 1
    have t2 := hzz.thaw 2
    have t3 := hzz.thaw 3
    have t4 := hzz.thaw 4
    have t5 := hzz.thaw 5
    clear hz hzz HV HF HO HBX HZ HO2
    go_wp2
    refine bodyPost_ret (v := .tuple #[.agg #[.int .i64 0, .int .i64 0, .string ⟨#[]⟩, .slice none 0 0, .slice none 0 0, .slice none 0 0], .int .i64 2]) (by simp [results, Tryz.results11, go_sem, z0, z1, z2, z3, z4, z5]) rfl ?_
    exact HE.out
  cases q3 : decide (20000 < b)
  rotate_left
  · clear HR
    have HO2 := Lib.hid (show shiftOut t b f = (Con.none0, 2) from by rw [HO.out, if_pos HVT.out, if_pos (.inr (.inr (.inl (of_decide_eq_true q3))))])
    have hzz := HZ.out
    have hz := store6_blk hzz 0 (.int .i64 0) (.int .i64 0) (.string ⟨#[]⟩) (.slice none 0 0) (.slice none 0 0) (.slice none 0 0)
    rw [put6_all] at hz
    have HE := Lib.hid (show OutP (shiftOut t b f) w (.returned (.tuple #[.agg #[.int .i64 0, .int .i64 0, .string ⟨#[]⟩, .slice none 0 0, .slice none 0 0, .slice none 0 0], .int .i64 2])) (store6 w2 (w.heap.size + 1) 0 (.int .i64 0) (.int .i64 0) (.string ⟨#[]⟩) (.slice none 0 0) (.slice none 0 0) (.slice none 0 0)) from ⟨⟨_, by rw [HO2.out], by rw [HO2.out]; exact conV_none _ _⟩, store6_below HB.out _ _ _ _ _ _ _ _ (Nat.le_succ _)⟩)
    unfold store6 at hz HE
    simp only [Nat.zero_add] at hz HE
    have z0 := hz.cell 0 (.int .i64 0) rfl
    have z1 := hz.cell 1 (.int .i64 0) rfl
    have z2 := hz.cell 2 (.string ⟨#[]⟩) rfl
    have z3 := hz.cell 3 (.slice none 0 0) rfl
    have z4 := hz.cell 4 (.slice none 0 0) rfl
    have z5 := hz.cell 5 (.slice none 0 0) rfl
    have r0 := hzz.cell 0 (.int .i64 0) rfl
    have r1 := hzz.cell 1 (.int .i64 0) rfl
    have r2 := hzz.cell 2 (.string ⟨#[]⟩) rfl
    have r3 := hzz.cell 3 (.slice none 0 0) rfl
    have r4 := hzz.cell 4 (.slice none 0 0) rfl
    have r5 := hzz.cell 5 (.slice none 0 0) rfl
    have t0 := hzz.thaw 0
    have t1 := hzz.thaw 1
    have t2 := hzz.thaw 2
    have t3 := hzz.thaw 3
    have t4 := hzz.thaw 4
    have t5 := hzz.thaw 5
    clear hz hzz HV HF HO HBX HZ HO2
    go_wp2
    refine bodyPost_ret (v := .tuple #[.agg #[.int .i64 0, .int .i64 0, .string ⟨#[]⟩, .slice none 0 0, .slice none 0 0, .slice none 0 0], .int .i64 2]) (by simp [results, Tryz.results11, go_sem, z0, z1, z2, z3, z4, z5]) rfl ?_
    exact HE.out
  have c0 := HBX.out.cell 0 (.int .i64 t.op) rfl
  have c1 := HBX.out.cell 1 (.int .i64 t.n) rfl
  have c2 := HBX.out.cell 2 (.string t.s) rfl
  have c3 := HBX.out.cell 3 (.slice ka kn kc) rfl
  have c4 := HBX.out.cell 4 (.slice na nn nc) rfl
  have c5 := HBX.out.cell 5 (.slice la ln lc) rfl
  have HQ := Lib.hid (show ¬ f < 0 ∧ ¬ b < -20000 ∧ ¬ 20000 < b from ⟨of_decide_eq_false q1, of_decide_eq_false q2, of_decide_eq_false q3⟩)
  go_wp2_with fail
  clear c0 c1 c2 c3 c4 c5 q1 q2 q3
  refine (HF.out _ HB.out HVT.out (by have := HQ.out; omega)).mono ?_
  rintro e w3 ⟨rfl, h3⟩
  replace HB := Lib.hid (belowStep h3 HB.out)
  replace HBX := Lib.hid (HBX.out.of_eq (h3.block _ HBX.out.lt))
  replace HZ := Lib.hid (HZ.out.of_eq (h3.block _ HZ.out.lt))
  clear h3
  cases hfb : fallsB t b f
  rotate_left
  · clear HR
    have HO2 := Lib.hid (show shiftOut t b f = (Con.none0, 2) from by rw [HO.out, if_pos HVT.out, if_pos (.inr (.inr (.inr hfb)))])
    have hzz := HZ.out
    have hz := store6_blk hzz 0 (.int .i64 0) (.int .i64 0) (.string ⟨#[]⟩) (.slice none 0 0) (.slice none 0 0) (.slice none 0 0)
    rw [put6_all] at hz
    have HE := Lib.hid (show OutP (shiftOut t b f) w (.returned (.tuple #[.agg #[.int .i64 0, .int .i64 0, .string ⟨#[]⟩, .slice none 0 0, .slice none 0 0, .slice none 0 0], .int .i64 2])) (store6 w3 (w.heap.size + 1) 0 (.int .i64 0) (.int .i64 0) (.string ⟨#[]⟩) (.slice none 0 0) (.slice none 0 0) (.slice none 0 0)) from ⟨⟨_, by rw [HO2.out], by rw [HO2.out]; exact conV_none _ _⟩, store6_below HB.out _ _ _ _ _ _ _ _ (Nat.le_succ _)⟩)
    unfold store6 at hz HE
    simp only [Nat.zero_add] at hz HE
    have z0 := hz.cell 0 (.int .i64 0) rfl
    have z1 := hz.cell 1 (.int .i64 0) rfl
    have z2 := hz.cell 2 (.string ⟨#[]⟩) rfl
    have z3 := hz.cell 3 (.slice none 0 0) rfl
    have z4 := hz.cell 4 (.slice none 0 0) rfl
    have z5 := hz.cell 5 (.slice none 0 0) rfl
    have r0 := hzz.cell 0 (.int .i64 0) rfl
    have r1 := hzz.cell 1 (.int .i64 0) rfl
    have r2 := hzz.cell 2 (.string ⟨#[]⟩) rfl
    have r3 := hzz.cell 3 (.slice none 0 0) rfl
    have r4 := hzz.cell 4 (.slice none 0 0) rfl
    have r5 := hzz.cell 5 (.slice none 0 0) rfl
    have t0 := hzz.thaw 0
    have t1 := hzz.thaw 1
    have t2 := hzz.thaw 2
    have t3 := hzz.thaw 3
    have t4 := hzz.thaw 4
    have t5 := hzz.thaw 5
    clear hz hzz HV HF HO HBX HZ HO2
    go_wp2
    refine bodyPost_ret (v := .tuple #[.agg #[.int .i64 0, .int .i64 0, .string ⟨#[]⟩, .slice none 0 0, .slice none 0 0, .slice none 0 0], .int .i64 2]) (by simp [results, Tryz.results11, go_sem, z0, z1, z2, z3, z4, z5]) rfl ?_
    exact HE.out
  have HOUT := Lib.hid (show shiftOut t b f = fitOut (Con.reb (shF b f) t 0) from by
    rw [HO.out, if_pos HVT.out, if_neg (by rw [hfb]; have := HQ.out; simp; omega)]
    rfl)
  rw [hfb] at HF
  clear hfb HF HV HO
  go_wp2_with fail
  refine (newBuilder_any _).mono ?_
  rintro e wb ⟨rfl, hwb⟩
  have hnb := boxN_new w3 135 #[.int .i64 20000]
  rw [← hwb] at hnb
  have HGB := Lib.hid hnb.1
  have HGL := Lib.hid hnb.1.lt
  have HGS := Lib.hid (show w.heap.size + 1 < w3.heap.size from HZ.out.lt)
  have h4 := hnb.2
  replace HB := Lib.hid (belowStep h4 HB.out)
  replace HBX := Lib.hid (HBX.out.of_eq (h4.block _ HBX.out.lt))
  replace HZ := Lib.hid (HZ.out.of_eq (h4.block _ HZ.out.lt))
  clear hnb h4 hwb
  generalize w3.heap.size = G at *
  replace HR := Lib.hid (fun (W : World) => HR.out G (by have := HGS.out; omega) wb W HVT.out (by have := HQ.out; omega) HB.out HGL.out HGB.out)
  obtain ⟨u, c, hfo⟩ : ∃ u c, fitOut (Con.reb (shF b f) t 0) = (u, c) := ⟨_, _, rfl⟩
  have HFO := Lib.hid (show shiftOut t b f = (u, c) from HOUT.out.trans hfo)
  replace HR := Lib.hid (fun (W : World) g1 g2 g3 (hW : Below wb.heap.size wb W) (hs : ShiftBoxes W g1 g2 g3 G b f) (h1 : wb.heap.size ≤ g1) (h2 : wb.heap.size ≤ g2) (h3 : wb.heap.size ≤ g3) => (HR.out W g1 g2 g3 hW hs h1 h2 h3).mono (R' := fun e w' => Only G W w' ∧ ∃ y, e = .returned (.tuple #[y, .int .i64 c]) ∧ ConV w' (Reg w.heap.size W.heap.size w') u y) (by
    rintro e w' ⟨h1, y, h2, h3⟩
    rw [hfo] at h2 h3
    exact ⟨h1, y, h2, h3⟩))
  clear hfo HOUT
  have HSS := Lib.hid (fun W (hW : Only G wb W) => (show Below w.heap.size w W ∧ W.cell? ⟨w.heap.size, 0, none⟩ = some (.int .i64 t.op) ∧ W.cell? ⟨w.heap.size, 1, none⟩ = some (.int .i64 t.n) ∧ W.cell? ⟨w.heap.size, 2, none⟩ = some (.string t.s) ∧ W.cell? ⟨w.heap.size, 3, none⟩ = some (.slice ka kn kc) ∧ W.cell? ⟨w.heap.size, 4, none⟩ = some (.slice na nn nc) ∧ W.cell? ⟨w.heap.size, 5, none⟩ = some (.slice la ln lc) from by
    have h := hW.blk HBX.out (by have := HGS.out; omega)
    exact ⟨HB.out.trans (hW.to (by have := HGS.out; omega) HB.out.size), h.cell 0 _ rfl, h.cell 1 _ rfl, h.cell 2 _ rfl, h.cell 3 _ rfl, h.cell 4 _ rfl, h.cell 5 _ rfl⟩))
  have HST := Lib.hid (fun W (hW : Only G wb W) (x0 x1 x2 x3 x4 x5 : Value) => (show (fun W => Below w.heap.size w W ∧ W.cell? ⟨w.heap.size, 0, none⟩ = some (.int .i64 t.op) ∧ W.cell? ⟨w.heap.size, 1, none⟩ = some (.int .i64 t.n) ∧ W.cell? ⟨w.heap.size, 2, none⟩ = some (.string t.s) ∧ W.cell? ⟨w.heap.size, 3, none⟩ = some (.slice ka kn kc) ∧ W.cell? ⟨w.heap.size, 4, none⟩ = some (.slice na nn nc) ∧ W.cell? ⟨w.heap.size, 5, none⟩ = some (.slice la ln lc)) (((((((W).setCell ⟨w.heap.size + 1, 0, none⟩ x0).setCell ⟨w.heap.size + 1, 1, none⟩ x1).setCell ⟨w.heap.size + 1, 2, none⟩ x2).setCell ⟨w.heap.size + 1, 3, none⟩ x3).setCell ⟨w.heap.size + 1, 4, none⟩ x4).setCell ⟨w.heap.size + 1, 5, none⟩ x5) from by
    have h := (hW.blk HBX.out (by have := HGS.out; omega)).of_eq (store6_other W (w.heap.size + 1) 0 x0 x1 x2 x3 x4 x5 w.heap.size (by omega))
    have h2 := store6_below (HB.out.trans (hW.to (by have := HGS.out; omega) HB.out.size)) (w.heap.size + 1) 0 x0 x1 x2 x3 x4 x5 (Nat.le_succ _)
    unfold store6 at h h2
    simp only [Nat.zero_add] at h h2
    exact ⟨h2, h.cell 0 _ rfl, h.cell 1 _ rfl, h.cell 2 _ rfl, h.cell 3 _ rfl, h.cell 4 _ rfl, h.cell 5 _ rfl⟩))
  simp only at HST
  have HD0 := Lib.hid (Only.refl G wb).drew
  have HD1 := Lib.hid (Below.refl wb.heap.size wb).drew
  have HTH := Lib.hid (fun W (hW : Only G wb W) => hW.blk HZ.out (by have := HGS.out; omega))
  go_wp2_with fail
  go_region_held3 (fun W => Below w.heap.size w W ∧ W.cell? ⟨w.heap.size, 0, none⟩ = some (.int .i64 t.op) ∧ W.cell? ⟨w.heap.size, 1, none⟩ = some (.int .i64 t.n) ∧ W.cell? ⟨w.heap.size, 2, none⟩ = some (.string t.s) ∧ W.cell? ⟨w.heap.size, 3, none⟩ = some (.slice ka kn kc) ∧ W.cell? ⟨w.heap.size, 4, none⟩ = some (.slice na nn nc) ∧ W.cell? ⟨w.heap.size, 5, none⟩ = some (.slice la ln lc))
    (first | (with_reducible exact HSS.out _ HD0.out) | (with_reducible exact HSS.out _ (by assumption)) | (with_reducible exact HST.out _ (by assumption) _ _ _ _ _ _))
    (first
    | (go_at_call 61; (with_reducible refine (shifting_any G b f _).mono ?_); rintro e wn ⟨⟨g1, g2, g3, rfl, hsb, l1, l2, l3⟩, hbn⟩; have hbn2 := belowStep (a := wb) hbn (by first | assumption | exact HD1.out); have hon := only_below (N := G) hbn2; have k1 := Nat.le_trans HD1.out.size l1; have k2 := Nat.le_trans HD1.out.size l2; have k3 := Nat.le_trans HD1.out.size l3)
    | (go_at_call 60; (with_reducible refine (HR.out _ _ _ _ (by assumption) (by assumption) (by assumption) (by assumption) (by assumption)).mono ?_); rintro e wr ⟨hor, y, rfl, hy⟩; have hor2 := Only.trans hon hor; obtain ⟨ua, un, uc, va, vn, vc, xa, xn, xc, rfl, -, -, -⟩ := hy.shape; have hzr := HTH.out _ hor2; have t0 := hzr.thaw 0; have t1 := hzr.thaw 1; have t2 := hzr.thaw 2; have t3 := hzr.thaw 3; have t4 := hzr.thaw 4; have t5 := hzr.thaw 5; have r0 := hzr.cell 0 (.int .i64 0) rfl; have r1 := hzr.cell 1 (.int .i64 0) rfl; have r2 := hzr.cell 2 (.string ⟨#[]⟩) rfl; have r3 := hzr.cell 3 (.slice none 0 0) rfl; have r4 := hzr.cell 4 (.slice none 0 0) rfl; have r5 := hzr.cell 5 (.slice none 0 0) rfl))
  have hz := store6_blk hzr 0 (.int .i64 u.op) (.int .i64 u.n) (.string u.s) (.slice ua un uc) (.slice va vn vc) (.slice xa xn xc)
  rw [put6_all] at hz
  have HE := Lib.hid (show OutP (shiftOut t b f) w (.returned (.tuple #[.agg #[.int .i64 u.op, .int .i64 u.n, .string u.s, .slice ua un uc, .slice va vn vc, .slice xa xn xc], .int .i64 c])) (store6 wr (w.heap.size + 1) 0 (.int .i64 u.op) (.int .i64 u.n) (.string u.s) (.slice ua un uc) (.slice va vn vc) (.slice xa xn xc)) from by
    rw [HFO.out]
    refine ⟨⟨_, rfl, (hy.keep (fun q hq => store6_other _ _ _ _ _ _ _ _ _ q (by
      have := HGS.out
      have := hon.size
      have := HGL.out
      rcases hq with hq | hq <;> omega))).mono (fun q hq => ?_)⟩, store6_below (HB.out.trans (hor2.to (by have := HGS.out; omega) HB.out.size)) _ _ _ _ _ _ _ _ (Nat.le_succ _)⟩
    rw [store6_size]
    have := HGS.out
    have := hor2.size
    have := HGL.out
    rcases hq with hq | hq
    · omega
    · exact hq.2)
  unfold store6 at hz HE
  simp only [Nat.zero_add] at hz HE
  have z0 := hz.cell 0 (.int .i64 u.op) rfl
  have z1 := hz.cell 1 (.int .i64 u.n) rfl
  have z2 := hz.cell 2 (.string u.s) rfl
  have z3 := hz.cell 3 (.slice ua un uc) rfl
  have z4 := hz.cell 4 (.slice va vn vc) rfl
  have z5 := hz.cell 5 (.slice xa xn xc) rfl
  clear hy hzr hz HR HSS HST HTH HBX HZ HB hsb
  go_wp2
  refine bodyPost_ret (v := .tuple #[.agg #[.int .i64 u.op, .int .i64 u.n, .string u.s, .slice ua un uc, .slice va vn vc, .slice xa xn xc], .int .i64 c]) (by simp [results, Tryz.results11, go_sem, z0, z1, z2, z3, z4, z5]) rfl ?_
  exact HE.out
end Go.Proofs.YtkjaicmfegpjdaaGreat
namespace Go.Proofs.YtkjaicmfegpjdaaGreat
open Go Go.RowKit
open Pl (K Con)
set_option linter.unusedSimpArgs false
set_option linter.unusedVariables false

theorem cell_same {w w' : World} {g o : Nat} (h : w'.heap[g]? = w.heap[g]?) : w'.cell? ⟨g, o, none⟩ = w.cell? ⟨g, o, none⟩ := by
  simp only [World.cell?, h]
/-- the boxes of a substitution -/
structure SubBoxes (w : World) (g1 g2 G : Nat) (x : Value) : Prop where
  lst : Blk w g1 26 #[x]
  bld : Blk w g2 88 #[.pointer (some ⟨G, 0, none⟩)]
set_option maxRecDepth 100000 in
set_option maxHeartbeats 4000000 in
theorem subF_any (N G g1 g2 : Nat) (l : List Con) (xv : Value) (t : Con) (b d L : Int) (w : World) (v : Value) (hN : N ≤ G) (hs : SubBoxes w g1 g2 G xv) (hgn1 : g1 ≠ G) (hgn2 : g2 ≠ G) (hl : ConSl w (· < N) xv l) (hla : ∀ y ∈ l, Con.allB y = true) (hln : l.length ≤ 1000) (hG : Blk w G 135 #[.int .i64 L]) (ht : ConV w (· < N) t v) (ha : Con.nodeB t = true) (hlf : Con.leafy t b) (h0 : 0 ≤ L) (h1 : L ≤ 20000) (hb0 : 0 ≤ b) (hbd : b ≤ d) (hd0 : 1 ≤ d) (hd : d ≤ 401) :
    Calls Tryz.prog 69 #[v, .int .i64 b, .int .i64 d, .pointer (some ⟨g1, 0, none⟩), .pointer (some ⟨g2, 0, none⟩)] w (RebP N G (suF l t b) L d w) := by
  obtain ⟨hkv, hnl, hll⟩ := node_facts t ha
  have hnn := nodeB_n t ha
  have hgl := hG.lt
  have hl0 : t.l = [] := leaf_none t ha (by rcases hlf with h | h; exact .inr h; exact .inl h.1)
  have htt := (conV_iff _ _ _ _).1 ht
  obtain ⟨ka, kn, kc, na, nn, nc, la, ln, lc, rfl, -, -, -⟩ := ht.shape
  have HPRT := Lib.hid (show t.s.size ≤ maxLen ∧ KidV w (· < N) t.kind (.slice ka kn kc) ∧ StrSl w (· < N) (.slice na nn nc) t.names ∧ ConSl w (· < N) (.slice la ln lc) t.l from by
    obtain ⟨hs, kv', nv', lv', e, hk, hn, hl⟩ := htt
    simp only [Value.agg.injEq, Array.mk.injEq, List.cons.injEq, and_true, true_and] at e
    obtain ⟨rfl, rfl, rfl⟩ := e
    exact ⟨hs, hk, hn, hl⟩)
  clear htt
  obtain ⟨sa, lc9, rfl, -, -, -⟩ := hl.each
  obtain ⟨n, hn⟩ : ∃ n, n = l.length := ⟨_, rfl⟩
  have HN := Lib.hid hn
  have HL := Lib.hid hl
  rw [← hn] at hs hln HL
  obtain ⟨hbx, hbx2, hb⟩ := twoN_new w 28 28 #[.int .i64 t.op, .int .i64 t.n, .string t.s, .slice ka kn kc, .slice na nn nc, .slice la ln lc] #[.int .i64 0, .int .i64 0, .string ⟨#[]⟩, .slice none 0 0, .slice none 0 0, .slice none 0 0]
  have HGL := Lib.hid hgl
  have HBY0 := Lib.hid hbx2
  have HB := Lib.hid hb
  have HSB := Lib.hid (⟨hs.lst.of_eq (hb.block _ hs.lst.lt), hs.bld.of_eq (hb.block _ hs.bld.lt)⟩ : SubBoxes _ g1 g2 G _)
  have x1 := HSB.out.lst.cell 0 (.slice sa n lc9) rfl
  have x2 := HSB.out.bld.cell 0 (.pointer (some ⟨G, 0, none⟩)) rfl
  have c0 := hbx.cell 0 (.int .i64 t.op) rfl
  have c1 := hbx.cell 1 (.int .i64 t.n) rfl
  have c2 := hbx.cell 2 (.string t.s) rfl
  have c3 := hbx.cell 3 (.slice ka kn kc) rfl
  have c4 := hbx.cell 4 (.slice na nn nc) rfl
  have c5 := hbx.cell 5 (.slice la ln lc) rfl
  have fz := hbx.thaw 1
  have w2 : wrap64 (t.n - (n : Int)) = t.n - (n : Int) := by rw [wrap64]; omega
  by_cases h2 : t.op = 1
  rotate_left
  · have q1 : (t.op == 1) = false := by simpa using h2
    have HW := Lib.hid (show suF l t b = t from if_neg h2)
    rw [HW.out]
    obtain ⟨hbx9, hby9, hb9⟩ := twoN_new w 28 28 #[.int .i64 t.op, .int .i64 (t.n), .string t.s, .slice ka kn kc, .slice na nn nc, .slice la ln lc] #[.int .i64 0, .int .i64 0, .string ⟨#[]⟩, .slice none 0 0, .slice none 0 0, .slice none 0 0]
    have HSZ := Lib.hid (show ((w.alloc (.cells #[.int .i64 t.op, .int .i64 (t.n), .string t.s, .slice ka kn kc, .slice na nn nc, .slice la ln lc] 28)).alloc (.cells #[.int .i64 0, .int .i64 0, .string ⟨#[]⟩, .slice none 0 0, .slice none 0 0, .slice none 0 0] 28)).heap.size = w.heap.size + 2 by simp)
    have hgg := hG.of_eq (hb9.block _ hG.lt)
    have HBY := Lib.hid hby9
    have HOW := Lib.hid (only_below (N := G) hb9)
    have HNODE := Lib.hid (node_leaf N G t L d ((w.alloc (.cells #[.int .i64 t.op, .int .i64 (t.n), .string t.s, .slice ka kn kc, .slice na nn nc, .slice la ln lc] 28)).alloc (.cells #[.int .i64 0, .int .i64 0, .string ⟨#[]⟩, .slice none 0 0, .slice none 0 0, .slice none 0 0] 28)) (.agg #[.int .i64 t.op, .int .i64 (t.n), .string t.s, .slice ka kn kc, .slice na nn nc, .slice la ln lc]) hN hgg ((conV_iff _ _ _ _).2 (show t.s.size ≤ maxLen ∧ ∃ kv nv lv, (.agg #[.int .i64 t.op, .int .i64 (t.n), .string t.s, .slice ka kn kc, .slice na nn nc, .slice la ln lc] : Value) = .agg #[.int .i64 t.op, .int .i64 (t.n), .string t.s, kv, nv, lv] ∧ KidV _ _ t.kind kv ∧ StrSl _ _ nv t.names ∧ ConSl _ _ lv t.l from ⟨HPRT.out.1, _, _, _, rfl, HPRT.out.2.1.keep (Same.of_below hb9 (fun q (hq : q < N) => by omega)), HPRT.out.2.2.1.keep (Same.of_below hb9 (fun q (hq : q < N) => by omega)), HPRT.out.2.2.2.keep (Same.of_below hb9 (fun q (hq : q < N) => by omega))⟩)) hkv hl0 hnl h0 h1)
    have d0 := hbx9.cell 0 (.int .i64 t.op) rfl
    have d1 := hbx9.cell 1 (.int .i64 (t.n)) rfl
    have d2 := hbx9.cell 2 (.string t.s) rfl
    have d3 := hbx9.cell 3 (.slice ka kn kc) rfl
    have d4 := hbx9.cell 4 (.slice na nn nc) rfl
    have d5 := hbx9.cell 5 (.slice la ln lc) rfl
    clear hG ht ha hs hgl hlf h2 HPRT hbx9 hby9 hb9 hgg HW hl HL HSB HB HBY0 hbx hbx2 hb hla hn HN
    go_enter Tryz.func69, Tryz.ntmps69
    go_wp2_with fail
    clear c0 c1 c2 c3 c4 c5 d0 d1 d2 d3 d4 d5 x1 x2 q1 fz
    generalize ((w.alloc (.cells #[.int .i64 t.op, .int .i64 t.n, .string t.s, .slice ka kn kc, .slice na nn nc, .slice la ln lc] 28)).alloc (.cells #[.int .i64 0, .int .i64 0, .string ⟨#[]⟩, .slice none 0 0, .slice none 0 0, .slice none 0 0] 28)) = wa at *
    refine HNODE.out.mono ?_
    rintro e w3 ⟨ho3, y, u, c, rfl, hy, hg3, hc0, hc1, hfit⟩
    have hsz := HSZ.out
    have hss := ho3.size
    have hgl2 := HGL.out
    obtain ⟨ua, un, uc, va, vn, vc, xa, xn, xc, rfl, -, -, -⟩ := hy.shape
    have hby := ho3.blk HBY.out (show w.heap.size + 1 ≠ G from by have := HGL.out; omega)
    have t0 := hby.thaw 0
    have t1 := hby.thaw 1
    have t2 := hby.thaw 2
    have t3 := hby.thaw 3
    have t4 := hby.thaw 4
    have t5 := hby.thaw 5
    have r0 := hby.cell 0 (.int .i64 0) rfl
    have r1 := hby.cell 1 (.int .i64 0) rfl
    have r2 := hby.cell 2 (.string ⟨#[]⟩) rfl
    have r3 := hby.cell 3 (.slice none 0 0) rfl
    have r4 := hby.cell 4 (.slice none 0 0) rfl
    have r5 := hby.cell 5 (.slice none 0 0) rfl
    have hz := store6_blk hby 0 (.int .i64 u.op) (.int .i64 u.n) (.string u.s) (.slice ua un uc) (.slice va vn vc) (.slice xa xn xc)
    rw [put6_all] at hz
    have HE := Lib.hid (show RebP N G t L d w (.returned (.tuple #[.agg #[.int .i64 u.op, .int .i64 u.n, .string u.s, .slice ua un uc, .slice va vn vc, .slice xa xn xc], .bool (fitB t L d)])) (store6 w3 (w.heap.size + 1) 0 (.int .i64 u.op) (.int .i64 u.n) (.string u.s) (.slice ua un uc) (.slice va vn vc) (.slice xa xn xc)) from by
      refine ⟨store6_only (HOW.out.trans ho3) _ _ _ _ _ _ _ _ (.inr (Nat.le_succ _)), _, u, c, rfl, ?_, hg3.of_eq (store6_other _ _ _ _ _ _ _ _ _ G (by have := HGL.out; omega)), hc0, hc1, hfit⟩
      refine (hy.keep (fun q hq => store6_other _ _ _ _ _ _ _ _ _ q (by rcases hq with hq | hq <;> omega))).mono (fun q hq => ?_)
      rcases hq with hq | hq
      · exact .inl hq
      · exact .inr ⟨by omega, by rw [store6_size]; exact hq.2⟩)
    unfold store6 at hz HE
    simp only [Nat.zero_add] at hz HE
    have z0 := hz.cell 0 (.int .i64 u.op) rfl
    have z1 := hz.cell 1 (.int .i64 u.n) rfl
    have z2 := hz.cell 2 (.string u.s) rfl
    have z3 := hz.cell 3 (.slice ua un uc) rfl
    have z4 := hz.cell 4 (.slice va vn vc) rfl
    have z5 := hz.cell 5 (.slice xa xn xc) rfl
    clear hy hg3 hfit hby hz ho3 hsz hss hgl2 HNODE HOW HBY HSZ
    generalize fitB t L d = r at *
    go_wp2
    refine bodyPost_ret (v := .tuple #[.agg #[.int .i64 u.op, .int .i64 u.n, .string u.s, .slice ua un uc, .slice va vn vc, .slice xa xn xc], .bool r]) (by simp [results, Tryz.results69, go_sem, z0, z1, z2, z3, z4, z5]) rfl ?_
    exact HE.out
  have q1 : (t.op == 1) = true := by rw [h2]; rfl
  have hbn : b ≤ t.n := by
    rcases hlf with h | h
    · rw [h2] at h; cases h
    · exact h.2
  by_cases h3 : t.n - b < (n : Int)
  rotate_left
  · have w1 : wrap64 (t.n - b) = t.n - b := by rw [wrap64]; omega
    have q2 : decide (t.n - b < (n : Int)) = false := decide_eq_false h3
    have HW := Lib.hid (show suF l t b = (⟨t.op, t.n - (n : Int), t.s, t.kind, t.names, t.l⟩ : Con) from (by
      unfold suF
      rw [if_pos h2, if_neg (by rw [← HN.out]; exact h3), ← HN.out]))
    rw [HW.out]
    obtain ⟨hbx9, hby9, hb9⟩ := twoN_new w 28 28 #[.int .i64 t.op, .int .i64 (t.n - (n : Int)), .string t.s, .slice ka kn kc, .slice na nn nc, .slice la ln lc] #[.int .i64 0, .int .i64 0, .string ⟨#[]⟩, .slice none 0 0, .slice none 0 0, .slice none 0 0]
    have HSZ := Lib.hid (show ((w.alloc (.cells #[.int .i64 t.op, .int .i64 (t.n - (n : Int)), .string t.s, .slice ka kn kc, .slice na nn nc, .slice la ln lc] 28)).alloc (.cells #[.int .i64 0, .int .i64 0, .string ⟨#[]⟩, .slice none 0 0, .slice none 0 0, .slice none 0 0] 28)).heap.size = w.heap.size + 2 by simp)
    have hgg := hG.of_eq (hb9.block _ hG.lt)
    have HBY := Lib.hid hby9
    have HOW := Lib.hid (only_below (N := G) hb9)
    have HNODE := Lib.hid (node_leaf N G (⟨t.op, t.n - (n : Int), t.s, t.kind, t.names, t.l⟩ : Con) L d ((w.alloc (.cells #[.int .i64 t.op, .int .i64 (t.n - (n : Int)), .string t.s, .slice ka kn kc, .slice na nn nc, .slice la ln lc] 28)).alloc (.cells #[.int .i64 0, .int .i64 0, .string ⟨#[]⟩, .slice none 0 0, .slice none 0 0, .slice none 0 0] 28)) (.agg #[.int .i64 t.op, .int .i64 (t.n - (n : Int)), .string t.s, .slice ka kn kc, .slice na nn nc, .slice la ln lc]) hN hgg ((conV_iff _ _ _ _).2 (show t.s.size ≤ maxLen ∧ ∃ kv nv lv, (.agg #[.int .i64 t.op, .int .i64 (t.n - (n : Int)), .string t.s, .slice ka kn kc, .slice na nn nc, .slice la ln lc] : Value) = .agg #[.int .i64 t.op, .int .i64 (t.n - (n : Int)), .string t.s, kv, nv, lv] ∧ KidV _ _ t.kind kv ∧ StrSl _ _ nv t.names ∧ ConSl _ _ lv t.l from ⟨HPRT.out.1, _, _, _, rfl, HPRT.out.2.1.keep (Same.of_below hb9 (fun q (hq : q < N) => by omega)), HPRT.out.2.2.1.keep (Same.of_below hb9 (fun q (hq : q < N) => by omega)), HPRT.out.2.2.2.keep (Same.of_below hb9 (fun q (hq : q < N) => by omega))⟩)) hkv hl0 hnl h0 h1)
    have d0 := hbx9.cell 0 (.int .i64 t.op) rfl
    have d1 := hbx9.cell 1 (.int .i64 (t.n - (n : Int))) rfl
    have d2 := hbx9.cell 2 (.string t.s) rfl
    have d3 := hbx9.cell 3 (.slice ka kn kc) rfl
    have d4 := hbx9.cell 4 (.slice na nn nc) rfl
    have d5 := hbx9.cell 5 (.slice la ln lc) rfl
    obtain ⟨y1, y2⟩ : ((w.alloc (.cells #[.int .i64 t.op, .int .i64 (t.n - (n : Int)), .string t.s, .slice ka kn kc, .slice na nn nc, .slice la ln lc] 28)).alloc (.cells #[.int .i64 0, .int .i64 0, .string ⟨#[]⟩, .slice none 0 0, .slice none 0 0, .slice none 0 0] 28)).cell? ⟨g1, 0, none⟩ = some (.slice sa n lc9) ∧ ((w.alloc (.cells #[.int .i64 t.op, .int .i64 (t.n - (n : Int)), .string t.s, .slice ka kn kc, .slice na nn nc, .slice la ln lc] 28)).alloc (.cells #[.int .i64 0, .int .i64 0, .string ⟨#[]⟩, .slice none 0 0, .slice none 0 0, .slice none 0 0] 28)).cell? ⟨g2, 0, none⟩ = some (.pointer (some ⟨G, 0, none⟩)) := ⟨(hs.lst.of_eq (hb9.block _ hs.lst.lt)).cell 0 _ rfl, (hs.bld.of_eq (hb9.block _ hs.bld.lt)).cell 0 _ rfl⟩
    clear hG ht ha hs hgl hlf h2 HPRT hbx9 hby9 hb9 hgg HW hl HL HSB HB HBY0 hbx hbx2 hb hla hn HN h3
    go_enter Tryz.func69, Tryz.ntmps69
    go_wp2_with fail
    clear c0 c1 c2 c3 c4 c5 d0 d1 d2 d3 d4 d5 x1 x2 y1 y2 q1 q2 w1 w2 fz
    generalize ((w.alloc (.cells #[.int .i64 t.op, .int .i64 (t.n - (n : Int)), .string t.s, .slice ka kn kc, .slice na nn nc, .slice la ln lc] 28)).alloc (.cells #[.int .i64 0, .int .i64 0, .string ⟨#[]⟩, .slice none 0 0, .slice none 0 0, .slice none 0 0] 28)) = wa at *
    refine HNODE.out.mono ?_
    rintro e w3 ⟨ho3, y, u, c, rfl, hy, hg3, hc0, hc1, hfit⟩
    have hsz := HSZ.out
    have hss := ho3.size
    have hgl2 := HGL.out
    obtain ⟨ua, un, uc, va, vn, vc, xa, xn, xc, rfl, -, -, -⟩ := hy.shape
    have hby := ho3.blk HBY.out (show w.heap.size + 1 ≠ G from by have := HGL.out; omega)
    have t0 := hby.thaw 0
    have t1 := hby.thaw 1
    have t2 := hby.thaw 2
    have t3 := hby.thaw 3
    have t4 := hby.thaw 4
    have t5 := hby.thaw 5
    have r0 := hby.cell 0 (.int .i64 0) rfl
    have r1 := hby.cell 1 (.int .i64 0) rfl
    have r2 := hby.cell 2 (.string ⟨#[]⟩) rfl
    have r3 := hby.cell 3 (.slice none 0 0) rfl
    have r4 := hby.cell 4 (.slice none 0 0) rfl
    have r5 := hby.cell 5 (.slice none 0 0) rfl
    have hz := store6_blk hby 0 (.int .i64 u.op) (.int .i64 u.n) (.string u.s) (.slice ua un uc) (.slice va vn vc) (.slice xa xn xc)
    rw [put6_all] at hz
    have HE := Lib.hid (show RebP N G (⟨t.op, t.n - (n : Int), t.s, t.kind, t.names, t.l⟩ : Con) L d w (.returned (.tuple #[.agg #[.int .i64 u.op, .int .i64 u.n, .string u.s, .slice ua un uc, .slice va vn vc, .slice xa xn xc], .bool (fitB (⟨t.op, t.n - (n : Int), t.s, t.kind, t.names, t.l⟩ : Con) L d)])) (store6 w3 (w.heap.size + 1) 0 (.int .i64 u.op) (.int .i64 u.n) (.string u.s) (.slice ua un uc) (.slice va vn vc) (.slice xa xn xc)) from by
      refine ⟨store6_only (HOW.out.trans ho3) _ _ _ _ _ _ _ _ (.inr (Nat.le_succ _)), _, u, c, rfl, ?_, hg3.of_eq (store6_other _ _ _ _ _ _ _ _ _ G (by have := HGL.out; omega)), hc0, hc1, hfit⟩
      refine (hy.keep (fun q hq => store6_other _ _ _ _ _ _ _ _ _ q (by rcases hq with hq | hq <;> omega))).mono (fun q hq => ?_)
      rcases hq with hq | hq
      · exact .inl hq
      · exact .inr ⟨by omega, by rw [store6_size]; exact hq.2⟩)
    unfold store6 at hz HE
    simp only [Nat.zero_add] at hz HE
    have z0 := hz.cell 0 (.int .i64 u.op) rfl
    have z1 := hz.cell 1 (.int .i64 u.n) rfl
    have z2 := hz.cell 2 (.string u.s) rfl
    have z3 := hz.cell 3 (.slice ua un uc) rfl
    have z4 := hz.cell 4 (.slice va vn vc) rfl
    have z5 := hz.cell 5 (.slice xa xn xc) rfl
    clear hy hg3 hfit hby hz ho3 hsz hss hgl2 HNODE HOW HBY HSZ
    generalize fitB (⟨t.op, t.n - (n : Int), t.s, t.kind, t.names, t.l⟩ : Con) L d = r at *
    go_wp2
    refine bodyPost_ret (v := .tuple #[.agg #[.int .i64 u.op, .int .i64 u.n, .string u.s, .slice ua un uc, .slice va vn vc, .slice xa xn xc], .bool r]) (by simp [results, Tryz.results69, go_sem, z0, z1, z2, z3, z4, z5]) rfl ?_
    exact HE.out
  obtain ⟨k, hk⟩ : ∃ k : Nat, t.n - b = (k : Int) := ⟨(t.n - b).toNat, by omega⟩
  have hkn : k < n := by omega
  have hkl : k < l.length := by omega
  have w1 : wrap64 (t.n - b) = (k : Int) := by rw [wrap64]; omega
  have q2 : decide ((k : Int) < (n : Int)) = true := decide_eq_true (by omega)
  obtain ⟨bl, o, c', ya, yn, yc, ma, mn, mc, qa, qn, qc, e, hbl, f0, f1, f2, f3, f4, f5, hy0⟩ := hl.part k hkl
  injection e with e1 e2 e3
  subst e1 e3
  clear e2
  have HYA := Lib.hid (hla l[k] (List.getElem_mem hkl))
  have HW := Lib.hid (show suF l t b = Con.reb (shF b 0) l[k] 0 from (by
    unfold suF
    rw [if_pos h2, if_pos (by rw [← HN.out]; exact h3), hk, Int.toNat_natCast]
    simp [List.getD, List.getElem?_eq_getElem hkl]))
  rw [HW.out]
  generalize l[k] = y at *
  have HR0 := Lib.hid (fun (wx W : World) (g3 g4 g5 : Nat) (hx : Below w.heap.size w wx) (hW : Below wx.heap.size wx W) (hs : ShiftBoxes W g3 g4 g5 G b 0) (k1 : wx.heap.size ≤ g3) (k2 : wx.heap.size ≤ g4) (k3 : wx.heap.size ≤ g5) =>
    rebuilt_any N G _ _ (shF b 0) W (shift_change N G g3 g4 g5 b 0 W hN hs (by have := hx.size; omega) (by have := hx.size; omega) (by have := hx.size; omega) (by omega) (by omega)) hN y HYA.out L d 0 W _ (Only.refl G W) (hG.of_eq ((belowStep hW hx).block _ hgl)) (hy0.keep (Same.of_below (belowStep hW hx) (fun q (hq : q < N) => by omega))) h0 h1 (Int.le_refl _) (by omega) hd0 hd)
  have hbl2 : bl < w.heap.size ∧ bl ≠ G := ⟨by have : bl < N := hbl; omega, by have : bl < N := hbl; omega⟩
  have HYC := Lib.hid (fun (W : World) (hW : Only G w W) => (show W.cell? ⟨bl, o + k * 6, none⟩ = some (.int .i64 y.op) ∧ W.cell? ⟨bl, o + k * 6 + 1, none⟩ = some (.int .i64 y.n) ∧ W.cell? ⟨bl, o + k * 6 + 2, none⟩ = some (.string y.s) ∧ W.cell? ⟨bl, o + k * 6 + 3, none⟩ = some (.slice ya yn yc) ∧ W.cell? ⟨bl, o + k * 6 + 4, none⟩ = some (.slice ma mn mc) ∧ W.cell? ⟨bl, o + k * 6 + 5, none⟩ = some (.slice qa qn qc) from
    ⟨(cell_same (hW.heap hbl2.1 hbl2.2)).trans f0, (cell_same (hW.heap hbl2.1 hbl2.2)).trans f1, (cell_same (hW.heap hbl2.1 hbl2.2)).trans f2, (cell_same (hW.heap hbl2.1 hbl2.2)).trans f3, (cell_same (hW.heap hbl2.1 hbl2.2)).trans f4, (cell_same (hW.heap hbl2.1 hbl2.2)).trans f5⟩))
  have hgq1 : g1 ≠ w.heap.size + 1 := by have := hs.lst.lt; omega
  have hgq2 : g2 ≠ w.heap.size + 1 := by have := hs.bld.lt; omega
  clear hy0 HYA HW hl HL ht hla hlf HPRT hkv hnl hll hl0 hnn f0 f1 f2 f3 f4 f5 hbl hbl2 hn HN hkl
  have hGG := hG
  have hsz := (show ((w.alloc (.cells #[.int .i64 t.op, .int .i64 t.n, .string t.s, .slice ka kn kc, .slice na nn nc, .slice la ln lc] 28)).alloc (.cells #[.int .i64 0, .int .i64 0, .string ⟨#[]⟩, .slice none 0 0, .slice none 0 0, .slice none 0 0] 28)).heap.size = w.heap.size + 2 by simp)
  have HSZ := Lib.hid hsz
  clear hG hs hbx hbx2 hb hsz hGG h2 h3 hbn hgl
  have hwx : ((w.alloc (.cells #[.int .i64 t.op, .int .i64 t.n, .string t.s, .slice ka kn kc, .slice na nn nc, .slice la ln lc] 28)).alloc (.cells #[.int .i64 0, .int .i64 0, .string ⟨#[]⟩, .slice none 0 0, .slice none 0 0, .slice none 0 0] 28)) = ((w.alloc (.cells #[.int .i64 t.op, .int .i64 t.n, .string t.s, .slice ka kn kc, .slice na nn nc, .slice la ln lc] 28)).alloc (.cells #[.int .i64 0, .int .i64 0, .string ⟨#[]⟩, .slice none 0 0, .slice none 0 0, .slice none 0 0] 28)) := rfl
  go_enter Tryz.func69, Tryz.ntmps69
  go_wp2_with fail
  clear c0 c1 c2 c3 c4 c5 fz x1 x2 q1 q2 w1 w2 hwx
  generalize ((w.alloc (.cells #[.int .i64 t.op, .int .i64 t.n, .string t.s, .slice ka kn kc, .slice na nn nc, .slice la ln lc] 28)).alloc (.cells #[.int .i64 0, .int .i64 0, .string ⟨#[]⟩, .slice none 0 0, .slice none 0 0, .slice none 0 0] 28)) = wx at *
  have HR := Lib.hid (fun (W : World) g3 g4 g5 => HR0.out wx W g3 g4 g5 HB.out)
  have HOW := Lib.hid (only_below (N := G) HB.out)
  have HSS := Lib.hid (fun W (hW : Only G wx W) => (show Only G w W ∧ W.cell? ⟨g1, 0, none⟩ = some (.slice (some ⟨bl, o, none⟩) n lc9) ∧ W.cell? ⟨g2, 0, none⟩ = some (.pointer (some ⟨G, 0, none⟩)) ∧ W.cell? ⟨bl, o + k * 6, none⟩ = some (.int .i64 y.op) ∧ W.cell? ⟨bl, o + k * 6 + 1, none⟩ = some (.int .i64 y.n) ∧ W.cell? ⟨bl, o + k * 6 + 2, none⟩ = some (.string y.s) ∧ W.cell? ⟨bl, o + k * 6 + 3, none⟩ = some (.slice ya yn yc) ∧ W.cell? ⟨bl, o + k * 6 + 4, none⟩ = some (.slice ma mn mc) ∧ W.cell? ⟨bl, o + k * 6 + 5, none⟩ = some (.slice qa qn qc) from by
    have h := HOW.out.trans hW
    exact ⟨h, (hW.blk HSB.out.lst hgn1).cell 0 _ rfl, (hW.blk HSB.out.bld hgn2).cell 0 _ rfl, HYC.out W h⟩))
  have HST := Lib.hid (fun W (hW : Only G wx W) (x0 x1 x2 x3 x4 x5 : Value) => (show (fun W => Only G w W ∧ W.cell? ⟨g1, 0, none⟩ = some (.slice (some ⟨bl, o, none⟩) n lc9) ∧ W.cell? ⟨g2, 0, none⟩ = some (.pointer (some ⟨G, 0, none⟩)) ∧ W.cell? ⟨bl, o + k * 6, none⟩ = some (.int .i64 y.op) ∧ W.cell? ⟨bl, o + k * 6 + 1, none⟩ = some (.int .i64 y.n) ∧ W.cell? ⟨bl, o + k * 6 + 2, none⟩ = some (.string y.s) ∧ W.cell? ⟨bl, o + k * 6 + 3, none⟩ = some (.slice ya yn yc) ∧ W.cell? ⟨bl, o + k * 6 + 4, none⟩ = some (.slice ma mn mc) ∧ W.cell? ⟨bl, o + k * 6 + 5, none⟩ = some (.slice qa qn qc)) (((((((W).setCell ⟨w.heap.size + 1, 0, none⟩ x0).setCell ⟨w.heap.size + 1, 1, none⟩ x1).setCell ⟨w.heap.size + 1, 2, none⟩ x2).setCell ⟨w.heap.size + 1, 3, none⟩ x3).setCell ⟨w.heap.size + 1, 4, none⟩ x4).setCell ⟨w.heap.size + 1, 5, none⟩ x5) from by
    have h := HOW.out.trans hW
    have h5 := store6_only h (w.heap.size + 1) 0 x0 x1 x2 x3 x4 x5 (.inr (Nat.le_succ _))
    have h6 := ((hW.blk HSB.out.lst hgn1).of_eq (store6_other W (w.heap.size + 1) 0 x0 x1 x2 x3 x4 x5 g1 hgq1)).cell 0 _ rfl
    have h7 := ((hW.blk HSB.out.bld hgn2).of_eq (store6_other W (w.heap.size + 1) 0 x0 x1 x2 x3 x4 x5 g2 hgq2)).cell 0 _ rfl
    have h8 := HYC.out _ h5
    have h9 := And.intro h5 (And.intro h6 (And.intro h7 h8))
    unfold store6 at h9
    simp only [Nat.zero_add] at h9
    exact h9))
  simp only at HST
  have HD0 := Lib.hid (Only.refl G wx).drew
  have HD1 := Lib.hid (Below.refl wx.heap.size wx).drew
  have HTH := Lib.hid (fun W (hW : Only G wx W) => hW.blk HBY0.out (by have := HGL.out; omega))
  clear HR0 HYC
  go_wp2_with fail
  go_region_held3 (fun W => Only G w W ∧ W.cell? ⟨g1, 0, none⟩ = some (.slice (some ⟨bl, o, none⟩) n lc9) ∧ W.cell? ⟨g2, 0, none⟩ = some (.pointer (some ⟨G, 0, none⟩)) ∧ W.cell? ⟨bl, o + k * 6, none⟩ = some (.int .i64 y.op) ∧ W.cell? ⟨bl, o + k * 6 + 1, none⟩ = some (.int .i64 y.n) ∧ W.cell? ⟨bl, o + k * 6 + 2, none⟩ = some (.string y.s) ∧ W.cell? ⟨bl, o + k * 6 + 3, none⟩ = some (.slice ya yn yc) ∧ W.cell? ⟨bl, o + k * 6 + 4, none⟩ = some (.slice ma mn mc) ∧ W.cell? ⟨bl, o + k * 6 + 5, none⟩ = some (.slice qa qn qc))
    (first | (with_reducible exact HSS.out _ HD0.out) | (with_reducible exact HSS.out _ (by assumption)) | (with_reducible exact HST.out _ (by assumption) _ _ _ _ _ _))
    (first
    | (go_at_call 61; (with_reducible refine (shifting_any G b 0 _).mono ?_); rintro e wn ⟨⟨g3, g4, g5, rfl, hsb, l1, l2, l3⟩, hbn⟩; have hbn2 := belowStep (a := wx) hbn (by first | assumption | exact HD1.out); have hon := only_below (N := G) hbn2; have k1 := Nat.le_trans HD1.out.size l1; have k2 := Nat.le_trans HD1.out.size l2; have k3 := Nat.le_trans HD1.out.size l3)
    | (go_at_call 70; (with_reducible refine (HR.out _ _ _ _ (by assumption) (by assumption) (by assumption) (by assumption) (by assumption)).mono ?_); rintro e wr ⟨hor, yv, u, c, rfl, hy, hg3, hc0, hc1, hfit⟩; have hor2 := Only.trans hon hor; obtain ⟨ua, un, uc, va, vn, vc, xa, xn, xc, rfl, -, -, -⟩ := hy.shape; have hzr := HTH.out _ hor2; have t0 := hzr.thaw 0; have t1 := hzr.thaw 1; have t2 := hzr.thaw 2; have t3 := hzr.thaw 3; have t4 := hzr.thaw 4; have t5 := hzr.thaw 5; have r0 := hzr.cell 0 (.int .i64 0) rfl; have r1 := hzr.cell 1 (.int .i64 0) rfl; have r2 := hzr.cell 2 (.string ⟨#[]⟩) rfl; have r3 := hzr.cell 3 (.slice none 0 0) rfl; have r4 := hzr.cell 4 (.slice none 0 0) rfl; have r5 := hzr.cell 5 (.slice none 0 0) rfl))
  have hz := store6_blk hzr 0 (.int .i64 u.op) (.int .i64 u.n) (.string u.s) (.slice ua un uc) (.slice va vn vc) (.slice xa xn xc)
  rw [put6_all] at hz
  have hsz := HSZ.out
  have HE := Lib.hid (show RebP N G (Con.reb (shF b 0) y 0) L d w (.returned (.tuple #[.agg #[.int .i64 u.op, .int .i64 u.n, .string u.s, .slice ua un uc, .slice va vn vc, .slice xa xn xc], .bool (fitB (Con.reb (shF b 0) y 0) L d)])) (store6 wr (w.heap.size + 1) 0 (.int .i64 u.op) (.int .i64 u.n) (.string u.s) (.slice ua un uc) (.slice va vn vc) (.slice xa xn xc)) from by
    refine ⟨store6_only (HOW.out.trans hor2) _ _ _ _ _ _ _ _ (.inr (Nat.le_succ _)), _, u, c, rfl, ?_, hg3.of_eq (store6_other _ _ _ _ _ _ _ _ _ G (by have := HGL.out; omega)), hc0, hc1, hfit⟩
    have := hon.size
    have := HGL.out
    refine (hy.keep (fun q hq => store6_other _ _ _ _ _ _ _ _ _ q (by rcases hq with hq | hq <;> omega))).mono (fun q hq => ?_)
    rcases hq with hq | hq
    · exact .inl hq
    · exact .inr ⟨by omega, by rw [store6_size]; exact hq.2⟩)
  unfold store6 at hz HE
  simp only [Nat.zero_add] at hz HE
  have z0 := hz.cell 0 (.int .i64 u.op) rfl
  have z1 := hz.cell 1 (.int .i64 u.n) rfl
  have z2 := hz.cell 2 (.string u.s) rfl
  have z3 := hz.cell 3 (.slice ua un uc) rfl
  have z4 := hz.cell 4 (.slice va vn vc) rfl
  have z5 := hz.cell 5 (.slice xa xn xc) rfl
  clear hy hzr hz HR HSS HST HTH HBY0 HSB HB hsb hfit hsz HSZ HOW hg3
  generalize fitB (Con.reb (shF b 0) y 0) L d = r at *
  go_wp2
  refine bodyPost_ret (v := .tuple #[.agg #[.int .i64 u.op, .int .i64 u.n, .string u.s, .slice ua un uc, .slice va vn vc, .slice xa xn xc], .bool r]) (by simp [results, Tryz.results69, go_sem, z0, z1, z2, z3, z4, z5]) rfl ?_
  exact HE.out
end Go.Proofs.YtkjaicmfegpjdaaGreat
namespace Go.Proofs.YtkjaicmfegpjdaaGreat
open Go Go.RowKit
open Pl (K Con)
set_option linter.unusedSimpArgs false
set_option linter.unusedVariables false

/-- a substitution is a change -/
theorem sub_change (N G g1 g2 : Nat) (l : List Con) (xv : Value) (w : World) (hN : N ≤ G) (hgl : G < w.heap.size) (hs : SubBoxes w g1 g2 G xv) (h1 : g1 ≠ G) (h2 : g2 ≠ G) (hl : ConSl w (· < N) xv l) (hla : ∀ y ∈ l, Con.allB y = true) (hln : l.length ≤ 1000) :
    ChangeOk N G 69 #[.pointer (some ⟨g1, 0, none⟩), .pointer (some ⟨g2, 0, none⟩)] (suF l) w :=
  ⟨fun _ _ => by kernel_rfl, fun W t v b2 d L hW hg h0 h1' hb0 hbd hd0 hd1 hlf ha ht => subF_any N G g1 g2 l xv t b2 d L W v hN ⟨hW.blk hs.lst h1, hW.blk hs.bld h2⟩ h1 h2 (hl.keep (Same.of_only hW (fun q (hq : q < N) => ⟨by omega, by omega⟩))) hla hln hg ht ha hlf h0 h1' hb0 hbd hd0 hd1⟩
set_option maxRecDepth 100000 in
set_option maxHeartbeats 4000000 in
theorem csubst_any (t : Con) (l : List Con) (w : World) (v xv : Value) (ht : ConV w (· < w.heap.size) t v) (hl : ConSl w (· < w.heap.size) xv l) :
    Calls Tryz.prog 21 #[v, xv] w (OutP (substOut t l) w) := by
  have HV := Lib.hid (fun W (hW : Below w.heap.size w W) => cvalid_any (· < w.heap.size) t W v (fun q hq => Nat.lt_of_lt_of_le hq hW.size) (ht.keep (Same.of_below hW (fun _ h => h))))
  have HALL := Lib.hid (fun W (hW : Below w.heap.size w W) => allC_any 54 (fun _ _ => by kernel_rfl) Con.validB (· < w.heap.size) l (fun t _ W v h1 h2 => cvalid_any (· < w.heap.size) t W v h1 h2) W xv (fun q hq => Nat.lt_of_lt_of_le hq hW.size) (hl.keep (Same.of_below hW (fun _ h => h))))
  have HO := Lib.hid (substOut_eq t l)
  have HR := Lib.hid (fun (wb : World) (G g1 g2 : Nat) (hG : w.heap.size ≤ G) (hv : Con.validB t = true) (hlv : l.all Con.validB = true) (hln : l.length ≤ 1000) (hw : Below w.heap.size w wb) (hbl : Blk wb G 135 #[.int .i64 20000]) (hs : SubBoxes wb g1 g2 G xv) (h1 : g1 ≠ G) (h2 : g2 ≠ G) =>
    result_any w.heap.size G _ _ (suF l) wb (sub_change w.heap.size G g1 g2 l xv wb hG hbl.lt hs h1 h2 (hl.keep (Same.of_below hw (fun _ h => h))) (fun y hy => valid_all y (List.all_eq_true.1 hlv y hy)) hln) hG t v (valid_all t hv) hbl (ht.keep (Same.of_below hw (fun _ h => h))))
  obtain ⟨ka, kn, kc, na, nn, nc, la, ln, lc, rfl, -, -, -⟩ := ht.shape
  obtain ⟨sa, lc9, rfl, hmn, hmx, -⟩ := hl.each
  obtain ⟨n, hn⟩ : ∃ n, n = l.length := ⟨_, rfl⟩
  have HN := Lib.hid hn
  rw [← hn] at HALL HR HO hmn ⊢
  have hn63 : n ≤ 9223372036854775807 := by unfold maxLen at hmx; omega
  have hb1 := boxN_new w 28 #[.int .i64 t.op, .int .i64 t.n, .string t.s, .slice ka kn kc, .slice na nn nc, .slice la ln lc]
  have hb2 := boxN_new (w.alloc (.cells #[.int .i64 t.op, .int .i64 t.n, .string t.s, .slice ka kn kc, .slice na nn nc, .slice la ln lc] 28)) 26 #[.slice sa n lc9]
  have hb3 := boxN_new ((w.alloc (.cells #[.int .i64 t.op, .int .i64 t.n, .string t.s, .slice ka kn kc, .slice na nn nc, .slice la ln lc] 28)).alloc (.cells #[.slice sa n lc9] 26)) 28 #[.int .i64 0, .int .i64 0, .string ⟨#[]⟩, .slice none 0 0, .slice none 0 0, .slice none 0 0]
  have k1 := (hb1.1.alloc (.cells #[.slice sa n lc9] 26)).alloc (.cells #[.int .i64 0, .int .i64 0, .string ⟨#[]⟩, .slice none 0 0, .slice none 0 0, .slice none 0 0] 28)
  have k2 := hb2.1.alloc (.cells #[.int .i64 0, .int .i64 0, .string ⟨#[]⟩, .slice none 0 0, .slice none 0 0, .slice none 0 0] 28)
  have k3 := hb3.1
  have hbb := belowStep hb3.2 (belowStep hb2.2 hb1.2)
  rw [size_alloc] at k2
  rw [size_alloc, size_alloc] at k3
  have HBX := Lib.hid k1
  have HBL := Lib.hid k2
  have HZ := Lib.hid k3
  have HB := Lib.hid hbb
  have c0 := k1.cell 0 (.int .i64 t.op) rfl
  have c1 := k1.cell 1 (.int .i64 t.n) rfl
  have c2 := k1.cell 2 (.string t.s) rfl
  have c3 := k1.cell 3 (.slice ka kn kc) rfl
  have c4 := k1.cell 4 (.slice na nn nc) rfl
  have c5 := k1.cell 5 (.slice la ln lc) rfl
  clear hb1 hb2 hb3 k1 k2 k3 hbb ht hl hmx hmn hn
  go_enter Tryz.func21, Tryz.ntmps21
  go_wp2_with fail
  clear c0 c1 c2 c3 c4 c5
  generalize (((w.alloc (.cells #[.int .i64 t.op, .int .i64 t.n, .string t.s, .slice ka kn kc, .slice na nn nc, .slice la ln lc] 28)).alloc (.cells #[.slice sa n lc9] 26)).alloc (.cells #[.int .i64 0, .int .i64 0, .string ⟨#[]⟩, .slice none 0 0, .slice none 0 0, .slice none 0 0] 28)) = w1 at *
  refine (HV.out _ HB.out).mono ?_
  rintro e w2 ⟨rfl, h2⟩
  replace HB := Lib.hid (belowStep h2 HB.out)
  replace HBX := Lib.hid (HBX.out.of_eq (h2.block _ HBX.out.lt))
  replace HBL := Lib.hid (HBL.out.of_eq (h2.block _ HBL.out.lt))
  replace HZ := Lib.hid (HZ.out.of_eq (h2.block _ HZ.out.lt))
  clear h2
  cases hv : Con.validB t
  · clear HR
    have HO2 := Lib.hid (show substOut t l = (Con.none0, 1) from by rw [HO.out, if_neg (by rw [hv]; simp)])
    have hzz := HZ.out
    have hz := store6_blk hzz 0 (.int .i64 0) (.int .i64 0) (.string ⟨#[]⟩) (.slice none 0 0) (.slice none 0 0) (.slice none 0 0)
    rw [put6_all] at hz
    have HE := Lib.hid (show OutP (substOut t l) w (.returned (.tuple #[.agg #[.int .i64 0, .int .i64 0, .string ⟨#[]⟩, .slice none 0 0, .slice none 0 0, .slice none 0 0], .int .i64 1])) (store6 w2 (w.heap.size + 1 + 1) 0 (.int .i64 0) (.int .i64 0) (.string ⟨#[]⟩) (.slice none 0 0) (.slice none 0 0) (.slice none 0 0)) from ⟨⟨_, by rw [HO2.out], by rw [HO2.out]; exact conV_none _ _⟩, store6_below HB.out _ _ _ _ _ _ _ _ (by omega)⟩)
    unfold store6 at hz HE
    simp only [Nat.zero_add] at hz HE
    have z0 := hz.cell 0 (.int .i64 0) rfl
    have z1 := hz.cell 1 (.int .i64 0) rfl
    have z2 := hz.cell 2 (.string ⟨#[]⟩) rfl
    have z3 := hz.cell 3 (.slice none 0 0) rfl
    have z4 := hz.cell 4 (.slice none 0 0) rfl
    have z5 := hz.cell 5 (.slice none 0 0) rfl
    have r0 := hzz.cell 0 (.int .i64 0) rfl
    have r1 := hzz.cell 1 (.int .i64 0) rfl
    have r2 := hzz.cell 2 (.string ⟨#[]⟩) rfl
    have r3 := hzz.cell 3 (.slice none 0 0) rfl
    have r4 := hzz.cell 4 (.slice none 0 0) rfl
    have r5 := hzz.cell 5 (.slice none 0 0) rfl
    have t0 := hzz.thaw 0
    have t1 := hzz.thaw 1
    have t2 := hzz.thaw 2
    have t3 := hzz.thaw 3
    have t4 := hzz.thaw 4
    have t5 := hzz.thaw 5
    clear hz hzz HV HALL HO HBX HZ HO2
    go_wp2
    refine bodyPost_ret (v := .tuple #[.agg #[.int .i64 0, .int .i64 0, .string ⟨#[]⟩, .slice none 0 0, .slice none 0 0, .slice none 0 0], .int .i64 1]) (by simp [results, Tryz.results21, go_sem, z0, z1, z2, z3, z4, z5]) rfl ?_
    exact HE.out
  have HVT := Lib.hid hv
  rw [hv] at HV
  clear hv
  have x0 := HBL.out.cell 0 (.slice sa n lc9) rfl
  go_wp2_with fail
  clear x0
  refine (HALL.out _ HB.out).mono ?_
  rintro e w3 ⟨rfl, h3⟩
  replace HB := Lib.hid (belowStep h3 HB.out)
  replace HBX := Lib.hid (HBX.out.of_eq (h3.block _ HBX.out.lt))
  replace HBL := Lib.hid (HBL.out.of_eq (h3.block _ HBL.out.lt))
  replace HZ := Lib.hid (HZ.out.of_eq (h3.block _ HZ.out.lt))
  clear h3
  cases hlv : l.all Con.validB
  · clear HR
    have HO2 := Lib.hid (show substOut t l = (Con.none0, 1) from by rw [HO.out, if_neg (by rw [hlv]; simp)])
    have hzz := HZ.out
    have hz := store6_blk hzz 0 (.int .i64 0) (.int .i64 0) (.string ⟨#[]⟩) (.slice none 0 0) (.slice none 0 0) (.slice none 0 0)
    rw [put6_all] at hz
    have HE := Lib.hid (show OutP (substOut t l) w (.returned (.tuple #[.agg #[.int .i64 0, .int .i64 0, .string ⟨#[]⟩, .slice none 0 0, .slice none 0 0, .slice none 0 0], .int .i64 1])) (store6 w3 (w.heap.size + 1 + 1) 0 (.int .i64 0) (.int .i64 0) (.string ⟨#[]⟩) (.slice none 0 0) (.slice none 0 0) (.slice none 0 0)) from ⟨⟨_, by rw [HO2.out], by rw [HO2.out]; exact conV_none _ _⟩, store6_below HB.out _ _ _ _ _ _ _ _ (by omega)⟩)
    unfold store6 at hz HE
    simp only [Nat.zero_add] at hz HE
    have z0 := hz.cell 0 (.int .i64 0) rfl
    have z1 := hz.cell 1 (.int .i64 0) rfl
    have z2 := hz.cell 2 (.string ⟨#[]⟩) rfl
    have z3 := hz.cell 3 (.slice none 0 0) rfl
    have z4 := hz.cell 4 (.slice none 0 0) rfl
    have z5 := hz.cell 5 (.slice none 0 0) rfl
    have r0 := hzz.cell 0 (.int .i64 0) rfl
    have r1 := hzz.cell 1 (.int .i64 0) rfl
    have r2 := hzz.cell 2 (.string ⟨#[]⟩) rfl
    have r3 := hzz.cell 3 (.slice none 0 0) rfl
    have r4 := hzz.cell 4 (.slice none 0 0) rfl
    have r5 := hzz.cell 5 (.slice none 0 0) rfl
    have t0 := hzz.thaw 0
    have t1 := hzz.thaw 1
    have t2 := hzz.thaw 2
    have t3 := hzz.thaw 3
    have t4 := hzz.thaw 4
    have t5 := hzz.thaw 5
    clear hz hzz HV HALL HO HBX HZ HO2
    go_wp2
    refine bodyPost_ret (v := .tuple #[.agg #[.int .i64 0, .int .i64 0, .string ⟨#[]⟩, .slice none 0 0, .slice none 0 0, .slice none 0 0], .int .i64 1]) (by simp [results, Tryz.results21, go_sem, z0, z1, z2, z3, z4, z5]) rfl ?_
    exact HE.out
  have HLV := Lib.hid hlv
  rw [hlv] at HALL
  have x0 := HBL.out.cell 0 (.slice sa n lc9) rfl
  cases q1 : decide ((1000 : Int) < (n : Int))
  rotate_left
  · clear HR
    have HLN := Lib.hid (show 1000 < n from by have := of_decide_eq_true q1; omega)
    have HO2 := Lib.hid (show substOut t l = (Con.none0, 5) from by rw [HO.out, if_pos (by rw [HVT.out, HLV.out]; rfl), if_pos HLN.out])
    have hzz := HZ.out
    have hz := store6_blk hzz 0 (.int .i64 0) (.int .i64 0) (.string ⟨#[]⟩) (.slice none 0 0) (.slice none 0 0) (.slice none 0 0)
    rw [put6_all] at hz
    have HE := Lib.hid (show OutP (substOut t l) w (.returned (.tuple #[.agg #[.int .i64 0, .int .i64 0, .string ⟨#[]⟩, .slice none 0 0, .slice none 0 0, .slice none 0 0], .int .i64 5])) (store6 w3 (w.heap.size + 1 + 1) 0 (.int .i64 0) (.int .i64 0) (.string ⟨#[]⟩) (.slice none 0 0) (.slice none 0 0) (.slice none 0 0)) from ⟨⟨_, by rw [HO2.out], by rw [HO2.out]; exact conV_none _ _⟩, store6_below HB.out _ _ _ _ _ _ _ _ (by omega)⟩)
    unfold store6 at hz HE
    simp only [Nat.zero_add] at hz HE
    have z0 := hz.cell 0 (.int .i64 0) rfl
    have z1 := hz.cell 1 (.int .i64 0) rfl
    have z2 := hz.cell 2 (.string ⟨#[]⟩) rfl
    have z3 := hz.cell 3 (.slice none 0 0) rfl
    have z4 := hz.cell 4 (.slice none 0 0) rfl
    have z5 := hz.cell 5 (.slice none 0 0) rfl
    have r0 := hzz.cell 0 (.int .i64 0) rfl
    have r1 := hzz.cell 1 (.int .i64 0) rfl
    have r2 := hzz.cell 2 (.string ⟨#[]⟩) rfl
    have r3 := hzz.cell 3 (.slice none 0 0) rfl
    have r4 := hzz.cell 4 (.slice none 0 0) rfl
    have r5 := hzz.cell 5 (.slice none 0 0) rfl
    have t0 := hzz.thaw 0
    have t1 := hzz.thaw 1
    have t2 := hzz.thaw 2
    have t3 := hzz.thaw 3
    have t4 := hzz.thaw 4
    have t5 := hzz.thaw 5
    clear hz hzz HV HALL HO HBX HZ HO2
    go_wp2
    refine bodyPost_ret (v := .tuple #[.agg #[.int .i64 0, .int .i64 0, .string ⟨#[]⟩, .slice none 0 0, .slice none 0 0, .slice none 0 0], .int .i64 5]) (by simp [results, Tryz.results21, go_sem, z0, z1, z2, z3, z4, z5]) rfl ?_
    exact HE.out
  have HLN := Lib.hid (show n ≤ 1000 from by have := of_decide_eq_false q1; omega)
  have HOUT := Lib.hid (show substOut t l = fitOut (Con.reb (suF l) t 0) from by
    rw [HO.out, if_pos (by rw [HVT.out, HLV.out]; rfl), if_neg (by have := HLN.out; omega)]
    rfl)
  clear hlv HV HO HALL
  go_wp2_with fail
  refine (newBuilder_any _).mono ?_
  rintro e wb ⟨rfl, rfl⟩
  have hnb := boxN_new w3 135 #[.int .i64 20000]
  have hnc := boxN_new (w3.alloc (.cells #[.int .i64 20000] 135)) 88 #[.pointer (some ⟨w3.heap.size, 0, none⟩)]
  have hnd := hnb.1.alloc (.cells #[.pointer (some ⟨w3.heap.size, 0, none⟩)] 88)
  have hne := hnc.1
  rw [size_alloc] at hne
  have h4 := belowStep hnc.2 hnb.2
  have HGS := Lib.hid (show w.heap.size + 1 + 1 < w3.heap.size from HZ.out.lt)
  replace HB := Lib.hid (belowStep h4 HB.out)
  replace HBX := Lib.hid (HBX.out.of_eq (h4.block _ HBX.out.lt))
  replace HBL := Lib.hid (HBL.out.of_eq (h4.block _ HBL.out.lt))
  replace HZ := Lib.hid (HZ.out.of_eq (h4.block _ HZ.out.lt))
  have hfin : ∃ u c, fitOut (Con.reb (suF l) t 0) = (u, c) := ⟨_, _, rfl⟩
  obtain ⟨u, c, hfo⟩ := hfin
  have HFO := Lib.hid (show substOut t l = (u, c) from HOUT.out.trans hfo)
  have HRR := Lib.hid ((HR.out (((w3.alloc (.cells #[.int .i64 20000] 135)).alloc (.cells #[.pointer (some ⟨w3.heap.size, 0, none⟩)] 88))) w3.heap.size (w.heap.size + 1) (w3.heap.size + 1) (by have := HGS.out; omega) HVT.out HLV.out HLN.out HB.out hnd ⟨HBL.out, hne⟩ (by have := HGS.out; omega) (by omega)).mono (R' := fun e w' => Only w3.heap.size (((w3.alloc (.cells #[.int .i64 20000] 135)).alloc (.cells #[.pointer (some ⟨w3.heap.size, 0, none⟩)] 88))) w' ∧ ∃ y, e = .returned (.tuple #[y, .int .i64 c]) ∧ ConV w' (Reg w.heap.size (((w3.alloc (.cells #[.int .i64 20000] 135)).alloc (.cells #[.pointer (some ⟨w3.heap.size, 0, none⟩)] 88))).heap.size w') u y) (by
    rintro e w' ⟨h1, y, h2, h3⟩
    rw [hfo] at h2 h3
    exact ⟨h1, y, h2, h3⟩))
  have HGL := Lib.hid hnd.lt
  have c0 := HBX.out.cell 0 (.int .i64 t.op) rfl
  have c1 := HBX.out.cell 1 (.int .i64 t.n) rfl
  have c2 := HBX.out.cell 2 (.string t.s) rfl
  have c3 := HBX.out.cell 3 (.slice ka kn kc) rfl
  have c4 := HBX.out.cell 4 (.slice na nn nc) rfl
  have c5 := HBX.out.cell 5 (.slice la ln lc) rfl
  have x1 := hne.cell 0 (.pointer (some ⟨w3.heap.size, 0, none⟩)) rfl
  have x9 := hne.thaw 0
  clear hfo HOUT hnb hnc hnd hne h4 HR
  go_wp2_with fail
  clear c0 c1 c2 c3 c4 c5 x0 x1 x9 q1
  generalize (((w3.alloc (.cells #[.int .i64 20000] 135)).alloc (.cells #[.pointer (some ⟨w3.heap.size, 0, none⟩)] 88))) = wb at *
  generalize w3.heap.size = G at *
  refine HRR.out.mono ?_
  rintro e wr ⟨hor, y, rfl, hy⟩
  obtain ⟨ua, un, uc, va, vn, vc, xa, xn, xc, rfl, -, -, -⟩ := hy.shape
  have hzr := hor.blk HZ.out (by have := HGS.out; omega)
  have t0 := hzr.thaw 0
  have t1 := hzr.thaw 1
  have t2 := hzr.thaw 2
  have t3 := hzr.thaw 3
  have t4 := hzr.thaw 4
  have t5 := hzr.thaw 5
  have r0 := hzr.cell 0 (.int .i64 0) rfl
  have r1 := hzr.cell 1 (.int .i64 0) rfl
  have r2 := hzr.cell 2 (.string ⟨#[]⟩) rfl
  have r3 := hzr.cell 3 (.slice none 0 0) rfl
  have r4 := hzr.cell 4 (.slice none 0 0) rfl
  have r5 := hzr.cell 5 (.slice none 0 0) rfl
  have hz := store6_blk hzr 0 (.int .i64 u.op) (.int .i64 u.n) (.string u.s) (.slice ua un uc) (.slice va vn vc) (.slice xa xn xc)
  rw [put6_all] at hz
  have HE := Lib.hid (show OutP (substOut t l) w (.returned (.tuple #[.agg #[.int .i64 u.op, .int .i64 u.n, .string u.s, .slice ua un uc, .slice va vn vc, .slice xa xn xc], .int .i64 c])) (store6 wr (w.heap.size + 1 + 1) 0 (.int .i64 u.op) (.int .i64 u.n) (.string u.s) (.slice ua un uc) (.slice va vn vc) (.slice xa xn xc)) from by
    rw [HFO.out]
    refine ⟨⟨_, rfl, (hy.keep (fun q hq => store6_other _ _ _ _ _ _ _ _ _ q (by
      have := HGS.out
      have := HGL.out
      rcases hq with hq | hq <;> omega))).mono (fun q hq => ?_)⟩, store6_below (HB.out.trans (hor.to (by have := HGS.out; omega) HB.out.size)) _ _ _ _ _ _ _ _ (by omega)⟩
    rw [store6_size]
    have := HGS.out
    have := hor.size
    have := HGL.out
    rcases hq with hq | hq
    · omega
    · exact hq.2)
  unfold store6 at hz HE
  simp only [Nat.zero_add] at hz HE
  have z0 := hz.cell 0 (.int .i64 u.op) rfl
  have z1 := hz.cell 1 (.int .i64 u.n) rfl
  have z2 := hz.cell 2 (.string u.s) rfl
  have z3 := hz.cell 3 (.slice ua un uc) rfl
  have z4 := hz.cell 4 (.slice va vn vc) rfl
  have z5 := hz.cell 5 (.slice xa xn xc) rfl
  clear hy hzr hz HRR HBX HBL HZ HB
  go_wp2
  refine bodyPost_ret (v := .tuple #[.agg #[.int .i64 u.op, .int .i64 u.n, .string u.s, .slice ua un uc, .slice va vn vc, .slice xa xn xc], .int .i64 c]) (by simp [results, Tryz.results21, go_sem, z0, z1, z2, z3, z4, z5]) rfl ?_
  exact HE.out
/-- what the program's Shift and Subst answer -/
theorem codeS9 : CodeS9 := ⟨fun t b f W v ht h1 h2 h3 h4 => cshift_any t b f W v ht h1 h2 h3 h4, fun t l W v x ht hl => csubst_any t l W v x ht hl⟩
end Go.Proofs.YtkjaicmfegpjdaaGreat
namespace Go.Proofs.YtkjaicmfegpjdaaGreat
open Go Go.RowKit Go.Sort
open Pl (K Con)
set_option linter.unusedSimpArgs false
set_option linter.unusedVariables false
attribute [local go_sem] Oper.semAt_some

theorem infoInt : (Tryz.prog.info? 3).map (fun i => (i.zero, i.size, i.bytes)) = some (some (.int .i64 0), 1, 8) := by kernel_rfl
/-- the free indices, each once, in their order -/
def freeList (t : Con) : List Int := Lib.compact ((Con.frees t 0).mergeSort fun x y => decide (x ≤ y))
def freeOut (t : Con) : List Int × Int := if Con.validB t = true then (freeList t, 0) else ([], 1)
/-- an append to a row of its own, and its store, leave what is of another kind -/
theorem own_same {W w1 : World} {B4 k base : Nat} {v v' : Value} {xs : List Value} (x : Int) (h1 : Blk W B4 31 #[v]) (hown : W.ownsRow base 3 1 v k xs) (hgrow : (W.alloc (.cells #[.int .i64 x] 3)).grownBy w1 v.ownBlock) :
    ∀ (j : Nat) (o : Obj), W.heap[j]? = some o → (o.isCells = false ∨ ∃ cs, o = .cells cs 41 (0, 0)) → (w1.setCell ⟨B4, 0, none⟩ v').heap[j]? = some o := by
  intro j o ho hc
  have hjl : j < W.heap.size := (Array.getElem?_eq_some_iff.1 ho).1
  have hj4 : j ≠ B4 := by
    rintro rfl
    have h1 : W.heap[j]? = some (.cells #[v] 31 (0, 0)) := h1
    rw [h1] at ho
    injection ho with ho
    subst ho
    rcases hc with hc | ⟨cs, hc⟩
    · cases hc
    · cases hc
  have hjr : some j ≠ v.ownBlock := by
    intro e
    rcases hown.2 with ⟨rfl, _⟩ | ⟨g, cap, cur, rfl, _, hg, _⟩
    · cases e
    · have e : some j = some g := e
      injection e with e
      subst e
      rw [hg] at ho
      injection ho with ho
      subst ho
      rcases hc with hc | ⟨cs, hc⟩
      · cases hc
      · cases hc
  rw [Below.heap_setCell w1 _ _ j (show j ≠ B4 from hj4), hgrow.block j (by rw [size_alloc]; omega) hjr, Below.heap_alloc W _ j hjl, ho]
theorem ownsRow_own {β : Type} (s : β) {B base k : Nat} {v : Value} {xs : List Value} (A D : World) (row : Option Nat) (h : A.ownsRow base 3 1 v k xs) (hg : A.grownBy D row) (hr : ∀ r, row = some r → B ≤ r ∧ ∃ o : Obj, A.heap[r]? = some o ∧ o.isCells = false) : D.ownsRow base 3 1 v k xs := by
  refine h.kept hg ?_
  rcases h.2 with ⟨rfl, _⟩ | ⟨g, cap, cur, rfl, _, hgg, _⟩
  · exact .inl rfl
  · refine .inr (fun e => ?_)
    obtain ⟨-, o, ho, hoc⟩ := hr g e.symm
    rw [hgg] at ho
    injection ho with ho
    subst ho
    cases hoc
theorem ownsRow_base {w : World} {b1 b2 n : Nat} {e : TypeId} {v : Value} {xs : List Value} (h : w.ownsRow b1 e 1 v n xs) (hb : b2 ≤ b1) : w.ownsRow b2 e 1 v n xs :=
  ⟨h.1, h.2.imp id fun ⟨g, cap, cur, h1, h2, h3⟩ => ⟨g, cap, cur, h1, Nat.le_trans hb h2, h3⟩⟩
theorem heap_put (w : World) (g q : Nat) (d : Array Int) (k : Nat) (h : k ≠ g) : (putRow (Value.int .i64) (Sort.ahead w q) g 0 d).heap[k]? = w.heap[k]? := by
  have h : g ≠ k := fun e => h e.symm
  simp [putRow, mapBlock, Sort.ahead, Array.getElem?_modify, h]
theorem own_other {W : World} {B4 base k : Nat} {v v' : Value} {xs : List Value} (h : W.ownsRow base 3 1 v k xs) (hne : some B4 ≠ v.ownBlock) : (W.setCell ⟨B4, 0, none⟩ v').ownsRow base 3 1 v k xs := by
  refine ⟨h.1, ?_⟩
  rcases h.2 with hn | ⟨g, cap, cur, rfl, hb, hgg, rest⟩
  · exact .inl hn
  · exact .inr ⟨g, cap, cur, rfl, hb, (Below.heap_setCell W _ _ g (show g ≠ B4 from fun e => hne (by rw [e]; rfl))).trans hgg, rest⟩
def FreeP (r : List Int × Int) (w : World) (e : Ending) (w' : World) : Prop := (∃ y, e = .returned (.tuple #[y, .int .i64 r.2]) ∧ w'.ownsRow w.heap.size 3 1 y r.1.length (r.1.map (Value.int .i64))) ∧ Below w.heap.size w w'
set_option maxRecDepth 100000 in
set_option maxHeartbeats 4000000 in
theorem cfree_any (t : Con) (w : World) (v : Value) (ht : ConV w (· < w.heap.size) t v) :
    Calls Tryz.prog 10 #[v] w (FreeP (freeOut t) w) := by
  refine wide_of (n := 12) (fun F HF => ?_)
  have hd : F.depth = none := by rw [HF.out]; rfl
  have hro : F.round = none := by rw [HF.out]; rfl
  have hf1 : F.fn 10 := by rw [HF.out]; trivial
  have hf2 : F.fn 55 := by rw [HF.out]; trivial
  have hf3 : F.fn 106 := by rw [HF.out]; trivial
  have hf4 : F.fn 54 := by rw [HF.out]; trivial
  have hf5 : F.fn 56 := by rw [HF.out]; trivial
  have hf6 : F.fn 57 := by rw [HF.out]; trivial
  have hdd : ∀ k : Nat, (F.depth.isSome = true → 1 ≤ k) := fun k h => by rw [hd] at h; cases h
  have HV := Lib.hid (fun W (hW : Below w.heap.size w W) => cvalid_any (· < w.heap.size) t W v (fun q hq => Nat.lt_of_lt_of_le hq hW.size) (ht.keep (Same.of_below hW (fun _ h => h))))
  have HT := Lib.hid (fun W (hW : Below w.heap.size w W) => (ht.keep (Same.of_below hW (fun _ h => h))))
  obtain ⟨ka, kn, kc, na, nn, nc, la, ln, lc, rfl, -, -, -⟩ := ht.shape
  have HFI := Lib.hid (fun W => freeIndices_any W t.op t.n t.s ka na la kn kc nn nc ln lc)
  obtain ⟨hbx, hb⟩ := boxN_new w 28 #[.int .i64 t.op, .int .i64 t.n, .string t.s, .slice ka kn kc, .slice na nn nc, .slice la ln lc]
  have HBX := Lib.hid hbx
  have HB := Lib.hid hb
  have HO := Lib.hid (show freeOut t = if Con.validB t = true then (freeList t, 0) else ([], 1) from rfl)
  have c0 := hbx.cell 0 (.int .i64 t.op) rfl
  have c1 := hbx.cell 1 (.int .i64 t.n) rfl
  have c2 := hbx.cell 2 (.string t.s) rfl
  have c3 := hbx.cell 3 (.slice ka kn kc) rfl
  have c4 := hbx.cell 4 (.slice na nn nc) rfl
  have c5 := hbx.cell 5 (.slice la ln lc) rfl
  clear hbx hb ht
  refine callsIn_of_wp_marks Tryz.func10 rfl hf1 ?_ hro
  simp only [Tryz.ntmps10, List.size_toArray, List.length_cons, List.length_nil, Nat.reduceAdd, Nat.reduceSub, Array.replicate_succ, Array.replicate_zero, List.push_toArray, List.append_toArray, List.nil_append, List.cons_append]
  gi_wp2_with fail
  clear c0 c1 c2 c3 c4 c5
  generalize (w.alloc (.cells #[.int .i64 t.op, .int .i64 t.n, .string t.s, .slice ka kn kc, .slice na nn nc, .slice la ln lc] 28)) = w1 at *
  refine (toF HF _ (HV.out _ HB.out)).mono ?_
  rintro e w2 ⟨rfl, h2⟩
  replace HB := Lib.hid (belowStep h2 HB.out)
  replace HBX := Lib.hid (HBX.out.of_eq (h2.block _ HBX.out.lt))
  clear h2
  cases hv : Con.validB t
  · rw [hv] at HO
    have HE := Lib.hid (show FreeP (freeOut t) w (.returned (.tuple #[.slice none 0 0, .int .i64 1])) w2 from ⟨⟨_, by rw [HO.out]; rfl, by rw [HO.out]; exact World.ownsRow_nil _ _ _ _⟩, HB.out⟩)
    clear HV HT HFI HBX HB HO
    gi_wp2
    refine ⟨_, by simp [results, Tryz.results10, Tryz.f10, go_sem], HE.out⟩
  have HVT := Lib.hid hv
  have HOV := Lib.hid (show freeOut t = (freeList t, 0) from by rw [HO.out, if_pos HVT.out])
  have HTS := Lib.hid (show t.size ≤ 20000 from by
    have h := HVT.out
    unfold Con.validB Con.small at h
    simp only [Bool.and_eq_true, decide_eq_true_eq] at h
    omega)
  rw [hv] at HV
  clear hv HV HO
  obtain ⟨hb4, hbb4⟩ := boxN_new w2 31 #[.slice none 0 0]
  have HB4 := Lib.hid hb4
  have HBX2 := Lib.hid (HBX.out.of_eq (hbb4.block _ HBX.out.lt))
  have HBB := Lib.hid (belowStep hbb4 HB.out)
  have HSZ := Lib.hid (size_alloc w2 (.cells #[.slice none 0 0] 31))
  have c0 := HBX2.out.cell 0 (.int .i64 t.op) rfl
  have c1 := HBX2.out.cell 1 (.int .i64 t.n) rfl
  have c2 := HBX2.out.cell 2 (.string t.s) rfl
  have c3 := HBX2.out.cell 3 (.slice ka kn kc) rfl
  have c4 := HBX2.out.cell 4 (.slice na nn nc) rfl
  have c5 := HBX2.out.cell 5 (.slice la ln lc) rfl
  clear hb4 hbb4
  gi_wp2_with fail
  clear c0 c1 c2 c3 c4 c5
  have hsz0 := HSZ.out
  have hwb2 := HB.out.size
  have hb4s := HB4.out
  generalize w2.alloc (.cells #[.slice none 0 0] 31) = w4 at *
  generalize w2.heap.size = B4 at *
  refine (toF HF _ (HFI.out _)).mono ?_
  rintro e w5 ⟨rfl, rfl⟩
  obtain ⟨hbc, hb5⟩ := boxN_new w4 28 #[.int .i64 t.op, .int .i64 t.n, .string t.s, .slice ka kn kc, .slice na nn nc, .slice la ln lc]
  have hsz5 := size_alloc w4 (.cells #[.int .i64 t.op, .int .i64 t.n, .string t.s, .slice ka kn kc, .slice na nn nc, .slice la ln lc] 28)
  have h4 := HB4.out.of_eq (hb5.block _ HB4.out.lt)
  have hb6 := belowStep hb5 HBB.out
  have hht := HT.out _ hb6
  generalize w4.alloc (.cells #[.int .i64 t.op, .int .i64 t.n, .string t.s, .slice ka kn kc, .slice na nn nc, .slice la ln lc] 28) = w6 at *
  have hlt6 : w4.heap.size < w6.heap.size := by omega
  have hlt7 : w.heap.size ≤ w6.heap.size := by omega
  have hlt8 : B4 + 2 ≤ w6.heap.size := by omega
  clear hsz0 hsz5 HB HBX HSZ hb4s
  obtain ⟨ii, hii, hiz, his, hib⟩ := info_parts infoInt
  gi_wp2_with fail
  refine rangeO (a := _) hro (by omega) (gf := 106) (lb := #[.pointer (some ⟨w4.heap.size, 0, none⟩)]) rfl hf3 (enters_of Tryz.func106 (by kernel_rfl) rfl)
    (freeIdx_seq F HF (12 - 1) w4.heap.size w.heap.size w6.heap.size t ka na la kn kc nn nc ln lc w6 (by omega) hlt7 hlt7 hlt6 (valid_all t HVT.out) (valid_depth t HVT.out) hbc hht) (Nat.le_refl _) (fun h k => KpF.trans h k) (fun W o o' h1 h2 h3 => KpF.put hlt7 W o o' h1 h2 h3) (Below.refl _ _) (fun _ => rfl)
    (fun pre W => ∃ v, Blk W B4 31 #[v] ∧ W.ownsRow (B4 + 1) 3 1 v pre.length (pre.map fun x => Value.int .i64 x.1) ∧ Below w.heap.size w W)
    (fun pre W => False)
    (fun s A D row hs hg hr => by
      obtain ⟨v, h1, h2, h3⟩ := hs
      exact ⟨v, blk_own (β := Unit) () A D row h1 hg hr, ownsRow_own () A D row h2 hg hr, below_own (β := Unit) hlt7 () A D row h3 hg hr⟩)
    (fun s A D row hs hg hr => hs)
    ⟨_, h4, World.ownsRow_nil _ _ _ _, hb6⟩ (fun x => { tmps := #[.agg #[.int .i64 t.op, .int .i64 t.n, .string t.s, .slice ka kn kc, .slice na nn nc, .slice la ln lc], .pointer (some ⟨w.heap.size, 0, none⟩), .slice none 0 0, .int .i64 0, .pointer (some ⟨B4, 0, none⟩), .int .i64 x.1, .agg #[.int .i64 t.op, .int .i64 t.n, .string t.s, .slice ka kn kc, .slice na nn nc, .slice la ln lc], .bool true, .bool false, .agg #[.int .i64 t.op, .int .i64 t.n, .string t.s, .slice ka kn kc, .slice na nn nc, .slice la ln lc], .func (.func 106) #[] #[.pointer (some ⟨w4.heap.size, 0, none⟩)], .int .i64 x.1, undef, undef, undef, undef, undef, undef, undef, undef], defers := [] }) ?assign ?body ?done ?stop
  case assign =>
    intro lp x W K hK
    unfold encI
    gi_wp2
    exact hK
  case stop =>
    rintro D pre W hD hpf hF hK
    exact hF.elim
  case body =>
    rintro lp pre x W ⟨v, h1, h2, h3⟩ hlen
    have x4 := h1.cell 0 v rfl
    have f4 := h1.thaw 0
    have hlt4 := h1.lt
    have H1 := Lib.hid h1
    have H3 := Lib.hid h3
    have HLEN := Lib.hid (show pre.length < 20000 from by
      have := HTS.out
      omega)
    clear h1 h3 hlen HFI HBX2 HBB HB4 hbc hb5 h4 hb6 hht HT HOV
    gi_wp2_with (first
      | (gi_at_builtin; refine wpListIn_append_own _ rfl _ _ 31 rfl (B4 + 1) 3 ii (.int .i64 0) 1 8 Tryz.underlying31 hii hiz his hib rfl (by decide) _ _ _ rfl (h2.alloc _) ⟨W.heap.size, 0, none⟩ 1 1 [.int .i64 x.1] rfl rfl ?c1 ?c2 ?c3 ?c4 ?c5 ?_)
      | gi_in)
    case c1 =>
      intro j u hj
      match j, hj with
      | 0, hj => simp at hj; subst hj; simp [Addr.add]
    case c2 => intro u hu; simp at hu; subst hu; rfl
    case c3 => have := HLEN.out; unfold maxLen; omega
    case c4 => have := HLEN.out; omega
    case c5 => simp; omega
    · intro v9 W1 hown9 hgrow _
      obtain ⟨g9, cap9, rfl⟩ : ∃ g cap, v9 = .slice (some ⟨g, 0, none⟩) (pre.length + 1) cap := by
        rcases hown9.2 with ⟨_, h⟩ | ⟨g, cap, _, h, _⟩
        · omega
        · exact ⟨g, cap, h⟩
      have hne4 : some B4 ≠ v.ownBlock := fun e => by have := (h2.lt B4 e.symm).1; omega
      have h1a := H1.out.alloc (.cells #[.int .i64 x.1] 3)
      have h1b : Blk W1 B4 31 #[v] := (hgrow.block B4 h1a.lt hne4).trans h1a
      have x5 := h1b.cell 0 v rfl
      have f5 := h1b.thaw 0
      have hsame := own_same (v' := (.slice (some ⟨g9, 0, none⟩) (pre.length + 1) cap9)) x.1 H1.out h2 hgrow
      have hbel : Below w.heap.size W (W1.setCell ⟨B4, 0, none⟩ (.slice (some ⟨g9, 0, none⟩) (pre.length + 1) cap9)) := (((Below.refl w.heap.size W).alloc H3.out.size (.cells #[.int .i64 x.1] 3)).grown hgrow (Nat.le_trans H3.out.size (by rw [size_alloc]; omega)) (fun k e => by have := (h2.lt k e).1; omega)).setCell (p := ⟨B4, 0, none⟩) hwb2 (.slice (some ⟨g9, 0, none⟩) (pre.length + 1) cap9)
      have hgb : some B4 ≠ (.slice (some ⟨g9, 0, none⟩) (pre.length + 1) cap9 : Value).ownBlock := fun e => by have := (hown9.lt B4 e.symm).1; omega
      have HE := Lib.hid (show KeepsFrom w6.heap.size W (W1.setCell ⟨B4, 0, none⟩ (.slice (some ⟨g9, 0, none⟩) (pre.length + 1) cap9)) ∧ KpF w.heap.size w6.heap.size W (W1.setCell ⟨B4, 0, none⟩ (.slice (some ⟨g9, 0, none⟩) (pre.length + 1) cap9)) ∧ ∃ v, Blk (W1.setCell ⟨B4, 0, none⟩ (.slice (some ⟨g9, 0, none⟩) (pre.length + 1) cap9)) B4 31 #[v] ∧ (W1.setCell ⟨B4, 0, none⟩ (.slice (some ⟨g9, 0, none⟩) (pre.length + 1) cap9)).ownsRow (B4 + 1) 3 1 v (pre ++ [x]).length ((pre ++ [x]).map fun x => Value.int .i64 x.1) ∧ Below w.heap.size w (W1.setCell ⟨B4, 0, none⟩ (.slice (some ⟨g9, 0, none⟩) (pre.length + 1) cap9)) from
        ⟨⟨hbel.size, fun k o _ ho hc => hsame k o ho (.inl hc)⟩, ⟨hbel, fun k o _ ho hc => hsame k o ho hc⟩, (.slice (some ⟨g9, 0, none⟩) (pre.length + 1) cap9), blk_one h1b, by
          have h := own_other (v' := (.slice (some ⟨g9, 0, none⟩) (pre.length + 1) cap9)) hown9 hgb
          simpa using h, H3.out.trans hbel⟩)
      clear h2 hown9 hgrow h1a h1b hsame hbel hgb hne4
      gi_wp2
      exact HE.out
  case done =>
    rintro D xs W hD hS ⟨v, h1, h2, h3⟩ hK
    obtain ⟨zs, hzs⟩ : ∃ zs, zs = Con.frees t 0 := ⟨_, rfl⟩
    have hll : xs.length = zs.length := by rw [hzs, ← hS, List.length_map]
    have hmm : (xs.map fun x => Value.int .i64 x.1) = zs.map (Value.int .i64) := by rw [hzs, ← hS, List.map_map]; rfl
    rw [hll, hmm] at h2
    have HFL := Lib.hid (show freeOut t = (Lib.compact (zs.mergeSort fun x y => decide (x ≤ y)), 0) from by rw [HOV.out, hzs]; rfl)
    have hfr : (Con.frees t 0).length ≤ 20000 := by
      have h1 := leavesOf_size t 0
      have h2 := List.length_filterMap_le freeL (Con.leavesOf t 0)
      rw [← frees_leaves t 0 (valid_all t HVT.out)] at h2
      have := HTS.out
      omega
    rw [← hzs] at hfr
    clear hll hmm hS hzs HOV HFI HBX2 HBB HB4 hbc hb5 h4 hb6 hht HT
    rcases h2.2 with ⟨rfl, hz⟩ | ⟨g, cap, cur, rfl, hb, hgg, hn, hm, hs, htk⟩
    · have hz : zs = [] := List.eq_nil_of_length_eq_zero hz
      subst hz
      have x4 := h1.cell 0 (.slice none 0 0) rfl
      have HB7 := Lib.hid (h3.trans (belowK_b (w := w) (Nat.le_refl _) _ D _ (.deferred none) (Nat.le_trans hlt7 hD) hK rfl rfl))
      have HFE := Lib.hid (show freeOut t = ([], 0) from by rw [HFL.out, List.mergeSort_nil]; rfl)
      clear h1 h2 h3 hfr HFL
      gi_wp2_with fail
      refine (toF HF _ (Tryz.slices_Sort_int_none none 0 _)).mono ?_
      rintro e w5 ⟨rfl, rfl⟩
      gi_wp2_with fail
      refine (toF HF _ (Tryz.slices_Compact_int_empty none 0 _)).mono ?_
      rintro e w5 ⟨rfl, rfl⟩
      gi_wp2
      refine ⟨by simp, .inl ⟨_, _, rfl, run_takeDeferred hK, ?_⟩⟩
      refine ⟨.tuple #[.slice none 0 0, .int .i64 0], by simp [results, Tryz.results10, Tryz.f10, go_sem], ?_⟩
      exact ⟨⟨_, by rw [HFE.out], by rw [HFE.out]; exact World.ownsRow_nil _ _ _ _⟩, HB7.out⟩
    · have x4 := h1.cell 0 (.slice (some ⟨g, 0, none⟩) zs.length cap) rfl
      have hglt : g < W.heap.size := (Array.getElem?_eq_some_iff.1 hgg).1
      have hgD : D ≠ g := by
        rintro rfl
        rw [hgg] at hK
        cases hK
      have HSO := Lib.hid (Tryz.slices_Sort_int g 0 cap zs W (holds_of_blockI hgg (by simpa using htk)) hglt (by omega))
      have HNX := Lib.hid (fun nq os => (show (grow (putRow (Value.int .i64) (Sort.ahead W nq) g 0 (zs.mergeSort fun x y => decide (x ≤ y)).toArray) os).ownsRow (B4 + 1) 3 1 (.slice (some ⟨g, 0, none⟩) zs.length cap) zs.length ((zs.mergeSort fun x y => decide (x ≤ y)).map (Value.int .i64)) ∧ Blk (grow (putRow (Value.int .i64) (Sort.ahead W nq) g 0 (zs.mergeSort fun x y => decide (x ≤ y)).toArray) os) B4 31 #[.slice (some ⟨g, 0, none⟩) zs.length cap] ∧ (grow (putRow (Value.int .i64) (Sort.ahead W nq) g 0 (zs.mergeSort fun x y => decide (x ≤ y)).toArray) os).heap[D]? = some (.deferred (some [])) ∧ Below w.heap.size w (grow (putRow (Value.int .i64) (Sort.ahead W nq) g 0 (zs.mergeSort fun x y => decide (x ≤ y)).toArray) os) from by
        have hg5 := grownBy_sortedI (w := W) (g := g) (n := nq) (os := os) (zs.mergeSort fun x y => decide (x ≤ y)).toArray
        refine ⟨ownsRow_sortedI (List.length_mergeSort _) hb hgg hn hm hs, (hg5.block B4 h1.lt (fun e => by injection e with e; omega)).trans h1, (hg5.block D (Array.getElem?_eq_some_iff.1 hK).1 (fun e => by injection e with e; exact hgD e)).trans hK, h3.grown hg5 h3.size (fun k e => by injection e with e; omega)⟩))
      have htl : (zs.mergeSort fun x y => decide (x ≤ y)).length = zs.length := List.length_mergeSort _
      clear h1 h2 h3 hK hgg hglt hs htk
      gi_wp2_with fail
      refine (toF HF _ HSO.out).mono ?_
      rintro e w5 ⟨rfl, nq, os, rfl⟩
      obtain ⟨hown5, h15, hK5, hb5⟩ := HNX.out nq os
      clear HNX HSO x4
      generalize grow (putRow (Value.int .i64) (Sort.ahead W nq) g 0 (zs.mergeSort fun x y => decide (x ≤ y)).toArray) os = w5 at *
      generalize (zs.mergeSort fun x y => decide (x ≤ y)) = ts at *
      obtain ⟨g', cap', e', _, _, _, _, _, hH⟩ := Go.Lib.holds_of_ownsRow (α := Int) hown5 (by simp)
      injection e' with e1 _ e3
      injection e1 with e1
      injection e1 with e1
      subst e1 e3
      have HC := Tryz.slices_Compact_int g 0 cap ts w5 hH (by omega) (by omega)
      rw [htl] at HC
      have HCO := Lib.hid HC
      have hcl := Go.Lib.compact_length_le ts
      have HNX := Lib.hid (fun q => (show (putRow (Value.int .i64) (Sort.ahead w5 q) g 0 (Lib.compact ts ++ List.replicate (zs.length - (Lib.compact ts).length) 0).toArray).ownsRow (B4 + 1) 3 1 (.slice (some ⟨g, 0, none⟩) (Lib.compact ts).length cap) (Lib.compact ts).length ((Lib.compact ts).map (Value.int .i64)) ∧ (putRow (Value.int .i64) (Sort.ahead w5 q) g 0 (Lib.compact ts ++ List.replicate (zs.length - (Lib.compact ts).length) 0).toArray).heap[D]? = some (.deferred (some [])) ∧ Below w.heap.size w (putRow (Value.int .i64) (Sort.ahead w5 q) g 0 (Lib.compact ts ++ List.replicate (zs.length - (Lib.compact ts).length) 0).toArray) from by
        have h := Go.Lib.ownsRow_putRow (q := q) (k := (Lib.compact ts).length) (ys := Lib.compact ts ++ List.replicate (zs.length - (Lib.compact ts).length) 0) hown5 (by simp; omega) (by omega)
        rw [List.take_left] at h
        exact ⟨h, (heap_put _ _ _ _ _ hgD).trans hK5, Go.Lib.below_putRow hb5 (by omega)⟩))
      have x5 := h15.cell 0 (.slice (some ⟨g, 0, none⟩) zs.length cap) rfl
      clear HC hown5 h15 hb5 hH hK5 htl
      generalize Lib.compact ts = cs at *
      gi_wp2_with fail
      refine (toF HF _ HCO.out).mono ?_
      rintro e w7 ⟨rfl, q, rfl⟩
      obtain ⟨hown7, hK7, hb7⟩ := HNX.out q
      clear HNX HCO x5
      generalize putRow (Value.int .i64) (Sort.ahead w5 q) g 0 (cs ++ List.replicate (zs.length - cs.length) 0).toArray = w7 at *
      have HB7 := Lib.hid (hb7.trans (belowK_b (w := w) (Nat.le_refl _) _ D _ (.deferred none) (Nat.le_trans hlt7 hD) hK7 rfl rfl))
      have HOW7 := Lib.hid (ownsRow_base (b2 := w.heap.size) (ownsRow_own (B := D) () _ _ _ hown7 (grownBy_putObj' w7 D (.deferred none)) (fun r e => by cases e; exact ⟨Nat.le_refl _, _, hK7, rfl⟩)) (by omega))
      clear hown7 hb7
      gi_wp2
      refine ⟨by simp, .inl ⟨_, _, rfl, run_takeDeferred hK7, ?_⟩⟩
      refine ⟨.tuple #[.slice (some ⟨g, 0, none⟩) cs.length cap, .int .i64 0], by simp [results, Tryz.results10, Tryz.f10, go_sem], ?_⟩
      exact ⟨⟨_, by rw [HFL.out], by rw [HFL.out]; exact HOW7.out⟩, HB7.out⟩
end Go.Proofs.YtkjaicmfegpjdaaGreat
namespace Go.Proofs.YtkjaicmfegpjdaaGreat
open Go Go.RowKit
open Pl (K Con)
set_option linter.unusedSimpArgs false
set_option linter.unusedVariables false

def vr (n : Int) : Con := ⟨1, n, ByteArray.empty, .mk [], [], []⟩
def ap (t u : Con) : Con := ⟨12, 0, ByteArray.empty, .mk [], [], [t, u]⟩
def cint : Con := ⟨4, 0, ByteArray.empty, .mk [], [], []⟩
def exC : Con := lam (ap (vr 0) (vr 1))
def exS : Con := lam (ap (vr 0) (vr 3))
def exX : Con := lam (ap (vr 0) cint)
theorem ex_valid : Con.validB exC = true := by kernel_rfl
theorem ex_frees : Con.frees exC 0 = [0] := by kernel_rfl
theorem ex_free : freeOut exC = ([0], 0) := by
  unfold freeOut freeList
  rw [if_pos ex_valid, ex_frees, List.mergeSort_singleton]
  rfl
theorem ex_shift : shiftOut exC 2 0 = (exS, 0) := by kernel_rfl
theorem ex_subst : substOut exC [cint] = (exX, 0) := by kernel_rfl
theorem conV_leaf (op n : Int) (w : World) (P : Nat → Prop) : ConV w P ⟨op, n, ByteArray.empty, .mk [], [], []⟩ (.agg #[.int .i64 op, .int .i64 n, .string ByteArray.empty, .slice none 0 0, .slice none 0 0, .slice none 0 0]) := by
  rw [conV_iff]
  exact ⟨Nat.zero_le _, _, _, _, rfl, kidV_none _ _, ⟨none, 0, rfl, Nat.le_refl _, Nat.zero_le _, fun _ => rfl, (fun z hz => by cases hz), .inl rfl⟩, ⟨none, 0, rfl, Nat.le_refl _, Nat.zero_le _, fun _ => rfl, .inl rfl⟩⟩
set_option maxRecDepth 100000 in
theorem rvar_any (n : Int) (w : World) :
    Calls Tryz.prog 50 #[.int .i64 n] w fun e w' => e = .returned (.agg #[.int .i64 1, .int .i64 n, .string ByteArray.empty, .slice none 0 0, .slice none 0 0, .slice none 0 0]) ∧ Below w.heap.size w w' := by
  obtain ⟨hbx, hb⟩ := boxN_new w 28 #[.int .i64 1, .int .i64 n, .string ByteArray.empty, .slice none 0 0, .slice none 0 0, .slice none 0 0]
  have d0 := hbx.cell 0 (.int .i64 1) rfl
  have d1 := hbx.cell 1 (.int .i64 n) rfl
  have d2 := hbx.cell 2 (.string ByteArray.empty) rfl
  have d3 := hbx.cell 3 (.slice none 0 0) rfl
  have d4 := hbx.cell 4 (.slice none 0 0) rfl
  have d5 := hbx.cell 5 (.slice none 0 0) rfl
  have HB := Lib.hid hb
  clear hbx hb
  go_enter Tryz.func50, Tryz.ntmps50
  go_wp2_with fail
  refine bodyPost_ret (v := .agg #[.int .i64 1, .int .i64 n, .string ByteArray.empty, .slice none 0 0, .slice none 0 0, .slice none 0 0]) (by first | (simp [results, Tryz.results50, go_sem, d0, d1, d2, d3, d4, d5]; done) | (simp [results, Tryz.results50, go_sem, d0, d1, d2, d3, d4, d5]; rfl)) rfl ?_
  exact ⟨rfl, HB.out⟩
set_option maxRecDepth 100000 in
set_option maxHeartbeats 1000000 in
theorem rapp_any (t u : Con) (w : World) (v x : Value) (ht : ConV w (· < w.heap.size) t v) (hu : ConV w (· < w.heap.size) u x) :
    Calls Tryz.prog 49 #[v, x] w fun e w' => (∃ g, e = .returned (.agg #[.int .i64 12, .int .i64 0, .string ByteArray.empty, .slice none 0 0, .slice none 0 0, .slice (some ⟨g, 0, none⟩) 2 2]) ∧ ConV w' (· < w'.heap.size) (ap t u) (.agg #[.int .i64 12, .int .i64 0, .string ByteArray.empty, .slice none 0 0, .slice none 0 0, .slice (some ⟨g, 0, none⟩) 2 2])) ∧ Below w.heap.size w w' := by
  have HT := Lib.hid (fun W (hW : Below w.heap.size w W) => ht.grow hW)
  have HU := Lib.hid (fun W (hW : Below w.heap.size w W) => hu.grow hW)
  obtain ⟨ka, kn, kc, na, nn, nc, la, ln, lc, rfl, -, -, -⟩ := ht.shape
  obtain ⟨ka2, kn2, kc2, na2, nn2, nc2, la2, ln2, lc2, rfl, -, -, -⟩ := hu.shape
  clear ht hu
  go_enter Tryz.func49, Tryz.ntmps49
  have hX : Below w.heap.size w (((w.alloc (.cells #[.int .i64 t.op, .int .i64 t.n, .string t.s, .slice ka kn kc, .slice na nn nc, .slice la ln lc] 28)).alloc (.cells #[.int .i64 u.op, .int .i64 u.n, .string u.s, .slice ka2 kn2 kc2, .slice na2 nn2 nc2, .slice la2 ln2 lc2] 28)).alloc (.cells #[.int .i64 12, .int .i64 0, .string ByteArray.empty, .slice none 0 0, .slice none 0 0, .slice (some ⟨w.heap.size + 1 + 1 + 1, 0, none⟩) 2 2] 28)) := below_new (below_new (below_new (Below.refl _ _)))
  have hs : (((w.alloc (.cells #[.int .i64 t.op, .int .i64 t.n, .string t.s, .slice ka kn kc, .slice na nn nc, .slice la ln lc] 28)).alloc (.cells #[.int .i64 u.op, .int .i64 u.n, .string u.s, .slice ka2 kn2 kc2, .slice na2 nn2 nc2, .slice la2 ln2 lc2] 28)).alloc (.cells #[.int .i64 12, .int .i64 0, .string ByteArray.empty, .slice none 0 0, .slice none 0 0, .slice (some ⟨w.heap.size + 1 + 1 + 1, 0, none⟩) 2 2] 28)).heap.size = w.heap.size + 1 + 1 + 1 := by rw [size_alloc, size_alloc, size_alloc]
  obtain ⟨hbx, hb⟩ := boxN_new (((w.alloc (.cells #[.int .i64 t.op, .int .i64 t.n, .string t.s, .slice ka kn kc, .slice na nn nc, .slice la ln lc] 28)).alloc (.cells #[.int .i64 u.op, .int .i64 u.n, .string u.s, .slice ka2 kn2 kc2, .slice na2 nn2 nc2, .slice la2 ln2 lc2] 28)).alloc (.cells #[.int .i64 12, .int .i64 0, .string ByteArray.empty, .slice none 0 0, .slice none 0 0, .slice (some ⟨w.heap.size + 1 + 1 + 1, 0, none⟩) 2 2] 28)) 28 (#[.int .i64 t.op, .int .i64 t.n, .string t.s, .slice ka kn kc, .slice na nn nc, .slice la ln lc, .int .i64 u.op, .int .i64 u.n, .string u.s, .slice ka2 kn2 kc2, .slice na2 nn2 nc2, .slice la2 ln2 lc2])
  have hr := (blk_new ((w.alloc (.cells #[.int .i64 t.op, .int .i64 t.n, .string t.s, .slice ka kn kc, .slice na nn nc, .slice la ln lc] 28)).alloc (.cells #[.int .i64 u.op, .int .i64 u.n, .string u.s, .slice ka2 kn2 kc2, .slice na2 nn2 nc2, .slice la2 ln2 lc2] 28)) #[.int .i64 12, .int .i64 0, .string ByteArray.empty, .slice none 0 0, .slice none 0 0, .slice (some ⟨w.heap.size + 1 + 1 + 1, 0, none⟩) 2 2] 28).alloc (.cells (#[.int .i64 t.op, .int .i64 t.n, .string t.s, .slice ka kn kc, .slice na nn nc, .slice la ln lc, .int .i64 u.op, .int .i64 u.n, .string u.s, .slice ka2 kn2 kc2, .slice na2 nn2 nc2, .slice la2 ln2 lc2]) 28)
  rw [size_alloc, size_alloc] at hr
  have d0 := hr.cell 0 (.int .i64 12) rfl
  have d1 := hr.cell 1 (.int .i64 0) rfl
  have d2 := hr.cell 2 (.string ByteArray.empty) rfl
  have d3 := hr.cell 3 (.slice none 0 0) rfl
  have d4 := hr.cell 4 (.slice none 0 0) rfl
  have d5 := hr.cell 5 (.slice (some ⟨w.heap.size + 1 + 1 + 1, 0, none⟩) 2 2) rfl
  have HB := Lib.hid (belowStep hb hX)
  rw [hs] at hbx
  have HBX := Lib.hid hbx
  clear hbx hb hX hs hr
  go_wp2_with fail
  refine bodyPost_ret (v := .agg #[.int .i64 12, .int .i64 0, .string ByteArray.empty, .slice none 0 0, .slice none 0 0, .slice (some ⟨w.heap.size + 1 + 1 + 1, 0, none⟩) 2 2]) (by first | (simp [results, Tryz.results49, go_sem, d0, d1, d2, d3, d4, d5]; done) | (simp [results, Tryz.results49, go_sem, d0, d1, d2, d3, d4, d5]; rfl)) rfl ?_
  refine ⟨⟨w.heap.size + 1 + 1 + 1, rfl, ?_⟩, HB.out⟩
  rw [conV_iff]
  refine ⟨Nat.zero_le _, _, _, _, rfl, kidV_none _ _, ⟨none, 0, rfl, Nat.le_refl _, Nat.zero_le _, fun _ => rfl, (fun z hz => by cases hz), .inl rfl⟩, ?_⟩
  exact cons_two HBX.out HBX.out.lt (HT.out _ HB.out) (HU.out _ HB.out)
end Go.Proofs.YtkjaicmfegpjdaaGreat
namespace Go.Proofs.YtkjaicmfegpjdaaGreat
open Go Go.RowKit
open Pl (K Con)
set_option linter.unusedSimpArgs false
set_option linter.unusedVariables false

theorem exS_shape {w : World} {P : Nat → Prop} {v : Value} (h : ConV w P exS v) : ∃ sa sn sc sb sm sd se sk sf, v = .agg #[.int .i64 11, .int .i64 0, .string ByteArray.empty, .slice sa sn sc, .slice sb sm sd, .slice se sk sf] := by
  obtain ⟨ka, kn, kc, na, nn, nc, la, ln, lc, rfl, -, -, -⟩ := h.shape
  exact ⟨ka, kn, kc, na, nn, nc, la, ln, lc, rfl⟩
theorem exX_shape {w : World} {P : Nat → Prop} {v : Value} (h : ConV w P exX v) : ∃ sa sn sc sb sm sd se sk sf, v = .agg #[.int .i64 11, .int .i64 0, .string ByteArray.empty, .slice sa sn sc, .slice sb sm sd, .slice se sk sf] := by
  obtain ⟨ka, kn, kc, na, nn, nc, la, ln, lc, rfl, -, -, -⟩ := h.shape
  exact ⟨ka, kn, kc, na, nn, nc, la, ln, lc, rfl⟩
set_option maxRecDepth 100000 in
set_option maxHeartbeats 4000000 in
theorem awake9 : Awake9 := by
  intro w
  have HVR := Lib.hid (fun n W => rvar_any n W)
  have HA0 := Lib.hid (fun W => rapp_any (vr 0) (vr 1) W _ _ (conV_leaf 1 0 W _) (conV_leaf 1 1 W _))
  have HBO := Lib.hid (fun W t v (h : ConV W (· < W.heap.size) t v) => rbound_any t W v h)
  have HFR := Lib.hid (fun W v (h : ConV W (· < W.heap.size) exC v) => (show Calls Tryz.prog 10 #[v] W (FreeP ([0], 0) W) from ex_free ▸ cfree_any exC W v h))
  have HSH := Lib.hid (fun W v (h : ConV W (· < W.heap.size) exC v) => (show Calls Tryz.prog 11 #[v, .int .i64 2, .int .i64 0] W (OutP (exS, 0) W) from ex_shift ▸ cshift_any exC 2 0 W v h (by omega) (by omega) (by omega) (by omega)))
  have HSU := Lib.hid (fun W v x (h : ConV W (· < W.heap.size) exC v) (hl : ConSl W (· < W.heap.size) x [cint]) => (show Calls Tryz.prog 21 #[v, x] W (OutP (exX, 0) W) from ex_subst ▸ csubst_any exC [cint] W v x h hl))
  go_enter Tryz.func8, Tryz.ntmps8
  go_wp2_with fail
  refine (HVR.out _ _).mono ?_
  rintro e w1 ⟨rfl, hb1⟩
  have HB := Lib.hid hb1
  clear hb1
  go_wp2_with fail
  refine (HVR.out _ _).mono ?_
  rintro e w2 ⟨rfl, hb2⟩
  replace HB := Lib.hid (belowStep hb2 HB.out)
  clear hb2
  go_wp2_with fail
  refine (HA0.out _).mono ?_
  rintro e w3 ⟨⟨ga, rfl, ha⟩, hb3⟩
  replace HB := Lib.hid (belowStep hb3 HB.out)
  clear hb3
  have HBX := Lib.hid (HBO.out _ _ _ ha)
  clear ha
  go_wp2_with fail
  refine HBX.out.mono ?_
  rintro e w4 ⟨⟨gl, rfl, hc⟩, hb4⟩
  replace HB := Lib.hid (belowStep hb4 HB.out)
  obtain ⟨h1, hbx⟩ := boxN_new w4 28 #[.int .i64 11, .int .i64 0, .string ByteArray.empty, .slice none 0 0, .slice none 0 0, .slice (some ⟨gl, 0, none⟩) 1 1]
  have HC := Lib.hid ((show ConV w4 (· < w4.heap.size) exC _ from hc).grow hbx)
  have H1 := Lib.hid h1
  have HB5 := Lib.hid (belowStep hbx HB.out)
  have c0 := h1.cell 0 (.int .i64 11) rfl
  have c1 := h1.cell 1 (.int .i64 0) rfl
  have c2 := h1.cell 2 (.string ByteArray.empty) rfl
  have c3 := h1.cell 3 (.slice none 0 0) rfl
  have c4 := h1.cell 4 (.slice none 0 0) rfl
  have c5 := h1.cell 5 (.slice (some ⟨gl, 0, none⟩) 1 1) rfl
  clear hb4 h1 hbx hc HBX
  go_wp2_with fail
  clear c0 c1 c2 c3 c4 c5
  generalize w4.alloc (.cells #[.int .i64 11, .int .i64 0, .string ByteArray.empty, .slice none 0 0, .slice none 0 0, .slice (some ⟨gl, 0, none⟩) 1 1] 28) = w5 at *
  generalize w4.heap.size = G1 at *
  refine (HFR.out _ _ HC.out).mono ?_
  rintro e w6 ⟨⟨y, rfl, hy⟩, hb6⟩
  obtain ⟨gr, cr, rfl⟩ : ∃ g cap, y = .slice (some ⟨g, 0, none⟩) 1 cap := by
    rcases hy.2 with ⟨_, h⟩ | ⟨g, cap, _, h, _⟩
    · cases h
    · exact ⟨g, cap, h⟩
  have hrow : gr < w6.heap.size ∧ w6.cell? ⟨gr, 0, none⟩ = some (.int .i64 0) := ⟨(hy.lt gr rfl).2, hy.cells rfl 0 _ rfl⟩
  have HROW := Lib.hid hrow
  replace HC := Lib.hid (HC.out.grow hb6)
  replace H1 := Lib.hid (H1.out.of_eq (hb6.block _ H1.out.lt))
  have HB6 := Lib.hid (belowStep hb6 HB5.out)
  have c0 := H1.out.cell 0 (.int .i64 11) rfl
  have c1 := H1.out.cell 1 (.int .i64 0) rfl
  have c2 := H1.out.cell 2 (.string ByteArray.empty) rfl
  have c3 := H1.out.cell 3 (.slice none 0 0) rfl
  have c4 := H1.out.cell 4 (.slice none 0 0) rfl
  have c5 := H1.out.cell 5 (.slice (some ⟨gl, 0, none⟩) 1 1) rfl
  clear hy hb6 hrow
  go_wp2_with fail
  clear c0 c1 c2 c3 c4 c5
  refine (HSH.out _ _ HC.out).mono ?_
  rintro e w7 ⟨⟨y, rfl, hy⟩, hb7⟩
  obtain ⟨sa, sn, sc, sb, sm, sd, se, sk, sf, rfl⟩ := exS_shape hy
  obtain ⟨h4, hbx⟩ := boxN_new w7 28 #[.int .i64 11, .int .i64 0, .string ByteArray.empty, .slice sa sn sc, .slice sb sm sd, .slice se sk sf]
  have hb8 := belowStep hbx hb7
  replace HC := Lib.hid (HC.out.grow hb8)
  replace H1 := Lib.hid (H1.out.of_eq (hb8.block _ H1.out.lt))
  replace HROW := Lib.hid (show gr < (w7.alloc (.cells #[.int .i64 11, .int .i64 0, .string ByteArray.empty, .slice sa sn sc, .slice sb sm sd, .slice se sk sf] 28)).heap.size ∧ (w7.alloc (.cells #[.int .i64 11, .int .i64 0, .string ByteArray.empty, .slice sa sn sc, .slice sb sm sd, .slice se sk sf] 28)).cell? ⟨gr, 0, none⟩ = some (.int .i64 0) from ⟨Nat.lt_of_lt_of_le HROW.out.1 hb8.size, (hb8.cell (p := ⟨gr, 0, none⟩) HROW.out.1).trans HROW.out.2⟩)
  have HYS := Lib.hid ((show ConV w7 (· < w7.heap.size) exS _ from hy).grow hbx)
  have H4 := Lib.hid h4
  have HB8 := Lib.hid (belowStep hb8 HB6.out)
  have c0 := H1.out.cell 0 (.int .i64 11) rfl
  have c1 := H1.out.cell 1 (.int .i64 0) rfl
  have c2 := H1.out.cell 2 (.string ByteArray.empty) rfl
  have c3 := H1.out.cell 3 (.slice none 0 0) rfl
  have c4 := H1.out.cell 4 (.slice none 0 0) rfl
  have c5 := H1.out.cell 5 (.slice (some ⟨gl, 0, none⟩) 1 1) rfl
  have d0 := h4.cell 0 (.int .i64 11) rfl
  have d1 := h4.cell 1 (.int .i64 0) rfl
  have d2 := h4.cell 2 (.string ByteArray.empty) rfl
  have d3 := h4.cell 3 (.slice sa sn sc) rfl
  have d4 := h4.cell 4 (.slice sb sm sd) rfl
  have d5 := h4.cell 5 (.slice se sk sf) rfl
  clear hy hb7 hbx h4 hb8
  go_wp2_with fail
  clear c0 c1 c2 c3 c4 c5 d0 d1 d2 d3 d4 d5
  obtain ⟨hq, hbq⟩ := boxN_new (w7.alloc (.cells #[.int .i64 11, .int .i64 0, .string ByteArray.empty, .slice sa sn sc, .slice sb sm sd, .slice se sk sf] 28)) 28 #[.int .i64 4, .int .i64 0, .string ⟨#[]⟩, .slice none 0 0, .slice none 0 0, .slice none 0 0]
  rw [size_alloc] at hq
  have HL := Lib.hid (cons_one (P := fun q => q < ((w7.alloc (.cells #[.int .i64 11, .int .i64 0, .string ByteArray.empty, .slice sa sn sc, .slice sb sm sd, .slice se sk sf] 28)).alloc (.cells #[.int .i64 4, .int .i64 0, .string ⟨#[]⟩, .slice none 0 0, .slice none 0 0, .slice none 0 0] 28)).heap.size) hq hq.lt (conV_leaf 4 0 _ _))
  replace HC := Lib.hid (HC.out.grow hbq)
  replace HYS := Lib.hid (HYS.out.grow hbq)
  replace H1 := Lib.hid (H1.out.of_eq (hbq.block _ H1.out.lt))
  replace H4 := Lib.hid (H4.out.of_eq (hbq.block _ H4.out.lt))
  replace HROW := Lib.hid (And.intro (Nat.lt_of_lt_of_le HROW.out.1 hbq.size) ((hbq.cell (p := ⟨gr, 0, none⟩) HROW.out.1).trans HROW.out.2))
  replace HB8 := Lib.hid (belowStep hbq HB8.out)
  clear hq hbq
  generalize ((w7.alloc (.cells #[.int .i64 11, .int .i64 0, .string ByteArray.empty, .slice sa sn sc, .slice sb sm sd, .slice se sk sf] 28)).alloc (.cells #[.int .i64 4, .int .i64 0, .string ⟨#[]⟩, .slice none 0 0, .slice none 0 0, .slice none 0 0] 28)) = w8 at *
  generalize w7.heap.size = G4 at *
  refine (HSU.out _ _ _ HC.out HL.out).mono ?_
  rintro e w9 ⟨⟨y, rfl, hy⟩, hb9⟩
  obtain ⟨xa, xn, xc, xb, xm, xd, xe, xk, xf, rfl⟩ := exX_shape hy
  obtain ⟨h6, hbx⟩ := boxN_new w9 28 #[.int .i64 11, .int .i64 0, .string ByteArray.empty, .slice xa xn xc, .slice xb xm xd, .slice xe xk xf]
  have hbA := belowStep hbx hb9
  have HYX := Lib.hid ((show ConV w9 (· < w9.heap.size) exX _ from hy).grow hbx)
  replace HYS := Lib.hid (HYS.out.grow hbA)
  replace H4 := Lib.hid (H4.out.of_eq (hbA.block _ H4.out.lt))
  have H6 := Lib.hid h6
  have HRW := Lib.hid (And.intro (Nat.lt_of_lt_of_le HROW.out.1 hbA.size) ((hbA.cell (p := ⟨gr, 0, none⟩) HROW.out.1).trans HROW.out.2))
  have HBA := Lib.hid (belowStep hbA HB8.out)
  have d0 := h6.cell 0 (.int .i64 11) rfl
  have d1 := h6.cell 1 (.int .i64 0) rfl
  have d2 := h6.cell 2 (.string ByteArray.empty) rfl
  have d3 := h6.cell 3 (.slice xa xn xc) rfl
  have d4 := h6.cell 4 (.slice xb xm xd) rfl
  have d5 := h6.cell 5 (.slice xe xk xf) rfl
  clear hy hb9 hbx h6 hbA HROW HL HC H1
  go_wp2_with fail
  clear d0 d1 d2 d3 d4 d5
  generalize w9.alloc (.cells #[.int .i64 11, .int .i64 0, .string ByteArray.empty, .slice xa xn xc, .slice xb xm xd, .slice xe xk xf] 28) = wA at *
  generalize w9.heap.size = G6 at *
  have HD0 := Lib.hid (Below.refl wA.heap.size wA).drew
  have HSS := Lib.hid (fun W (hW : Below wA.heap.size wA W) => (show Below w.heap.size w W ∧ W.cell? ⟨G4, 0, none⟩ = some (.int .i64 11) ∧ W.cell? ⟨G4, 1, none⟩ = some (.int .i64 0) ∧ W.cell? ⟨G4, 2, none⟩ = some (.string ByteArray.empty) ∧ W.cell? ⟨G4, 3, none⟩ = some (.slice sa sn sc) ∧ W.cell? ⟨G4, 4, none⟩ = some (.slice sb sm sd) ∧ W.cell? ⟨G4, 5, none⟩ = some (.slice se sk sf) ∧ W.cell? ⟨G6, 0, none⟩ = some (.int .i64 11) ∧ W.cell? ⟨G6, 1, none⟩ = some (.int .i64 0) ∧ W.cell? ⟨G6, 2, none⟩ = some (.string ByteArray.empty) ∧ W.cell? ⟨G6, 3, none⟩ = some (.slice xa xn xc) ∧ W.cell? ⟨G6, 4, none⟩ = some (.slice xb xm xd) ∧ W.cell? ⟨G6, 5, none⟩ = some (.slice xe xk xf) from by
    have h := H4.out.of_eq (hW.block _ H4.out.lt)
    have h2 := H6.out.of_eq (hW.block _ H6.out.lt)
    exact ⟨belowStep hW HBA.out, h.cell 0 _ rfl, h.cell 1 _ rfl, h.cell 2 _ rfl, h.cell 3 _ rfl, h.cell 4 _ rfl, h.cell 5 _ rfl, h2.cell 0 _ rfl, h2.cell 1 _ rfl, h2.cell 2 _ rfl, h2.cell 3 _ rfl, h2.cell 4 _ rfl, h2.cell 5 _ rfl⟩))
  have HEQ := Lib.hid (fun W (hW : Below wA.heap.size wA W) b (hb : Blk W b 3 #[.int .i64 0]) => (Tryz.slices_Equal_int gr 0 1 cr b 0 1 1 [0] [0] W (by simp) (by simp) (by omega) (by omega) (fun j hj => by
      have hj : j = 0 := by simp at hj; omega
      subst hj
      exact (hW.cell (p := ⟨gr, 0, none⟩) HRW.out.1).trans HRW.out.2) (fun j hj => by
      have hj : j = 0 := by simp at hj; omega
      subst hj
      exact hb.cell 0 _ rfl)).mono (R' := fun e w' => e = .returned (.bool true) ∧ Below W.heap.size W w') (by
    rintro e w' ⟨rfl, q, rfl⟩
    exact ⟨rfl, ⟨rfl, rfl, rfl, Nat.le_refl _, fun _ _ => rfl⟩⟩))
  have HA3 := Lib.hid (fun W => rapp_any (vr 0) (vr 3) W _ _ (conV_leaf 1 0 W _) (conV_leaf 1 3 W _))
  have HA4 := Lib.hid (fun W => rapp_any (vr 0) cint W _ (.agg #[.int .i64 4, .int .i64 0, .string ⟨#[]⟩, .slice none 0 0, .slice none 0 0, .slice none 0 0]) (conV_leaf 1 0 W _) (conV_leaf 4 0 W _))
  have HS1 := Lib.hid (fun W x (hW : Below wA.heap.size wA W) (hx : ConV W (· < W.heap.size) (lam (ap (vr 0) (vr 3))) x) => rsameB_any _ _ exS exS W _ x (fun _ h => h) (fun _ h => h) (HYS.out.grow hW) hx)
  have HS2 := Lib.hid (fun W x (hW : Below wA.heap.size wA W) (hx : ConV W (· < W.heap.size) (lam (ap (vr 0) cint)) x) => rsameB_any _ _ exX exX W _ x (fun _ h => h) (fun _ h => h) (HYX.out.grow hW) hx)
  rw [sameB_self] at HS1 HS2
  go_region_held3 (fun W => Below w.heap.size w W ∧ W.cell? ⟨G4, 0, none⟩ = some (.int .i64 11) ∧ W.cell? ⟨G4, 1, none⟩ = some (.int .i64 0) ∧ W.cell? ⟨G4, 2, none⟩ = some (.string ByteArray.empty) ∧ W.cell? ⟨G4, 3, none⟩ = some (.slice sa sn sc) ∧ W.cell? ⟨G4, 4, none⟩ = some (.slice sb sm sd) ∧ W.cell? ⟨G4, 5, none⟩ = some (.slice se sk sf) ∧ W.cell? ⟨G6, 0, none⟩ = some (.int .i64 11) ∧ W.cell? ⟨G6, 1, none⟩ = some (.int .i64 0) ∧ W.cell? ⟨G6, 2, none⟩ = some (.string ByteArray.empty) ∧ W.cell? ⟨G6, 3, none⟩ = some (.slice xa xn xc) ∧ W.cell? ⟨G6, 4, none⟩ = some (.slice xb xm xd) ∧ W.cell? ⟨G6, 5, none⟩ = some (.slice xe xk xf))
    (first | (exact HSS.out _ (by with_reducible (repeat (first | assumption | exact Below.refl _ _ | exact HD0.out | refine Below.drew ?_ | refine below_new ?_)))) | fail)
    (first
    | (go_at_call 15; (with_reducible refine Calls.mono (HEQ.out _ ?_ _ ?_) ?_); (focus with_reducible (repeat (first | assumption | exact Below.refl _ _ | exact HD0.out | refine Below.drew ?_ | refine below_new ?_))); (focus exact blk_new _ _ _); rintro e wq1 ⟨rfl, hbq1⟩; have hbw1 := belowStep (a := wA) hbq1 (by with_reducible (repeat (first | assumption | exact Below.refl _ _ | exact HD0.out | refine Below.drew ?_ | refine below_new ?_))))
    | (go_at_call 50; (with_reducible refine (HVR.out _ _).mono ?_); rintro e wq2 ⟨rfl, hbq2⟩; have hbw2 := belowStep (a := wA) hbq2 (by with_reducible (repeat (first | assumption | exact Below.refl _ _ | exact HD0.out | refine Below.drew ?_ | refine below_new ?_))))
    | (go_at_call 49; (with_reducible refine (HA3.out _).mono ?_); rintro e wq3 ⟨⟨gp, rfl, hap⟩, hbq3⟩; have hbw3 := belowStep (a := wA) hbq3 (by with_reducible (repeat (first | assumption | exact Below.refl _ _ | exact HD0.out | refine Below.drew ?_ | refine below_new ?_))))
    | (go_at_call 49; (with_reducible refine (HA4.out _).mono ?_); rintro e wq4 ⟨⟨gp2, rfl, hap2⟩, hbq4⟩; have hbw4 := belowStep (a := wA) hbq4 (by with_reducible (repeat (first | assumption | exact Below.refl _ _ | exact HD0.out | refine Below.drew ?_ | refine below_new ?_))))
    | (go_at_call 43; (with_reducible refine (HBO.out _ _ _ (by assumption)).mono ?_); rintro e wq5 ⟨⟨gm, rfl, hlm⟩, hbq5⟩; have hbw5 := belowStep (a := wA) hbq5 (by with_reducible (repeat (first | assumption | exact Below.refl _ _ | exact HD0.out | refine Below.drew ?_ | refine below_new ?_))))
    | (go_at_call 40; (with_reducible refine (HS1.out _ _ (by assumption) (by assumption)).mono ?_); rintro e wq6 ⟨rfl, hbq6⟩; have hbw6 := belowStep (a := wA) hbq6 (by with_reducible (repeat (first | assumption | exact Below.refl _ _ | exact HD0.out | refine Below.drew ?_ | refine below_new ?_))))
    | (go_at_call 40; (with_reducible refine (HS2.out _ _ (by assumption) (by assumption)).mono ?_); rintro e wq7 ⟨rfl, hbq7⟩; have hbw7 := belowStep (a := wA) hbq7 (by with_reducible (repeat (first | assumption | exact Below.refl _ _ | exact HD0.out | refine Below.drew ?_ | refine below_new ?_))))
    | fail)
  go_wp2
  go_ret
  exact ⟨rfl, belowStep hbw7 HBA.out⟩
end Go.Proofs.YtkjaicmfegpjdaaGreat
