/-
  Walks of layer 8's code: Apply.
-/
import Derived.Test.YthamhgnhdjahgaaJg
import Derived.Test.YthamhgnhdjahgaaKq
namespace Go.Proofs.Ythamhgnhdjahgaa
open Go Go.RowKit
open Pl (K)
set_option linter.unusedSimpArgs false

theorem apply_bad (f a : K) (h : (K.valid f && K.valid a) = false) : K.applyOut f a = (.mk [], 1) := by
  unfold K.applyOut
  rw [h]
  rfl
theorem apply_not (f a : K) (h : (K.valid f && K.valid a) = true) (hf : f = .mk [] ∨ ∃ x y, f = .mk [x, y] ∧ K.eqv x a = false) : K.applyOut f a = (.mk [], 11) := by
  unfold K.applyOut
  rw [if_pos h]
  rcases hf with rfl | ⟨x, y, rfl, he⟩
  · rfl
  · show (if x = a then (y, (0 : Int)) else (.mk [], 11)) = _
    rw [if_neg]
    rintro rfl
    rw [(K.eqv_iff x x).2 rfl] at he
    cases he
theorem apply_yes (x y a : K) (h : (K.valid (.mk [x, y]) && K.valid a) = true) (he : K.eqv x a = true) : K.applyOut (.mk [x, y]) a = (y, 0) := by
  unfold K.applyOut
  rw [if_pos h]
  show (if x = a then (y, (0 : Int)) else (.mk [], 11)) = _
  rw [if_pos ((K.eqv_iff x a).1 he)]
theorem three_new (w : World) (T : TypeId) (u v x : Value) : Blk (((w.alloc (.cells #[u] T)).alloc (.cells #[v] T)).alloc (.cells #[x] T)) w.heap.size T #[u] ∧ Blk (((w.alloc (.cells #[u] T)).alloc (.cells #[v] T)).alloc (.cells #[x] T)) (w.heap.size + 1) T #[v] ∧ Blk (((w.alloc (.cells #[u] T)).alloc (.cells #[v] T)).alloc (.cells #[x] T)) (w.heap.size + 2) T #[x] ∧ Below w.heap.size w (((w.alloc (.cells #[u] T)).alloc (.cells #[v] T)).alloc (.cells #[x] T)) := by
  obtain ⟨h1, h2, h3⟩ := two_new w T u v
  have h := blk_new ((w.alloc (.cells #[u] T)).alloc (.cells #[v] T)) #[x] T
  rw [size_alloc, size_alloc] at h
  exact ⟨h1.alloc _, h2.alloc _, h, h3.alloc h3.size _⟩
set_option maxRecDepth 100000 in
set_option maxHeartbeats 2000000 in
theorem capply_any (P : Nat → Prop) (f a : K) (w : World) (v x : Value) (hP : ∀ b, P b → b < w.heap.size) (hf : KV w P f v) (ha : KV w P a x) :
    Calls Try.prog 26 #[v, x] w (KindCode P (K.applyOut f a) w) := by
  have HV := Lib.hid (fun W (hW : Below w.heap.size w W) => valid_any P f W v (fun b h => Nat.lt_of_lt_of_le (hP b h) hW.size) (hf.below hP hW))
  have HW := Lib.hid (fun W (hW : Below w.heap.size w W) => valid_any P a W x (fun b h => Nat.lt_of_lt_of_le (hP b h) hW.size) (ha.below hP hW))
  obtain ⟨a1, c1, rfl⟩ := hf.form
  obtain ⟨a2, c2, rfl⟩ := ha.form
  have hkf := hf.kid
  have hka := ha.kid
  have HIS := Lib.hid (fun W (hW : Below w.heap.size w W) => isStar_any P f W _ (hf.below hP hW))
  have HBAD := Lib.hid (apply_bad f a)
  have HNOT := Lib.hid (apply_not f a)
  have HYES := Lib.hid (fun (x y : K) (e : f = .mk [x, y]) (h : (K.valid f && K.valid a) = true) (he : K.eqv x a = true) => (show K.applyOut f a = (y, 0) from by subst e; exact apply_yes x y a h he))
  have HOK := Lib.hid (fun h => ((K.valid_iff f).1 h).1)
  clear hf ha
  generalize K.applyOut f a = R at *
  generalize hz1 : K.valid f = z1 at *
  generalize hz2 : K.valid a = z2 at *
  generalize hn1 : f.l.length = n1 at *
  generalize a.l.length = n2 at *
  obtain ⟨hb1, hb2, hb3, hb⟩ := three_new w 24 (.slice a1 n1 c1) (.slice a2 n2 c2) (.slice none 0 0)
  have HP := Lib.hid hP
  have HKF := Lib.hid hkf
  have HKA := Lib.hid hka
  have HB := Lib.hid hb
  have H1 := Lib.hid hb1
  have H2 := Lib.hid hb2
  have H3 := Lib.hid hb3
  have HN1 := Lib.hid hn1
  have HZ1 := Lib.hid hz1
  have e1 := hb1.cell 0 (.slice a1 n1 c1) rfl
  clear hb1 hb2 hb3 hb hkf hka hP hn1 hz1 hz2
  go_enter Try.func26, Try.ntmps26
  go_wp2_with fail
  generalize ((w.alloc (.cells #[.slice a1 n1 c1] 24)).alloc (.cells #[.slice a2 n2 c2] 24)).alloc (.cells #[.slice none 0 0] 24) = w2 at *
  refine (HV.out _ HB.out).mono ?_
  rintro e w3 ⟨rfl, hb⟩
  replace HB := Lib.hid (belowStep hb HB.out)
  replace H1 := Lib.hid (H1.out.of_eq (hb.block _ H1.out.lt))
  replace H2 := Lib.hid (H2.out.of_eq (hb.block _ H2.out.lt))
  replace H3 := Lib.hid (H3.out.of_eq (hb.block _ H3.out.lt))
  clear hb e1
  cases z1
  · have HF := Lib.hid (show R = (.mk [], 1) from HBAD.out rfl)
    have h3 := H3.out
    have c3 := h3.cell 0 (.slice none 0 0) rfl
    have f3 := h3.thaw 0
    have HE1 := Lib.hid (blk_one (y := .slice none 0 0) h3)
    have HE2 := Lib.hid (below_set HB.out (show w.heap.size ≤ w.heap.size + 2 by omega) (.slice none 0 0))
    clear h3
    go_wp2
    have d0 := HE1.out.cell 0 (.slice none 0 0) rfl
    refine bodyPost_ret (v := .tuple #[.agg #[.slice none 0 0], .int .i64 1]) (by first | (simp [results, Try.results26, go_sem, d0]; done) | (simp [results, Try.results26, go_sem, c3]; done)) rfl ?_
    refine ⟨⟨_, by rw [HF.out], by rw [HF.out]; exact kV_none _ _⟩, ?_⟩
    first | exact HE2.out | exact HB.out
  have e2 := H2.out.cell 0 (.slice a2 n2 c2) rfl
  go_wp2_with fail
  refine (HW.out _ HB.out).mono ?_
  rintro e w4 ⟨rfl, hb⟩
  replace HB := Lib.hid (belowStep hb HB.out)
  replace H1 := Lib.hid (H1.out.of_eq (hb.block _ H1.out.lt))
  replace H2 := Lib.hid (H2.out.of_eq (hb.block _ H2.out.lt))
  replace H3 := Lib.hid (H3.out.of_eq (hb.block _ H3.out.lt))
  clear hb e2 HV HW
  cases z2
  · have HF := Lib.hid (show R = (.mk [], 1) from HBAD.out rfl)
    have h3 := H3.out
    have c3 := h3.cell 0 (.slice none 0 0) rfl
    have f3 := h3.thaw 0
    have HE1 := Lib.hid (blk_one (y := .slice none 0 0) h3)
    have HE2 := Lib.hid (below_set HB.out (show w.heap.size ≤ w.heap.size + 2 by omega) (.slice none 0 0))
    clear h3
    go_wp2
    have d0 := HE1.out.cell 0 (.slice none 0 0) rfl
    refine bodyPost_ret (v := .tuple #[.agg #[.slice none 0 0], .int .i64 1]) (by first | (simp [results, Try.results26, go_sem, d0]; done) | (simp [results, Try.results26, go_sem, c3]; done)) rfl ?_
    refine ⟨⟨_, by rw [HF.out], by rw [HF.out]; exact kV_none _ _⟩, ?_⟩
    first | exact HE2.out | exact HB.out
  clear HBAD
  go_wp2
  have HD0 := Lib.hid (Below.refl w4.heap.size w4).drew
  have HU := Lib.hid (fun W (hW : Below w4.heap.size w4 W) => belowStep hW HB.out)
  rcases K.ok_cases (HOK.out (by first | exact rfl | trivial)) with rfl | ⟨x, y, rfl⟩
  · obtain rfl : 0 = n1 := HN1.out
    have HF := Lib.hid (show R = (.mk [], 11) from HNOT.out (by rfl) (.inl rfl))
    have HIS0 := Lib.hid (fun W (hW : Below w.heap.size w W) => (show Calls Try.prog 44 #[.agg #[.slice a1 0 c1]] W fun e w' => e = .returned (.bool true) ∧ Below W.heap.size W w' from HIS.out W hW))
    have HSS := Lib.hid (fun W (hW : Below w4.heap.size w4 W) => (show Below w.heap.size w W ∧ W.cell? ⟨w.heap.size, 0, none⟩ = some (.slice a1 0 c1) ∧ W.cell? ⟨w.heap.size + 1, 0, none⟩ = some (.slice a2 n2 c2) from ⟨HU.out W hW, (H1.out.of_eq (hW.block _ H1.out.lt)).cell 0 _ rfl, (H2.out.of_eq (hW.block _ H2.out.lt)).cell 0 _ rfl⟩))
    refine wp_region_noPanic ?_
    refine wp_region_held_drew (S := (fun W => Below w.heap.size w W ∧ W.cell? ⟨w.heap.size, 0, none⟩ = some (.slice a1 0 c1) ∧ W.cell? ⟨w.heap.size + 1, 0, none⟩ = some (.slice a2 n2 c2))) (by kernel_rfl) (HSS.out _ HD0.out) (fun hHeld => ?_)
    refine wpAnyH_take (i := 0) (v := .agg #[.slice a1 0 c1]) rfl (by kernel_rfl) (by kernel_rfl) (by kernel_rfl) (fun _ _ _ h => h) (Or.inl ⟨by rfl, ?_⟩) (by assumption) ?_
    · intro w hSw
      try dsimp only at hSw
      go_simp
    change wpAnyH _ _ _ _ _ _ _ (Act.put _ (some 15) _) _
    simp only [Act.put, List.setIfInBounds_toArray, List.set_cons_zero, List.set_cons_succ]
    refine wpAnyH_ready (rs := [1]) (by kernel_rfl) (by simp) ?_
    refine AllReadyH.cons rfl (fun K hK => ?_) AllReadyH.nil
    go_simp
    go_at_call 44
    refine (HIS0.out _ (HU.out _ HD0.out)).mono ?_
    rintro e wn ⟨rfl, hbn⟩
    have hbn2 := belowStep (a := w4) hbn HD0.out
    refine hK.out _ _ (HSS.out _ hbn2) (fun hHeld2 => ?_)
    clear hK K hHeld
    try simp only [Act.put, List.setIfInBounds_toArray, List.set_cons_zero, List.set_cons_succ]
    refine wpAnyH_take (i := 2) (v := .bool true) rfl (by kernel_rfl) (by kernel_rfl) (by kernel_rfl) (fun _ _ _ h => h) (Or.inl ⟨by rfl, ?_⟩) (by assumption) ?_
    · intro w hSw
      try dsimp only at hSw
      go_simp
    change wpAnyH _ _ _ _ _ _ _ (Act.put _ (some 17) _) _
    simp only [Act.put, List.setIfInBounds_toArray, List.set_cons_zero, List.set_cons_succ]
    refine wpAnyH_take (i := 3) (v := undef) rfl (by kernel_rfl) (by kernel_rfl) (by kernel_rfl) (fun _ _ _ h => h) (Or.inr ⟨by rfl, rfl⟩) (by assumption) ?_
    change wpAnyH _ _ _ _ _ _ _ (Act.put _ (some 18) _) _
    simp only [Act.put, List.setIfInBounds_toArray, List.set_cons_zero, List.set_cons_succ]
    refine wpAnyH_take (i := 4) (v := undef) rfl (by kernel_rfl) (by kernel_rfl) (by kernel_rfl) (fun _ _ _ h => h) (Or.inr ⟨by rfl, rfl⟩) (by assumption) ?_
    change wpAnyH _ _ _ _ _ _ _ (Act.put _ (some 19) _) _
    simp only [Act.put, List.setIfInBounds_toArray, List.set_cons_zero, List.set_cons_succ]
    refine wpAnyH_take (i := 5) (v := undef) rfl (by kernel_rfl) (by kernel_rfl) (by kernel_rfl) (fun _ _ _ h => h) (Or.inr ⟨by rfl, rfl⟩) (by assumption) ?_
    change wpAnyH _ _ _ _ _ _ _ (Act.put _ (some 20) _) _
    simp only [Act.put, List.setIfInBounds_toArray, List.set_cons_zero, List.set_cons_succ]
    refine wpAnyH_take (i := 6) (v := undef) rfl (by kernel_rfl) (by kernel_rfl) (by kernel_rfl) (fun _ _ _ h => h) (Or.inr ⟨by rfl, rfl⟩) (by assumption) ?_
    change wpAnyH _ _ _ _ _ _ _ (Act.put _ (some 21) _) _
    simp only [Act.put, List.setIfInBounds_toArray, List.set_cons_zero, List.set_cons_succ]
    refine wpAnyH_take (i := 7) (v := undef) rfl (by kernel_rfl) (by kernel_rfl) (by kernel_rfl) (fun _ _ _ h => h) (Or.inr ⟨by rfl, rfl⟩) (by assumption) ?_
    change wpAnyH _ _ _ _ _ _ _ (Act.put _ (some 22) _) _
    simp only [Act.put, List.setIfInBounds_toArray, List.set_cons_zero, List.set_cons_succ]
    refine wpAnyH_take (i := 8) (v := undef) rfl (by kernel_rfl) (by kernel_rfl) (by kernel_rfl) (fun _ _ _ h => h) (Or.inr ⟨by rfl, rfl⟩) (by assumption) ?_
    change wpAnyH _ _ _ _ _ _ _ (Act.put _ (some 23) _) _
    simp only [Act.put, List.setIfInBounds_toArray, List.set_cons_zero, List.set_cons_succ]
    refine wpAnyH_take (i := 9) (v := undef) rfl (by kernel_rfl) (by kernel_rfl) (by kernel_rfl) (fun _ _ _ h => h) (Or.inr ⟨by rfl, rfl⟩) (by assumption) ?_
    change wpAnyH _ _ _ _ _ _ _ (Act.put _ (some 24) _) _
    simp only [Act.put, List.setIfInBounds_toArray, List.set_cons_zero, List.set_cons_succ]
    refine wpAnyH_take (i := 10) (v := .bool true) rfl (by kernel_rfl) (by kernel_rfl) (by kernel_rfl) (fun _ _ _ h => h) (Or.inl ⟨by rfl, ?_⟩) (by assumption) ?_
    · intro w hSw
      try dsimp only at hSw
      go_simp
    change wpAnyH _ _ _ _ _ _ _ (Act.put _ (some 25) _) _
    simp only [Act.put, List.setIfInBounds_toArray, List.set_cons_zero, List.set_cons_succ]
    refine wpAnyH_done (by kernel_rfl) ?_ _
    refine NoPanic.normal ?_
    have h3 := H3.out.of_eq (hbn2.block _ H3.out.lt)
    have c3 := h3.cell 0 (.slice none 0 0) rfl
    have f3 := h3.thaw 0
    have HE1 := Lib.hid (blk_one (y := .slice none 0 0) h3)
    have HE2 := Lib.hid (below_set (HU.out _ hbn2) (show w.heap.size ≤ w.heap.size + 2 by omega) (.slice none 0 0))
    have HE3 := Lib.hid (HU.out _ hbn2)
    clear h3
    go_wp2
    have d0 := HE1.out.cell 0 (.slice none 0 0) rfl
    refine bodyPost_ret (v := .tuple #[.agg #[.slice none 0 0], .int .i64 11]) (by first | (simp [results, Try.results26, go_sem, d0]; done) | (simp [results, Try.results26, go_sem, c3]; done)) rfl ?_
    refine ⟨⟨_, by rw [HF.out], by rw [HF.out]; exact kV_none _ _⟩, ?_⟩
    first | exact HE2.out | exact HE3.out
  · obtain rfl : 2 = n1 := HN1.out
    obtain ⟨a5, c5, e5, -, -, hkk⟩ := KSl.each (show KSl w P (.slice a1 2 c1) [x, y] from HKF.out)
    injection e5 with e5 e9 e6
    subst e5 e6
    clear e9
    obtain ⟨b0, o0, rfl, hPb, hke⟩ := kids_each hkk (by simp)
    obtain ⟨x0, hx0, hkx⟩ := hke 0 (by simp)
    obtain ⟨y0, hy0, hky⟩ := hke 1 (by simp)
    have hkx : KidV w P x x0 := hkx
    have hky : KidV w P y y0 := hky
    rw [Nat.add_zero] at hx0
    obtain ⟨a7, c7, rfl⟩ := hkx.form
    obtain ⟨a8, c8, rfl⟩ := hky.form
    have hb0 := HP.out b0 hPb
    have HX0 := Lib.hid hx0
    have HY0 := Lib.hid hy0
    have HSM := Lib.hid (fun W (hW : Below w.heap.size w W) => same_any x P P a W (.agg #[.slice a7 x.l.length c7]) (.agg #[.slice a2 n2 c2]) (fun b h => Nat.lt_of_lt_of_le (HP.out b h) hW.size) (fun b h => Nat.lt_of_lt_of_le (HP.out b h) hW.size) ⟨_, rfl, hkx.keep (Same.of_below hW HP.out)⟩ ⟨_, rfl, HKA.out.keep (Same.of_below hW HP.out)⟩)
    have HCP := Lib.hid (fun W (hW : Below w.heap.size w W) => copied_any P y W (.agg #[.slice a8 y.l.length c8]) (fun b h => Nat.lt_of_lt_of_le (HP.out b h) hW.size) ⟨_, rfl, hky.keep (Same.of_below hW HP.out)⟩ (K.ok_two (HOK.out (by first | exact rfl | trivial))).2)
    have HIS0 := Lib.hid (fun W (hW : Below w.heap.size w W) => (show Calls Try.prog 44 #[.agg #[.slice (some ⟨b0, o0, none⟩) 2 c1]] W fun e w' => e = .returned (.bool false) ∧ Below W.heap.size W w' from HIS.out W hW))
    have HNOT2 := Lib.hid (fun h => HNOT.out (by rfl) (.inr ⟨x, y, rfl, h⟩))
    have HYES2 := Lib.hid (fun h => HYES.out x y rfl (by rfl) h)
    generalize x.l.length = n7 at *
    generalize y.l.length = n8 at *
    generalize K.eqv x a = r at *
    clear HIS HNOT HYES hkx hky hx0 hy0 hke hkk HKF HKA HOK HZ1 HN1 hPb
    have HSS := Lib.hid (fun W (hW : Below w4.heap.size w4 W) => (show Below w.heap.size w W ∧ W.cell? ⟨w.heap.size, 0, none⟩ = some (.slice (some ⟨b0, o0, none⟩) 2 c1) ∧ W.cell? ⟨w.heap.size + 1, 0, none⟩ = some (.slice a2 n2 c2) ∧ W.cell? ⟨b0, o0, none⟩ = some (.slice a7 n7 c7) from ⟨HU.out W hW, (H1.out.of_eq (hW.block _ H1.out.lt)).cell 0 _ rfl, (H2.out.of_eq (hW.block _ H2.out.lt)).cell 0 _ rfl, ((HU.out W hW).cell (p := ⟨b0, o0, none⟩) hb0).trans HX0.out⟩))
    cases r
    · have HF := Lib.hid (show R = (.mk [], 11) from HNOT2.out rfl)
      go_region_held3 (fun W => Below w.heap.size w W ∧ W.cell? ⟨w.heap.size, 0, none⟩ = some (.slice (some ⟨b0, o0, none⟩) 2 c1) ∧ W.cell? ⟨w.heap.size + 1, 0, none⟩ = some (.slice a2 n2 c2) ∧ W.cell? ⟨b0, o0, none⟩ = some (.slice a7 n7 c7))
        (first | exact HSS.out _ HD0.out | exact HSS.out _ (by assumption))
        (first
        | (go_at_call 44; (with_reducible refine (HIS0.out _ (HU.out _ (by first | assumption | exact HD0.out))).mono ?_); rintro e wn ⟨rfl, hbn⟩; have hbn2 := belowStep (a := w4) hbn (by first | assumption | exact HD0.out))
        | (go_at_call 36; (with_reducible refine (HSM.out _ (HU.out _ (by first | assumption | exact HD0.out))).mono ?_); rintro e wm ⟨rfl, hbm⟩; have hbm2 := belowStep (a := w4) hbm (by first | assumption | exact HD0.out)))
      all_goals (
        have h3 := H3.out.of_eq (hbm2.block _ H3.out.lt)
        have c3 := h3.cell 0 (.slice none 0 0) rfl
        have f3 := h3.thaw 0
        have HE1 := Lib.hid (blk_one (y := .slice none 0 0) h3)
        have HE2 := Lib.hid (below_set (HU.out _ hbm2) (show w.heap.size ≤ w.heap.size + 2 by omega) (.slice none 0 0))
        have HE3 := Lib.hid (HU.out _ hbm2)
        clear h3
        go_wp2
        have d0 := HE1.out.cell 0 (.slice none 0 0) rfl
        refine bodyPost_ret (v := .tuple #[.agg #[.slice none 0 0], .int .i64 11]) (by first | (simp [results, Try.results26, go_sem, d0]; done) | (simp [results, Try.results26, go_sem, c3]; done)) rfl ?_
        refine ⟨⟨_, by rw [HF.out], by rw [HF.out]; exact kV_none _ _⟩, ?_⟩
        first | exact HE2.out | exact HE3.out)
    · have HF := Lib.hid (show R = (y, 0) from HYES2.out rfl)
      go_region_held3 (fun W => Below w.heap.size w W ∧ W.cell? ⟨w.heap.size, 0, none⟩ = some (.slice (some ⟨b0, o0, none⟩) 2 c1) ∧ W.cell? ⟨w.heap.size + 1, 0, none⟩ = some (.slice a2 n2 c2) ∧ W.cell? ⟨b0, o0, none⟩ = some (.slice a7 n7 c7))
        (first | exact HSS.out _ HD0.out | exact HSS.out _ (by assumption))
        (first
        | (go_at_call 44; (with_reducible refine (HIS0.out _ (HU.out _ (by first | assumption | exact HD0.out))).mono ?_); rintro e wn ⟨rfl, hbn⟩; have hbn2 := belowStep (a := w4) hbn (by first | assumption | exact HD0.out))
        | (go_at_call 36; (with_reducible refine (HSM.out _ (HU.out _ (by first | assumption | exact HD0.out))).mono ?_); rintro e wm ⟨rfl, hbm⟩; have hbm2 := belowStep (a := w4) hbm (by first | assumption | exact HD0.out)))
      all_goals (
        replace HB := Lib.hid (HU.out _ hbm2)
        replace H1 := Lib.hid (H1.out.of_eq (hbm2.block _ H1.out.lt))
        replace H3 := Lib.hid (H3.out.of_eq (hbm2.block _ H3.out.lt))
        clear hbm hbm2 hbn hbn2 HU HD0 HSS
        have e1 := H1.out.cell 0 (.slice (some ⟨b0, o0, none⟩) 2 c1) rfl
        have e2 := (HB.out.cell (p := ⟨b0, o0 + 1, none⟩) hb0).trans HY0.out
        go_wp2_with fail
        refine (HCP.out _ HB.out).mono ?_
        rintro e w8 ⟨⟨ra, rc, rfl, hr⟩, hb8⟩
        have h3 := H3.out.of_eq (hb8.block _ H3.out.lt)
        have c3 := h3.cell 0 (.slice none 0 0) rfl
        have f3 := h3.thaw 0
        have HE1 := Lib.hid (blk_one (y := .slice ra n8 rc) h3)
        have HE2 := Lib.hid (below_set (belowStep hb8 HB.out) (show w.heap.size ≤ w.heap.size + 2 by omega) (.slice ra n8 rc))
        have HE3 := Lib.hid ((hr.keep (Same.set (w := w8) ⟨w.heap.size + 2, 0, none⟩ (.slice ra n8 rc) (fun q h e => by
          have e : q = w.heap.size + 2 := e
          have := h.1
          have := H3.out.lt
          omega))).mono (fun q h => (show Ext P w (w8.setCell ⟨w.heap.size + 2, 0, none⟩ (.slice ra n8 rc)) q from .inr ⟨Nat.le_trans HB.out.size h.1, by rw [size_set]; exact h.2⟩)))
        clear h3 hr hb8 e1 e2
        go_wp2
        have d0 := HE1.out.cell 0 (.slice ra n8 rc) rfl
        refine bodyPost_ret (v := .tuple #[.agg #[.slice ra n8 rc], .int .i64 0]) (by simp [results, Try.results26, go_sem, d0]) rfl ?_
        exact ⟨⟨_, by rw [HF.out], by rw [HF.out]; exact ⟨_, rfl, HE3.out⟩⟩, HE2.out⟩)
end Go.Proofs.Ythamhgnhdjahgaa
