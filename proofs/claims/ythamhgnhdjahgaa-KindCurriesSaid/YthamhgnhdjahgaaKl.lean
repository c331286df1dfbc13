/-
  Walks of layer 8: the reference's Parse.
-/
import Derived.Test.YthamhgnhdjahgaaKk
namespace Go.Proofs.Ythamhgnhdjahgaa
open Go Go.RowKit
open Pl (K)
set_option linter.unusedSimpArgs false

/-- what the reference's Parse answers -/
def parseOut (l : List UInt8) : K × Int := match prs l 401 0 with
  | some (k, j) => if j = l.length ∧ K.valid k = true ∧ (k.l.length = 0 → l = [42]) ∧ K.text k = l then (k, 0) else (.mk [], 3)
  | none => (.mk [], 3)
set_option maxRecDepth 100000 in
set_option maxHeartbeats 1000000 in
theorem rparseT_any (s : ByteArray) (w : World) (hs : s.size ≤ 1099511627776) :
    Calls Try.prog 30 #[.string s] w fun e w' => (∃ y, e = .returned (.tuple #[y, .int .i64 (parseOut s.toList).2]) ∧ KV w' (From w.heap.size w') (parseOut s.toList).1 y) ∧ Below w.heap.size w w' := by
  have HC := Lib.hid (fun W => rparse_any s hs 401 0 W (Nat.zero_le _) (by omega))
  have HPO0 := Lib.hid (show parseOut s.toList = match prs s.toList 401 0 with
    | some (k, j) => if j = s.toList.length ∧ K.valid k = true ∧ (k.l.length = 0 → s.toList = [42]) ∧ K.text k = s.toList then (k, 0) else (.mk [], 3)
    | none => (.mk [], 3) from rfl)
  generalize parseOut s.toList = PO at HPO0 ⊢
  generalize prs s.toList 401 0 = S at HC HPO0
  obtain ⟨h0, hb⟩ := box_new w 24 (.slice none 0 0)
  obtain ⟨B, hB⟩ : ∃ B, B = w.heap.size := ⟨_, rfl⟩
  rw [← hB] at h0
  have H0 := Lib.hid h0
  have HB := Lib.hid hb
  have HBB := Lib.hid hB
  clear h0 hb
  go_enter Try.func30, Try.ntmps30
  go_wp2_with fail
  rw [← hB]
  clear hB
  generalize w.alloc (.cells #[.slice none 0 0] 24) = w2 at *
  refine (HC.out _).mono ?_
  rintro e w3 ⟨hp, hb3⟩
  have HSZ := Lib.hid (show B + 1 ≤ w2.heap.size from H0.out.lt)
  replace H0 := Lib.hid (H0.out.of_eq (hb3.block _ H0.out.lt))
  replace HB := Lib.hid (belowStep hb3 HB.out)
  clear hb3
  cases S with
  | none =>
    have hp : e = .returned (.tuple #[.agg #[.slice none 0 0], .int .i64 (-1)]) := hp
    subst hp
    have HF := Lib.hid (show PO = (.mk [], 3) from HPO0.out)
    have hb9 : Below w3.heap.size w3 (w3.alloc (.cells #[.slice none 0 0] 24)) := (Below.refl _ _).alloc (Nat.le_refl _) _
    replace H0 := Lib.hid (H0.out.of_eq (hb9.block _ H0.out.lt))
    replace HB := Lib.hid (belowStep hb9 HB.out)
    have q1 : ((-1 : Int) != (s.size : Int)) = true := bne_iff_ne.2 (by omega)
    clear hb9
    have h0 := H0.out
    have c0 := h0.cell 0 (.slice none 0 0) rfl
    have f0 := h0.thaw 0
    have HE1 := Lib.hid (blk_one (y := .slice none 0 0) h0)
    have HE2 := Lib.hid (below_set HB.out (show w.heap.size ≤ B by rw [← HBB.out]; omega) (.slice none 0 0))
    clear h0
    go_wp2
    have d0 := HE1.out.cell 0 (.slice none 0 0) rfl
    refine bodyPost_ret (v := .tuple #[.agg #[.slice none 0 0], .int .i64 3]) (by first | (simp [results, Try.results30, go_sem, d0]; done) | (simp [results, Try.results30, go_sem, c0]; done)) rfl ?_
    refine ⟨⟨_, by rw [HF.out], by rw [HF.out]; exact kV_none _ _⟩, ?_⟩
    first | exact HE2.out | exact HB.out
  | some p =>
    obtain ⟨k, j⟩ := p
    have hp : ∃ y, e = .returned (.tuple #[y, .int .i64 j]) ∧ KV w3 (From w2.heap.size w3) k y := hp
    obtain ⟨y, rfl, hy⟩ := hp
    obtain ⟨ka, kc, rfl⟩ := hy.form
    have HPO := Lib.hid (show PO = if j = s.toList.length ∧ K.valid k = true ∧ (k.l.length = 0 → s.toList = [42]) ∧ K.text k = s.toList then (k, 0) else (.mk [], 3) from HPO0.out)
    have hy := hy.kid
    have hb9 : Below w3.heap.size w3 (w3.alloc (.cells #[.slice ka k.l.length kc] 24)) := (Below.refl _ _).alloc (Nat.le_refl _) _
    have hk9 := blk_new w3 #[.slice ka k.l.length kc] 24
    replace H0 := Lib.hid (H0.out.of_eq (hb9.block _ H0.out.lt))
    replace HB := Lib.hid (belowStep hb9 HB.out)
    have HK1 := Lib.hid hk9
    have HK := Lib.hid ((hy.keep (Same.of_below hb9 (fun b h => h.2))).mono (Q := From (B + 1) (w3.alloc (.cells #[.slice ka k.l.length kc] 24))) (fun b h => ⟨by have := h.1; have := HSZ.out; omega, Nat.lt_of_lt_of_le h.2 hb9.size⟩))
    have HVK := Lib.hid (fun W (hW : KidV W (From (B + 1) W) k (.slice ka k.l.length kc)) => rvalid_any (From (B + 1) W) k W (.agg #[.slice ka k.l.length kc]) (fun b h => h.2) ⟨_, rfl, hW⟩)
    have HTX := Lib.hid (fun W (_ : Below w.heap.size w W) (hW : KidV W (From (B + 1) W) k (.slice ka k.l.length kc)) (hv : K.valid k = true) => rtext_any (From (B + 1) W) k W (.agg #[.slice ka k.l.length kc]) (fun b h => h.2) ⟨_, rfl, hW⟩ ((K.valid_iff k).1 hv).1 (by have := ((K.valid_iff k).1 hv).2.1; omega))
    have hln := Pl.len_size s
    obtain ⟨rt, hrt⟩ : ∃ r, r = ((mkB (K.text k)).toList == s.toList) := ⟨_, rfl⟩
    have hmt : (mkB (K.text k)).toList = K.text k := Pl.mk_toList _
    have HRS := Lib.hid (show rt = true → K.text k = s.toList from fun h => by rw [hrt, hmt] at h; exact beq_iff_eq.1 h)
    have HRT := Lib.hid (show rt = false → K.text k = s.toList → False from fun h e => by rw [hrt, hmt, e, beq_self_eq_true] at h; cases h)
    generalize hr : K.valid k = r at HPO HVK HTX
    generalize mkB (K.text k) = tx at hrt HTX
    obtain ⟨km, hkm⟩ : ∃ m, m = k.l.length := ⟨_, rfl⟩
    rw [← hkm] at H0 HB HK1 HK HVK HTX HPO ⊢
    generalize hG : w3.heap.size = G at *
    have HRX := Lib.hid hrt.symm
    clear hrt
    clear hb9 hk9 hy hr hmt hkm HPO0 hp HC
    by_cases hj : j = s.size
    rotate_left
    · have q1 : ((j : Int) != (s.size : Int)) = true := by simp; omega
      have HF := Lib.hid (show PO = (.mk [], 3) from by rw [HPO.out, if_neg]; exact fun h => hj (h.1.trans hln))
      have h0 := H0.out
      have c0 := h0.cell 0 (.slice none 0 0) rfl
      have f0 := h0.thaw 0
      have HE1 := Lib.hid (blk_one (y := .slice none 0 0) h0)
      have HE2 := Lib.hid (below_set HB.out (show w.heap.size ≤ B by rw [← HBB.out]; omega) (.slice none 0 0))
      clear h0
      go_wp2
      have d0 := HE1.out.cell 0 (.slice none 0 0) rfl
      refine bodyPost_ret (v := .tuple #[.agg #[.slice none 0 0], .int .i64 3]) (by first | (simp [results, Try.results30, go_sem, d0]; done) | (simp [results, Try.results30, go_sem, c0]; done)) rfl ?_
      refine ⟨⟨_, by rw [HF.out], by rw [HF.out]; exact kV_none _ _⟩, ?_⟩
      first | exact HE2.out | exact HB.out
    have q1 : ((j : Int) != (s.size : Int)) = false := by simp; omega
    have HJ := Lib.hid (show j = s.toList.length from hj.trans hln.symm)
    have c1 := HK1.out.cell 0 (.slice ka km kc) rfl
    clear hj hln
    go_wp2_with fail
    refine (HVK.out _ HK.out).mono ?_
    rintro e wb ⟨rfl, hbb⟩
    have hk2 := (HK.out.keep (Same.of_below hbb (fun b h => h.2))).mono (Q := From (B + 1) wb) (fun b h => ⟨h.1, Nat.lt_of_lt_of_le h.2 hbb.size⟩)
    replace H0 := Lib.hid (H0.out.of_eq (hbb.block _ H0.out.lt))
    replace HK1 := Lib.hid (HK1.out.of_eq (hbb.block _ HK1.out.lt))
    replace HB := Lib.hid (belowStep hbb HB.out)
    replace HK := Lib.hid hk2
    clear hbb hk2 c1 q1
    cases r
    · have HF := Lib.hid (show PO = (.mk [], 3) from by rw [HPO.out, if_neg]; exact fun h => by cases h.2.1)
      have h0 := H0.out
      have c0 := h0.cell 0 (.slice none 0 0) rfl
      have f0 := h0.thaw 0
      have HE1 := Lib.hid (blk_one (y := .slice none 0 0) h0)
      have HE2 := Lib.hid (below_set HB.out (show w.heap.size ≤ B by rw [← HBB.out]; omega) (.slice none 0 0))
      clear h0
      go_wp2
      have d0 := HE1.out.cell 0 (.slice none 0 0) rfl
      refine bodyPost_ret (v := .tuple #[.agg #[.slice none 0 0], .int .i64 3]) (by first | (simp [results, Try.results30, go_sem, d0]; done) | (simp [results, Try.results30, go_sem, c0]; done)) rfl ?_
      refine ⟨⟨_, by rw [HF.out], by rw [HF.out]; exact kV_none _ _⟩, ?_⟩
      first | exact HE2.out | exact HB.out
    by_cases hkm : km = 0
    · subst hkm
      obtain ⟨rs, hrs⟩ : ∃ r, (s.toList == [42]) = r := ⟨_, rfl⟩
      cases rs
      · have HF := Lib.hid (show PO = (.mk [], 3) from by
          rw [HPO.out, if_neg]
          intro h
          rw [h.2.2.1 rfl] at hrs
          cases hrs)
        have c1 := HK1.out.cell 0 (.slice ka 0 kc) rfl
        have h0 := H0.out
        have c0 := h0.cell 0 (.slice none 0 0) rfl
        have f0 := h0.thaw 0
        have HE1 := Lib.hid (blk_one (y := .slice none 0 0) h0)
        have HE2 := Lib.hid (below_set HB.out (show w.heap.size ≤ B by rw [← HBB.out]; omega) (.slice none 0 0))
        clear h0
        go_wp2
        have d0 := HE1.out.cell 0 (.slice none 0 0) rfl
        refine bodyPost_ret (v := .tuple #[.agg #[.slice none 0 0], .int .i64 3]) (by first | (simp [results, Try.results30, go_sem, d0]; done) | (simp [results, Try.results30, go_sem, c0]; done)) rfl ?_
        refine ⟨⟨_, by rw [HF.out], by rw [HF.out]; exact kV_none _ _⟩, ?_⟩
        first | exact HE2.out | exact HB.out
      have HST := Lib.hid (show 0 = 0 → s.toList = [42] from fun _ => beq_iff_eq.1 hrs)
      have c1 := HK1.out.cell 0 (.slice ka 0 kc) rfl
      go_wp2_with fail
      refine (HTX.out _ HB.out HK.out (by trivial)).mono ?_
      rintro e wd ⟨rfl, hbd⟩
      have hk2 := (HK.out.keep (Same.of_below hbd (fun b h => h.2))).mono (Q := From (B + 1) wd) (fun b h => ⟨h.1, Nat.lt_of_lt_of_le h.2 hbd.size⟩)
      replace H0 := Lib.hid (H0.out.of_eq (hbd.block _ H0.out.lt))
      replace HK1 := Lib.hid (HK1.out.of_eq (hbd.block _ HK1.out.lt))
      replace HB := Lib.hid (belowStep hbd HB.out)
      replace HK := Lib.hid hk2
      clear hbd hk2 c1
      have hrt := HRX.out
      cases rt
      · have HF := Lib.hid (show PO = (.mk [], 3) from by rw [HPO.out, if_neg]; exact fun h => HRT.out rfl h.2.2.2)
        have h0 := H0.out
        have c0 := h0.cell 0 (.slice none 0 0) rfl
        have f0 := h0.thaw 0
        have HE1 := Lib.hid (blk_one (y := .slice none 0 0) h0)
        have HE2 := Lib.hid (below_set HB.out (show w.heap.size ≤ B by rw [← HBB.out]; omega) (.slice none 0 0))
        clear h0
        go_wp2
        have d0 := HE1.out.cell 0 (.slice none 0 0) rfl
        refine bodyPost_ret (v := .tuple #[.agg #[.slice none 0 0], .int .i64 3]) (by first | (simp [results, Try.results30, go_sem, d0]; done) | (simp [results, Try.results30, go_sem, c0]; done)) rfl ?_
        refine ⟨⟨_, by rw [HF.out], by rw [HF.out]; exact kV_none _ _⟩, ?_⟩
        first | exact HE2.out | exact HB.out
      · have HF := Lib.hid (show PO = (k, 0) from by rw [HPO.out, if_pos]; exact ⟨HJ.out, (by trivial), HST.out, HRS.out (by trivial)⟩)
        have h0 := H0.out
        have c0 := h0.cell 0 (.slice none 0 0) rfl
        have f0 := h0.thaw 0
        have c1 := HK1.out.cell 0 (.slice ka 0 kc) rfl
        have HE1 := Lib.hid (blk_one (y := .slice ka 0 kc) h0)
        have HE2 := Lib.hid (below_set HB.out (show w.heap.size ≤ B by rw [← HBB.out]; omega) (.slice ka 0 kc))
        have HE3 := Lib.hid ((HK.out.keep (Same.set (w := wd) ⟨B, 0, none⟩ (.slice ka 0 kc) (fun b h e => by
          have e : b = B := e
          have := h.1; omega))).mono (Q := From w.heap.size (wd.setCell ⟨B, 0, none⟩ (.slice ka 0 kc))) fun b h => ⟨by have := h.1; have := HBB.out; omega, by rw [size_set]; exact h.2⟩)
        clear h0
        go_wp2
        have d0 := HE1.out.cell 0 (.slice ka 0 kc) rfl
        refine bodyPost_ret (v := .tuple #[.agg #[.slice ka 0 kc], .int .i64 0]) (by simp [results, Try.results30, go_sem, d0]) rfl ?_
        exact ⟨⟨_, by rw [HF.out], by rw [HF.out]; exact ⟨_, rfl, HE3.out⟩⟩, HE2.out⟩
    · have q2 : ((km : Int) == 0) = false := by simp; omega
      have HST := Lib.hid (show km = 0 → s.toList = [42] from fun h => absurd h hkm)
      have c1 := HK1.out.cell 0 (.slice ka km kc) rfl
      go_wp2_with fail
      refine (HTX.out _ HB.out HK.out (by trivial)).mono ?_
      rintro e wd ⟨rfl, hbd⟩
      have hk2 := (HK.out.keep (Same.of_below hbd (fun b h => h.2))).mono (Q := From (B + 1) wd) (fun b h => ⟨h.1, Nat.lt_of_lt_of_le h.2 hbd.size⟩)
      replace H0 := Lib.hid (H0.out.of_eq (hbd.block _ H0.out.lt))
      replace HK1 := Lib.hid (HK1.out.of_eq (hbd.block _ HK1.out.lt))
      replace HB := Lib.hid (belowStep hbd HB.out)
      replace HK := Lib.hid hk2
      clear hbd hk2 c1
      have hrt := HRX.out
      cases rt
      · have HF := Lib.hid (show PO = (.mk [], 3) from by rw [HPO.out, if_neg]; exact fun h => HRT.out rfl h.2.2.2)
        have h0 := H0.out
        have c0 := h0.cell 0 (.slice none 0 0) rfl
        have f0 := h0.thaw 0
        have HE1 := Lib.hid (blk_one (y := .slice none 0 0) h0)
        have HE2 := Lib.hid (below_set HB.out (show w.heap.size ≤ B by rw [← HBB.out]; omega) (.slice none 0 0))
        clear h0
        go_wp2
        have d0 := HE1.out.cell 0 (.slice none 0 0) rfl
        refine bodyPost_ret (v := .tuple #[.agg #[.slice none 0 0], .int .i64 3]) (by first | (simp [results, Try.results30, go_sem, d0]; done) | (simp [results, Try.results30, go_sem, c0]; done)) rfl ?_
        refine ⟨⟨_, by rw [HF.out], by rw [HF.out]; exact kV_none _ _⟩, ?_⟩
        first | exact HE2.out | exact HB.out
      · have HF := Lib.hid (show PO = (k, 0) from by rw [HPO.out, if_pos]; exact ⟨HJ.out, (by trivial), HST.out, HRS.out (by trivial)⟩)
        have h0 := H0.out
        have c0 := h0.cell 0 (.slice none 0 0) rfl
        have f0 := h0.thaw 0
        have c1 := HK1.out.cell 0 (.slice ka km kc) rfl
        have HE1 := Lib.hid (blk_one (y := .slice ka km kc) h0)
        have HE2 := Lib.hid (below_set HB.out (show w.heap.size ≤ B by rw [← HBB.out]; omega) (.slice ka km kc))
        have HE3 := Lib.hid ((HK.out.keep (Same.set (w := wd) ⟨B, 0, none⟩ (.slice ka km kc) (fun b h e => by
          have e : b = B := e
          have := h.1; omega))).mono (Q := From w.heap.size (wd.setCell ⟨B, 0, none⟩ (.slice ka km kc))) fun b h => ⟨by have := h.1; have := HBB.out; omega, by rw [size_set]; exact h.2⟩)
        clear h0
        go_wp2
        have d0 := HE1.out.cell 0 (.slice ka km kc) rfl
        refine bodyPost_ret (v := .tuple #[.agg #[.slice ka km kc], .int .i64 0]) (by simp [results, Try.results30, go_sem, d0]) rfl ?_
        exact ⟨⟨_, by rw [HF.out], by rw [HF.out]; exact ⟨_, rfl, HE3.out⟩⟩, HE2.out⟩
end Go.Proofs.Ythamhgnhdjahgaa
