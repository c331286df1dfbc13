/-
  Walks of layer 8: the reference's Arrow.
-/
import Derived.Test.YthamhgnhdjahgaaKf
namespace Go.Proofs.Ythamhgnhdjahgaa
open Go Go.RowKit
open Pl (K)
set_option linter.unusedSimpArgs false

theorem KidV.form {w : World} {P : Nat → Prop} {t : K} {x : Value} (h : KidV w P t x) : ∃ a c, x = .slice a t.l.length c := by
  obtain ⟨l⟩ := t
  obtain ⟨a, c, h, -⟩ := (kidV_iff _ _ _ _).1 h
  exact ⟨a, c, h⟩
namespace Pl.K
/-- a part of what is valid is valid -/
theorem valid_tail {a b : K} (h : valid (.mk [a, b]) = true) : valid b = true := by
  rw [valid_iff] at h ⊢
  obtain ⟨h1, h2, h3⟩ := h
  rw [ok, oks, oks, oks] at h1
  rw [size, sizes, sizes, sizes] at h2
  rw [depth, depths, depths, depths] at h3
  refine ⟨?_, by omega, by omega⟩
  simp only [Bool.and_eq_true] at h1
  exact h1.2.2.1
theorem arrow_cons (a : K) (l : List K) (to : K) : arrow (a :: l) to = .mk [a, arrow l to] := rfl
theorem valid_drop (l : List K) (to : K) (h : valid (arrow l to) = true) : ∀ i, valid (arrow (l.drop i) to) = true := by
  induction l with
  | nil => intro i; rw [List.drop_nil]; exact h
  | cons a r ih =>
    intro i
    cases i with
    | zero => exact h
    | succ i => exact ih (valid_tail h) i
theorem depth_arrow (l : List K) (to : K) : l.length + 1 ≤ depth (arrow l to) := by
  induction l with
  | nil => exact depth_pos to
  | cons a r ih =>
    rw [arrow_cons, depth, depths, depths, depths, List.length_cons]
    omega
theorem long_bad (l : List K) (to : K) (h : 400 < l.length) : valid (arrow l to) = false := by
  cases hv : valid (arrow l to)
  · rfl
  · exfalso
    have h3 := ((valid_iff _).1 hv).2.2
    have := depth_arrow l to
    omega
/-- what Arrow answers -/
def arrowOut (l : List K) (to : K) : K × Int := if (l.all valid && valid to) = true then (if valid (arrow l to) = true then (arrow l to, 0) else (.mk [], 5)) else (.mk [], 1)
end Pl.K
set_option maxRecDepth 100000 in
set_option maxHeartbeats 1000000 in
theorem rarrow_any (P : Nat → Prop) (l : List K) (to : K) (w : World) (v x : Value) (hP : ∀ b, P b → b < w.heap.size) (hl : KSl w P v l) (ht : KV w P to x) :
    Calls Try.prog 20 #[v, x] w fun e w' => (∃ y, e = .returned (.tuple #[y, .int .i64 (K.arrowOut l to).2]) ∧ KV w' (Ext P w w') (K.arrowOut l to).1 y) ∧ Below w.heap.size w w' := by
  have HALL := Lib.hid (fun W (hW : Below w.heap.size w W) => rall_any P l W v (fun b h => Nat.lt_of_lt_of_le (hP b h) hW.size) (hl.keep (Same.of_below hW hP)))
  have HV := Lib.hid (fun W (hW : Below w.heap.size w W) => rvalid_any P to W x (fun b h => Nat.lt_of_lt_of_le (hP b h) hW.size) (ht.below hP hW))
  obtain ⟨a, c, rfl, hlc, hcm, hka⟩ := hl.each
  obtain ⟨a2, c2, rfl⟩ := ht.form
  have HT := Lib.hid ht.kid
  have HKA := Lib.hid hka
  have HP := Lib.hid hP
  have HAO := Lib.hid (show K.arrowOut l to = if (l.all K.valid && K.valid to) = true then (if K.valid (K.arrow l to) = true then (K.arrow l to, 0) else (.mk [], 5)) else (.mk [], 1) from rfl)
  have HLB := Lib.hid (K.long_bad l to)
  generalize K.arrowOut l to = AO at HAO ⊢
  obtain ⟨r1, hr1⟩ : ∃ r, r = l.all K.valid := ⟨_, rfl⟩
  obtain ⟨r2, hr2⟩ : ∃ r, r = K.valid to := ⟨_, rfl⟩
  rw [← hr1] at HALL HAO
  rw [← hr2] at HV HAO
  have HR2 := Lib.hid hr2
  generalize to.l.length = n2 at *
  obtain ⟨n, hn⟩ : ∃ n, n = l.length := ⟨_, rfl⟩
  have HN := Lib.hid hn
  rw [← hn] at hlc HALL HLB ⊢
  have hll : n ≤ 9223372036854775807 := by unfold maxLen at hcm; omega
  clear ht hl hka hP hcm hr1 hr2 hn
  obtain ⟨hbx, hbx2, hb⟩ := two_new w 24 (.slice a2 n2 c2) (.slice none 0 0)
  obtain ⟨B, hB⟩ : ∃ B, B = w.heap.size := ⟨_, rfl⟩
  rw [← hB] at hbx hbx2
  have HB := Lib.hid hb
  have HBX := Lib.hid hbx
  have HBX2 := Lib.hid hbx2
  have HBB := Lib.hid hB
  clear hbx hbx2 hb
  go_enter Try.func20, Try.ntmps20
  go_wp2_with fail
  rw [← hB]
  clear hB
  generalize ((w.alloc (.cells #[.slice a2 n2 c2] 24)).alloc (.cells #[.slice none 0 0] 24)) = w2 at *
  refine (HALL.out _ HB.out).mono ?_
  rintro e w3 ⟨rfl, hb3⟩
  have HB3 := Lib.hid (belowStep hb3 HB.out)
  replace HBX := Lib.hid (HBX.out.of_eq (hb3.block _ HBX.out.lt))
  replace HBX2 := Lib.hid (HBX2.out.of_eq (hb3.block _ HBX2.out.lt))
  clear hb3
  cases r1
  · have HF := Lib.hid (show AO = (.mk [], 1) from by rw [HAO.out]; rfl)
    have h1 := HBX2.out
    have c1 := h1.cell 0 (.slice none 0 0) rfl
    have f1 := h1.thaw 0
    have HE1 := Lib.hid (blk_one (y := .slice none 0 0) h1)
    have HE2 := Lib.hid (below_set HB3.out (show w.heap.size ≤ B + 1 by rw [← HBB.out]; omega) (.slice none 0 0))
    clear h1
    go_wp2
    have d0 := HE1.out.cell 0 (.slice none 0 0) rfl
    refine bodyPost_ret (v := .tuple #[.agg #[.slice none 0 0], .int .i64 1]) (by simp [results, Try.results20, go_sem, d0]) rfl ?_
    exact ⟨⟨_, by rw [HF.out], by rw [HF.out]; exact kV_none _ _⟩, HE2.out⟩
  have c0 := HBX.out.cell 0 (.slice a2 n2 c2) rfl
  go_wp2_with fail
  refine (HV.out _ HB3.out).mono ?_
  rintro e w4 ⟨rfl, hb4⟩
  have HB4 := Lib.hid (belowStep hb4 HB3.out)
  replace HBX := Lib.hid (HBX.out.of_eq (hb4.block _ HBX.out.lt))
  replace HBX2 := Lib.hid (HBX2.out.of_eq (hb4.block _ HBX2.out.lt))
  clear hb4 c0
  cases r2
  · have HF := Lib.hid (show AO = (.mk [], 1) from by rw [HAO.out]; rfl)
    have h1 := HBX2.out
    have c1 := h1.cell 0 (.slice none 0 0) rfl
    have f1 := h1.thaw 0
    have HE1 := Lib.hid (blk_one (y := .slice none 0 0) h1)
    have HE2 := Lib.hid (below_set HB4.out (show w.heap.size ≤ B + 1 by rw [← HBB.out]; omega) (.slice none 0 0))
    clear h1
    go_wp2
    have d0 := HE1.out.cell 0 (.slice none 0 0) rfl
    refine bodyPost_ret (v := .tuple #[.agg #[.slice none 0 0], .int .i64 1]) (by simp [results, Try.results20, go_sem, d0]) rfl ?_
    exact ⟨⟨_, by rw [HF.out], by rw [HF.out]; exact kV_none _ _⟩, HE2.out⟩
  by_cases hbig : 400 < n
  · have HF := Lib.hid (show AO = (.mk [], 5) from by rw [HAO.out, HLB.out hbig]; rfl)
    have q1 : decide ((400 : Int) < (n : Int)) = true := decide_eq_true (by omega)
    have h1 := HBX2.out
    have c1 := h1.cell 0 (.slice none 0 0) rfl
    have f1 := h1.thaw 0
    have HE1 := Lib.hid (blk_one (y := .slice none 0 0) h1)
    have HE2 := Lib.hid (below_set HB4.out (show w.heap.size ≤ B + 1 by rw [← HBB.out]; omega) (.slice none 0 0))
    clear h1
    go_wp2
    have d0 := HE1.out.cell 0 (.slice none 0 0) rfl
    refine bodyPost_ret (v := .tuple #[.agg #[.slice none 0 0], .int .i64 5]) (by simp [results, Try.results20, go_sem, d0]) rfl ?_
    exact ⟨⟨_, by rw [HF.out], by rw [HF.out]; exact kV_none _ _⟩, HE2.out⟩
  have q1 : decide ((400 : Int) < (n : Int)) = false := decide_eq_false (by omega)
  have hw64 : wrap64 ((n : Int) - 1) = (n : Int) - 1 := by rw [wrap64]; omega
  have c0 := HBX.out.cell 0 (.slice a2 n2 c2) rfl
  obtain ⟨G, hG⟩ : ∃ G, G = w4.heap.size := ⟨_, rfl⟩
  have hk6 := blk_new w4 #[.slice a2 n2 c2] 24
  have hb6 : Below w4.heap.size w4 (w4.alloc (.cells #[.slice a2 n2 c2] 24)) := (Below.refl _ _).alloc (Nat.le_refl _) _
  rw [← hG] at hk6
  have HG := Lib.hid hG
  have HK6 := Lib.hid hk6
  have HB6 := Lib.hid (belowStep hb6 HB4.out)
  have HX6 := Lib.hid (HBX2.out.of_eq (hb6.block _ HBX2.out.lt))
  have HBG := Lib.hid (show B + 1 < G from by rw [hG]; exact HBX2.out.lt)
  have HWG := Lib.hid (show w.heap.size ≤ G from by rw [hG]; exact HB4.out.size)
  clear hk6 hb6
  go_wp2_with fail
  rw [← hG]
  clear hG c0
  generalize w4.alloc (.cells #[.slice a2 n2 c2] 24) = w5 at *
  go_loopg [7] (n + 1) (fun g k wr => ∃ (i : Nat) (b : Option Addr) (m d : Nat), i ≤ n ∧ k = .int .i64 ((i : Int) - 1) ∧ g = i + 1 ∧ Blk wr (B + 1) 24 #[.slice none 0 0] ∧ Blk wr G 24 #[.slice b m d] ∧ KidV wr (fun q => P q ∨ (G + 1 ≤ q ∧ q < wr.heap.size)) (K.arrow (l.drop i) to) (.slice b m d) ∧ K.valid (K.arrow (l.drop i) to) = true ∧ Below w.heap.size w wr)
  case atStart =>
    have e0 : l.drop n = [] := List.drop_of_length_le (by rw [HN.out]; exact Nat.le_refl _)
    exact ⟨n, a2, n2, c2, Nat.le_refl _, rfl, rfl, HX6.out, HK6.out, by rw [e0]; exact (HT.out.keep (Same.of_below HB6.out HP.out)).mono (fun b h => .inl h), by rw [e0]; exact HR2.out.symm, HB6.out⟩
  case round =>
    obtain ⟨i, b, m, d, hi, rfl, hg, h0, h1, hk, hv, hbw⟩ := hrel
    have H0 := Lib.hid h0
    have H1 := Lib.hid h1
    have HK := Lib.hid hk
    have HVV := Lib.hid hv
    have HBW := Lib.hid hbw
    cases i with
    | zero =>
      have HF := Lib.hid (show AO = (K.arrow l to, 0) from by rw [List.drop_zero] at hv; rw [HAO.out, hv]; rfl)
      have c1 := h1.cell 0 (.slice b m d) rfl
      have c0 := h0.cell 0 (.slice none 0 0) rfl
      have f0 := h0.thaw 0
      have hn1 : ¬ G = B + 1 := by have := HBG.out; omega
      have HE1 := Lib.hid (blk_one (y := .slice b m d) h0)
      have HE2 := Lib.hid (below_set hbw (show w.heap.size ≤ B + 1 by rw [← HBB.out]; omega) (.slice b m d))
      have HE3 := Lib.hid (show KidV (wr.setCell ⟨B + 1, 0, none⟩ (.slice b m d)) (Ext P w (wr.setCell ⟨B + 1, 0, none⟩ (.slice b m d))) (K.arrow l to) (.slice b m d) from by
        rw [List.drop_zero] at hk
        refine (hk.keep (Same.set (w := wr) ⟨B + 1, 0, none⟩ (.slice b m d) (fun q h e => by
          have e : q = B + 1 := e
          rcases h with h | h
          · have := HP.out q h; have := HBB.out; omega
          · have := h.1; have := HBG.out; omega))).mono fun q h => ?_
        rcases h with h | h
        · exact .inl h
        · exact .inr ⟨by have := h.1; have := HWG.out; omega, by rw [size_set]; exact h.2⟩)
      clear h0 h1 hk hv hbw
      go_wp2
      have d0 := HE1.out.cell 0 (.slice b m d) rfl
      refine bodyPost_ret (v := .tuple #[.agg #[.slice b m d], .int .i64 0]) (by simp [results, Try.results20, go_sem, d0]) rfl ?_
      exact ⟨⟨_, by rw [HF.out], by rw [HF.out]; exact ⟨_, rfl, HE3.out⟩⟩, HE2.out⟩
    | succ i =>
      have e1 : (((i + 1 : Nat) : Int) - 1) = (i : Int) := by omega
      rw [e1]
      clear e1
      have hil : i < l.length := by rw [← HN.out]; omega
      obtain ⟨b0, o0, x0, rfl, hPb, hx0, hk0⟩ := HKA.out i hil
      obtain ⟨a7, c7, rfl⟩ := hk0.form
      have hdrop : K.arrow (l.drop i) to = .mk [l[i], K.arrow (l.drop (i + 1)) to] := by rw [List.drop_eq_getElem_cons hil, K.arrow_cons]
      have hb0 := HP.out b0 hPb
      have hwd : Below wr.heap.size wr wr.drew := (Below.refl _ _).drew
      have hwd0 : Below w.heap.size w wr.drew := hbw.trans (hwd.mono hbw.size)
      have hk7 : KidV wr.drew (fun q => P q ∨ (G + 1 ≤ q ∧ q < wr.heap.size)) l[i] (.slice a7 l[i].l.length c7) := (hk0.keep (Same.of_below hwd0 HP.out)).mono (fun b h => .inl h)
      have hk8 := hk.keep (Same.of_below hwd (fun q h => by
        rcases h with h | h
        · exact Nat.lt_of_lt_of_le (HP.out q h) hbw.size
        · exact h.2))
      have HC := Lib.hid (rpair_any (fun q => P q ∨ (G + 1 ≤ q ∧ q < wr.heap.size)) l[i] (K.arrow (l.drop (i + 1)) to) wr.drew (.agg #[.slice a7 l[i].l.length c7]) (.agg #[.slice b m d]) (fun q h => by
        rcases h with h | h
        · exact Nat.lt_of_lt_of_le (HP.out q h) hwd0.size
        · exact Nat.lt_of_lt_of_le h.2 hwd.size) ⟨_, rfl, hk7⟩ ⟨_, rfl, hk8⟩)
      rw [← hdrop] at HC
      have h0d := h0.of_eq (hwd.block _ h0.lt)
      have h1d := h1.of_eq (hwd.block _ h1.lt)
      have c1 := h1d.cell 0 (.slice b m d) rfl
      have f0 := (hwd0.cell (p := ⟨b0, o0 + i, none⟩) hb0).trans hx0
      have HWD := Lib.hid hwd
      have HWD0 := Lib.hid hwd0
      have H0D := Lib.hid h0d
      have H1D := Lib.hid h1d
      have q5 : decide ((0 : Int) ≤ (i : Int)) = true := decide_eq_true (by omega)
      have hin : i < n := by omega
      have w65 : wrap64 ((i : Int) - 1) = (i : Int) - 1 := by rw [wrap64]; omega
      generalize l[i].l.length = n7 at *
      clear h0 h1 hk hv hbw hx0 hk0 hk7 hk8 hwd hwd0 h0d h1d hdrop hil hPb
      go_wp2
      refine wp_region_still_tail 5 (by kernel_rfl) (by kernel_rfl) ?_
      change wpStill _ _ wr.drew (fun a' => wpList _ _ _ _ a' wr.drew) _ _
      have HSZ := Lib.hid (show wr.heap.size ≤ wr.drew.heap.size from HWD.out.size)
      generalize wr.drew = wd at *
      simp only [List.take_succ_cons, List.take_zero, List.drop_succ_cons, List.drop_zero]
      repeat still_step
      refine wpStill_nil ?_
      go_wp2_with fail
      refine HC.out.mono ?_
      rintro e w6 ⟨⟨y, rfl, hy⟩, hb6⟩
      obtain ⟨a3, c3, rfl⟩ := hy.form
      have HY := Lib.hid hy.kid
      generalize (K.arrow (l.drop i) to).l.length = m3 at *
      have h16 := H1D.out.of_eq (hb6.block _ H1D.out.lt)
      have h06 := H0D.out.of_eq (hb6.block _ H0D.out.lt)
      have d1 := h16.cell 0 (.slice b m d) rfl
      have g1 := h16.thaw 0
      have hn1 : ¬ B + 1 = G := by have := HBG.out; omega
      have HK7 := Lib.hid (blk_one (y := .slice a3 m3 c3) h16)
      have HX7 := Lib.hid (h06.other ⟨G, 0, none⟩ (.slice a3 m3 c3) hn1)
      have HB7 := Lib.hid (below_set (HWD0.out.trans (hb6.mono HWD0.out.size)) HWG.out (.slice a3 m3 c3))
      have HS7 := Lib.hid (show KidV (w6.setCell ⟨G, 0, none⟩ (.slice a3 m3 c3)) (fun q => P q ∨ (G + 1 ≤ q ∧ q < (w6.setCell ⟨G, 0, none⟩ (.slice a3 m3 c3)).heap.size)) (K.arrow (l.drop i) to) (.slice a3 m3 c3) from by
        have hw := HY.out.keep (Same.set (w := w6) ⟨G, 0, none⟩ (.slice a3 m3 c3) (fun q h e => by
          have e : q = G := e
          rcases h with (h | h) | h
          · have := HP.out q h; have := HWG.out; omega
          · have := h.1; omega
          · have := h.1; have := H1D.out.lt; omega))
        refine hw.mono fun q h => ?_
        rcases h with (h | h) | h
        · exact .inl h
        · exact .inr ⟨h.1, by rw [size_set]; exact Nat.lt_of_lt_of_le h.2 (Nat.le_trans HSZ.out hb6.size)⟩
        · exact .inr ⟨by have := h.1; have := H1D.out.lt; omega, by rw [size_set]; exact h.2⟩)
      clear hb6 h16 h06 hy c1 f0
      go_wp2_with fail
      generalize w6.setCell ⟨G, 0, none⟩ (.slice a3 m3 c3) = w7 at *
      have HVK := Lib.hid (rvalid_any (fun q => P q ∨ (G + 1 ≤ q ∧ q < w7.heap.size)) (K.arrow (l.drop i) to) w7 (.agg #[.slice a3 m3 c3]) (fun q h => by
        rcases h with h | h
        · exact Nat.lt_of_lt_of_le (HP.out q h) HB7.out.size
        · exact h.2) ⟨_, rfl, HS7.out⟩)
      have HVD := Lib.hid (fun h => K.valid_drop l to h i)
      have hk1 := HK7.out.cell 0 (.slice a3 m3 c3) rfl
      generalize hr : K.valid (K.arrow (l.drop i) to) = r at HVK HVD
      go_wp2_with fail
      refine HVK.out.mono ?_
      rintro e w8 ⟨rfl, hb8⟩
      have HB8 := Lib.hid (belowStep hb8 HB7.out)
      have HK8 := Lib.hid (HK7.out.of_eq (hb8.block _ HK7.out.lt))
      have HX8 := Lib.hid (HX7.out.of_eq (hb8.block _ HX7.out.lt))
      have HS8 := Lib.hid (show KidV w8 (fun q => P q ∨ (G + 1 ≤ q ∧ q < w8.heap.size)) (K.arrow (l.drop i) to) (.slice a3 m3 c3) from (HS7.out.keep (Same.of_below hb8 (fun q h => by
        rcases h with h | h
        · exact Nat.lt_of_lt_of_le (HP.out q h) HB7.out.size
        · exact h.2))).mono (fun q h => by
        rcases h with h | h
        · exact .inl h
        · exact .inr ⟨h.1, Nat.lt_of_lt_of_le h.2 hb8.size⟩))
      clear hb8 hk1
      cases r
      · have HF := Lib.hid (show AO = (.mk [], 5) from by
          have : K.valid (K.arrow l to) = false := by
            cases hq : K.valid (K.arrow l to)
            · rfl
            · exact absurd (HVD.out hq) (by decide)
          rw [HAO.out, this]; rfl)
        have h1 := HX8.out
        have c1 := h1.cell 0 (.slice none 0 0) rfl
        have f1 := h1.thaw 0
        have HE1 := Lib.hid (blk_one (y := .slice none 0 0) h1)
        have HE2 := Lib.hid (below_set HB8.out (show w.heap.size ≤ B + 1 by rw [← HBB.out]; omega) (.slice none 0 0))
        clear h1
        go_wp2
        have d0 := HE1.out.cell 0 (.slice none 0 0) rfl
        refine bodyPost_ret (v := .tuple #[.agg #[.slice none 0 0], .int .i64 5]) (by simp [results, Try.results20, go_sem, d0]) rfl ?_
        exact ⟨⟨_, by rw [HF.out], by rw [HF.out]; exact kV_none _ _⟩, HE2.out⟩
      · have HHR := Lib.hid hr
        clear hr
        go_wp2
        go_roundg (gk - 1)
        case measure => omega
        case rel => exact ⟨i, a3, m3, c3, by omega, rfl, by omega, HX8.out, HK8.out, HS8.out, HHR.out, HB8.out⟩
end Go.Proofs.Ythamhgnhdjahgaa
