/-
  Layer 8: the law KindApplies over what the program's functions answer.
-/
import Derived.Test.YthamhgnhdjahgaaKq
namespace Go.Proofs.Ythamhgnhdjahgaa
open Go Go.RowKit
open Pl (K)
set_option linter.unusedSimpArgs false

set_option maxRecDepth 100000 in
set_option maxHeartbeats 4000000 in
theorem applies_walk (C : Code8) (A : Awake8) (P Q : Nat → Prop) (t u : K) (w : World) (v x : Value) (hP : Low w P) (hQ : Low w Q) (ht : KV w P t v) (hu : KV w Q u x) :
    Calls Try.prog 5 #[v, x] w (Says (.bool true) w) := by
  have hPQ : Low w (fun b => P b ∨ Q b) := fun b h => h.elim (hP b) (hQ b)
  have HA := Lib.hid A
  have HBT := Lib.hid (fun W (hW : Below w.heap.size w W) => big_any P t W v (hP.up hW) (ht.below hP hW))
  have HBU := Lib.hid (fun W (hW : Below w.heap.size w W) => big_any Q u W x (hQ.up hW) (hu.below hQ hW))
  have HAP := Lib.hid (fun W (hW : Below w.heap.size w W) => C.apply (fun b => P b ∨ Q b) t u W v x (hPQ.up hW) ((ht.below hP hW).mono fun b h => .inl h) ((hu.below hQ hW).mono fun b h => .inr h))
  have HVT := Lib.hid (fun W (hW : Below w.heap.size w W) => rvalid_any P t W v (hP.up hW) (ht.below hP hW))
  have HVU := Lib.hid (fun W (hW : Below w.heap.size w W) => rvalid_any Q u W x (hQ.up hW) (hu.below hQ hW))
  have HPQ := Lib.hid hPQ
  have HP := Lib.hid hP
  have HQ := Lib.hid hQ
  have HKU := Lib.hid hu
  obtain ⟨a, c, rfl, -, -, hkid⟩ := ht.open
  obtain ⟨a2, c2, rfl⟩ := hu.form
  have HKID := Lib.hid (show ∀ p q, t = .mk [p, q] → ∃ b off x0 x1, a = some ⟨b, off, none⟩ ∧ b < w.heap.size ∧ w.cell? ⟨b, off, none⟩ = some x0 ∧ KidV w P p x0 ∧ w.cell? ⟨b, off + 1, none⟩ = some x1 ∧ KidV w P q x1 from by
    intro p q e
    subst e
    obtain ⟨b, off, x0, e0, h0, h1, h2⟩ := hkid 0 (by show 0 < 2; omega)
    obtain ⟨b', off', x1, e1, _, h3, h4⟩ := hkid 1 (by show 1 < 2; omega)
    rw [e0] at e1
    cases e1
    exact ⟨b, off, x0, x1, e0, hP b h0, h1, h2, h3, h4⟩)
  have HN := Lib.hid (show ∃ n, t.l.length = n from ⟨_, rfl⟩)
  clear ht hu hP hQ hPQ hkid
  generalize hn : t.l.length = n at *
  replace HN := Lib.hid hn
  clear hn
  generalize u.l.length = n2 at *
  obtain ⟨hbx, hbx2, hb⟩ := two_new w 24 (.slice a n c) (.slice a2 n2 c2)
  obtain ⟨B, hB⟩ : ∃ B, B = w.heap.size := ⟨_, rfl⟩
  rw [← hB] at hbx hbx2
  have HB := Lib.hid hb
  have HX := Lib.hid (fun W (hW : Below ((w.alloc (.cells #[.slice a n c] 24)).alloc (.cells #[.slice a2 n2 c2] 24)).heap.size ((w.alloc (.cells #[.slice a n c] 24)).alloc (.cells #[.slice a2 n2 c2] 24)) W) => (show W.cell? ⟨B, 0, none⟩ = some (.slice a n c) ∧ W.cell? ⟨B + 1, 0, none⟩ = some (.slice a2 n2 c2) from ⟨(hbx.of_eq (hW.block _ hbx.lt)).cell 0 _ rfl, (hbx2.of_eq (hW.block _ hbx2.lt)).cell 0 _ rfl⟩))
  clear hbx hbx2 hb
  go_enter Try.func5, Try.ntmps5
  go_wp2_with fail
  rw [← hB]
  clear hB
  generalize ((w.alloc (.cells #[.slice a n c] 24)).alloc (.cells #[.slice a2 n2 c2] 24)) = w0 at *
  refine (HA.out _).mono ?_
  rintro e w1 ⟨rfl, hb1⟩
  have HW := Lib.hid hb1
  replace HB := Lib.hid (belowStep hb1 HB.out)
  clear hb1
  obtain ⟨c0, d0⟩ := HX.out _ HW.out
  go_wp2_with fail
  refine (HBT.out _ HB.out).mono ?_
  rintro e w2 ⟨⟨r, rfl, -⟩, hb2⟩
  replace HB := Lib.hid (belowStep hb2 HB.out)
  replace HW := Lib.hid (belowStep hb2 HW.out)
  clear hb2 c0 d0
  obtain ⟨c0, d0⟩ := HX.out _ HW.out
  cases r
  rotate_left
  · go_wp2
    go_ret
    exact ⟨rfl, HB.out⟩
  go_wp2_with fail
  refine (HBU.out _ HB.out).mono ?_
  rintro e w3 ⟨⟨r, rfl, -⟩, hb3⟩
  replace HB := Lib.hid (belowStep hb3 HB.out)
  replace HW := Lib.hid (belowStep hb3 HW.out)
  clear hb3 c0 d0
  obtain ⟨c0, d0⟩ := HX.out _ HW.out
  cases r
  rotate_left
  · go_wp2
    go_ret
    exact ⟨rfl, HB.out⟩
  go_wp2_with fail
  refine (HAP.out _ HB.out).mono ?_
  rintro e w4 ⟨⟨y, rfl, hy⟩, hb4⟩
  cases hvt : K.valid t
  · have hR : K.applyOut t u = (.mk [], 1) := by
      unfold K.applyOut
      rw [hvt]
      rfl
    rw [hR] at hy ⊢
    obtain ⟨pa, pc, rfl⟩ := hy.form
    try rw [show (((.mk []), (1 : Int)) : K × Int).1.l.length = 0 from rfl]
    try rw [show (((.mk []), (11 : Int)) : K × Int).1.l.length = 0 from rfl]
    have hext : ∀ b, Ext (fun b => P b ∨ Q b) w3 w4 b → b < w4.heap.size := Ext.lt (HPQ.out.up HB.out) hb4
    replace HB := Lib.hid (belowStep hb4 HB.out)
    replace HW := Lib.hid (belowStep hb4 HW.out)
    have hb9 : Below w4.heap.size w4 (w4.alloc (.cells #[.slice pa 0 pc] 24)) := (Below.refl _ _).alloc (Nat.le_refl _) _
    have hk9 : Blk (w4.alloc (.cells #[.slice pa 0 pc] 24)) w4.heap.size 24 #[.slice pa 0 pc] := blk_new w4 #[.slice pa 0 pc] 24
    have hkv : KV (w4.alloc (.cells #[.slice pa 0 pc] 24)) (fun b => b < w4.heap.size) (.mk []) (.agg #[.slice pa 0 pc]) := (hy.mono (Q := fun b => b < w4.heap.size) hext).below (fun b h => h) hb9
    have hlow : Low (w4.alloc (.cells #[.slice pa 0 pc] 24)) (fun b => b < w4.heap.size) := fun b h => Nat.lt_of_lt_of_le h hb9.size
    replace HB := Lib.hid (belowStep hb9 HB.out)
    replace HW := Lib.hid (belowStep hb9 HW.out)
    have HKV := Lib.hid (fun W (hW : Below (w4.alloc (.cells #[.slice pa 0 pc] 24)).heap.size (w4.alloc (.cells #[.slice pa 0 pc] 24)) W) => And.intro (hlow.up hW) (hkv.below hlow hW))
    have HW5 := Lib.hid (Below.refl (w4.alloc (.cells #[.slice pa 0 pc] 24)).heap.size (w4.alloc (.cells #[.slice pa 0 pc] 24)))
    have HK9 := Lib.hid hk9
    clear c0 d0
    obtain ⟨c0, d0⟩ := HX.out _ HW.out
    clear hy hext hb4 hb9 hk9 hkv hlow hR
    rw [hvt] at HVT
    clear hvt
    generalize hG : w4.heap.size = G at *
    go_wp2_with fail
    try rw [show (K.mk []).l.length = 0 from rfl]
    clear hG
    generalize w4.alloc (.cells #[.slice pa 0 pc] 24) = w5 at *
    refine ((HVT).out _ HB.out).mono ?_
    rintro e w6 ⟨rfl, hbv⟩
    replace HB := Lib.hid (belowStep hbv HB.out)
    replace HW := Lib.hid (belowStep hbv HW.out)
    replace HW5 := Lib.hid (belowStep hbv HW5.out)
    replace HK9 := Lib.hid (HK9.out.of_eq (hbv.block _ HK9.out.lt))
    clear hbv c0 d0
    obtain ⟨c0, d0⟩ := HX.out _ HW.out
    have c9 := HK9.out.cell 0 (.slice pa 0 pc) rfl
    go_wp2_with fail
    refine (none8_any _ (.mk []) _ _ (HKV.out _ HW5.out).2).mono ?_
    rintro e wz ⟨rfl, hbz⟩
    replace HB := Lib.hid (belowStep hbz HB.out)
    clear hbz
    go_wp2
    go_ret
    exact ⟨rfl, HB.out⟩
  cases hvu : K.valid u
  · have hR : K.applyOut t u = (.mk [], 1) := by
      unfold K.applyOut
      rw [hvt, hvu]
      rfl
    rw [hR] at hy ⊢
    obtain ⟨pa, pc, rfl⟩ := hy.form
    try rw [show (((.mk []), (1 : Int)) : K × Int).1.l.length = 0 from rfl]
    try rw [show (((.mk []), (11 : Int)) : K × Int).1.l.length = 0 from rfl]
    have hext : ∀ b, Ext (fun b => P b ∨ Q b) w3 w4 b → b < w4.heap.size := Ext.lt (HPQ.out.up HB.out) hb4
    replace HB := Lib.hid (belowStep hb4 HB.out)
    replace HW := Lib.hid (belowStep hb4 HW.out)
    have hb9 : Below w4.heap.size w4 (w4.alloc (.cells #[.slice pa 0 pc] 24)) := (Below.refl _ _).alloc (Nat.le_refl _) _
    have hk9 : Blk (w4.alloc (.cells #[.slice pa 0 pc] 24)) w4.heap.size 24 #[.slice pa 0 pc] := blk_new w4 #[.slice pa 0 pc] 24
    have hkv : KV (w4.alloc (.cells #[.slice pa 0 pc] 24)) (fun b => b < w4.heap.size) (.mk []) (.agg #[.slice pa 0 pc]) := (hy.mono (Q := fun b => b < w4.heap.size) hext).below (fun b h => h) hb9
    have hlow : Low (w4.alloc (.cells #[.slice pa 0 pc] 24)) (fun b => b < w4.heap.size) := fun b h => Nat.lt_of_lt_of_le h hb9.size
    replace HB := Lib.hid (belowStep hb9 HB.out)
    replace HW := Lib.hid (belowStep hb9 HW.out)
    have HKV := Lib.hid (fun W (hW : Below (w4.alloc (.cells #[.slice pa 0 pc] 24)).heap.size (w4.alloc (.cells #[.slice pa 0 pc] 24)) W) => And.intro (hlow.up hW) (hkv.below hlow hW))
    have HW5 := Lib.hid (Below.refl (w4.alloc (.cells #[.slice pa 0 pc] 24)).heap.size (w4.alloc (.cells #[.slice pa 0 pc] 24)))
    have HK9 := Lib.hid hk9
    clear c0 d0
    obtain ⟨c0, d0⟩ := HX.out _ HW.out
    clear hy hext hb4 hb9 hk9 hkv hlow hR
    rw [hvt] at HVT
    rw [hvu] at HVU
    clear hvt hvu
    generalize hG : w4.heap.size = G at *
    go_wp2_with fail
    try rw [show (K.mk []).l.length = 0 from rfl]
    clear hG
    generalize w4.alloc (.cells #[.slice pa 0 pc] 24) = w5 at *
    refine ((HVT).out _ HB.out).mono ?_
    rintro e w6 ⟨rfl, hbv⟩
    replace HB := Lib.hid (belowStep hbv HB.out)
    replace HW := Lib.hid (belowStep hbv HW.out)
    replace HW5 := Lib.hid (belowStep hbv HW5.out)
    replace HK9 := Lib.hid (HK9.out.of_eq (hbv.block _ HK9.out.lt))
    clear hbv c0 d0
    obtain ⟨c0, d0⟩ := HX.out _ HW.out
    go_wp2_with fail
    refine ((HVU).out _ HB.out).mono ?_
    rintro e w7 ⟨rfl, hbv⟩
    replace HB := Lib.hid (belowStep hbv HB.out)
    replace HW := Lib.hid (belowStep hbv HW.out)
    replace HW5 := Lib.hid (belowStep hbv HW5.out)
    replace HK9 := Lib.hid (HK9.out.of_eq (hbv.block _ HK9.out.lt))
    clear hbv c0 d0
    obtain ⟨c0, d0⟩ := HX.out _ HW.out
    have c9 := HK9.out.cell 0 (.slice pa 0 pc) rfl
    go_wp2_with fail
    refine (none8_any _ (.mk []) _ _ (HKV.out _ HW5.out).2).mono ?_
    rintro e wz ⟨rfl, hbz⟩
    replace HB := Lib.hid (belowStep hbz HB.out)
    clear hbz
    go_wp2
    go_ret
    exact ⟨rfl, HB.out⟩
  rcases K.ok_cases ((K.valid_iff t).1 hvt).1 with hform | ⟨p, q, hform⟩
  · have hR : K.applyOut t u = (.mk [], 11) := by
      unfold K.applyOut
      rw [hvt, hvu, hform]
      rfl
    rw [hR] at hy ⊢
    obtain ⟨pa, pc, rfl⟩ := hy.form
    try rw [show (((.mk []), (1 : Int)) : K × Int).1.l.length = 0 from rfl]
    try rw [show (((.mk []), (11 : Int)) : K × Int).1.l.length = 0 from rfl]
    have hext : ∀ b, Ext (fun b => P b ∨ Q b) w3 w4 b → b < w4.heap.size := Ext.lt (HPQ.out.up HB.out) hb4
    replace HB := Lib.hid (belowStep hb4 HB.out)
    replace HW := Lib.hid (belowStep hb4 HW.out)
    have hb9 : Below w4.heap.size w4 (w4.alloc (.cells #[.slice pa 0 pc] 24)) := (Below.refl _ _).alloc (Nat.le_refl _) _
    have hk9 : Blk (w4.alloc (.cells #[.slice pa 0 pc] 24)) w4.heap.size 24 #[.slice pa 0 pc] := blk_new w4 #[.slice pa 0 pc] 24
    have hkv : KV (w4.alloc (.cells #[.slice pa 0 pc] 24)) (fun b => b < w4.heap.size) (.mk []) (.agg #[.slice pa 0 pc]) := (hy.mono (Q := fun b => b < w4.heap.size) hext).below (fun b h => h) hb9
    have hlow : Low (w4.alloc (.cells #[.slice pa 0 pc] 24)) (fun b => b < w4.heap.size) := fun b h => Nat.lt_of_lt_of_le h hb9.size
    replace HB := Lib.hid (belowStep hb9 HB.out)
    replace HW := Lib.hid (belowStep hb9 HW.out)
    have HKV := Lib.hid (fun W (hW : Below (w4.alloc (.cells #[.slice pa 0 pc] 24)).heap.size (w4.alloc (.cells #[.slice pa 0 pc] 24)) W) => And.intro (hlow.up hW) (hkv.below hlow hW))
    have HW5 := Lib.hid (Below.refl (w4.alloc (.cells #[.slice pa 0 pc] 24)).heap.size (w4.alloc (.cells #[.slice pa 0 pc] 24)))
    have HK9 := Lib.hid hk9
    clear c0 d0
    obtain ⟨c0, d0⟩ := HX.out _ HW.out
    clear hy hext hb4 hb9 hk9 hkv hlow hR
    rw [hvt] at HVT
    rw [hvu] at HVU
    obtain rfl : n = 0 := by
      rw [← HN.out, hform]
      rfl
    clear hvt hvu hform HN HKID
    generalize hG : w4.heap.size = G at *
    go_wp2_with fail
    try rw [show (K.mk []).l.length = 0 from rfl]
    clear hG
    generalize w4.alloc (.cells #[.slice pa 0 pc] 24) = w5 at *
    refine ((HVT).out _ HB.out).mono ?_
    rintro e w6 ⟨rfl, hbv⟩
    replace HB := Lib.hid (belowStep hbv HB.out)
    replace HW := Lib.hid (belowStep hbv HW.out)
    replace HW5 := Lib.hid (belowStep hbv HW5.out)
    replace HK9 := Lib.hid (HK9.out.of_eq (hbv.block _ HK9.out.lt))
    clear hbv c0 d0
    obtain ⟨c0, d0⟩ := HX.out _ HW.out
    go_wp2_with fail
    refine ((HVU).out _ HB.out).mono ?_
    rintro e w7 ⟨rfl, hbv⟩
    replace HB := Lib.hid (belowStep hbv HB.out)
    replace HW := Lib.hid (belowStep hbv HW.out)
    replace HW5 := Lib.hid (belowStep hbv HW5.out)
    replace HK9 := Lib.hid (HK9.out.of_eq (hbv.block _ HK9.out.lt))
    clear hbv c0 d0
    obtain ⟨c0, d0⟩ := HX.out _ HW.out
    have c9 := HK9.out.cell 0 (.slice pa 0 pc) rfl
    go_wp2
    refine wp_region_still_tail 10 (by kernel_rfl) (by kernel_rfl) ?_
    change wpStill _ _ w7.drew (fun a' => wpList _ _ _ _ a' w7.drew) _ _
    have hwd : Below w7.heap.size w7 w7.drew := (Below.refl _ _).drew
    replace HB := Lib.hid (belowStep hwd HB.out)
    replace HW := Lib.hid (belowStep hwd HW.out)
    replace HW5 := Lib.hid (belowStep hwd HW5.out)
    replace HK9 := Lib.hid (HK9.out.of_eq (hwd.block _ HK9.out.lt))
    clear hwd c0 d0
    obtain ⟨c0, d0⟩ := HX.out _ HW.out
    clear c9
    have c9 := HK9.out.cell 0 (.slice pa 0 pc) rfl
    generalize w7.drew = wd at *
    simp only [List.take_succ_cons, List.take_zero, List.drop_succ_cons, List.drop_zero]
    repeat still_step
    refine wpStill_nil ?_
    go_wp2_with fail
    refine (none8_any _ (.mk []) _ _ (HKV.out _ HW5.out).2).mono ?_
    rintro e wz ⟨rfl, hbz⟩
    replace HB := Lib.hid (belowStep hbz HB.out)
    clear hbz
    go_wp2
    go_ret
    exact ⟨rfl, HB.out⟩
  obtain ⟨b0, o0, x0, x1, rfl, hPb, hx0, hk0, hx1, hk1⟩ := HKID.out p q hform
  have HPB := Lib.hid hPb
  have HX0 := Lib.hid hx0
  have HX1 := Lib.hid hx1
  have HE0 := Lib.hid (fun W (hW : Below w.heap.size w W) => requal_any P Q p u W (.agg #[x0]) _ (HP.out.up hW) (HQ.out.up hW) ((show KV w P p (.agg #[x0]) from ⟨x0, rfl, hk0⟩).below HP.out hW) (HKU.out.below HQ.out hW))
  have HK1 := Lib.hid (fun W (hW : Below w.heap.size w W) => (show KV w P q (.agg #[x1]) from ⟨x1, rfl, hk1⟩).below HP.out hW)
  have hvq : K.valid q = true := K.valid_tail (by rw [← hform]; exact hvt)
  obtain rfl : n = 2 := by
    rw [← HN.out, hform]
    rfl
  by_cases hpu : p = u
  · have hR : K.applyOut t u = (q, 0) := by
      unfold K.applyOut
      rw [hvt, hvu, hform]
      show (if p = u then (q, (0 : Int)) else (.mk [], 11)) = _
      rw [if_pos hpu]
    rw [hR] at hy ⊢
    obtain ⟨pa, pc, rfl⟩ := hy.form
    try rw [show ((q, (1 : Int)) : K × Int).1.l.length = q.l.length from rfl]
    try rw [show ((q, (11 : Int)) : K × Int).1.l.length = q.l.length from rfl]
    have hext : ∀ b, Ext (fun b => P b ∨ Q b) w3 w4 b → b < w4.heap.size := Ext.lt (HPQ.out.up HB.out) hb4
    replace HB := Lib.hid (belowStep hb4 HB.out)
    replace HW := Lib.hid (belowStep hb4 HW.out)
    have hb9 : Below w4.heap.size w4 (w4.alloc (.cells #[.slice pa q.l.length pc] 24)) := (Below.refl _ _).alloc (Nat.le_refl _) _
    have hk9 : Blk (w4.alloc (.cells #[.slice pa q.l.length pc] 24)) w4.heap.size 24 #[.slice pa q.l.length pc] := blk_new w4 #[.slice pa q.l.length pc] 24
    have hkv : KV (w4.alloc (.cells #[.slice pa q.l.length pc] 24)) (fun b => b < w4.heap.size) q (.agg #[.slice pa q.l.length pc]) := (hy.mono (Q := fun b => b < w4.heap.size) hext).below (fun b h => h) hb9
    have hlow : Low (w4.alloc (.cells #[.slice pa q.l.length pc] 24)) (fun b => b < w4.heap.size) := fun b h => Nat.lt_of_lt_of_le h hb9.size
    replace HB := Lib.hid (belowStep hb9 HB.out)
    replace HW := Lib.hid (belowStep hb9 HW.out)
    have HKV := Lib.hid (fun W (hW : Below (w4.alloc (.cells #[.slice pa q.l.length pc] 24)).heap.size (w4.alloc (.cells #[.slice pa q.l.length pc] 24)) W) => And.intro (hlow.up hW) (hkv.below hlow hW))
    have HW5 := Lib.hid (Below.refl (w4.alloc (.cells #[.slice pa q.l.length pc] 24)).heap.size (w4.alloc (.cells #[.slice pa q.l.length pc] 24)))
    have HK9 := Lib.hid hk9
    clear c0 d0
    obtain ⟨c0, d0⟩ := HX.out _ HW.out
    clear hy hext hb4 hb9 hk9 hkv hlow hR
    have HE9 := Lib.hid (fun W (hW : Below w.heap.size w W) (hW5 : Below (w4.alloc (.cells #[.slice pa q.l.length pc] 24)).heap.size (w4.alloc (.cells #[.slice pa q.l.length pc] 24)) W) => requal_any _ P q q W _ (.agg #[x1]) (HKV.out W hW5).1 (HP.out.up hW) (HKV.out W hW5).2 (HK1.out W hW))
    rw [hvq, eqv_self, Bool.and_true, Bool.and_true] at HE9
    rw [hpu, hvu, eqv_self, Bool.and_true, Bool.and_true] at HE0
    rw [hvt] at HVT
    rw [hvu] at HVU
    clear hvt hvu hform HN HKID hPb hx0 hx1 hk0 hk1 hvq hpu HKV
    generalize q.l.length = n9 at *
    generalize hG : w4.heap.size = G at *
    go_wp2_with fail
    clear hG
    generalize w4.alloc (.cells #[.slice pa n9 pc] 24) = w5 at *
    refine ((HVT).out _ HB.out).mono ?_
    rintro e w6 ⟨rfl, hbv⟩
    replace HB := Lib.hid (belowStep hbv HB.out)
    replace HW := Lib.hid (belowStep hbv HW.out)
    replace HW5 := Lib.hid (belowStep hbv HW5.out)
    replace HK9 := Lib.hid (HK9.out.of_eq (hbv.block _ HK9.out.lt))
    clear hbv c0 d0
    obtain ⟨c0, d0⟩ := HX.out _ HW.out
    go_wp2_with fail
    refine ((HVU).out _ HB.out).mono ?_
    rintro e w7 ⟨rfl, hbv⟩
    replace HB := Lib.hid (belowStep hbv HB.out)
    replace HW := Lib.hid (belowStep hbv HW.out)
    replace HW5 := Lib.hid (belowStep hbv HW5.out)
    replace HK9 := Lib.hid (HK9.out.of_eq (hbv.block _ HK9.out.lt))
    clear hbv c0 d0
    obtain ⟨c0, d0⟩ := HX.out _ HW.out
    go_wp2
    refine wp_region_still_tail 10 (by kernel_rfl) (by kernel_rfl) ?_
    change wpStill _ _ w7.drew (fun a' => wpList _ _ _ _ a' w7.drew) _ _
    have hwd : Below w7.heap.size w7 w7.drew := (Below.refl _ _).drew
    replace HB := Lib.hid (belowStep hwd HB.out)
    replace HW := Lib.hid (belowStep hwd HW.out)
    replace HW5 := Lib.hid (belowStep hwd HW5.out)
    replace HK9 := Lib.hid (HK9.out.of_eq (hwd.block _ HK9.out.lt))
    clear hwd c0 d0
    obtain ⟨c0, d0⟩ := HX.out _ HW.out
    have f0 := (HB.out.cell (p := ⟨b0, o0, none⟩) HPB.out).trans HX0.out
    have f1 := (HB.out.cell (p := ⟨b0, o0 + 1, none⟩) HPB.out).trans HX1.out
    generalize w7.drew = wd at *
    simp only [List.take_succ_cons, List.take_zero, List.drop_succ_cons, List.drop_zero]
    repeat still_step
    refine wpStill_nil ?_
    go_wp2_with fail
    refine (HE0.out _ HB.out).mono ?_
    rintro e w8 ⟨rfl, hb8⟩
    replace HB := Lib.hid (belowStep hb8 HB.out)
    replace HW := Lib.hid (belowStep hb8 HW.out)
    replace HW5 := Lib.hid (belowStep hb8 HW5.out)
    replace HK9 := Lib.hid (HK9.out.of_eq (hb8.block _ HK9.out.lt))
    clear hb8 c0 d0 f0 f1
    obtain ⟨c0, d0⟩ := HX.out _ HW.out
    go_wp2
    refine wp_region_still_tail 8 (by kernel_rfl) (by kernel_rfl) ?_
    change wpStill _ _ w8.drew (fun a' => wpList _ _ _ _ a' w8.drew) _ _
    have hwe : Below w8.heap.size w8 w8.drew := (Below.refl _ _).drew
    replace HB := Lib.hid (belowStep hwe HB.out)
    replace HW := Lib.hid (belowStep hwe HW.out)
    replace HW5 := Lib.hid (belowStep hwe HW5.out)
    replace HK9 := Lib.hid (HK9.out.of_eq (hwe.block _ HK9.out.lt))
    clear hwe c0 d0
    obtain ⟨c0, d0⟩ := HX.out _ HW.out
    have f0 := (HB.out.cell (p := ⟨b0, o0, none⟩) HPB.out).trans HX0.out
    have f1 := (HB.out.cell (p := ⟨b0, o0 + 1, none⟩) HPB.out).trans HX1.out
    have c9 := HK9.out.cell 0 (.slice pa n9 pc) rfl
    generalize w8.drew = we at *
    simp only [List.take_succ_cons, List.take_zero, List.drop_succ_cons, List.drop_zero]
    repeat still_step
    refine wpStill_nil ?_
    go_wp2_with fail
    refine (HE9.out _ HB.out HW5.out).mono ?_
    rintro e wz ⟨rfl, hbz⟩
    replace HB := Lib.hid (belowStep hbz HB.out)
    clear hbz
    go_wp2
    go_ret
    exact ⟨rfl, HB.out⟩
  · have hR : K.applyOut t u = (.mk [], 11) := by
      unfold K.applyOut
      rw [hvt, hvu, hform]
      show (if p = u then (q, (0 : Int)) else (.mk [], 11)) = _
      rw [if_neg hpu]
    have hef : (K.valid p && K.valid u && K.eqv p u) = false := by
      have : K.eqv p u = false := by
        cases h : K.eqv p u
        · rfl
        · exact absurd ((K.eqv_iff p u).1 h) hpu
      rw [this, Bool.and_false]
    rw [hR] at hy ⊢
    obtain ⟨pa, pc, rfl⟩ := hy.form
    try rw [show (((.mk []), (1 : Int)) : K × Int).1.l.length = 0 from rfl]
    try rw [show (((.mk []), (11 : Int)) : K × Int).1.l.length = 0 from rfl]
    have hext : ∀ b, Ext (fun b => P b ∨ Q b) w3 w4 b → b < w4.heap.size := Ext.lt (HPQ.out.up HB.out) hb4
    replace HB := Lib.hid (belowStep hb4 HB.out)
    replace HW := Lib.hid (belowStep hb4 HW.out)
    have hb9 : Below w4.heap.size w4 (w4.alloc (.cells #[.slice pa 0 pc] 24)) := (Below.refl _ _).alloc (Nat.le_refl _) _
    have hk9 : Blk (w4.alloc (.cells #[.slice pa 0 pc] 24)) w4.heap.size 24 #[.slice pa 0 pc] := blk_new w4 #[.slice pa 0 pc] 24
    have hkv : KV (w4.alloc (.cells #[.slice pa 0 pc] 24)) (fun b => b < w4.heap.size) (.mk []) (.agg #[.slice pa 0 pc]) := (hy.mono (Q := fun b => b < w4.heap.size) hext).below (fun b h => h) hb9
    have hlow : Low (w4.alloc (.cells #[.slice pa 0 pc] 24)) (fun b => b < w4.heap.size) := fun b h => Nat.lt_of_lt_of_le h hb9.size
    replace HB := Lib.hid (belowStep hb9 HB.out)
    replace HW := Lib.hid (belowStep hb9 HW.out)
    have HKV := Lib.hid (fun W (hW : Below (w4.alloc (.cells #[.slice pa 0 pc] 24)).heap.size (w4.alloc (.cells #[.slice pa 0 pc] 24)) W) => And.intro (hlow.up hW) (hkv.below hlow hW))
    have HW5 := Lib.hid (Below.refl (w4.alloc (.cells #[.slice pa 0 pc] 24)).heap.size (w4.alloc (.cells #[.slice pa 0 pc] 24)))
    have HK9 := Lib.hid hk9
    clear c0 d0
    obtain ⟨c0, d0⟩ := HX.out _ HW.out
    clear hy hext hb4 hb9 hk9 hkv hlow hR
    rw [hef] at HE0
    rw [hvt] at HVT
    rw [hvu] at HVU
    clear hvt hvu hform HN HKID hPb hx0 hx1 hk0 hk1 hvq hpu hef
    generalize hG : w4.heap.size = G at *
    go_wp2_with fail
    try rw [show (K.mk []).l.length = 0 from rfl]
    clear hG
    generalize w4.alloc (.cells #[.slice pa 0 pc] 24) = w5 at *
    refine ((HVT).out _ HB.out).mono ?_
    rintro e w6 ⟨rfl, hbv⟩
    replace HB := Lib.hid (belowStep hbv HB.out)
    replace HW := Lib.hid (belowStep hbv HW.out)
    replace HW5 := Lib.hid (belowStep hbv HW5.out)
    replace HK9 := Lib.hid (HK9.out.of_eq (hbv.block _ HK9.out.lt))
    clear hbv c0 d0
    obtain ⟨c0, d0⟩ := HX.out _ HW.out
    go_wp2_with fail
    refine ((HVU).out _ HB.out).mono ?_
    rintro e w7 ⟨rfl, hbv⟩
    replace HB := Lib.hid (belowStep hbv HB.out)
    replace HW := Lib.hid (belowStep hbv HW.out)
    replace HW5 := Lib.hid (belowStep hbv HW5.out)
    replace HK9 := Lib.hid (HK9.out.of_eq (hbv.block _ HK9.out.lt))
    clear hbv c0 d0
    obtain ⟨c0, d0⟩ := HX.out _ HW.out
    go_wp2
    refine wp_region_still_tail 10 (by kernel_rfl) (by kernel_rfl) ?_
    change wpStill _ _ w7.drew (fun a' => wpList _ _ _ _ a' w7.drew) _ _
    have hwd : Below w7.heap.size w7 w7.drew := (Below.refl _ _).drew
    replace HB := Lib.hid (belowStep hwd HB.out)
    replace HW := Lib.hid (belowStep hwd HW.out)
    replace HW5 := Lib.hid (belowStep hwd HW5.out)
    replace HK9 := Lib.hid (HK9.out.of_eq (hwd.block _ HK9.out.lt))
    clear hwd c0 d0
    obtain ⟨c0, d0⟩ := HX.out _ HW.out
    have f0 := (HB.out.cell (p := ⟨b0, o0, none⟩) HPB.out).trans HX0.out
    have f1 := (HB.out.cell (p := ⟨b0, o0 + 1, none⟩) HPB.out).trans HX1.out
    generalize w7.drew = wd at *
    simp only [List.take_succ_cons, List.take_zero, List.drop_succ_cons, List.drop_zero]
    repeat still_step
    refine wpStill_nil ?_
    go_wp2_with fail
    refine (HE0.out _ HB.out).mono ?_
    rintro e w8 ⟨rfl, hb8⟩
    replace HB := Lib.hid (belowStep hb8 HB.out)
    replace HW := Lib.hid (belowStep hb8 HW.out)
    replace HW5 := Lib.hid (belowStep hb8 HW5.out)
    replace HK9 := Lib.hid (HK9.out.of_eq (hb8.block _ HK9.out.lt))
    clear hb8 c0 d0 f0 f1
    have c9 := HK9.out.cell 0 (.slice pa 0 pc) rfl
    go_wp2_with fail
    refine (none8_any _ (.mk []) _ _ (HKV.out _ HW5.out).2).mono ?_
    rintro e wz ⟨rfl, hbz⟩
    replace HB := Lib.hid (belowStep hbz HB.out)
    clear hbz
    go_wp2
    go_ret
    exact ⟨rfl, HB.out⟩
end Go.Proofs.Ythamhgnhdjahgaa
