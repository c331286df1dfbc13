/-
  Layer 8: the law KindBuilds over what the program's functions answer.
-/
import Derived.Test.YthamhgnhdjahgaaKu
import Derived.Deep.RegionHeld3
namespace Go.Proofs.Ythamhgnhdjahgaa
open Go Go.RowKit
open Pl (K)
set_option linter.unusedSimpArgs false

set_option maxRecDepth 100000 in
set_option maxHeartbeats 8000000 in
theorem builds_walk (C : Code8) (A : Awake8) (P Q : Nat → Prop) (l : List K) (to : K) (n : Int) (w : World) (v x : Value) (hP : Low w P) (hQ : Low w Q) (hl : KSl w P v l) (ht : KV w Q to x) :
    Calls Try.prog 4 #[v, x, .int .i64 n] w (Says (.bool true) w) := by
  have hPQ : Low w (fun b => P b ∨ Q b) := fun b h => h.elim (hP b) (hQ b)
  have HA := Lib.hid A
  have HBL := Lib.hid (fun W (hW : Below w.heap.size w W) => bigContains_any P l W v (hP.up hW) (hl.keep (Same.of_below hW hP)))
  have HBT := Lib.hid (fun W (hW : Below w.heap.size w W) => big_any Q to W x (hQ.up hW) (ht.below hQ hW))
  have HAR := Lib.hid (fun W (hW : Below w.heap.size w W) => C.arrow (fun b => P b ∨ Q b) l to W v x (hPQ.up hW) ((hl.keep (Same.of_below hW hP)).mono fun b h => .inl h) ((ht.below hQ hW).mono fun b h => .inr h))
  have HRA := Lib.hid (fun W (hW : Below w.heap.size w W) => rarrow_any (fun b => P b ∨ Q b) l to W v x (hPQ.up hW) ((hl.keep (Same.of_below hW hP)).mono fun b h => .inl h) ((ht.below hQ hW).mono fun b h => .inr h))
  have HAI := Lib.hid (fun W => C.arity n W)
  have HPA := Lib.hid (fun W (hW : Below w.heap.size w W) => C.parts Q to W x (hQ.up hW) (ht.below hQ hW))
  have HVT := Lib.hid (fun W (hW : Below w.heap.size w W) => rvalid_any Q to W x (hQ.up hW) (ht.below hQ hW))
  have HRP0 := Lib.hid (fun (hd : K.depth to ≤ 100000) W (hW : Below w.heap.size w W) => rparts_any Q to W x (hQ.up hW) (ht.below hQ hW) hd)
  have hv1 := K.arrowOut_valid l to
  obtain ⟨k1, ec, hao⟩ : ∃ k ec, K.arrowOut l to = (k, ec) := ⟨_, _, rfl⟩
  rw [hao] at hv1
  have HAO := Lib.hid hao
  have HV1 := Lib.hid (show K.valid k1 = true from hv1)
  have HPQ := Lib.hid hPQ
  have HQ := Lib.hid hQ
  obtain ⟨a, c, rfl, -⟩ := hl.each
  obtain ⟨a2, c2, rfl⟩ := ht.form
  clear ht hl hP hQ hPQ hao hv1
  generalize to.l.length = n2 at *
  generalize l.length = nl at *
  obtain ⟨hbx, hb⟩ := box_new w 24 (.slice a2 n2 c2)
  obtain ⟨B, hB⟩ : ∃ B, B = w.heap.size := ⟨_, rfl⟩
  rw [← hB] at hbx
  have HBX := Lib.hid hbx
  have HB := Lib.hid hb
  clear hbx hb
  go_enter Try.func4, Try.ntmps4
  go_wp2_with fail
  rw [← hB]
  clear hB
  generalize w.alloc (.cells #[.slice a2 n2 c2] 24) = w0 at *
  refine (HA.out _).mono ?_
  rintro e w1 ⟨rfl, hb1⟩
  replace HBX := Lib.hid (HBX.out.of_eq (hb1.block _ HBX.out.lt))
  replace HB := Lib.hid (belowStep hb1 HB.out)
  clear hb1
  have c0 := HBX.out.cell 0 (.slice a2 n2 c2) rfl
  by_cases h410 : 410 < nl
  · have q1 : decide ((410 : Int) < (nl : Int)) = true := decide_eq_true (by omega)
    go_wp2
    go_ret
    exact ⟨rfl, HB.out⟩
  have q1 : decide ((410 : Int) < (nl : Int)) = false := decide_eq_false (by omega)
  clear h410
  go_wp2_with fail
  refine (HBL.out _ HB.out).mono ?_
  rintro e w2 ⟨⟨r, rfl, -⟩, hb2⟩
  replace HBX := Lib.hid (HBX.out.of_eq (hb2.block _ HBX.out.lt))
  replace HB := Lib.hid (belowStep hb2 HB.out)
  clear hb2 c0
  have c0 := HBX.out.cell 0 (.slice a2 n2 c2) rfl
  cases r
  rotate_left
  · go_wp2
    go_ret
    exact ⟨rfl, HB.out⟩
  go_wp2_with fail
  refine (HBT.out _ HB.out).mono ?_
  rintro e w3 ⟨⟨r, rfl, hr⟩, hb3⟩
  replace HBX := Lib.hid (HBX.out.of_eq (hb3.block _ HBX.out.lt))
  replace HB := Lib.hid (belowStep hb3 HB.out)
  have HR := Lib.hid hr
  clear hb3 c0 hr
  have c0 := HBX.out.cell 0 (.slice a2 n2 c2) rfl
  cases r
  rotate_left
  · go_wp2
    go_ret
    exact ⟨rfl, HB.out⟩
  have HRP := Lib.hid (HRP0.out (Nat.le_trans (HR.out rfl).2 (by decide)))
  clear HR HRP0 q1
  go_wp2_with fail
  refine (HAR.out _ HB.out).mono ?_
  rintro e w4 ⟨⟨y, rfl, hy⟩, hb4⟩
  rw [HAO.out] at hy ⊢
  obtain ⟨pa3, pc3, rfl⟩ := hy.form
  have hext3 : ∀ b, Ext (fun b => P b ∨ Q b) w3 w4 b → b < w4.heap.size := Ext.lt (HPQ.out.up HB.out) hb4
  replace HBX := Lib.hid (HBX.out.of_eq (hb4.block _ HBX.out.lt))
  replace HB := Lib.hid (belowStep hb4 HB.out)
  have hbx3 : Below w4.heap.size w4 (w4.alloc (.cells #[.slice pa3 k1.l.length pc3] 24)) := (Below.refl _ _).alloc (Nat.le_refl _) _
  have hk3 : Blk (w4.alloc (.cells #[.slice pa3 k1.l.length pc3] 24)) w4.heap.size 24 #[.slice pa3 k1.l.length pc3] := blk_new w4 #[.slice pa3 k1.l.length pc3] 24
  have hkv3 : KV (w4.alloc (.cells #[.slice pa3 k1.l.length pc3] 24)) (fun b => b < w4.heap.size) k1 (.agg #[.slice pa3 k1.l.length pc3]) := (hy.mono (Q := fun b => b < w4.heap.size) hext3).below (fun b h => h) hbx3
  have hlow3 : Low (w4.alloc (.cells #[.slice pa3 k1.l.length pc3] 24)) (fun b => b < w4.heap.size) := fun b h => Nat.lt_of_lt_of_le h hbx3.size
  replace HBX := Lib.hid (HBX.out.of_eq (hbx3.block _ HBX.out.lt))
  replace HB := Lib.hid (belowStep hbx3 HB.out)
  have HEQ := Lib.hid (fun (R : Nat → Prop) W (z : Value) (hR : Low W R) (hW : Below (w4.alloc (.cells #[.slice pa3 k1.l.length pc3] 24)).heap.size (w4.alloc (.cells #[.slice pa3 k1.l.length pc3] 24)) W) (hz : KV W R k1 z) => requal_any _ R k1 k1 W _ z (hlow3.up hW) hR (hkv3.below hlow3 hW) hz)
  rw [HV1.out, eqv_self, Bool.and_true, Bool.and_true] at HEQ
  have HK3 := Lib.hid hk3
  clear hy hext3 hb4 hbx3 hk3 hkv3 hlow3 c0
  generalize k1.l.length = n3 at *
  generalize hG : w4.heap.size = G3 at *
  have c0 := HBX.out.cell 0 (.slice a2 n2 c2) rfl
  go_wp2_with fail
  clear hG
  generalize w4.alloc (.cells #[.slice pa3 n3 pc3] 24) = w5 at *
  refine (HRA.out _ HB.out).mono ?_
  rintro e w6 ⟨⟨y, rfl, hy⟩, hb6⟩
  rw [HAO.out] at hy ⊢
  obtain ⟨pa4, pc4, rfl⟩ := hy.form
  have hext4 : ∀ b, Ext (fun b => P b ∨ Q b) w5 w6 b → b < w6.heap.size := Ext.lt (HPQ.out.up HB.out) hb6
  replace HBX := Lib.hid (HBX.out.of_eq (hb6.block _ HBX.out.lt))
  replace HB := Lib.hid (belowStep hb6 HB.out)
  have hbx4 : Below w6.heap.size w6 (w6.alloc (.cells #[.slice pa4 k1.l.length pc4] 24)) := (Below.refl _ _).alloc (Nat.le_refl _) _
  have hk4 : Blk (w6.alloc (.cells #[.slice pa4 k1.l.length pc4] 24)) w6.heap.size 24 #[.slice pa4 k1.l.length pc4] := blk_new w6 #[.slice pa4 k1.l.length pc4] 24
  have hkv4 : KV (w6.alloc (.cells #[.slice pa4 k1.l.length pc4] 24)) (fun b => b < w6.heap.size) k1 (.agg #[.slice pa4 k1.l.length pc4]) := (hy.mono (Q := fun b => b < w6.heap.size) hext4).below (fun b h => h) hbx4
  have hlow4 : Low (w6.alloc (.cells #[.slice pa4 k1.l.length pc4] 24)) (fun b => b < w6.heap.size) := fun b h => Nat.lt_of_lt_of_le h hbx4.size
  replace HBX := Lib.hid (HBX.out.of_eq (hbx4.block _ HBX.out.lt))
  replace HB := Lib.hid (belowStep hbx4 HB.out)
  have hbq := belowStep hbx4 hb6
  have HE2 := Lib.hid (HEQ.out _ _ _ hlow4 hbq hkv4)
  have hK10 := HK3.out.of_eq (hbq.block _ HK3.out.lt)
  have c9 := hK10.cell 0 (.slice pa3 n3 pc3) rfl
  have c10 := hk4.cell 0 (.slice pa4 k1.l.length pc4) rfl
  clear hy hext4 hb6 hbx4 hk4 hkv4 hlow4 hbq hK10 HEQ HK3 c0
  generalize k1.l.length = n4 at *
  generalize hG : w6.heap.size = G4 at *
  have qec : (ec == ec) = true := beq_self_eq_true _
  go_wp2_with fail
  clear hG
  generalize w6.alloc (.cells #[.slice pa4 n4 pc4] 24) = w7 at *
  refine HE2.out.mono ?_
  rintro e w8 ⟨rfl, hb8⟩
  replace HBX := Lib.hid (HBX.out.of_eq (hb8.block _ HBX.out.lt))
  replace HB := Lib.hid (belowStep hb8 HB.out)
  clear hb8 c9 c10 HE2
  go_wp2_with fail
  by_cases hn0 : n < 0
  · have HAT := Lib.hid (show K.arityOut n = (.mk [], 2) from if_neg (by omega))
    have qa : decide (n < 0) = true := decide_eq_true hn0
    clear hn0
    refine (HAI.out _).mono ?_
    rintro e w9 ⟨⟨y, rfl, hy⟩, hb9⟩
    rw [HAT.out] at hy ⊢
    obtain ⟨pa5, pc5, rfl⟩ := hy.form
    try rw [show ((K.mk [], (2 : Int)) : K × Int).1.l.length = 0 from rfl]
    have hext5 : ∀ b, Ext (fun _ => False) w8 w9 b → b < w9.heap.size := fun b h => by
      rcases h with h | h
      · exact h.elim
      · exact h.2
    replace HBX := Lib.hid (HBX.out.of_eq (hb9.block _ HBX.out.lt))
    replace HB := Lib.hid (belowStep hb9 HB.out)
    have hbx5 : Below w9.heap.size w9 (w9.alloc (.cells #[.slice pa5 0 pc5] 24)) := (Below.refl _ _).alloc (Nat.le_refl _) _
    have hk5 : Blk (w9.alloc (.cells #[.slice pa5 0 pc5] 24)) w9.heap.size 24 #[.slice pa5 0 pc5] := blk_new w9 #[.slice pa5 0 pc5] 24
    have hkv5 : KV (w9.alloc (.cells #[.slice pa5 0 pc5] 24)) (fun b => b < w9.heap.size) (.mk []) (.agg #[.slice pa5 0 pc5]) := (hy.mono (Q := fun b => b < w9.heap.size) hext5).below (fun b h => h) hbx5
    have hlow5 : Low (w9.alloc (.cells #[.slice pa5 0 pc5] 24)) (fun b => b < w9.heap.size) := fun b h => Nat.lt_of_lt_of_le h hbx5.size
    replace HBX := Lib.hid (HBX.out.of_eq (hbx5.block _ HBX.out.lt))
    replace HB := Lib.hid (belowStep hbx5 HB.out)
    have HNN := Lib.hid (none8_any _ _ _ _ hkv5)
    have c5 := hk5.cell 0 (.slice pa5 0 pc5) rfl
    clear hy hext5 hb9 hbx5 hk5 hkv5 hlow5
    generalize hG : w9.heap.size = G5 at *
    go_wp2_with fail
    try rw [show (K.mk []).l.length = 0 from rfl]
    clear hG
    generalize w9.alloc (.cells #[.slice pa5 0 pc5] 24) = wA at *
    refine HNN.out.mono ?_
    rintro e wB ⟨rfl, hbB⟩
    replace HBX := Lib.hid (HBX.out.of_eq (hbB.block _ HBX.out.lt))
    replace HB := Lib.hid (belowStep hbB HB.out)
    clear hbB c5
    have c0 := HBX.out.cell 0 (.slice a2 n2 c2) rfl
    go_wp2_with fail
    by_cases hvt : K.valid to = true
    · have HPV := Lib.hid hvt
      have HPG := Lib.hid (fun W (hW : Below w.heap.size w W) => (show Calls Try.prog 23 #[.agg #[.slice a2 n2 c2]] W fun e w' => (∃ y, e = .returned (.tuple #[y, .agg #[.slice none 0 0], .int .i64 0]) ∧ KSl w' (Ext Q W w') y (K.parts to)) ∧ Below W.heap.size W w' from by
        have h := HPA.out W hW
        rw [if_pos hvt, if_pos hvt] at h
        exact h))
      rw [hvt] at HVT
      refine (HPG.out _ HB.out).mono ?_
      rintro e wp ⟨⟨y, rfl, hy⟩, hbp⟩
      obtain ⟨pa6, pc6, rfl, -, -, -⟩ := hy.each
      have hext6 : ∀ b, Ext Q _ wp b → b < wp.heap.size := Ext.lt (HQ.out.up HB.out) hbp
      replace HBX := Lib.hid (HBX.out.of_eq (hbp.block _ HBX.out.lt))
      replace HB := Lib.hid (belowStep hbp HB.out)
      have hbx6 : Below wp.heap.size wp (wp.alloc (.cells #[.slice none 0 0] 24)) := (Below.refl _ _).alloc (Nat.le_refl _) _
      have hk6 : Blk (wp.alloc (.cells #[.slice none 0 0] 24)) wp.heap.size 24 #[.slice none 0 0] := blk_new wp #[.slice none 0 0] 24
      have hks6 : KSl (wp.alloc (.cells #[.slice none 0 0] 24)) (fun b => b < wp.heap.size) (.slice pa6 (K.parts to).length pc6) (K.parts to) := (hy.mono hext6).keep (Same.of_below hbx6 (fun b h => h))
      have hlow6 : Low (wp.alloc (.cells #[.slice none 0 0] 24)) (fun b => b < wp.heap.size) := fun b h => Nat.lt_of_lt_of_le h hbx6.size
      replace HBX := Lib.hid (HBX.out.of_eq (hbx6.block _ HBX.out.lt))
      replace HB := Lib.hid (belowStep hbx6 HB.out)
      have HSL6 := Lib.hid (fun W (hW : Below (wp.alloc (.cells #[.slice none 0 0] 24)).heap.size (wp.alloc (.cells #[.slice none 0 0] 24)) W) => And.intro (hlow6.up hW) (hks6.keep (Same.of_below hW hlow6)))
      have HW6 := Lib.hid (Below.refl (wp.alloc (.cells #[.slice none 0 0] 24)).heap.size (wp.alloc (.cells #[.slice none 0 0] 24)))
      have HK6 := Lib.hid hk6
      clear hy hext6 hbp hbx6 hk6 hks6 hlow6 c0 HPG hvt
      generalize (K.parts to).length = n6 at *
      generalize hG : wp.heap.size = G6 at *
      have c0 := HBX.out.cell 0 (.slice a2 n2 c2) rfl
      go_wp2_with fail
      clear hG
      generalize wp.alloc (.cells #[.slice none 0 0] 24) = wq at *
      refine (HVT.out _ HB.out).mono ?_
      rintro e wr ⟨rfl, hbr⟩
      replace HBX := Lib.hid (HBX.out.of_eq (hbr.block _ HBX.out.lt))
      replace HB := Lib.hid (belowStep hbr HB.out)
      replace HW6 := Lib.hid (belowStep hbr HW6.out)
      replace HK6 := Lib.hid (HK6.out.of_eq (hbr.block _ HK6.out.lt))
      clear hbr c0
      have c0 := HBX.out.cell 0 (.slice a2 n2 c2) rfl
      have c6 := HK6.out.cell 0 (.slice none 0 0) rfl
      go_wp2_with fail
      refine (none8_any (fun _ => False) (.mk []) _ _ (kV_none _ _)).mono ?_
      rintro e ws ⟨rfl, hbs⟩
      replace HBX := Lib.hid (HBX.out.of_eq (hbs.block _ HBX.out.lt))
      replace HB := Lib.hid (belowStep hbs HB.out)
      replace HW6 := Lib.hid (belowStep hbs HW6.out)
      clear hbs c0 c6
      have c0 := HBX.out.cell 0 (.slice a2 n2 c2) rfl
      go_wp2_with fail
      refine (HRP.out _ HB.out).mono ?_
      rintro e wt ⟨⟨y2, rfl, hy2⟩, hbt⟩
      have hext7 : ∀ b, Ext Q _ wt b → b < wt.heap.size := Ext.lt (HQ.out.up HB.out) hbt
      replace HW6 := Lib.hid (belowStep hbt HW6.out)
      replace HBX := Lib.hid (HBX.out.of_eq (hbt.block _ HBX.out.lt))
      replace HB := Lib.hid (belowStep hbt HB.out)
      have HEF := Lib.hid (eqFunc8_any 15 _ (fun _ _ => rfl) (fun P Q t u W v x h1 h2 h3 h4 => requal_any P Q t u W v x h1 h2 h3 h4) _ _ _ _ wt _ y2 (HSL6.out _ HW6.out).1 hext7 (HSL6.out _ HW6.out).2 hy2)
      rw [all_parts to HPV.out] at HEF
      obtain ⟨pa7, pc7, rfl, -, -, -⟩ := hy2.each
      clear hy2 hext7 hbt c0
      generalize (K.parts to).length = n7 at *
      go_wp2_with fail
      refine HEF.out.mono ?_
      rintro e wu ⟨rfl, hbu⟩
      replace HB := Lib.hid (belowStep hbu HB.out)
      clear hbu
      go_wp2
      go_ret
      exact ⟨rfl, HB.out⟩
    · skip
      have HPG := Lib.hid (fun W (hW : Below w.heap.size w W) => (show Calls Try.prog 23 #[.agg #[.slice a2 n2 c2]] W fun e w' => (∃ y, e = .returned (.tuple #[y, .agg #[.slice none 0 0], .int .i64 1]) ∧ KSl w' (Ext Q W w') y []) ∧ Below W.heap.size W w' from by
        have h := HPA.out W hW
        rw [if_neg hvt, if_neg hvt] at h
        exact h))
      have hvf : K.valid to = false := by
        cases h : K.valid to
        · rfl
        · exact absurd h hvt
      rw [hvf] at HVT
      refine (HPG.out _ HB.out).mono ?_
      rintro e wp ⟨⟨y, rfl, hy⟩, hbp⟩
      obtain ⟨pa6, pc6, hyf, -, -, -⟩ := hy.each
      have hyf : y = .slice pa6 0 pc6 := hyf
      subst hyf
      replace HBX := Lib.hid (HBX.out.of_eq (hbp.block _ HBX.out.lt))
      replace HB := Lib.hid (belowStep hbp HB.out)
      have hbx6 : Below wp.heap.size wp (wp.alloc (.cells #[.slice none 0 0] 24)) := (Below.refl _ _).alloc (Nat.le_refl _) _
      have hk6 : Blk (wp.alloc (.cells #[.slice none 0 0] 24)) wp.heap.size 24 #[.slice none 0 0] := blk_new wp #[.slice none 0 0] 24
      replace HBX := Lib.hid (HBX.out.of_eq (hbx6.block _ HBX.out.lt))
      replace HB := Lib.hid (belowStep hbx6 HB.out)
      have HK6 := Lib.hid hk6
      clear hy hbp hbx6 hk6 c0 HPG hvt hvf
      generalize hG : wp.heap.size = G6 at *
      have c0 := HBX.out.cell 0 (.slice a2 n2 c2) rfl
      go_wp2_with fail
      clear hG
      generalize wp.alloc (.cells #[.slice none 0 0] 24) = wq at *
      refine (HVT.out _ HB.out).mono ?_
      rintro e wr ⟨rfl, hbr⟩
      replace HBX := Lib.hid (HBX.out.of_eq (hbr.block _ HBX.out.lt))
      replace HB := Lib.hid (belowStep hbr HB.out)
      replace HK6 := Lib.hid (HK6.out.of_eq (hbr.block _ HK6.out.lt))
      clear hbr c0
      have c6 := HK6.out.cell 0 (.slice none 0 0) rfl
      go_wp2_with fail
      refine (none8_any (fun _ => False) (.mk []) _ _ (kV_none _ _)).mono ?_
      rintro e ws ⟨rfl, hbs⟩
      replace HB := Lib.hid (belowStep hbs HB.out)
      clear hbs c6
      go_wp2
      go_ret
      exact ⟨rfl, HB.out⟩
  have qa : decide (n < 0) = false := decide_eq_false hn0
  by_cases hn1 : 100 < n
  · have HAT := Lib.hid (show K.arityOut n = (.mk [], 2) from if_neg (by omega))
    have qb : decide (100 < n) = true := decide_eq_true hn1
    clear hn0 hn1
    refine (HAI.out _).mono ?_
    rintro e w9 ⟨⟨y, rfl, hy⟩, hb9⟩
    rw [HAT.out] at hy ⊢
    obtain ⟨pa5, pc5, rfl⟩ := hy.form
    try rw [show ((K.mk [], (2 : Int)) : K × Int).1.l.length = 0 from rfl]
    have hext5 : ∀ b, Ext (fun _ => False) w8 w9 b → b < w9.heap.size := fun b h => by
      rcases h with h | h
      · exact h.elim
      · exact h.2
    replace HBX := Lib.hid (HBX.out.of_eq (hb9.block _ HBX.out.lt))
    replace HB := Lib.hid (belowStep hb9 HB.out)
    have hbx5 : Below w9.heap.size w9 (w9.alloc (.cells #[.slice pa5 0 pc5] 24)) := (Below.refl _ _).alloc (Nat.le_refl _) _
    have hk5 : Blk (w9.alloc (.cells #[.slice pa5 0 pc5] 24)) w9.heap.size 24 #[.slice pa5 0 pc5] := blk_new w9 #[.slice pa5 0 pc5] 24
    have hkv5 : KV (w9.alloc (.cells #[.slice pa5 0 pc5] 24)) (fun b => b < w9.heap.size) (.mk []) (.agg #[.slice pa5 0 pc5]) := (hy.mono (Q := fun b => b < w9.heap.size) hext5).below (fun b h => h) hbx5
    have hlow5 : Low (w9.alloc (.cells #[.slice pa5 0 pc5] 24)) (fun b => b < w9.heap.size) := fun b h => Nat.lt_of_lt_of_le h hbx5.size
    replace HBX := Lib.hid (HBX.out.of_eq (hbx5.block _ HBX.out.lt))
    replace HB := Lib.hid (belowStep hbx5 HB.out)
    have HNN := Lib.hid (none8_any _ _ _ _ hkv5)
    have c5 := hk5.cell 0 (.slice pa5 0 pc5) rfl
    clear hy hext5 hb9 hbx5 hk5 hkv5 hlow5
    generalize hG : w9.heap.size = G5 at *
    go_wp2_with fail
    try rw [show (K.mk []).l.length = 0 from rfl]
    clear hG
    generalize w9.alloc (.cells #[.slice pa5 0 pc5] 24) = wA at *
    refine HNN.out.mono ?_
    rintro e wB ⟨rfl, hbB⟩
    replace HBX := Lib.hid (HBX.out.of_eq (hbB.block _ HBX.out.lt))
    replace HB := Lib.hid (belowStep hbB HB.out)
    clear hbB c5
    have c0 := HBX.out.cell 0 (.slice a2 n2 c2) rfl
    go_wp2_with fail
    by_cases hvt : K.valid to = true
    · have HPV := Lib.hid hvt
      have HPG := Lib.hid (fun W (hW : Below w.heap.size w W) => (show Calls Try.prog 23 #[.agg #[.slice a2 n2 c2]] W fun e w' => (∃ y, e = .returned (.tuple #[y, .agg #[.slice none 0 0], .int .i64 0]) ∧ KSl w' (Ext Q W w') y (K.parts to)) ∧ Below W.heap.size W w' from by
        have h := HPA.out W hW
        rw [if_pos hvt, if_pos hvt] at h
        exact h))
      rw [hvt] at HVT
      refine (HPG.out _ HB.out).mono ?_
      rintro e wp ⟨⟨y, rfl, hy⟩, hbp⟩
      obtain ⟨pa6, pc6, rfl, -, -, -⟩ := hy.each
      have hext6 : ∀ b, Ext Q _ wp b → b < wp.heap.size := Ext.lt (HQ.out.up HB.out) hbp
      replace HBX := Lib.hid (HBX.out.of_eq (hbp.block _ HBX.out.lt))
      replace HB := Lib.hid (belowStep hbp HB.out)
      have hbx6 : Below wp.heap.size wp (wp.alloc (.cells #[.slice none 0 0] 24)) := (Below.refl _ _).alloc (Nat.le_refl _) _
      have hk6 : Blk (wp.alloc (.cells #[.slice none 0 0] 24)) wp.heap.size 24 #[.slice none 0 0] := blk_new wp #[.slice none 0 0] 24
      have hks6 : KSl (wp.alloc (.cells #[.slice none 0 0] 24)) (fun b => b < wp.heap.size) (.slice pa6 (K.parts to).length pc6) (K.parts to) := (hy.mono hext6).keep (Same.of_below hbx6 (fun b h => h))
      have hlow6 : Low (wp.alloc (.cells #[.slice none 0 0] 24)) (fun b => b < wp.heap.size) := fun b h => Nat.lt_of_lt_of_le h hbx6.size
      replace HBX := Lib.hid (HBX.out.of_eq (hbx6.block _ HBX.out.lt))
      replace HB := Lib.hid (belowStep hbx6 HB.out)
      have HSL6 := Lib.hid (fun W (hW : Below (wp.alloc (.cells #[.slice none 0 0] 24)).heap.size (wp.alloc (.cells #[.slice none 0 0] 24)) W) => And.intro (hlow6.up hW) (hks6.keep (Same.of_below hW hlow6)))
      have HW6 := Lib.hid (Below.refl (wp.alloc (.cells #[.slice none 0 0] 24)).heap.size (wp.alloc (.cells #[.slice none 0 0] 24)))
      have HK6 := Lib.hid hk6
      clear hy hext6 hbp hbx6 hk6 hks6 hlow6 c0 HPG hvt
      generalize (K.parts to).length = n6 at *
      generalize hG : wp.heap.size = G6 at *
      have c0 := HBX.out.cell 0 (.slice a2 n2 c2) rfl
      go_wp2_with fail
      clear hG
      generalize wp.alloc (.cells #[.slice none 0 0] 24) = wq at *
      refine (HVT.out _ HB.out).mono ?_
      rintro e wr ⟨rfl, hbr⟩
      replace HBX := Lib.hid (HBX.out.of_eq (hbr.block _ HBX.out.lt))
      replace HB := Lib.hid (belowStep hbr HB.out)
      replace HW6 := Lib.hid (belowStep hbr HW6.out)
      replace HK6 := Lib.hid (HK6.out.of_eq (hbr.block _ HK6.out.lt))
      clear hbr c0
      have c0 := HBX.out.cell 0 (.slice a2 n2 c2) rfl
      have c6 := HK6.out.cell 0 (.slice none 0 0) rfl
      go_wp2_with fail
      refine (none8_any (fun _ => False) (.mk []) _ _ (kV_none _ _)).mono ?_
      rintro e ws ⟨rfl, hbs⟩
      replace HBX := Lib.hid (HBX.out.of_eq (hbs.block _ HBX.out.lt))
      replace HB := Lib.hid (belowStep hbs HB.out)
      replace HW6 := Lib.hid (belowStep hbs HW6.out)
      clear hbs c0 c6
      have c0 := HBX.out.cell 0 (.slice a2 n2 c2) rfl
      go_wp2_with fail
      refine (HRP.out _ HB.out).mono ?_
      rintro e wt ⟨⟨y2, rfl, hy2⟩, hbt⟩
      have hext7 : ∀ b, Ext Q _ wt b → b < wt.heap.size := Ext.lt (HQ.out.up HB.out) hbt
      replace HW6 := Lib.hid (belowStep hbt HW6.out)
      replace HBX := Lib.hid (HBX.out.of_eq (hbt.block _ HBX.out.lt))
      replace HB := Lib.hid (belowStep hbt HB.out)
      have HEF := Lib.hid (eqFunc8_any 15 _ (fun _ _ => rfl) (fun P Q t u W v x h1 h2 h3 h4 => requal_any P Q t u W v x h1 h2 h3 h4) _ _ _ _ wt _ y2 (HSL6.out _ HW6.out).1 hext7 (HSL6.out _ HW6.out).2 hy2)
      rw [all_parts to HPV.out] at HEF
      obtain ⟨pa7, pc7, rfl, -, -, -⟩ := hy2.each
      clear hy2 hext7 hbt c0
      generalize (K.parts to).length = n7 at *
      go_wp2_with fail
      refine HEF.out.mono ?_
      rintro e wu ⟨rfl, hbu⟩
      replace HB := Lib.hid (belowStep hbu HB.out)
      clear hbu
      go_wp2
      go_ret
      exact ⟨rfl, HB.out⟩
    · skip
      have HPG := Lib.hid (fun W (hW : Below w.heap.size w W) => (show Calls Try.prog 23 #[.agg #[.slice a2 n2 c2]] W fun e w' => (∃ y, e = .returned (.tuple #[y, .agg #[.slice none 0 0], .int .i64 1]) ∧ KSl w' (Ext Q W w') y []) ∧ Below W.heap.size W w' from by
        have h := HPA.out W hW
        rw [if_neg hvt, if_neg hvt] at h
        exact h))
      have hvf : K.valid to = false := by
        cases h : K.valid to
        · rfl
        · exact absurd h hvt
      rw [hvf] at HVT
      refine (HPG.out _ HB.out).mono ?_
      rintro e wp ⟨⟨y, rfl, hy⟩, hbp⟩
      obtain ⟨pa6, pc6, hyf, -, -, -⟩ := hy.each
      have hyf : y = .slice pa6 0 pc6 := hyf
      subst hyf
      replace HBX := Lib.hid (HBX.out.of_eq (hbp.block _ HBX.out.lt))
      replace HB := Lib.hid (belowStep hbp HB.out)
      have hbx6 : Below wp.heap.size wp (wp.alloc (.cells #[.slice none 0 0] 24)) := (Below.refl _ _).alloc (Nat.le_refl _) _
      have hk6 : Blk (wp.alloc (.cells #[.slice none 0 0] 24)) wp.heap.size 24 #[.slice none 0 0] := blk_new wp #[.slice none 0 0] 24
      replace HBX := Lib.hid (HBX.out.of_eq (hbx6.block _ HBX.out.lt))
      replace HB := Lib.hid (belowStep hbx6 HB.out)
      have HK6 := Lib.hid hk6
      clear hy hbp hbx6 hk6 c0 HPG hvt hvf
      generalize hG : wp.heap.size = G6 at *
      have c0 := HBX.out.cell 0 (.slice a2 n2 c2) rfl
      go_wp2_with fail
      clear hG
      generalize wp.alloc (.cells #[.slice none 0 0] 24) = wq at *
      refine (HVT.out _ HB.out).mono ?_
      rintro e wr ⟨rfl, hbr⟩
      replace HBX := Lib.hid (HBX.out.of_eq (hbr.block _ HBX.out.lt))
      replace HB := Lib.hid (belowStep hbr HB.out)
      replace HK6 := Lib.hid (HK6.out.of_eq (hbr.block _ HK6.out.lt))
      clear hbr c0
      have c6 := HK6.out.cell 0 (.slice none 0 0) rfl
      go_wp2_with fail
      refine (none8_any (fun _ => False) (.mk []) _ _ (kV_none _ _)).mono ?_
      rintro e ws ⟨rfl, hbs⟩
      replace HB := Lib.hid (belowStep hbs HB.out)
      clear hbs c6
      go_wp2
      go_ret
      exact ⟨rfl, HB.out⟩
  have qb : decide (100 < n) = false := decide_eq_false hn1
  obtain ⟨m, rfl⟩ : ∃ m : Nat, n = m := ⟨n.toNat, by omega⟩
  have HAT := Lib.hid (show K.arityOut (m : Int) = (K.arity m, 0) from by
    unfold K.arityOut
    rw [if_pos (by omega), Int.toNat_natCast])
  have HRI := Lib.hid (fun W => rarity_any m W (by omega))
  have HVA := Lib.hid (K.arity_valid m (by omega))
  clear hn0 hn1
  refine (HAI.out _).mono ?_
  rintro e w9 ⟨⟨y, rfl, hy⟩, hb9⟩
  rw [HAT.out] at hy ⊢
  obtain ⟨pa5, pc5, rfl⟩ := hy.form
  have hext5 : ∀ b, Ext (fun _ => False) w8 w9 b → b < w9.heap.size := fun b h => by
    rcases h with h | h
    · exact h.elim
    · exact h.2
  replace HBX := Lib.hid (HBX.out.of_eq (hb9.block _ HBX.out.lt))
  replace HB := Lib.hid (belowStep hb9 HB.out)
  have hbx5 : Below w9.heap.size w9 (w9.alloc (.cells #[.slice pa5 (K.arity m).l.length pc5] 24)) := (Below.refl _ _).alloc (Nat.le_refl _) _
  have hk5 : Blk (w9.alloc (.cells #[.slice pa5 (K.arity m).l.length pc5] 24)) w9.heap.size 24 #[.slice pa5 (K.arity m).l.length pc5] := blk_new w9 #[.slice pa5 (K.arity m).l.length pc5] 24
  have hkv5 : KV (w9.alloc (.cells #[.slice pa5 (K.arity m).l.length pc5] 24)) (fun b => b < w9.heap.size) (K.arity m) (.agg #[.slice pa5 (K.arity m).l.length pc5]) := (hy.mono (Q := fun b => b < w9.heap.size) hext5).below (fun b h => h) hbx5
  have hlow5 : Low (w9.alloc (.cells #[.slice pa5 (K.arity m).l.length pc5] 24)) (fun b => b < w9.heap.size) := fun b h => Nat.lt_of_lt_of_le h hbx5.size
  replace HBX := Lib.hid (HBX.out.of_eq (hbx5.block _ HBX.out.lt))
  replace HB := Lib.hid (belowStep hbx5 HB.out)
  have HKV5 := Lib.hid (fun W (hW : Below (w9.alloc (.cells #[.slice pa5 (K.arity m).l.length pc5] 24)).heap.size (w9.alloc (.cells #[.slice pa5 (K.arity m).l.length pc5] 24)) W) => And.intro (hlow5.up hW) (hkv5.below hlow5 hW))
  have HK5 := Lib.hid hk5
  clear hy hext5 hb9 hbx5 hk5 hkv5 hlow5
  generalize (K.arity m).l.length = n5 at *
  have c5 := HK5.out.cell 0 (.slice pa5 n5 pc5) rfl
  generalize hG : w9.heap.size = G5 at *
  go_wp2
  clear hG
  generalize w9.alloc (.cells #[.slice pa5 n5 pc5] 24) = wA at *
  have HS := Lib.hid (fun W (hW : Below wA.heap.size wA W) => (show Below wA.heap.size wA W ∧ W.cell? ⟨G5, 0, none⟩ = some (.slice pa5 n5 pc5) from ⟨hW, (HK5.out.of_eq (hW.block _ HK5.out.lt)).cell 0 _ rfl⟩))
  have HD0 := Lib.hid (Below.refl wA.heap.size wA).drew
  have HU := Lib.hid (fun W (hW : Below wA.heap.size wA W) => belowStep hW HB.out)
  have HXU := Lib.hid (fun W (hW : Below wA.heap.size wA W) => HBX.out.of_eq (hW.block _ HBX.out.lt))
  have HQ5 := Lib.hid (fun (W0 W : World) (z : Value) (hW : Below wA.heap.size wA W) (hz : KV W (From W0.heap.size W) (K.arity m) z) => requal_any _ _ _ _ W _ _ (HKV5.out _ hW).1 (fun b h => h.2) (HKV5.out _ hW).2 hz)
  rw [HVA.out, eqv_self, Bool.and_true, Bool.and_true] at HQ5
  clear c5
  go_region_held3 (fun W => Below wA.heap.size wA W ∧ W.cell? ⟨G5, 0, none⟩ = some (.slice pa5 n5 pc5))
    (first | exact HS.out _ HD0.out | exact HS.out _ (by assumption))
    (first
    | (go_at_call 22; (with_reducible refine (HRI.out _).mono ?_); rintro e wn ⟨⟨y2, rfl, hy2⟩, hbn⟩; have hbn2 := belowStep (a := wA) hbn (by first | assumption | exact HD0.out | exact And.left (by assumption)))
    | (go_at_call 15; (with_reducible refine (HQ5.out _ _ _ (by first | assumption | exact HD0.out | exact And.left (by assumption)) (by assumption)).mono ?_); rintro e wm ⟨rfl, hbm⟩; have hbm2 := belowStep (a := wA) hbm (by first | assumption | exact HD0.out | exact And.left (by assumption))))
  replace HB := Lib.hid (HU.out _ (by assumption))
  replace HBX := Lib.hid (HXU.out _ (by assumption))
  clear HU HXU HS HQ5
  have c0 := HBX.out.cell 0 (.slice a2 n2 c2) rfl
  go_wp2_with fail
  by_cases hvt : K.valid to = true
  · have HPV := Lib.hid hvt
    have HPG := Lib.hid (fun W (hW : Below w.heap.size w W) => (show Calls Try.prog 23 #[.agg #[.slice a2 n2 c2]] W fun e w' => (∃ y, e = .returned (.tuple #[y, .agg #[.slice none 0 0], .int .i64 0]) ∧ KSl w' (Ext Q W w') y (K.parts to)) ∧ Below W.heap.size W w' from by
      have h := HPA.out W hW
      rw [if_pos hvt, if_pos hvt] at h
      exact h))
    rw [hvt] at HVT
    refine (HPG.out _ HB.out).mono ?_
    rintro e wp ⟨⟨y, rfl, hy⟩, hbp⟩
    obtain ⟨pa6, pc6, rfl, -, -, -⟩ := hy.each
    have hext6 : ∀ b, Ext Q _ wp b → b < wp.heap.size := Ext.lt (HQ.out.up HB.out) hbp
    replace HBX := Lib.hid (HBX.out.of_eq (hbp.block _ HBX.out.lt))
    replace HB := Lib.hid (belowStep hbp HB.out)
    have hbx6 : Below wp.heap.size wp (wp.alloc (.cells #[.slice none 0 0] 24)) := (Below.refl _ _).alloc (Nat.le_refl _) _
    have hk6 : Blk (wp.alloc (.cells #[.slice none 0 0] 24)) wp.heap.size 24 #[.slice none 0 0] := blk_new wp #[.slice none 0 0] 24
    have hks6 : KSl (wp.alloc (.cells #[.slice none 0 0] 24)) (fun b => b < wp.heap.size) (.slice pa6 (K.parts to).length pc6) (K.parts to) := (hy.mono hext6).keep (Same.of_below hbx6 (fun b h => h))
    have hlow6 : Low (wp.alloc (.cells #[.slice none 0 0] 24)) (fun b => b < wp.heap.size) := fun b h => Nat.lt_of_lt_of_le h hbx6.size
    replace HBX := Lib.hid (HBX.out.of_eq (hbx6.block _ HBX.out.lt))
    replace HB := Lib.hid (belowStep hbx6 HB.out)
    have HSL6 := Lib.hid (fun W (hW : Below (wp.alloc (.cells #[.slice none 0 0] 24)).heap.size (wp.alloc (.cells #[.slice none 0 0] 24)) W) => And.intro (hlow6.up hW) (hks6.keep (Same.of_below hW hlow6)))
    have HW6 := Lib.hid (Below.refl (wp.alloc (.cells #[.slice none 0 0] 24)).heap.size (wp.alloc (.cells #[.slice none 0 0] 24)))
    have HK6 := Lib.hid hk6
    clear hy hext6 hbp hbx6 hk6 hks6 hlow6 c0 HPG hvt
    generalize (K.parts to).length = n6 at *
    generalize hG : wp.heap.size = G6 at *
    have c0 := HBX.out.cell 0 (.slice a2 n2 c2) rfl
    go_wp2_with fail
    clear hG
    generalize wp.alloc (.cells #[.slice none 0 0] 24) = wq at *
    refine (HVT.out _ HB.out).mono ?_
    rintro e wr ⟨rfl, hbr⟩
    replace HBX := Lib.hid (HBX.out.of_eq (hbr.block _ HBX.out.lt))
    replace HB := Lib.hid (belowStep hbr HB.out)
    replace HW6 := Lib.hid (belowStep hbr HW6.out)
    replace HK6 := Lib.hid (HK6.out.of_eq (hbr.block _ HK6.out.lt))
    clear hbr c0
    have c0 := HBX.out.cell 0 (.slice a2 n2 c2) rfl
    have c6 := HK6.out.cell 0 (.slice none 0 0) rfl
    go_wp2_with fail
    refine (none8_any (fun _ => False) (.mk []) _ _ (kV_none _ _)).mono ?_
    rintro e ws ⟨rfl, hbs⟩
    replace HBX := Lib.hid (HBX.out.of_eq (hbs.block _ HBX.out.lt))
    replace HB := Lib.hid (belowStep hbs HB.out)
    replace HW6 := Lib.hid (belowStep hbs HW6.out)
    clear hbs c0 c6
    have c0 := HBX.out.cell 0 (.slice a2 n2 c2) rfl
    go_wp2_with fail
    refine (HRP.out _ HB.out).mono ?_
    rintro e wt ⟨⟨y2, rfl, hy2⟩, hbt⟩
    have hext7 : ∀ b, Ext Q _ wt b → b < wt.heap.size := Ext.lt (HQ.out.up HB.out) hbt
    replace HW6 := Lib.hid (belowStep hbt HW6.out)
    replace HBX := Lib.hid (HBX.out.of_eq (hbt.block _ HBX.out.lt))
    replace HB := Lib.hid (belowStep hbt HB.out)
    have HEF := Lib.hid (eqFunc8_any 15 _ (fun _ _ => rfl) (fun P Q t u W v x h1 h2 h3 h4 => requal_any P Q t u W v x h1 h2 h3 h4) _ _ _ _ wt _ y2 (HSL6.out _ HW6.out).1 hext7 (HSL6.out _ HW6.out).2 hy2)
    rw [all_parts to HPV.out] at HEF
    obtain ⟨pa7, pc7, rfl, -, -, -⟩ := hy2.each
    clear hy2 hext7 hbt c0
    generalize (K.parts to).length = n7 at *
    go_wp2_with fail
    refine HEF.out.mono ?_
    rintro e wu ⟨rfl, hbu⟩
    replace HB := Lib.hid (belowStep hbu HB.out)
    clear hbu
    go_wp2
    go_ret
    exact ⟨rfl, HB.out⟩
  · skip
    have HPG := Lib.hid (fun W (hW : Below w.heap.size w W) => (show Calls Try.prog 23 #[.agg #[.slice a2 n2 c2]] W fun e w' => (∃ y, e = .returned (.tuple #[y, .agg #[.slice none 0 0], .int .i64 1]) ∧ KSl w' (Ext Q W w') y []) ∧ Below W.heap.size W w' from by
      have h := HPA.out W hW
      rw [if_neg hvt, if_neg hvt] at h
      exact h))
    have hvf : K.valid to = false := by
      cases h : K.valid to
      · rfl
      · exact absurd h hvt
    rw [hvf] at HVT
    refine (HPG.out _ HB.out).mono ?_
    rintro e wp ⟨⟨y, rfl, hy⟩, hbp⟩
    obtain ⟨pa6, pc6, hyf, -, -, -⟩ := hy.each
    have hyf : y = .slice pa6 0 pc6 := hyf
    subst hyf
    replace HBX := Lib.hid (HBX.out.of_eq (hbp.block _ HBX.out.lt))
    replace HB := Lib.hid (belowStep hbp HB.out)
    have hbx6 : Below wp.heap.size wp (wp.alloc (.cells #[.slice none 0 0] 24)) := (Below.refl _ _).alloc (Nat.le_refl _) _
    have hk6 : Blk (wp.alloc (.cells #[.slice none 0 0] 24)) wp.heap.size 24 #[.slice none 0 0] := blk_new wp #[.slice none 0 0] 24
    replace HBX := Lib.hid (HBX.out.of_eq (hbx6.block _ HBX.out.lt))
    replace HB := Lib.hid (belowStep hbx6 HB.out)
    have HK6 := Lib.hid hk6
    clear hy hbp hbx6 hk6 c0 HPG hvt hvf
    generalize hG : wp.heap.size = G6 at *
    have c0 := HBX.out.cell 0 (.slice a2 n2 c2) rfl
    go_wp2_with fail
    clear hG
    generalize wp.alloc (.cells #[.slice none 0 0] 24) = wq at *
    refine (HVT.out _ HB.out).mono ?_
    rintro e wr ⟨rfl, hbr⟩
    replace HBX := Lib.hid (HBX.out.of_eq (hbr.block _ HBX.out.lt))
    replace HB := Lib.hid (belowStep hbr HB.out)
    replace HK6 := Lib.hid (HK6.out.of_eq (hbr.block _ HK6.out.lt))
    clear hbr c0
    have c6 := HK6.out.cell 0 (.slice none 0 0) rfl
    go_wp2_with fail
    refine (none8_any (fun _ => False) (.mk []) _ _ (kV_none _ _)).mono ?_
    rintro e ws ⟨rfl, hbs⟩
    replace HB := Lib.hid (belowStep hbs HB.out)
    clear hbs c6
    go_wp2
    go_ret
    exact ⟨rfl, HB.out⟩
end Go.Proofs.Ythamhgnhdjahgaa
