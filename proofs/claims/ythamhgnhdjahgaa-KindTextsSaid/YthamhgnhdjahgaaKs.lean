/-
  Layer 8: the law KindTexts over what the program's functions answer.
-/
import Derived.Test.YthamhgnhdjahgaaKq
namespace Go.Proofs.Ythamhgnhdjahgaa
open Go Go.RowKit
open Pl (K)
set_option linter.unusedSimpArgs false

set_option maxRecDepth 100000 in
set_option maxHeartbeats 4000000 in
theorem texts_walk (C : Code8) (A : Awake8) (P : Nat → Prop) (t : K) (s : ByteArray) (w : World) (v : Value) (hP : Low w P) (ht : KV w P t v) :
    Calls Try.prog 6 #[v, .string s] w (Says (.bool true) w) := by
  have HA := Lib.hid A
  have HBT := Lib.hid (fun W (hW : Below w.heap.size w W) => big_any P t W v (hP.up hW) (ht.below hP hW))
  have HTX := Lib.hid (fun W (hW : Below w.heap.size w W) => C.text P t W v (hP.up hW) (ht.below hP hW))
  have HVT := Lib.hid (fun W (hW : Below w.heap.size w W) => rvalid_any P t W v (hP.up hW) (ht.below hP hW))
  have HP := Lib.hid hP
  have HKT := Lib.hid ht
  obtain ⟨a, c, rfl⟩ := ht.form
  clear ht hP
  generalize hn : t.l.length = n at *
  obtain ⟨hbx, hb⟩ := box_new w 24 (.slice a n c)
  obtain ⟨B, hB⟩ : ∃ B, B = w.heap.size := ⟨_, rfl⟩
  rw [← hB] at hbx
  have HBX := Lib.hid hbx
  have HB := Lib.hid hb
  clear hbx hb hn
  go_enter Try.func6, Try.ntmps6
  go_wp2_with fail
  rw [← hB]
  clear hB
  generalize w.alloc (.cells #[.slice a n c] 24) = w0 at *
  refine (HA.out _).mono ?_
  rintro e w1 ⟨rfl, hb1⟩
  replace HB := Lib.hid (belowStep hb1 HB.out)
  replace HBX := Lib.hid (HBX.out.of_eq (hb1.block _ HBX.out.lt))
  have c0 := HBX.out.cell 0 (.slice a n c) rfl
  clear hb1
  go_wp2_with fail
  refine (HBT.out _ HB.out).mono ?_
  rintro e w2 ⟨⟨r, rfl, hr⟩, hb2⟩
  replace HB := Lib.hid (belowStep hb2 HB.out)
  replace HBX := Lib.hid (HBX.out.of_eq (hb2.block _ HBX.out.lt))
  have HR := Lib.hid hr
  clear hb2 c0 hr
  cases r
  rotate_left
  · go_wp2
    go_ret
    exact ⟨rfl, HB.out⟩
  obtain ⟨hsz, hdp⟩ := HR.out rfl
  clear HR
  by_cases s1 : 2000 < s.size
  rotate_left
  · have q1 : decide ((2000 : Int) < (s.size : Int)) = false := decide_eq_false (by omega)
    have q3 : decide ((20000 : Int) < (s.size : Int)) = false := decide_eq_false (by omega)
    have q4 : decide ((16384 : Int) < (s.size : Int)) = false := decide_eq_false (by omega)
    have HPS := Lib.hid (fun W => C.parse s W (by omega))
    have HRP := Lib.hid (fun W => rparseT_any s W (by omega))
    have hcs : ∃ u ec, K.valid u = true ∧ kparseOut s.toList = (u, ec) ∧ parseOut s.toList = (u, ec) := by
      have e : kparseOut s.toList = parseOut s.toList := if_neg (by rw [Pl.len_size]; omega)
      rw [e]
      rcases parseOut_cases s.toList with ⟨t', v1, v2, v3⟩ | ⟨-, v3⟩
      · exact ⟨t', 0, v1, v3, v3⟩
      · exact ⟨.mk [], 3, by decide +kernel, v3, v3⟩
    obtain ⟨u, ec, vu, ku, pu⟩ := hcs
    have HK := Lib.hid ku
    have HPK := Lib.hid pu
    have HVU := Lib.hid vu
    clear ku pu vu s1
    have c0 := HBX.out.cell 0 (.slice a n c) rfl
    go_wp2_with fail
    refine (HTX.out _ HB.out).mono ?_
    rintro e w3 ⟨rfl, hb3⟩
    replace HB := Lib.hid (belowStep hb3 HB.out)
    replace HBX := Lib.hid (HBX.out.of_eq (hb3.block _ HBX.out.lt))
    clear hb3 c0
    have c0 := HBX.out.cell 0 (.slice a n c) rfl
    by_cases hv : K.valid t = true
    · have htl := K.text_len t ((K.valid_iff t).1 hv).1
      have hto : K.textOut t = (K.text t, 0) := by
        unfold K.textOut
        rw [if_pos hv, if_pos (by omega)]
      rw [hto]
      have HRT := Lib.hid (fun W (hW : Below w.heap.size w W) => rtext_any P t W (.agg #[.slice a n c]) (HP.out.up hW) (HKT.out.below HP.out hW) ((K.valid_iff t).1 hv).1 (by omega))
      rw [hv] at HVT
      clear htl hto
      generalize mkB (K.text t) = bt at *
      have qbt : (bt.toList == bt.toList) = true := beq_self_eq_true _
      go_wp2_with fail
      refine (HVT.out _ HB.out).mono ?_
      rintro e w4 ⟨rfl, hb4⟩
      replace HB := Lib.hid (belowStep hb4 HB.out)
      replace HBX := Lib.hid (HBX.out.of_eq (hb4.block _ HBX.out.lt))
      clear hb4 c0
      have c0 := HBX.out.cell 0 (.slice a n c) rfl
      go_wp2_with fail
      refine (HRT.out _ HB.out).mono ?_
      rintro e w5 ⟨rfl, hb5⟩
      replace HB := Lib.hid (belowStep hb5 HB.out)
      clear hb5 c0 hv
      go_wp2_with fail
      refine (HPS.out _).mono ?_
      rintro e wp ⟨⟨y, rfl, hy⟩, hbp⟩
      rw [HK.out] at hy ⊢
      obtain ⟨pa, pc, rfl⟩ := hy.form
      replace HB := Lib.hid (belowStep hbp HB.out)
      have hb9 : Below wp.heap.size wp (wp.alloc (.cells #[.slice pa u.l.length pc] 24)) := (Below.refl _ _).alloc (Nat.le_refl _) _
      have hk9 : Blk (wp.alloc (.cells #[.slice pa u.l.length pc] 24)) wp.heap.size 24 #[.slice pa u.l.length pc] := blk_new wp #[.slice pa u.l.length pc] 24
      have hkv : KV (wp.alloc (.cells #[.slice pa u.l.length pc] 24)) (fun b => b < wp.heap.size) u (.agg #[.slice pa u.l.length pc]) := (hy.mono (Q := fun b => b < wp.heap.size) (fun b h => by
        rcases h with h | h
        · exact h.elim
        · exact h.2)).below (fun b h => h) hb9
      have hlow : Low (wp.alloc (.cells #[.slice pa u.l.length pc] 24)) (fun b => b < wp.heap.size) := fun b h => Nat.lt_of_lt_of_le h hb9.size
      replace HB := Lib.hid (belowStep hb9 HB.out)
      have HEQ := Lib.hid (fun (Q : Nat → Prop) W (x : Value) (hQ : Low W Q) (hW : Below (wp.alloc (.cells #[.slice pa u.l.length pc] 24)).heap.size (wp.alloc (.cells #[.slice pa u.l.length pc] 24)) W) (hx : KV W Q u x) => requal_any _ Q u u W _ x (hlow.up hW) hQ (hkv.below hlow hW) hx)
      rw [HVU.out, eqv_self, Bool.and_true, Bool.and_true] at HEQ
      have HK9 := Lib.hid hk9
      clear hy hbp hb9 hk9 hkv hlow
      generalize u.l.length = n9 at *
      generalize hG : wp.heap.size = G at *
      go_wp2_with fail
      clear hG
      generalize wp.alloc (.cells #[.slice pa n9 pc] 24) = wq at *
      refine (HRP.out _).mono ?_
      rintro e wr ⟨⟨y2, rfl, hy2⟩, hbr⟩
      rw [HPK.out] at hy2 ⊢
      obtain ⟨pa2, pc2, rfl⟩ := hy2.form
      have hbX : Below wr.heap.size wr (wr.alloc (.cells #[.slice pa2 u.l.length pc2] 24)) := (Below.refl _ _).alloc (Nat.le_refl _) _
      have hkX : Blk (wr.alloc (.cells #[.slice pa2 u.l.length pc2] 24)) wr.heap.size 24 #[.slice pa2 u.l.length pc2] := blk_new wr #[.slice pa2 u.l.length pc2] 24
      have hkv2 : KV (wr.alloc (.cells #[.slice pa2 u.l.length pc2] 24)) (fun b => b < wr.heap.size) u (.agg #[.slice pa2 u.l.length pc2]) := (hy2.mono (Q := fun b => b < wr.heap.size) (fun b h => h.2)).below (fun b h => h) hbX
      have hlow2 : Low (wr.alloc (.cells #[.slice pa2 u.l.length pc2] 24)) (fun b => b < wr.heap.size) := fun b h => Nat.lt_of_lt_of_le h hbX.size
      have hbq := belowStep hbX hbr
      replace HB := Lib.hid (belowStep hbq HB.out)
      have HE2 := Lib.hid (HEQ.out _ _ _ hlow2 hbq hkv2)
      have hK10 := HK9.out.of_eq (hbq.block _ HK9.out.lt)
      have c9 := hK10.cell 0 (.slice pa n9 pc) rfl
      have c10 := hkX.cell 0 (.slice pa2 u.l.length pc2) rfl
      clear hy2 hbr hbX hkX hkv2 hlow2 hbq hK10 HEQ
      generalize u.l.length = n10 at *
      generalize hG : wr.heap.size = G2 at *
      have qec : (ec == ec) = true := beq_self_eq_true _
      go_wp2_with fail
      clear hG
      generalize wr.alloc (.cells #[.slice pa2 n10 pc2] 24) = wt at *
      refine HE2.out.mono ?_
      rintro e wu ⟨rfl, hbu⟩
      replace HB := Lib.hid (belowStep hbu HB.out)
      clear hbu c9 c10
      go_wp2
      go_ret
      exact ⟨rfl, HB.out⟩
    · have hto : K.textOut t = ([], 1) := by
        unfold K.textOut
        rw [if_neg hv]
      have hvf : K.valid t = false := by
        cases h : K.valid t
        · rfl
        · exact absurd h hv
      rw [hto]
      rw [hvf] at HVT
      clear hto hvf hv
      have qnb : ((mkB []).toList == ([] : List UInt8)) = true := by
        rw [show (mkB []).toList = [] from Pl.mk_toList []]
        rfl
      go_wp2_with fail
      refine (HVT.out _ HB.out).mono ?_
      rintro e w4 ⟨rfl, hb4⟩
      replace HB := Lib.hid (belowStep hb4 HB.out)
      clear hb4 c0
      go_wp2_with fail
      refine (HPS.out _).mono ?_
      rintro e wp ⟨⟨y, rfl, hy⟩, hbp⟩
      rw [HK.out] at hy ⊢
      obtain ⟨pa, pc, rfl⟩ := hy.form
      replace HB := Lib.hid (belowStep hbp HB.out)
      have hb9 : Below wp.heap.size wp (wp.alloc (.cells #[.slice pa u.l.length pc] 24)) := (Below.refl _ _).alloc (Nat.le_refl _) _
      have hk9 : Blk (wp.alloc (.cells #[.slice pa u.l.length pc] 24)) wp.heap.size 24 #[.slice pa u.l.length pc] := blk_new wp #[.slice pa u.l.length pc] 24
      have hkv : KV (wp.alloc (.cells #[.slice pa u.l.length pc] 24)) (fun b => b < wp.heap.size) u (.agg #[.slice pa u.l.length pc]) := (hy.mono (Q := fun b => b < wp.heap.size) (fun b h => by
        rcases h with h | h
        · exact h.elim
        · exact h.2)).below (fun b h => h) hb9
      have hlow : Low (wp.alloc (.cells #[.slice pa u.l.length pc] 24)) (fun b => b < wp.heap.size) := fun b h => Nat.lt_of_lt_of_le h hb9.size
      replace HB := Lib.hid (belowStep hb9 HB.out)
      have HEQ := Lib.hid (fun (Q : Nat → Prop) W (x : Value) (hQ : Low W Q) (hW : Below (wp.alloc (.cells #[.slice pa u.l.length pc] 24)).heap.size (wp.alloc (.cells #[.slice pa u.l.length pc] 24)) W) (hx : KV W Q u x) => requal_any _ Q u u W _ x (hlow.up hW) hQ (hkv.below hlow hW) hx)
      rw [HVU.out, eqv_self, Bool.and_true, Bool.and_true] at HEQ
      have HK9 := Lib.hid hk9
      clear hy hbp hb9 hk9 hkv hlow
      generalize u.l.length = n9 at *
      generalize hG : wp.heap.size = G at *
      go_wp2_with fail
      clear hG
      generalize wp.alloc (.cells #[.slice pa n9 pc] 24) = wq at *
      refine (HRP.out _).mono ?_
      rintro e wr ⟨⟨y2, rfl, hy2⟩, hbr⟩
      rw [HPK.out] at hy2 ⊢
      obtain ⟨pa2, pc2, rfl⟩ := hy2.form
      have hbX : Below wr.heap.size wr (wr.alloc (.cells #[.slice pa2 u.l.length pc2] 24)) := (Below.refl _ _).alloc (Nat.le_refl _) _
      have hkX : Blk (wr.alloc (.cells #[.slice pa2 u.l.length pc2] 24)) wr.heap.size 24 #[.slice pa2 u.l.length pc2] := blk_new wr #[.slice pa2 u.l.length pc2] 24
      have hkv2 : KV (wr.alloc (.cells #[.slice pa2 u.l.length pc2] 24)) (fun b => b < wr.heap.size) u (.agg #[.slice pa2 u.l.length pc2]) := (hy2.mono (Q := fun b => b < wr.heap.size) (fun b h => h.2)).below (fun b h => h) hbX
      have hlow2 : Low (wr.alloc (.cells #[.slice pa2 u.l.length pc2] 24)) (fun b => b < wr.heap.size) := fun b h => Nat.lt_of_lt_of_le h hbX.size
      have hbq := belowStep hbX hbr
      replace HB := Lib.hid (belowStep hbq HB.out)
      have HE2 := Lib.hid (HEQ.out _ _ _ hlow2 hbq hkv2)
      have hK10 := HK9.out.of_eq (hbq.block _ HK9.out.lt)
      have c9 := hK10.cell 0 (.slice pa n9 pc) rfl
      have c10 := hkX.cell 0 (.slice pa2 u.l.length pc2) rfl
      clear hy2 hbr hbX hkX hkv2 hlow2 hbq hK10 HEQ
      generalize u.l.length = n10 at *
      generalize hG : wr.heap.size = G2 at *
      have qec : (ec == ec) = true := beq_self_eq_true _
      go_wp2_with fail
      clear hG
      generalize wr.alloc (.cells #[.slice pa2 n10 pc2] 24) = wt at *
      refine HE2.out.mono ?_
      rintro e wu ⟨rfl, hbu⟩
      replace HB := Lib.hid (belowStep hbu HB.out)
      clear hbu c9 c10
      go_wp2
      go_ret
      exact ⟨rfl, HB.out⟩
  by_cases s2 : s.size ≤ 16384
  · have q1 : decide ((2000 : Int) < (s.size : Int)) = true := decide_eq_true (by omega)
    have q2 : decide ((s.size : Int) ≤ (16384 : Int)) = true := decide_eq_true (by omega)
    go_wp2
    go_ret
    exact ⟨rfl, HB.out⟩
  have q1 : decide ((2000 : Int) < (s.size : Int)) = true := decide_eq_true (by omega)
  have q2 : decide ((s.size : Int) ≤ (16384 : Int)) = false := decide_eq_false (by omega)
  by_cases s3 : 20000 < s.size
  · have q3 : decide ((20000 : Int) < (s.size : Int)) = true := decide_eq_true (by omega)
    go_wp2
    go_ret
    exact ⟨rfl, HB.out⟩
  have q3 : decide ((20000 : Int) < (s.size : Int)) = false := decide_eq_false (by omega)
  have q4 : decide ((16384 : Int) < (s.size : Int)) = true := decide_eq_true (by omega)
  have HPS := Lib.hid (fun W => C.parse s W (by omega))
  have HK := Lib.hid (show kparseOut s.toList = (.mk [], 5) from if_pos (by rw [Pl.len_size]; omega))
  clear s1 s2 s3
  have c0 := HBX.out.cell 0 (.slice a n c) rfl
  go_wp2_with fail
  refine (HTX.out _ HB.out).mono ?_
  rintro e w3 ⟨rfl, hb3⟩
  replace HB := Lib.hid (belowStep hb3 HB.out)
  replace HBX := Lib.hid (HBX.out.of_eq (hb3.block _ HBX.out.lt))
  clear hb3 c0
  have c0 := HBX.out.cell 0 (.slice a n c) rfl
  by_cases hv : K.valid t = true
  · have htl := K.text_len t ((K.valid_iff t).1 hv).1
    have hto : K.textOut t = (K.text t, 0) := by
      unfold K.textOut
      rw [if_pos hv, if_pos (by omega)]
    rw [hto]
    have HRT := Lib.hid (fun W (hW : Below w.heap.size w W) => rtext_any P t W (.agg #[.slice a n c]) (HP.out.up hW) (HKT.out.below HP.out hW) ((K.valid_iff t).1 hv).1 (by omega))
    rw [hv] at HVT
    clear htl hto
    generalize mkB (K.text t) = bt at *
    have qbt : (bt.toList == bt.toList) = true := beq_self_eq_true _
    go_wp2_with fail
    refine (HVT.out _ HB.out).mono ?_
    rintro e w4 ⟨rfl, hb4⟩
    replace HB := Lib.hid (belowStep hb4 HB.out)
    replace HBX := Lib.hid (HBX.out.of_eq (hb4.block _ HBX.out.lt))
    clear hb4 c0
    have c0 := HBX.out.cell 0 (.slice a n c) rfl
    go_wp2_with fail
    refine (HRT.out _ HB.out).mono ?_
    rintro e w5 ⟨rfl, hb5⟩
    replace HB := Lib.hid (belowStep hb5 HB.out)
    clear hb5 c0 hv
    go_wp2_with fail
    refine (HPS.out _).mono ?_
    rintro e wp ⟨⟨y, rfl, hy⟩, hbp⟩
    rw [HK.out] at hy ⊢
    obtain ⟨pa, pc, rfl⟩ := hy.form
    replace HB := Lib.hid (belowStep hbp HB.out)
    have hb9 : Below wp.heap.size wp (wp.alloc (.cells #[.slice pa 0 pc] 24)) := (Below.refl _ _).alloc (Nat.le_refl _) _
    have hk9 : Blk (wp.alloc (.cells #[.slice pa 0 pc] 24)) wp.heap.size 24 #[.slice pa 0 pc] := blk_new wp #[.slice pa 0 pc] 24
    have hkv : KV (wp.alloc (.cells #[.slice pa 0 pc] 24)) (fun b => b < wp.heap.size) (.mk []) (.agg #[.slice pa 0 pc]) := (hy.mono (Q := fun b => b < wp.heap.size) (fun b h => by
      rcases h with h | h
      · exact h.elim
      · exact h.2)).below (fun b h => h) hb9
    replace HB := Lib.hid (belowStep hb9 HB.out)
    have HNN := Lib.hid (none8_any _ _ _ _ hkv)
    have c9 := hk9.cell 0 (.slice pa 0 pc) rfl
    clear hy hbp hb9 hk9 hkv
    generalize hG : wp.heap.size = G at *
    go_wp2_with fail
    rw [show (K.mk []).l.length = 0 from rfl]
    clear hG
    generalize wp.alloc (.cells #[.slice pa 0 pc] 24) = wq at *
    refine HNN.out.mono ?_
    rintro e wr ⟨rfl, hbr⟩
    replace HB := Lib.hid (belowStep hbr HB.out)
    clear hbr c9
    go_wp2
    go_ret
    exact ⟨rfl, HB.out⟩
  · have hto : K.textOut t = ([], 1) := by
      unfold K.textOut
      rw [if_neg hv]
    have hvf : K.valid t = false := by
      cases h : K.valid t
      · rfl
      · exact absurd h hv
    rw [hto]
    rw [hvf] at HVT
    clear hto hvf hv
    have qnb : ((mkB []).toList == ([] : List UInt8)) = true := by
      rw [show (mkB []).toList = [] from Pl.mk_toList []]
      rfl
    go_wp2_with fail
    refine (HVT.out _ HB.out).mono ?_
    rintro e w4 ⟨rfl, hb4⟩
    replace HB := Lib.hid (belowStep hb4 HB.out)
    clear hb4 c0
    go_wp2_with fail
    refine (HPS.out _).mono ?_
    rintro e wp ⟨⟨y, rfl, hy⟩, hbp⟩
    rw [HK.out] at hy ⊢
    obtain ⟨pa, pc, rfl⟩ := hy.form
    replace HB := Lib.hid (belowStep hbp HB.out)
    have hb9 : Below wp.heap.size wp (wp.alloc (.cells #[.slice pa 0 pc] 24)) := (Below.refl _ _).alloc (Nat.le_refl _) _
    have hk9 : Blk (wp.alloc (.cells #[.slice pa 0 pc] 24)) wp.heap.size 24 #[.slice pa 0 pc] := blk_new wp #[.slice pa 0 pc] 24
    have hkv : KV (wp.alloc (.cells #[.slice pa 0 pc] 24)) (fun b => b < wp.heap.size) (.mk []) (.agg #[.slice pa 0 pc]) := (hy.mono (Q := fun b => b < wp.heap.size) (fun b h => by
      rcases h with h | h
      · exact h.elim
      · exact h.2)).below (fun b h => h) hb9
    replace HB := Lib.hid (belowStep hb9 HB.out)
    have HNN := Lib.hid (none8_any _ _ _ _ hkv)
    have c9 := hk9.cell 0 (.slice pa 0 pc) rfl
    clear hy hbp hb9 hk9 hkv
    generalize hG : wp.heap.size = G at *
    go_wp2_with fail
    rw [show (K.mk []).l.length = 0 from rfl]
    clear hG
    generalize wp.alloc (.cells #[.slice pa 0 pc] 24) = wq at *
    refine HNN.out.mono ?_
    rintro e wr ⟨rfl, hbr⟩
    replace HB := Lib.hid (belowStep hbr HB.out)
    clear hbr c9
    go_wp2
    go_ret
    exact ⟨rfl, HB.out⟩
end Go.Proofs.Ythamhgnhdjahgaa
