/-
  Layer 8: the law KindBack over what the program's functions answer.
-/
import Derived.Test.YthamhgnhdjahgaaKq
namespace Go.Proofs.Ythamhgnhdjahgaa
open Go Go.RowKit
open Pl (K)
set_option linter.unusedSimpArgs false

set_option maxRecDepth 100000 in
set_option maxHeartbeats 2000000 in
theorem back_walk (C : Code8) (A : Awake8) (P : Nat → Prop) (t : K) (s : ByteArray) (w : World) (v : Value) (hP : Low w P) (ht : KV w P t v) :
    Calls Try.prog 7 #[v, .string s] w (Says (.bool true) w) := by
  have HA := Lib.hid A
  have HBT := Lib.hid (fun W (hW : Below w.heap.size w W) => big_any P t W v (hP.up hW) (ht.below hP hW))
  have HTX := Lib.hid (fun W (hW : Below w.heap.size w W) => C.text P t W v (hP.up hW) (ht.below hP hW))
  have HP := Lib.hid hP
  have HKT := Lib.hid ht
  obtain ⟨a, c, rfl⟩ := ht.form
  clear ht hP
  generalize hn : t.l.length = n at *
  obtain ⟨hbx, hb⟩ := box_new w 24 (.slice a n c)
  obtain ⟨B, hB⟩ : ∃ B, B = w.heap.size := ⟨_, rfl⟩
  rw [← hB] at hbx
  have HBX := Lib.hid hbx
  have HB := Lib.hid hb
  clear hbx hb hn
  go_enter Try.func7, Try.ntmps7
  go_wp2_with fail
  rw [← hB]
  clear hB
  generalize w.alloc (.cells #[.slice a n c] 24) = w0 at *
  refine (HA.out _).mono ?_
  rintro e w1 ⟨rfl, hb1⟩
  replace HB := Lib.hid (belowStep hb1 HB.out)
  replace HBX := Lib.hid (HBX.out.of_eq (hb1.block _ HBX.out.lt))
  have c0 := HBX.out.cell 0 (.slice a n c) rfl
  clear hb1
  go_wp2_with fail
  refine (HBT.out _ HB.out).mono ?_
  rintro e w2 ⟨⟨r, rfl, hr⟩, hb2⟩
  replace HB := Lib.hid (belowStep hb2 HB.out)
  replace HBX := Lib.hid (HBX.out.of_eq (hb2.block _ HBX.out.lt))
  have HR := Lib.hid hr
  clear hb2 c0 hr
  cases r
  rotate_left
  · go_wp2
    go_ret
    exact ⟨rfl, HB.out⟩
  by_cases hs : 2000 < s.size
  · have q1 : decide ((2000 : Int) < (s.size : Int)) = true := decide_eq_true (by omega)
    go_wp2
    go_ret
    exact ⟨rfl, HB.out⟩
  have q1 : decide ((2000 : Int) < (s.size : Int)) = false := decide_eq_false (by omega)
  obtain ⟨hsz, hdp⟩ := HR.out rfl
  have HPS := Lib.hid (fun W => C.parse s W (by omega))
  have HCS := Lib.hid (show (∃ t', K.valid t' = true ∧ K.text t' = s.toList ∧ kparseOut s.toList = (t', 0)) ∨ kparseOut s.toList = (.mk [], 3) from by
    have e : kparseOut s.toList = parseOut s.toList := if_neg (by rw [Pl.len_size]; omega)
    rw [e]
    rcases parseOut_cases s.toList with ⟨t', v1, v2, v3⟩ | ⟨-, v3⟩
    · exact .inl ⟨t', v1, v2, v3⟩
    · exact .inr v3)
  have c0 := HBX.out.cell 0 (.slice a n c) rfl
  go_wp2_with fail
  refine (HTX.out _ HB.out).mono ?_
  rintro e w3 ⟨rfl, hb3⟩
  replace HB := Lib.hid (belowStep hb3 HB.out)
  replace HBX := Lib.hid (HBX.out.of_eq (hb3.block _ HBX.out.lt))
  clear hb3 c0
  by_cases hv : K.valid t = true
  · have htl := K.text_len t ((K.valid_iff t).1 hv).1
    have hto : K.textOut t = (K.text t, 0) := by
      unfold K.textOut
      rw [if_pos hv, if_pos (by omega)]
    have hpt : kparseOut (mkB (K.text t)).toList = (t, 0) := by
      have e : (mkB (K.text t)).toList = K.text t := Pl.mk_toList _
      rw [e]
      unfold kparseOut
      rw [if_neg (by omega), parseOut_text t hv]
    have HPT := Lib.hid (fun W => C.parse (mkB (K.text t)) W (by rw [mkB_size]; omega))
    rw [hpt] at HPT
    rw [hto]
    have HEQ := Lib.hid (fun (Q : Nat → Prop) W (x y : Value) (hQ : Low W Q) (hW : Below w.heap.size w W) (hx : KV W Q t x) (hy : KV W P t y) => requal_any Q P t t W x y hQ (HP.out.up hW) hx hy)
    rw [hv, eqv_self, Bool.and_true, Bool.and_true] at HEQ
    have HKW := Lib.hid (fun W (hW : Below w.heap.size w W) => HKT.out.below HP.out hW)
    clear htl hto hpt
    go_wp2_with fail
    refine (HPT.out _).mono ?_
    rintro e w4 ⟨⟨y, rfl, hy⟩, hb4⟩
    obtain ⟨xa, xc, rfl⟩ := hy.form
    replace HB := Lib.hid (belowStep hb4 HB.out)
    have hbA : Below w4.heap.size w4 (w4.alloc (.cells #[.slice xa t.l.length xc] 24)) := (Below.refl _ _).alloc (Nat.le_refl _) _
    have hkA := blk_new w4 #[.slice xa t.l.length xc] 24
    have hkx := (hy.mono (Q := fun b => b < w4.heap.size) (fun b h => by
      rcases h with h | h
      · exact h.elim
      · exact h.2)).below (fun b h => h) hbA
    have hlowA : Low (w4.alloc (.cells #[.slice xa t.l.length xc] 24)) (fun b => b < w4.heap.size) := fun b h => Nat.lt_of_lt_of_le h hbA.size
    replace HB := Lib.hid (belowStep hbA HB.out)
    replace HBX := Lib.hid ((HBX.out.of_eq (hb4.block _ HBX.out.lt)).of_eq (hbA.block _ (HBX.out.of_eq (hb4.block _ HBX.out.lt)).lt))
    have HEQ1 := Lib.hid (HEQ.out _ _ _ _ hlowA HB.out hkx (HKW.out _ HB.out))
    have c0 := HBX.out.cell 0 (.slice a n c) rfl
    have cA := hkA.cell 0 (.slice xa t.l.length xc) rfl
    clear hy hb4 hbA hkA hkx hlowA
    generalize t.l.length = n8 at *
    generalize hG : w4.heap.size = G at *
    go_wp2_with fail
    clear hG
    generalize w4.alloc (.cells #[.slice xa n8 xc] 24) = w5 at *
    refine HEQ1.out.mono ?_
    rintro e w6 ⟨rfl, hb6⟩
    replace HB := Lib.hid (belowStep hb6 HB.out)
    clear hb6 c0 cA
    go_wp2_with fail
    refine (HPS.out _).mono ?_
    rintro e wp ⟨⟨y, rfl, hy⟩, hbp⟩
    obtain ⟨pa, pc, rfl⟩ := hy.form
    replace HB := Lib.hid (belowStep hbp HB.out)
    have hb9 : Below wp.heap.size wp (wp.alloc (.cells #[.slice pa (kparseOut s.toList).1.l.length pc] 24)) := (Below.refl _ _).alloc (Nat.le_refl _) _
    have hk9 := blk_new wp #[.slice pa (kparseOut s.toList).1.l.length pc] 24
    have hkv := (hy.mono (Q := fun b => b < wp.heap.size) (fun b h => by
      rcases h with h | h
      · exact h.elim
      · exact h.2)).below (fun b h => h) hb9
    have hlow : Low (wp.alloc (.cells #[.slice pa (kparseOut s.toList).1.l.length pc] 24)) (fun b => b < wp.heap.size) := fun b h => Nat.lt_of_lt_of_le h hb9.size
    rcases HCS.out with ⟨t', v1, v2, v3⟩ | v3
    · rw [v3] at hkv hk9 hb9 hlow ⊢
      have hkv : KV (wp.alloc (.cells #[.slice pa t'.l.length pc] 24)) (fun b => b < wp.heap.size) t' (.agg #[.slice pa t'.l.length pc]) := hkv
      have hk9 : Blk (wp.alloc (.cells #[.slice pa t'.l.length pc] 24)) wp.heap.size 24 #[.slice pa t'.l.length pc] := hk9
      have hb9 : Below wp.heap.size wp (wp.alloc (.cells #[.slice pa t'.l.length pc] 24)) := hb9
      have hlow : Low (wp.alloc (.cells #[.slice pa t'.l.length pc] 24)) (fun b => b < wp.heap.size) := hlow
      replace HB := Lib.hid (belowStep hb9 HB.out)
      have HTX2 := Lib.hid (C.text _ t' _ _ hlow hkv)
      have HVX2 := Lib.hid (fun W (hW : Below (wp.alloc (.cells #[.slice pa t'.l.length pc] 24)).heap.size (wp.alloc (.cells #[.slice pa t'.l.length pc] 24)) W) => C.valid _ t' W _ (hlow.up hW) (hkv.below hlow hW))
      have ht2 : K.textOut t' = (s.toList, 0) := by
        unfold K.textOut
        rw [if_pos v1, v2, if_pos (by rw [Pl.len_size]; omega)]
      rw [ht2] at HTX2
      rw [v1] at HVX2
      have HK9 := Lib.hid hk9
      have c9 := hk9.cell 0 (.slice pa t'.l.length pc) rfl
      have hse : mkB s.toList = s := by
        rw [Pl.toList_eq]
        show ByteArray.mk s.data.toList.toArray = s
        simp
      rw [hse] at HTX2
      clear hy hbp hb9 hk9 hkv hlow v1 v2 v3 ht2 hse
      generalize t'.l.length = n9 at *
      generalize hG : wp.heap.size = G at *
      go_wp2_with fail
      clear hG
      generalize wp.alloc (.cells #[.slice pa n9 pc] 24) = wq at *
      refine HTX2.out.mono ?_
      rintro e wr ⟨rfl, hbr⟩
      replace HB := Lib.hid (belowStep hbr HB.out)
      have HK10 := Lib.hid (HK9.out.of_eq (hbr.block _ HK9.out.lt))
      have HVX3 := Lib.hid (HVX2.out _ hbr)
      clear hbr c9
      have c9 := HK10.out.cell 0 (.slice pa n9 pc) rfl
      have qse : (s.toList == s.toList) = true := beq_self_eq_true _
      go_wp2_with fail
      refine HVX3.out.mono ?_
      rintro e wt ⟨rfl, hbt⟩
      replace HB := Lib.hid (belowStep hbt HB.out)
      clear hbt c9
      go_wp2
      go_ret
      exact ⟨rfl, HB.out⟩
    · rw [v3] at hkv hk9 hb9 ⊢
      have hkv : KV (wp.alloc (.cells #[.slice pa 0 pc] 24)) (fun b => b < wp.heap.size) (.mk []) (.agg #[.slice pa 0 pc]) := hkv
      have hk9 : Blk (wp.alloc (.cells #[.slice pa 0 pc] 24)) wp.heap.size 24 #[.slice pa 0 pc] := hk9
      have hb9 : Below wp.heap.size wp (wp.alloc (.cells #[.slice pa 0 pc] 24)) := hb9
      replace HB := Lib.hid (belowStep hb9 HB.out)
      have HNN := Lib.hid (none8_any _ _ _ _ hkv)
      have c9 := hk9.cell 0 (.slice pa 0 pc) rfl
      clear hy hbp hb9 hk9 hkv hlow v3
      generalize hG : wp.heap.size = G at *
      go_wp2_with fail
      rw [show (K.mk []).l.length = 0 from rfl]
      clear hG
      generalize wp.alloc (.cells #[.slice pa 0 pc] 24) = wq at *
      refine HNN.out.mono ?_
      rintro e wr ⟨rfl, hbr⟩
      replace HB := Lib.hid (belowStep hbr HB.out)
      clear hbr c9
      go_wp2
      go_ret
      exact ⟨rfl, HB.out⟩
  · have hto : K.textOut t = ([], 1) := by
      unfold K.textOut
      rw [if_neg hv]
    rw [hto]
    clear hto
    go_wp2_with fail
    refine (HPS.out _).mono ?_
    rintro e wp ⟨⟨y, rfl, hy⟩, hbp⟩
    obtain ⟨pa, pc, rfl⟩ := hy.form
    replace HB := Lib.hid (belowStep hbp HB.out)
    have hb9 : Below wp.heap.size wp (wp.alloc (.cells #[.slice pa (kparseOut s.toList).1.l.length pc] 24)) := (Below.refl _ _).alloc (Nat.le_refl _) _
    have hk9 := blk_new wp #[.slice pa (kparseOut s.toList).1.l.length pc] 24
    have hkv := (hy.mono (Q := fun b => b < wp.heap.size) (fun b h => by
      rcases h with h | h
      · exact h.elim
      · exact h.2)).below (fun b h => h) hb9
    have hlow : Low (wp.alloc (.cells #[.slice pa (kparseOut s.toList).1.l.length pc] 24)) (fun b => b < wp.heap.size) := fun b h => Nat.lt_of_lt_of_le h hb9.size
    rcases HCS.out with ⟨t', v1, v2, v3⟩ | v3
    · rw [v3] at hkv hk9 hb9 hlow ⊢
      have hkv : KV (wp.alloc (.cells #[.slice pa t'.l.length pc] 24)) (fun b => b < wp.heap.size) t' (.agg #[.slice pa t'.l.length pc]) := hkv
      have hk9 : Blk (wp.alloc (.cells #[.slice pa t'.l.length pc] 24)) wp.heap.size 24 #[.slice pa t'.l.length pc] := hk9
      have hb9 : Below wp.heap.size wp (wp.alloc (.cells #[.slice pa t'.l.length pc] 24)) := hb9
      have hlow : Low (wp.alloc (.cells #[.slice pa t'.l.length pc] 24)) (fun b => b < wp.heap.size) := hlow
      replace HB := Lib.hid (belowStep hb9 HB.out)
      have HTX2 := Lib.hid (C.text _ t' _ _ hlow hkv)
      have HVX2 := Lib.hid (fun W (hW : Below (wp.alloc (.cells #[.slice pa t'.l.length pc] 24)).heap.size (wp.alloc (.cells #[.slice pa t'.l.length pc] 24)) W) => C.valid _ t' W _ (hlow.up hW) (hkv.below hlow hW))
      have ht2 : K.textOut t' = (s.toList, 0) := by
        unfold K.textOut
        rw [if_pos v1, v2, if_pos (by rw [Pl.len_size]; omega)]
      rw [ht2] at HTX2
      rw [v1] at HVX2
      have HK9 := Lib.hid hk9
      have c9 := hk9.cell 0 (.slice pa t'.l.length pc) rfl
      have hse : mkB s.toList = s := by
        rw [Pl.toList_eq]
        show ByteArray.mk s.data.toList.toArray = s
        simp
      rw [hse] at HTX2
      clear hy hbp hb9 hk9 hkv hlow v1 v2 v3 ht2 hse
      generalize t'.l.length = n9 at *
      generalize hG : wp.heap.size = G at *
      go_wp2_with fail
      clear hG
      generalize wp.alloc (.cells #[.slice pa n9 pc] 24) = wq at *
      refine HTX2.out.mono ?_
      rintro e wr ⟨rfl, hbr⟩
      replace HB := Lib.hid (belowStep hbr HB.out)
      have HK10 := Lib.hid (HK9.out.of_eq (hbr.block _ HK9.out.lt))
      have HVX3 := Lib.hid (HVX2.out _ hbr)
      clear hbr c9
      have c9 := HK10.out.cell 0 (.slice pa n9 pc) rfl
      have qse : (s.toList == s.toList) = true := beq_self_eq_true _
      go_wp2_with fail
      refine HVX3.out.mono ?_
      rintro e wt ⟨rfl, hbt⟩
      replace HB := Lib.hid (belowStep hbt HB.out)
      clear hbt c9
      go_wp2
      go_ret
      exact ⟨rfl, HB.out⟩
    · rw [v3] at hkv hk9 hb9 ⊢
      have hkv : KV (wp.alloc (.cells #[.slice pa 0 pc] 24)) (fun b => b < wp.heap.size) (.mk []) (.agg #[.slice pa 0 pc]) := hkv
      have hk9 : Blk (wp.alloc (.cells #[.slice pa 0 pc] 24)) wp.heap.size 24 #[.slice pa 0 pc] := hk9
      have hb9 : Below wp.heap.size wp (wp.alloc (.cells #[.slice pa 0 pc] 24)) := hb9
      replace HB := Lib.hid (belowStep hb9 HB.out)
      have HNN := Lib.hid (none8_any _ _ _ _ hkv)
      have c9 := hk9.cell 0 (.slice pa 0 pc) rfl
      clear hy hbp hb9 hk9 hkv hlow v3
      generalize hG : wp.heap.size = G at *
      go_wp2_with fail
      rw [show (K.mk []).l.length = 0 from rfl]
      clear hG
      generalize wp.alloc (.cells #[.slice pa 0 pc] 24) = wq at *
      refine HNN.out.mono ?_
      rintro e wr ⟨rfl, hbr⟩
      replace HB := Lib.hid (belowStep hbr HB.out)
      clear hbr c9
      go_wp2
      go_ret
      exact ⟨rfl, HB.out⟩
end Go.Proofs.Ythamhgnhdjahgaa
