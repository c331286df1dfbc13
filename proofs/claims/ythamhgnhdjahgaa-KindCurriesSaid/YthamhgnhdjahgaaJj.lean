/-
  Walks of layer 8's code: write, Text.
-/
import Derived.Test.YthamhgnhdjahgaaJi
namespace Go.Proofs.Ythamhgnhdjahgaa
open Go Go.RowKit
open Pl (K)
set_option linter.unusedSimpArgs false

theorem others_below {w w' : World} (h : Below w.heap.size w w') (e : TypeId) (b : Option Nat) : Lib.OthersKept e b w w' := fun k _ hk _ _ => (h.block k (Array.getElem?_eq_some_iff.1 hk).1).trans hk
theorem blk_others {b k : Nat} {w w' : World} {cs : Array Value} (h : Lib.OthersKept 5 (some b) w w') (hk : Blk w k 24 cs) (hne : k ≠ b) : Blk w' k 24 cs :=
  h k _ hk (fun e => hne (by injection e)) (fun c fz e => by injection e with _ e; exact absurd e (by decide))
theorem Bld.grown {B b : Nat} {l : List UInt8} {w w' : World} (h : Bld B b l w) (hg : w.grownBy w' none) : Bld B b l w' := by
  have hlt : b < w.heap.size := by
    rcases h with ⟨_, _, h, _⟩ | ⟨_, _, h, _⟩ <;> exact (Array.getElem?_eq_some_iff.1 h).1
  have key : ∀ q, Lib.BuilderAtF 67 5 B b q (Lib.byteCells l) w → Lib.BuilderAtF 67 5 B b q (Lib.byteCells l) w' := by
    rintro q ⟨hB, u, hb, hown, hne⟩
    exact ⟨hB, u, (hg.block b hlt (by simp)).trans hb, hown.kept hg (no_own u), hne⟩
  rcases h with h | h
  · exact .inl (key _ h)
  · exact .inr (key _ h)
theorem Bld.lt {B b : Nat} {l : List UInt8} {w : World} (h : Bld B b l w) : b < w.heap.size := by
  rcases h with ⟨_, _, h, _⟩ | ⟨_, _, h, _⟩ <;> exact (Array.getElem?_eq_some_iff.1 h).1
/-- what a writer leaves behind -/
def Wrote (B b : Nat) (l m : List UInt8) (w w' : World) : Prop := Bld B b (l ++ m) w' ∧ Below B w w' ∧ Lib.OthersKept 5 (some b) w w'
theorem Wrote.refl {B b : Nat} {l : List UInt8} {w : World} (h : Bld B b l w) : Wrote B b l [] w w := ⟨by rw [List.append_nil]; exact h, Below.refl _ _, Lib.OthersKept.refl _ _ _⟩
theorem Wrote.step {B b : Nat} {l m n : List UInt8} {w w1 w2 : World} (h : Wrote B b l m w w1) (k : Wrote B b (l ++ m) n w1 w2) : Wrote B b l (m ++ n) w w2 :=
  ⟨by rw [← List.append_assoc]; exact k.1, h.2.1.trans k.2.1, h.2.2.trans k.2.2⟩
theorem Wrote.below {B b : Nat} {l m : List UInt8} {w w1 w2 : World} (h : Wrote B b l m w w1) (hb : Below w1.heap.size w1 w2) (hB : B ≤ w.heap.size) : Wrote B b l m w w2 :=
  ⟨h.1.grown (below_grow hb), h.2.1.trans (hb.mono (Nat.le_trans hB h.2.1.size)), h.2.2.trans (others_below hb _ _)⟩
theorem star_bytes : (⟨#[42]⟩ : ByteArray).toList = [42] := by rw [Pl.toList_eq]
theorem arrow_bytes : (⟨#[32, 45, 62, 32]⟩ : ByteArray).toList = [32, 45, 62, 32] := by rw [Pl.toList_eq]
theorem string_any (B b : Nat) (l : List UInt8) (w : World) (h : Bld B b l w) (hBw : B ≤ w.heap.size) :
    Calls Try.prog 47 #[.pointer (some ⟨b, 0, none⟩)] w fun e w' => e = .returned (.string (mkB l)) ∧ Bld B b l w' ∧ Below B w w' :=
  (Try.Builder_String_any_k B b l w h hBw).mono fun _ _ ⟨he, hb, hw, _⟩ => ⟨he, hb, hw⟩
theorem len_any (B b : Nat) (l : List UInt8) (w : World) (h : Bld B b l w) :
    Calls Try.prog 46 #[.pointer (some ⟨b, 0, none⟩)] w fun e w' => e = .returned (.int .i64 l.length) ∧ w = w' :=
  (Try.Builder_Len_f B b _ w h).mono fun _ _ ⟨he, hw⟩ => ⟨by rw [he, Lib.byteCells_length], hw.symm⟩
set_option maxRecDepth 100000 in
set_option maxHeartbeats 2000000 in
theorem write_any (P : Nat → Prop) (B b : Nat) (t : K) : ∀ (l : List UInt8) (w : World) (v : Value), (∀ q, P q → q < B) → B ≤ w.heap.size → Bld B b l w → KV w P t v → K.ok t = true → l.length + (K.text t).length ≤ 140737488355328 →
    Calls Try.prog 45 #[.pointer (some ⟨b, 0, none⟩), v] w fun e w' => e = .returned (.tuple #[]) ∧ Wrote B b l (K.text t) w w' := by
  induction t using K.ind with
  | h t ih =>
  intro l w v hP hBw hbl ht hok hlen
  obtain ⟨a, c, rfl⟩ := ht.form
  have hk := ht.kid
  clear ht
  have HIS := Lib.hid (fun W (hW : Below w.heap.size w W) => isStar_any P t W (.agg #[.slice a t.l.length c]) ⟨_, rfl, hk.keep (Same.of_below hW (fun q hq => Nat.lt_of_lt_of_le (hP q hq) hBw))⟩)
  obtain ⟨hbx, hb⟩ := box_new w 24 (.slice a t.l.length c)
  have hne : w.heap.size ≠ b := fun e => by have := hbl.lt; omega
  have HNE := Lib.hid hne
  have hbl1 := hbl.grown (below_grow hb)
  have c0 := hbx.cell 0 (.slice a t.l.length c) rfl
  rcases K.ok_cases hok with rfl | ⟨x, y, rfl⟩
  · have HIS0 := Lib.hid (fun W (hW : Below w.heap.size w W) => (show Calls Try.prog 44 #[.agg #[.slice a 0 c]] W fun e w' => e = .returned (.bool true) ∧ Below W.heap.size W w' from HIS.out W hW))
    rw [K.text_star] at hlen ⊢
    have hlen2 : l.length + 1 ≤ 140737488355328 := hlen
    clear hk ih HIS hok hlen
    replace c0 : (w.alloc (.cells #[.slice a 0 c] 24)).cell? ⟨w.heap.size, 0, none⟩ = some (.slice a 0 c) := c0
    replace hb : Below w.heap.size w (w.alloc (.cells #[.slice a 0 c] 24)) := hb
    replace hbl1 : Bld B b l (w.alloc (.cells #[.slice a 0 c] 24)) := hbl1
    change Calls _ _ #[_, .agg #[.slice a 0 c]] _ _
    have HB := Lib.hid hb
    have HBL := Lib.hid hbl1
    clear hbx hb hbl hbl1 hP
    go_enter Try.func45, Try.ntmps45
    go_wp2_with fail
    generalize w.alloc (.cells #[.slice a 0 c] 24) = w2 at *
    refine (HIS0.out _ HB.out).mono ?_
    rintro e w3 ⟨rfl, hb3⟩
    have HW := Lib.hid (writeString_any B b l ⟨#[42]⟩ w3 (HBL.out.grown (below_grow hb3)) hlen2 (Nat.le_trans hBw (Nat.le_trans HB.out.size hb3.size)))
    have HB3 := Lib.hid (belowStep hb3 HB.out)
    clear hb3 c0
    go_wp2_with fail
    refine HW.out.mono ?_
    rintro e w4 ⟨rfl, h1, h2, h3⟩
    rw [star_bytes] at h1
    have HE := Lib.hid (show Wrote B b l [42] w w4 from ⟨h1, (HB3.out.mono hBw).trans h2, (others_below HB3.out _ _).trans h3⟩)
    clear h1 h2 h3
    go_wp2
    refine bodyPost_ret (v := .tuple #[]) (by simp [results, Try.results45, go_sem]) rfl ?_
    exact ⟨rfl, HE.out⟩
  · obtain ⟨a5, c5, e5, -, -, hka⟩ := KSl.each (show KSl w P (.slice a 2 c) [x, y] from hk)
    injection e5 with e5 e9 e6
    subst e5 e6
    clear e9
    obtain ⟨b0, o0, rfl, hPb, hke⟩ := kids_each hka (by simp)
    obtain ⟨x0, hx0, hkx⟩ := hke 0 (by simp)
    obtain ⟨y0, hy0, hky⟩ := hke 1 (by simp)
    have hkx : KidV w P x x0 := hkx
    have hky : KidV w P y y0 := hky
    rw [Nat.add_zero] at hx0
    have h2 := K.ok_two hok
    obtain ⟨a7, c7, rfl⟩ := hkx.form
    obtain ⟨a8, c8, rfl⟩ := hky.form
    have hb0 := hP b0 hPb
    have HX := Lib.hid (fun (m : List UInt8) W (hW : Below B w W) (hm : Bld B b m W) (hl : m.length + (K.text x).length ≤ 140737488355328) => ih x (by simp [K.l]) m W (.agg #[.slice a7 x.l.length c7]) hP (Nat.le_trans hBw hW.size) hm ⟨_, rfl, hkx.keep (Same.of_below hW hP)⟩ h2.1 hl)
    have HY := Lib.hid (fun (m : List UInt8) W (hW : Below B w W) (hm : Bld B b m W) (hl : m.length + (K.text y).length ≤ 140737488355328) => ih y (by simp [K.l]) m W (.agg #[.slice a8 y.l.length c8]) hP (Nat.le_trans hBw hW.size) hm ⟨_, rfl, hky.keep (Same.of_below hW hP)⟩ h2.2 hl)
    have HISX := Lib.hid (fun W (hW : Below B w W) => isStar_any P x W (.agg #[.slice a7 x.l.length c7]) ⟨_, rfl, hkx.keep (Same.of_below hW hP)⟩)
    have HIS0 := Lib.hid (fun W (hW : Below w.heap.size w W) => (show Calls Try.prog 44 #[.agg #[.slice (some ⟨b0, o0, none⟩) 2 c]] W fun e w' => e = .returned (.bool false) ∧ Below W.heap.size W w' from HIS.out W hW))
    have HX0 := Lib.hid hx0
    have HY0 := Lib.hid hy0
    have HT := Lib.hid (K.text_two x y)
    have hlx : x.l.length = 0 → K.text x = [42] := fun h => by
      obtain ⟨l⟩ := x
      rw [List.eq_nil_of_length_eq_zero (show l.length = 0 from h), K.text_star]
    have HLX := Lib.hid hlx
    generalize K.text (.mk [x, y]) = T at *
    generalize x.l.length = n7 at *
    generalize y.l.length = n8 at *
    generalize K.text x = tx at *
    generalize K.text y = ty at *
    replace c0 : (w.alloc (.cells #[.slice (some ⟨b0, o0, none⟩) 2 c] 24)).cell? ⟨w.heap.size, 0, none⟩ = some (.slice (some ⟨b0, o0, none⟩) 2 c) := c0
    replace hb : Below w.heap.size w (w.alloc (.cells #[.slice (some ⟨b0, o0, none⟩) 2 c] 24)) := hb
    replace hbl1 : Bld B b l (w.alloc (.cells #[.slice (some ⟨b0, o0, none⟩) 2 c] 24)) := hbl1
    replace hbx : Blk (w.alloc (.cells #[.slice (some ⟨b0, o0, none⟩) 2 c] 24)) w.heap.size 24 #[.slice (some ⟨b0, o0, none⟩) 2 c] := hbx
    change Calls _ _ #[_, .agg #[.slice (some ⟨b0, o0, none⟩) 2 c]] _ _
    have HB := Lib.hid hb
    have HBL := Lib.hid hbl1
    have HBX := Lib.hid hbx
    have HP := Lib.hid hP
    have HBW0 := Lib.hid hbl
    have HBB := Lib.hid hBw
    clear hk hka hke hkx hky hok ih HIS hx0 hy0 hlx hbx hb hbl hbl1 hP hPb h2
    go_enter Try.func45, Try.ntmps45
    go_wp2_with fail
    generalize w.alloc (.cells #[.slice (some ⟨b0, o0, none⟩) 2 c] 24) = w2 at *
    refine (HIS0.out _ HB.out).mono ?_
    rintro e w3 ⟨rfl, hb3⟩
    have HW0 := Lib.hid (((Wrote.refl HBW0.out).below HB.out hBw).below hb3 hBw)
    replace HBX := Lib.hid (HBX.out.of_eq (hb3.block _ HBX.out.lt))
    clear hb3 c0 HIS0 HBL HB HBW0
    have c0 := HBX.out.cell 0 (.slice (some ⟨b0, o0, none⟩) 2 c) rfl
    have cx := (HW0.out.2.1.cell (p := ⟨b0, o0, none⟩) hb0).trans HX0.out
    obtain ⟨hbz, hz⟩ := box_new w3 24 (.slice a7 n7 c7)
    have HZN := Lib.hid (show w3.heap.size ≠ b from fun e => by have := HW0.out.1.lt; omega)
    have HZ := Lib.hid hbz
    have cz := hbz.cell 0 (.slice a7 n7 c7) rfl
    replace HBX := Lib.hid (HBX.out.of_eq (hz.block _ HBX.out.lt))
    replace HW0 := Lib.hid (HW0.out.below hz hBw)
    clear hbz hz
    go_wp2_with fail
    obtain ⟨Z, hZ⟩ : ∃ Z, Z = w3.heap.size := ⟨_, rfl⟩
    rw [← hZ] at HZ cz HZN ⊢
    generalize w3.alloc (.cells #[.slice a7 n7 c7] 24) = w4 at *
    clear c0 cx
    refine (HISX.out _ HW0.out.2.1).mono ?_
    rintro e w5 ⟨rfl, hb5⟩
    replace HBX := Lib.hid (HBX.out.of_eq (hb5.block _ HBX.out.lt))
    replace HZ := Lib.hid (HZ.out.of_eq (hb5.block _ HZ.out.lt))
    replace HW0 := Lib.hid (HW0.out.below hb5 hBw)
    clear hb5 cz HISX hZ
    have HTL := Lib.hid (show T.length = (if n7 = 0 then tx else 40 :: (tx ++ [41])).length + (4 + ty.length) from by rw [HT.out, List.length_append, List.length_append]; rfl)
    have HSZ := Lib.hid (fun W (h : Below B w W) => Nat.le_trans hBw h.size)
    have finish : ∀ (m : List UInt8) (w6 : World), Wrote B b l m w w6 → Blk w6 w.heap.size 24 #[.slice (some ⟨b0, o0, none⟩) 2 c] → m = (if n7 = 0 then tx else 40 :: (tx ++ [41])) → Hid (Wrote B b l m w w6 ∧ Blk w6 w.heap.size 24 #[.slice (some ⟨b0, o0, none⟩) 2 c] ∧ m.length + (4 + ty.length) = T.length ∧ T = m ++ ([32, 45, 62, 32] ++ ty)) := fun m w6 h1 h2 h3 => ⟨h1, h2, by rw [h3]; exact HTL.out.symm, by rw [h3]; exact HT.out⟩
    have FIN := Lib.hid finish
    clear finish
    by_cases h7 : n7 = 0
    · obtain rfl := h7
      have hm : [] ++ [42] = (if 0 = 0 then tx else 40 :: (tx ++ [41])) := by rw [if_pos rfl, HLX.out rfl]; rfl
      have hl1 : (l ++ []).length + 1 ≤ 140737488355328 := by
        have h1 := HTL.out
        have h2 := HLX.out rfl
        rw [if_pos rfl, h2] at h1
        rw [List.append_nil]
        simp at h1
        omega
      have HW := Lib.hid (writeString_any B b (l ++ []) ⟨#[42]⟩ w5 HW0.out.1 hl1 (HSZ.out _ HW0.out.2.1))
      go_wp2_with fail
      refine HW.out.mono ?_
      rintro e w6 ⟨rfl, h1, h2, h3⟩
      rw [star_bytes] at h1
      have HA := Lib.hid (FIN.out _ w6 (HW0.out.step ⟨h1, h2, h3⟩) (blk_others h3 HBX.out HNE.out) hm).out
      generalize ([] ++ [42] : List UInt8) = m at HA
      clear h1 h2 h3 HW HW0 HZ HBX hm hl1 FIN
      obtain ⟨ha1, ha2, ha3, ha4⟩ := HA.out
      have HA1 := Lib.hid ha1
      have HA2 := Lib.hid ha2
      have HA4 := Lib.hid ha4
      have hl2 : (l ++ m).length + 4 ≤ 140737488355328 := by rw [List.length_append]; omega
      have hl3 : (l ++ (m ++ [32, 45, 62, 32])).length + ty.length ≤ 140737488355328 := by
        rw [List.length_append, List.length_append]
        have : ([32, 45, 62, 32] : List UInt8).length = 4 := rfl
        omega
      have HL3 := Lib.hid hl3
      have HW2 := Lib.hid (writeString_any B b (l ++ m) ⟨#[32, 45, 62, 32]⟩ w6 ha1.1 hl2 (HSZ.out _ ha1.2.1))
      clear ha1 ha2 ha3 ha4 HA hl2 hl3
      go_wp2_with fail
      refine HW2.out.mono ?_
      rintro e w7 ⟨rfl, h1, h2, h3⟩
      rw [arrow_bytes] at h1
      have HB7 := Lib.hid (HA1.out.step ⟨h1, h2, h3⟩)
      have hbx7 := blk_others h3 HA2.out HNE.out
      have c0 := hbx7.cell 0 (.slice (some ⟨b0, o0, none⟩) 2 c) rfl
      have cy := (HB7.out.2.1.cell (p := ⟨b0, o0 + 1, none⟩) hb0).trans HY0.out
      have HW3 := Lib.hid (HY.out (l ++ (m ++ [32, 45, 62, 32])) w7 HB7.out.2.1 HB7.out.1 HL3.out)
      clear h1 h2 h3 hbx7 HW2
      go_wp2_with fail
      refine HW3.out.mono ?_
      rintro e w8 ⟨rfl, h8⟩
      have HE := Lib.hid (HB7.out.step h8)
      rw [List.append_assoc, ← HA4.out] at HE
      clear h8 c0 cy HW3
      go_wp2
      go_end0
      exact ⟨rfl, HE.out⟩
    · have q7 : (n7 == 0) = false := beq_eq_false_iff_ne.2 h7
      have hm : (([] ++ [40]) ++ tx) ++ [41] = (if n7 = 0 then tx else 40 :: (tx ++ [41])) := by rw [if_neg h7]; rfl
      have hTL : T.length = (tx.length + 2) + (4 + ty.length) := by
        have h1 := HTL.out
        rw [if_neg h7] at h1
        simp at h1
        omega
      have hl1 : (l ++ []).length + 1 ≤ 140737488355328 := by rw [List.append_nil]; omega
      have hl2 : (l ++ ([] ++ [40])).length + tx.length ≤ 140737488355328 := by simp; omega
      have hl3 : (l ++ (([] ++ [40]) ++ tx)).length + 1 ≤ 140737488355328 := by simp; omega
      have HL2 := Lib.hid hl2
      have HL3 := Lib.hid hl3
      have HM := Lib.hid hm
      have HW : Hid (Calls Try.prog 53 #[.pointer (some ⟨b, 0, none⟩), .int .u8 40] w5 fun e w' => e = .returned .nilIface ∧ Bld B b (l ++ [] ++ [40]) w' ∧ Below B w5 w' ∧ Lib.OthersKept 5 (some b) w5 w') := writeByte_any B b (l ++ []) 40 w5 HW0.out.1 hl1 (HSZ.out _ HW0.out.2.1)
      clear hl1 hl2 hl3 hm hTL
      rw [q7]
      go_wp2_with fail
      refine HW.out.mono ?_
      rintro e w6 ⟨rfl, h1, h2, h3⟩
      have HW1 := Lib.hid (HW0.out.step ⟨h1, h2, h3⟩)
      have HBX1 := Lib.hid (blk_others h3 HBX.out HNE.out)
      have hz1 := blk_others h3 HZ.out HZN.out
      have cz := hz1.cell 0 (.slice a7 n7 c7) rfl
      have HWX := Lib.hid (HX.out (l ++ ([] ++ [40])) w6 HW1.out.2.1 HW1.out.1 HL2.out)
      clear h1 h2 h3 hz1 HW HBX HZ HW0
      go_wp2_with fail
      refine HWX.out.mono ?_
      rintro e w6 ⟨rfl, h4⟩
      have HW2 := Lib.hid (HW1.out.step h4)
      have HBX2 := Lib.hid (blk_others h4.2.2 HBX1.out HNE.out)
      have HW3 : Hid (Calls Try.prog 53 #[.pointer (some ⟨b, 0, none⟩), .int .u8 41] w6 fun e w' => e = .returned .nilIface ∧ Bld B b (l ++ (([] ++ [40]) ++ tx) ++ [41]) w' ∧ Below B w6 w' ∧ Lib.OthersKept 5 (some b) w6 w') := writeByte_any B b (l ++ (([] ++ [40]) ++ tx)) 41 w6 HW2.out.1 HL3.out (HSZ.out _ HW2.out.2.1)
      clear h4 cz HWX HBX1 HW1
      go_wp2_with fail
      refine HW3.out.mono ?_
      rintro e w6 ⟨rfl, h1, h2, h3⟩
      have HA := Lib.hid (FIN.out _ w6 (HW2.out.step ⟨h1, h2, h3⟩) (blk_others h3 HBX2.out HNE.out) HM.out).out
      generalize ((([] ++ [40]) ++ tx) ++ [41] : List UInt8) = m at HA
      clear h1 h2 h3 HW3 HW2 HBX2 HM FIN HL2 HL3 HTL q7
      obtain ⟨ha1, ha2, ha3, ha4⟩ := HA.out
      have HA1 := Lib.hid ha1
      have HA2 := Lib.hid ha2
      have HA4 := Lib.hid ha4
      have hl2 : (l ++ m).length + 4 ≤ 140737488355328 := by rw [List.length_append]; omega
      have hl3 : (l ++ (m ++ [32, 45, 62, 32])).length + ty.length ≤ 140737488355328 := by
        rw [List.length_append, List.length_append]
        have : ([32, 45, 62, 32] : List UInt8).length = 4 := rfl
        omega
      have HL3 := Lib.hid hl3
      have HW2 := Lib.hid (writeString_any B b (l ++ m) ⟨#[32, 45, 62, 32]⟩ w6 ha1.1 hl2 (HSZ.out _ ha1.2.1))
      clear ha1 ha2 ha3 ha4 HA hl2 hl3
      go_wp2_with fail
      refine HW2.out.mono ?_
      rintro e w7 ⟨rfl, h1, h2, h3⟩
      rw [arrow_bytes] at h1
      have HB7 := Lib.hid (HA1.out.step ⟨h1, h2, h3⟩)
      have hbx7 := blk_others h3 HA2.out HNE.out
      have c0 := hbx7.cell 0 (.slice (some ⟨b0, o0, none⟩) 2 c) rfl
      have cy := (HB7.out.2.1.cell (p := ⟨b0, o0 + 1, none⟩) hb0).trans HY0.out
      have HW3 := Lib.hid (HY.out (l ++ (m ++ [32, 45, 62, 32])) w7 HB7.out.2.1 HB7.out.1 HL3.out)
      clear h1 h2 h3 hbx7 HW2
      go_wp2_with fail
      refine HW3.out.mono ?_
      rintro e w8 ⟨rfl, h8⟩
      have HE := Lib.hid (HB7.out.step h8)
      rw [List.append_assoc, ← HA4.out] at HE
      clear h8 c0 cy HW3
      go_wp2
      go_end0
      exact ⟨rfl, HE.out⟩
set_option maxRecDepth 100000 in
theorem ctext_any (P : Nat → Prop) (t : K) (w : World) (v : Value) (hP : ∀ b, P b → b < w.heap.size) (ht : KV w P t v) :
    Calls Try.prog 27 #[v] w (Says (.tuple #[.string (mkB (K.textOut t).1), .int .i64 (K.textOut t).2]) w) := by
  have HV := Lib.hid (fun W (hW : Below w.heap.size w W) => valid_any P t W v (fun b h => Nat.lt_of_lt_of_le (hP b h) hW.size) (ht.below hP hW))
  have HBB := Lib.hid (fun (b : Nat) => write_any P b b t)
  have HK := Lib.hid (fun W (hW : Below w.heap.size w W) => ht.below hP hW)
  obtain ⟨a, c, rfl⟩ := ht.form
  have HVV := Lib.hid (fun h => (K.valid_iff t).1 h)
  have HLN := Lib.hid (fun h => K.text_len t h)
  have HTO := Lib.hid (show K.textOut t = if K.valid t = true then (if (K.text t).length ≤ 16384 then (K.text t, 0) else ([], 5)) else ([], 1) from rfl)
  generalize K.textOut t = R at *
  generalize hz : K.valid t = z at *
  generalize t.l.length = n at *
  generalize K.text t = tx at *
  obtain ⟨hbx, hb⟩ := box_new w 24 (.slice a n c)
  have c0 := hbx.cell 0 (.slice a n c) rfl
  have HB := Lib.hid hb
  have HBX := Lib.hid hbx
  have HP := Lib.hid hP
  clear ht hbx hb hP
  go_enter Try.func27, Try.ntmps27
  go_wp2_with fail
  generalize w.alloc (.cells #[.slice a n c] 24) = w2 at *
  refine (HV.out _ HB.out).mono ?_
  rintro e w3 ⟨rfl, hb3⟩
  replace HBX := Lib.hid (HBX.out.of_eq (hb3.block _ HBX.out.lt))
  replace HB := Lib.hid (belowStep hb3 HB.out)
  clear hb3 c0 HV
  cases z
  · have HF := Lib.hid (show R = ([], 1) from by rw [HTO.out]; rfl)
    go_wp2
    go_ret2
    exact ⟨by rw [HF.out]; rfl, HB.out⟩
  have hf := HVV.out (by first | exact rfl | trivial)
  have hln := HLN.out hf.1
  have hsz := hf.2.1
  have HF1 := Lib.hid (show R = if tx.length ≤ 16384 then (tx, 0) else ([], 5) from by rw [HTO.out]; exact if_pos (by first | exact rfl | trivial))
  have hl : tx.length ≤ 140737488355328 := by omega
  obtain ⟨hbl, hb4⟩ : Bld w3.heap.size w3.heap.size [] (w3.alloc (.cells #[.pointer none, .slice none 0 0] 67)) ∧ Below w3.heap.size w3 (w3.alloc (.cells #[.pointer none, .slice none 0 0] 67)) := ⟨bld_new w3, (Below.refl _ _).alloc (Nat.le_refl _) _⟩
  have HBL := Lib.hid hbl
  have HB4 := Lib.hid (belowStep hb4 HB.out)
  have HB43 := Lib.hid hb4
  have hbx4 := HBX.out.of_eq (hb4.block _ HBX.out.lt)
  have c0 := hbx4.cell 0 (.slice a n c) rfl
  have HWR := Lib.hid (HBB.out w3.heap.size [] (w3.alloc (.cells #[.pointer none, .slice none 0 0] 67)) (.agg #[.slice a n c]) (fun q hq => Nat.lt_of_lt_of_le (HP.out q hq) HB.out.size) hb4.size hbl (HK.out _ HB4.out) hf.1 (by simpa using hl))
  clear hf hln hsz hbl hb4 hbx4 HLN HVV
  go_wp2_with fail
  obtain ⟨N, hN⟩ : ∃ N, N = w3.heap.size := ⟨_, rfl⟩
  have HNN := Lib.hid hN
  rw [← hN] at HWR HBL HB43 ⊢
  generalize w3.alloc (.cells #[.pointer none, .slice none 0 0] 67) = w4 at *
  clear hN c0
  refine HWR.out.mono ?_
  rintro e w5 ⟨rfl, h1, h2, h3⟩
  have HB5 := Lib.hid (HB4.out.trans (h2.mono (show w.heap.size ≤ N from by rw [HNN.out]; exact HB.out.size)))
  have HL := Lib.hid (len_any N N _ w5 h1)
  have HST := Lib.hid (string_any N N _ w5 h1 (Nat.le_trans (show N ≤ w4.heap.size from by rw [HNN.out]; exact HB43.out.size) h2.size))
  rw [List.nil_append] at HL HST
  clear h1 h2 h3 HWR
  go_wp2_with fail
  refine HL.out.mono ?_
  rintro e w6 ⟨rfl, rfl⟩
  by_cases hlen : tx.length ≤ 16384
  · have q1 : decide ((16384 : Int) < (tx.length : Int)) = false := decide_eq_false (by omega)
    have HF := Lib.hid (show R = (tx, 0) from by rw [HF1.out, if_pos hlen])
    clear hlen
    generalize tx.length = ln at *
    go_wp2_with fail
    refine HST.out.mono ?_
    rintro e w7 ⟨rfl, -, h2⟩
    have HB7 := Lib.hid (HB5.out.trans (h2.mono (show w.heap.size ≤ N from by rw [HNN.out]; exact HB.out.size)))
    clear h2
    go_wp2
    go_ret2
    exact ⟨by rw [HF.out]; rfl, HB7.out⟩
  · have q1 : decide ((16384 : Int) < (tx.length : Int)) = true := decide_eq_true (by omega)
    have HF := Lib.hid (show R = ([], 5) from by rw [HF1.out, if_neg hlen])
    clear hlen
    generalize tx.length = ln at *
    go_wp2
    go_ret2
    exact ⟨by rw [HF.out]; rfl, HB5.out⟩
end Go.Proofs.Ythamhgnhdjahgaa
