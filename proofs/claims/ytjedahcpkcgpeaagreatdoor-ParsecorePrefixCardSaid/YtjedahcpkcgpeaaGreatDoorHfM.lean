/-
  Walks of layer 4: ParsecorePrefix: a source that ends too early.
-/
import Derived.Test.YtjedahcpkcgpeaaGreatDoorHeM
namespace Go.Proofs.YtjedahcpkcgpeaaGreatDoor
open Go Go.RowKit
set_option linter.unusedSimpArgs false
set_option maxRecDepth 100000 in
set_option maxHeartbeats 8000000 in
theorem prefix_end {c : Int} {rd : List Pl.Tok → Pl.PR Pl.Syn} (z : Int) (s more : ByteArray) (w : World) (hcat : ∀ W, Calls Tryz.prog 7 #[.int .u8 z] W fun e w' => e = .returned (.int .i64 c) ∧ Below W.heap.size W w')
    (hparse : ∀ (x : ByteArray) W, x.size ≤ maxLen → Calls Tryz.prog 8 #[.int .i64 c, .string x] W (SourceOut (sourceP c rd (Pl.tokens x.toList)) W))
    (hin : ∀ ts, Pl.InB ts (rd ts)) (hs : s.size ≤ 1000) (hm : more.size ≤ 1000) (hE : (Pl.tokens s.toList).err = 0) (h3 : (sourceP c rd (Pl.tokens s.toList)).err = 4) : Calls Tryz.prog 4 #[.int .u8 z, .string s, .string more] w fun e w' => e = .returned (.bool true) ∧ Below w.heap.size w w' := by
  have l1 : decide ((1000 : Int) < (s.size : Int)) = false := by simp; omega
  have l2 : decide ((1000 : Int) < (more.size : Int)) = false := by simp; omega
  have HA := Lib.hid awake_any4
  have HC := Lib.hid hcat
  have HP := Lib.hid (fun W => hparse s W (by unfold maxLen; omega))
  have HT := Lib.hid (fun W => lexTokens_any s W (by unfold maxLen; omega))
  obtain ⟨X, j, hX, hr⟩ := refused_of hin (by rw [Pl.len_size]; omega) hE (by first | exact .inl h3 | exact .inr h3)
  have hbig := toks_small hE hX
  obtain ⟨R, hR⟩ : ∃ R, R = sourceP c rd (Pl.tokens s.toList) := ⟨_, rfl⟩
  rw [← hR] at HP h3
  obtain ⟨lix, hlix⟩ : ∃ q, q = R.line := ⟨_, rfl⟩
  obtain ⟨cox, hcox⟩ : ∃ q, q = R.col := ⟨_, rfl⟩
  have hat : ∀ (hj : j < (X ++ [(⟨8, [], Pl.lineAt s.toList s.toList.length, Pl.colAt s.toList s.toList.length⟩ : Pl.Tok)]).length), atB lix cox (X ++ [(⟨8, [], Pl.lineAt s.toList s.toList.length, Pl.colAt s.toList s.toList.length⟩ : Pl.Tok)])[j] = true := fun hj => by
    have e1 := hr.line
    have e2 := hr.col
    rw [← hR, ← hlix, place_get _ _ hj] at e1
    rw [← hR, ← hcox, place_get _ _ hj] at e2
    unfold atB
    rw [e1, e2, beq_self_eq_true, beq_self_eq_true]
    rfl
  have hfi : ∀ i (hi : i < (X ++ [(⟨8, [], Pl.lineAt s.toList s.toList.length, Pl.colAt s.toList s.toList.length⟩ : Pl.Tok)]).length), i < j → atB lix cox (X ++ [(⟨8, [], Pl.lineAt s.toList s.toList.length, Pl.colAt s.toList s.toList.length⟩ : Pl.Tok)])[i] = false := fun i hi hij => by
    have e1 := hr.first i hij
    rw [← hR, ← hlix, ← hcox, place_get _ _ hi] at e1
    unfold atB
    rw [Bool.and_eq_false_iff]
    by_cases e2 : (X ++ [(⟨8, [], Pl.lineAt s.toList s.toList.length, Pl.colAt s.toList s.toList.length⟩ : Pl.Tok)])[i].line = lix
    · exact .inr (by simpa using fun e3 => e1 ⟨e2, e3⟩)
    · exact .inl (by simpa using e2)
  have hjl := hr.le
  have hkd := hr.kinds
  have her := hr.err
  rw [← hR, h3] at her
  have hjx : j = X.length := by
    by_cases h : j = X.length
    · exact h
    · rw [if_neg h] at her
      exact absurd her (by decide)
  generalize hEn : (⟨8, [], Pl.lineAt s.toList s.toList.length, Pl.colAt s.toList s.toList.length⟩ : Pl.Tok) = En at *
  obtain ⟨O, hO⟩ : ∃ O, O = Pl.tokens s.toList := ⟨_, rfl⟩
  rw [← hO] at HT hE hX
  have HEQ := Lib.hid hE
  have HX := Lib.hid hX
  have HAT := Lib.hid hat
  have HFI := Lib.hid hfi
  have HW := Lib.hid (⟨hlix, hcox, h3⟩ : lix = R.line ∧ cox = R.col ∧ R.err = 4)
  clear hR hO hE hlix hcox her hcat hparse hs hm h3 hX hat hfi hr hkd hbig hEn
  go_enter Tryz.func4, Tryz.ntmps4
  go_wp2_with fail
  refine (HA.out _).mono ?_
  rintro e w1 ⟨rfl, hb1⟩
  have HB := Lib.hid hb1
  clear hb1
  go_wp2_with fail
  refine (HC.out _).mono ?_
  rintro e w2 ⟨rfl, hb2⟩
  replace HB := Lib.hid (HB.out.trans (hb2.mono HB.out.size))
  clear hb2
  go_wp2_with fail
  refine (HP.out _).mono ?_
  rintro e w3 ⟨⟨v, rfl, ht⟩, hb⟩
  obtain ⟨x0, x1, x2, xa, xl, xc, xd, xe, xf, rfl⟩ := tree_open ht
  clear ht
  replace HB := Lib.hid (HB.out.trans (hb.mono HB.out.size))
  rw [← HW.out.1, ← HW.out.2.1, HW.out.2.2]
  obtain ⟨k0, k1, k2⟩ := res_boxes w3 (.int .i64 lix) (.int .i64 cox) 27 29 #[.int .i64 x0, .int .i64 x1, .string x2, .slice xa xl xc, .slice xd xe xf]
  have HKx := Lib.hid k1
  replace HB := Lib.hid (HB.out.trans (k2.mono HB.out.size))
  clear hb k0 k1 k2
  go_wp2_with fail
  generalize (w3.alloc (.cells #[.int .i64 x0, .int .i64 x1, .string x2, .slice xa xl xc, .slice xd xe xf] 27)).alloc (.cells #[.int .i64 lix, .int .i64 cox] 29) = w4 at *
  refine (HT.out _).mono ?_
  rintro e w5 (⟨-, ⟨v, rfl, hts⟩, hb⟩ | ⟨he, -⟩)
  rotate_left
  · exact absurd HEQ.out he
  replace HKx := Lib.hid (HKx.out.of_eq (hb.block _ HKx.out.lt))
  rw [HX.out] at hts
  obtain ⟨b, off, ca, n, hn, rfl, hnc, hca, hbl, hta⟩ := end_slice4 hts
  replace HB := Lib.hid (HB.out.trans (hb.mono HB.out.size))
  have hbp : Below w5.heap.size w5 (w5.alloc (.cells #[.int .i64 0, .int .i64 0] 29)) := (Below.refl _ _).alloc (Nat.le_refl _) _
  replace HB := Lib.hid (HB.out.trans (hbp.mono HB.out.size))
  replace HKx := Lib.hid (HKx.out.of_eq (hbp.block _ HKx.out.lt))
  have HTA := Lib.hid (fun i hi => (hta i hi).below hbp hbl)
  have hbl2 := Nat.lt_of_lt_of_le hbl hbp.size
  have hcm := hca
  unfold maxLen at hcm
  have hlen : (X ++ [En]).length = n + 1 := by rw [List.length_append, hn]; rfl
  have qn : ((n : Int) + 1 == 0) = false := by simp; omega
  clear hb hbp hts hta hbl
  go_wp2_with fail
  generalize w5.alloc (.cells #[.int .i64 0, .int .i64 0] 29) = w6 at *
  obtain ⟨p0, p1⟩ := two_cells HKx.out
  refine (indexAt_any b off ca (n + 1) _ lix cox (X ++ [En]) w6 hlen (by unfold maxLen; omega) hbl2 HTA.out HKx.out.lt p0 p1 j (by omega) (HAT.out (by omega)) HFI.out).mono ?_
  rintro e w7 ⟨rfl, hb⟩
  have HTA7 := Lib.hid (fun i hi => (HTA.out i hi).below hb hbl2)
  have hbl7 := Nat.lt_of_lt_of_le hbl2 hb.size
  replace HB := Lib.hid (HB.out.trans (hb.mono HB.out.size))
  have w64 : wrap64 ((n : Int) + 1 - 1) = n := by rw [wrap64]; omega
  have qj : decide ((j : Int) < 0) = false := by simp
  clear hb p0 p1 HTA hbl2
  obtain rfl : j = n := hjx.trans hn
  clear hjx hn hlen hjl
  go_wp2_with fail
  go_ret
  exact ⟨rfl, HB.out⟩
end Go.Proofs.YtjedahcpkcgpeaaGreatDoor
