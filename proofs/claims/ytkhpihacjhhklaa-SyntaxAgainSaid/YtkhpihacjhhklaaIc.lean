/-
  Walks of layer 1, third part: names, type variables and labels, of the program and of the reference.
-/
import Derived.Test.YtkhpihacjhhklaaIb
namespace Go.Proofs.Ytkhpihacjhhklaa
open Go.RowKit

theorem key_found (s : ByteArray) : decide (Lib.idxOfS (keyStrs.take 31) s < 0) = !Pl.isKey s.toList := by
  have h := (Lib.idxOfS_nonneg_iff keyStrs s).trans (mem_keyStrs s)
  rw [show keyStrs.take 31 = keyStrs from rfl]
  cases hk : Pl.isKey s.toList
  · rw [hk] at h; simp at h ⊢; omega
  · rw [hk] at h; simp at h ⊢; omega
set_option maxHeartbeats 400000 in
theorem rIsLower_any (s : ByteArray) (w : World) (hs : s.size ≤ maxLen) :
    Calls Try.prog 106 #[.string s] w fun e w' => e = .returned (.bool (Pl.isLower s.toList)) ∧ Below w.heap.size w w' := by
  by_cases hw : Pl.isWord s.toList = true
  · have h0 : 0 < s.size := by have := hw; unfold Pl.isWord at this; simp [Pl.len_size] at this; omega
    by_cases hsm : Pl.small s[0].toNat = true
    · have HL := Lib.hid (show Pl.isLower s.toList = !Pl.isKey s.toList from by unfold Pl.isLower; rw [hw, Pl.head_pos _ s h0, hsm]; rfl)
      go_enter Try.func106, Try.ntmps106
      go_wp2_with (first | (go_at_call 111; refine (rWord_any _ _ hs).mono ?_; rintro e w' ⟨rfl, rfl⟩) | (go_at_call 109; refine (rsmall_any _ _).mono ?_; rintro e w' ⟨rfl, rfl⟩) | (go_at_call 113; refine (keys_any _).mono ?_; rintro e w' ⟨rfl, rfl⟩) | (go_at_call 112; refine (rFind_any w.heap.size 0 31 31 keyStrs s _ (by decide) (by decide) (strsAt_alloc w keyStrs _)).mono ?_; rintro e w' ⟨rfl, rfl⟩))
      go_ret
      exact ⟨ret_bool (by rw [HL.out, key_found]), (Below.refl _ _).alloc (Nat.le_refl _) _⟩
    · have hsm2 : Pl.small s[0].toNat = false := by simpa using hsm
      have HL := Lib.hid (show Pl.isLower s.toList = false from by unfold Pl.isLower; rw [hw, Pl.head_pos _ s h0, hsm2]; rfl)
      go_enter Try.func106, Try.ntmps106
      go_wp2_with (first | (go_at_call 111; refine (rWord_any _ _ hs).mono ?_; rintro e w' ⟨rfl, rfl⟩) | (go_at_call 109; refine (rsmall_any _ _).mono ?_; rintro e w' ⟨rfl, rfl⟩))
      go_ret
      exact ⟨ret_bool HL.out.symm, Below.refl _ _⟩
  · have hw2 : Pl.isWord s.toList = false := by simpa using hw
    have HL := Lib.hid (show Pl.isLower s.toList = false from by unfold Pl.isLower; rw [hw2]; rfl)
    go_enter Try.func106, Try.ntmps106
    go_wp2_with (first | (go_at_call 111; refine (rWord_any _ _ hs).mono ?_; rintro e w' ⟨rfl, rfl⟩))
    go_ret
    exact ⟨ret_bool HL.out.symm, Below.refl _ _⟩

set_option maxHeartbeats 400000 in
theorem isLower_any (s : ByteArray) (w : World) (hs : s.size ≤ maxLen) :
    Calls Try.prog 68 #[.string s] w fun e w' => e = .returned (.bool (Pl.isLower s.toList)) ∧ w = w' := by
  have hs' := hs
  unfold maxLen at hs
  have HL := Lib.hid (show Pl.isLower s.toList = (decide (s.size ≤ 24) && Pl.word1 1 s.toList && !Pl.isKey s.toList) from by unfold Pl.isLower; rw [← Pl.lower_eq, Pl.len_size])
  go_enter Try.func68, Try.ntmps68
  go_wp2_with (first | (go_at_call 87; refine (isWord_any _ _ _ hs').mono ?_; rintro e w' ⟨rfl, rfl⟩) | (go_at_call 88; refine (isKey_any _ _).mono ?_; rintro e w' ⟨rfl, rfl⟩))
  all_goals
    go_ret
    refine ⟨ret_bool ?_, rfl⟩
    rw [HL.out]
    simp_all
    try omega
set_option maxHeartbeats 400000 in
theorem isUpper_any (s : ByteArray) (w : World) (hs : s.size ≤ maxLen) :
    Calls Try.prog 69 #[.string s] w fun e w' => e = .returned (.bool (Pl.isUpper s.toList)) ∧ w = w' := by
  have hs' := hs
  unfold maxLen at hs
  have HL := Lib.hid (show Pl.isUpper s.toList = (decide (s.size ≤ 24) && Pl.word1 2 s.toList) from by rw [← Pl.upper_eq, Pl.len_size])
  go_enter Try.func69, Try.ntmps69
  go_wp2_with (first | (go_at_call 87; refine (isWord_any _ _ _ hs').mono ?_; rintro e w' ⟨rfl, rfl⟩))
  all_goals
    go_ret
    refine ⟨ret_bool ?_, rfl⟩
    rw [HL.out]
    simp_all
    try omega
theorem cutQ (s : ByteArray) (w : World) (h : 0 < s.size) : Calls Try.prog 86 #[.string s, .string ⟨#[39]⟩] w fun e w' =>
    e = .returned (.tuple #[.string (if (s[0].toNat : Int) = 39 then s.extract 1 s.size else s), .bool (decide ((s[0].toNat : Int) = 39))]) ∧ w = w' := by
  refine (Try.strings_CutPrefix s ⟨#[39]⟩ w).mono ?_
  rintro e w' ⟨rfl, rfl⟩
  refine ⟨?_, rfl⟩
  have h1 : s.data.toList = s[0] :: s.data.toList.drop 1 := by have := Pl.drop_cons s 0 h; rw [Pl.toList_eq] at this; exact this
  have hp : Lib.hasPrefix s.data.toList [39] = decide ((s[0].toNat : Int) = 39) := by
    rw [h1]
    simp only [Lib.hasPrefix, List.isPrefixOf, Bool.and_true]
    rw [Bool.eq_iff_iff, beq_iff_eq, decide_eq_true_eq, Pl.u8_eq]
    constructor <;> intro h2 <;> exact h2.symm
  rw [show (⟨#[39]⟩ : ByteArray).data.toList = [39] from rfl, hp]
  unfold Lib.trimPrefix
  rw [hp]
  by_cases hq : (s[0].toNat : Int) = 39
  · simp only [hq, decide_true, if_true]
    congr 5
    rw [← Pl.toList_eq, show [(39 : UInt8)].length = 1 from rfl, ← Pl.extract_end s 1, Pl.toList_eq]
  · simp only [hq, decide_false, if_false, Bool.false_eq_true]
set_option maxHeartbeats 400000 in
theorem isVar_any (s : ByteArray) (w : World) (hs : s.size ≤ maxLen) :
    Calls Try.prog 67 #[.string s] w fun e w' => e = .returned (.bool (Pl.isVar s.toList)) ∧ w = w' := by
  have hs' := hs
  unfold maxLen at hs
  by_cases h0 : 0 < s.size
  · by_cases hq : (s[0].toNat : Int) = 39
    · have HL := Lib.hid (show Pl.isVar s.toList = (decide (s.size ≤ 24) && Pl.word1 1 (s.extract 1 s.size).toList) from by rw [Pl.isVar_cons s h0, Pl.extract_end]; simp [hq])
      have hc := cutQ s w h0
      rw [if_pos hq, decide_eq_true hq] at hc
      have HC := Lib.hid hc
      clear hc hq
      have hs2 : (s.extract 1 s.size).size ≤ maxLen := by rw [ByteArray.size_extract]; unfold maxLen; omega
      have HS := Lib.hid hs2
      clear hs2
      go_enter Try.func67, Try.ntmps67
      go_wp2_with (first | (go_at_call 86; refine (HC.out).mono ?_; rintro e w' ⟨rfl, rfl⟩) | (go_at_call 87; refine (isWord_any _ _ _ HS.out).mono ?_; rintro e w' ⟨rfl, rfl⟩))
      all_goals
        go_ret
        refine ⟨ret_bool ?_, rfl⟩
        rw [HL.out]
        simp
        try omega
    · have HL := Lib.hid (show Pl.isVar s.toList = false from by rw [Pl.isVar_cons s h0]; simp [hq])
      have hc := cutQ s w h0
      rw [if_neg hq, decide_eq_false hq] at hc
      have HC := Lib.hid hc
      clear hc hq
      go_enter Try.func67, Try.ntmps67
      go_wp2_with (first | (go_at_call 86; refine (HC.out).mono ?_; rintro e w' ⟨rfl, rfl⟩))
      go_ret
      exact ⟨ret_bool HL.out.symm, rfl⟩
  · have he := Pl.nil_of_zero s h0
    have HL := Lib.hid (show Pl.isVar s.toList = false from by rw [he]; rfl)
    have hp : Lib.hasPrefix s.data.toList [39] = false := by rw [← Pl.toList_eq, he]; rfl
    clear he
    go_enter Try.func67, Try.ntmps67
    go_wp2_with (first | (go_at_call 86; refine (Try.strings_CutPrefix _ _ _).mono ?_; rintro e w' ⟨rfl, rfl⟩))
    go_ret
    exact ⟨ret_bool HL.out.symm, rfl⟩
set_option maxHeartbeats 400000 in
theorem rIsVar_any (s : ByteArray) (w : World) (hs : s.size ≤ maxLen) :
    Calls Try.prog 105 #[.string s] w fun e w' => e = .returned (.bool (Pl.isVar s.toList)) ∧ w = w' := by
  have hs' := hs
  unfold maxLen at hs
  by_cases h2 : 2 ≤ s.size
  · have HL := Lib.hid (Pl.isVar_two s h2)
    have hs2 : (s.extract 1 s.size).size ≤ maxLen := by rw [ByteArray.size_extract]; unfold maxLen; omega
    have HS := Lib.hid hs2
    clear hs2
    go_enter Try.func105, Try.ntmps105
    go_wp2_with (first | (go_at_call 109; refine (rsmall_any _ _).mono ?_; rintro e w' ⟨rfl, rfl⟩) | (go_at_call 110; refine (rinner_any _ _ HS.out).mono ?_; rintro e w' ⟨rfl, rfl⟩))
    all_goals
      go_ret
      refine ⟨ret_bool ?_, rfl⟩
      rw [HL.out]
      simp_all
      try omega
  · have HL := Lib.hid (Pl.isVar_short s h2)
    go_enter Try.func105, Try.ntmps105
    go_wp2
    go_ret
    exact ⟨ret_bool HL.out.symm, rfl⟩
end Go.Proofs.Ytkhpihacjhhklaa
