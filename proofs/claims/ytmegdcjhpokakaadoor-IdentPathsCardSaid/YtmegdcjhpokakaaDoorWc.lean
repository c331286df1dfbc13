/-
  Walks of layer 1, third part: names, type variables and labels, of the program and of the reference.
-/
import Derived.Test.YtmegdcjhpokakaaDoorWb
namespace Go.Proofs.YtmegdcjhpokakaaDoor
open Go.RowKit

theorem key_found (s : ByteArray) : decide (Lib.idxOfS (keyStrs.take 31) s < 0) = !Pl.isKey s.toList := by
  have h := (Lib.idxOfS_nonneg_iff keyStrs s).trans (mem_keyStrs s)
  rw [show keyStrs.take 31 = keyStrs from rfl]
  cases hk : Pl.isKey s.toList
  · rw [hk] at h; simp at h ⊢; omega
  · rw [hk] at h; simp at h ⊢; omega
set_option maxHeartbeats 400000 in
theorem rIsLower_any (s : ByteArray) (w : World) (hs : s.size ≤ maxLen) :
    Calls Tryd.prog 12 #[.string s] w fun e w' => e = .returned (.bool (Pl.isLower s.toList)) ∧ Below w.heap.size w w' := by
  by_cases hw : Pl.isWord s.toList = true
  · have h0 : 0 < s.size := by have := hw; unfold Pl.isWord at this; simp [Pl.len_size] at this; omega
    by_cases hsm : Pl.small s[0].toNat = true
    · have HL := Lib.hid (show Pl.isLower s.toList = !Pl.isKey s.toList from by unfold Pl.isLower; rw [hw, Pl.head_pos _ s h0, hsm]; rfl)
      go_enter Tryd.func12, Tryd.ntmps12
      go_wp2_with (first | (go_at_call 41; refine (rWord_any _ _ hs).mono ?_; rintro e w' ⟨rfl, rfl⟩) | (go_at_call 42; refine (rsmall_any _ _).mono ?_; rintro e w' ⟨rfl, rfl⟩) | (go_at_call 44; refine (keys_any _).mono ?_; rintro e w' ⟨rfl, rfl⟩) | (go_at_call 43; refine (rFind_any w.heap.size 0 31 31 keyStrs s _ (by decide) (by decide) (strsAt_alloc w keyStrs _)).mono ?_; rintro e w' ⟨rfl, rfl⟩))
      go_ret
      exact ⟨ret_bool (by rw [HL.out, key_found]), (Below.refl _ _).alloc (Nat.le_refl _) _⟩
    · have hsm2 : Pl.small s[0].toNat = false := by simpa using hsm
      have HL := Lib.hid (show Pl.isLower s.toList = false from by unfold Pl.isLower; rw [hw, Pl.head_pos _ s h0, hsm2]; rfl)
      go_enter Tryd.func12, Tryd.ntmps12
      go_wp2_with (first | (go_at_call 41; refine (rWord_any _ _ hs).mono ?_; rintro e w' ⟨rfl, rfl⟩) | (go_at_call 42; refine (rsmall_any _ _).mono ?_; rintro e w' ⟨rfl, rfl⟩))
      go_ret
      exact ⟨ret_bool HL.out.symm, Below.refl _ _⟩
  · have hw2 : Pl.isWord s.toList = false := by simpa using hw
    have HL := Lib.hid (show Pl.isLower s.toList = false from by unfold Pl.isLower; rw [hw2]; rfl)
    go_enter Tryd.func12, Tryd.ntmps12
    go_wp2_with (first | (go_at_call 41; refine (rWord_any _ _ hs).mono ?_; rintro e w' ⟨rfl, rfl⟩))
    go_ret
    exact ⟨ret_bool HL.out.symm, Below.refl _ _⟩

set_option maxHeartbeats 400000 in
theorem isLower_any (s : ByteArray) (w : World) (hs : s.size ≤ maxLen) :
    Calls Tryd.prog 11 #[.string s] w fun e w' => e = .returned (.bool (Pl.isLower s.toList)) ∧ w = w' := by
  have hs' := hs
  unfold maxLen at hs
  have HL := Lib.hid (show Pl.isLower s.toList = (decide (s.size ≤ 24) && Pl.word1 1 s.toList && !Pl.isKey s.toList) from by unfold Pl.isLower; rw [← Pl.lower_eq, Pl.len_size])
  go_enter Tryd.func11, Tryd.ntmps11
  go_wp2_with (first | (go_at_call 39; refine (isWord_any _ _ _ hs').mono ?_; rintro e w' ⟨rfl, rfl⟩) | (go_at_call 40; refine (isKey_any _ _).mono ?_; rintro e w' ⟨rfl, rfl⟩))
  all_goals
    go_ret
    refine ⟨ret_bool ?_, rfl⟩
    rw [HL.out]
    simp_all
    try omega
set_option maxHeartbeats 400000 in
theorem isUpper_any (s : ByteArray) (w : World) (hs : s.size ≤ maxLen) :
    Calls Tryd.prog 13 #[.string s] w fun e w' => e = .returned (.bool (Pl.isUpper s.toList)) ∧ w = w' := by
  have hs' := hs
  unfold maxLen at hs
  have HL := Lib.hid (show Pl.isUpper s.toList = (decide (s.size ≤ 24) && Pl.word1 2 s.toList) from by rw [← Pl.upper_eq, Pl.len_size])
  go_enter Tryd.func13, Tryd.ntmps13
  go_wp2_with (first | (go_at_call 39; refine (isWord_any _ _ _ hs').mono ?_; rintro e w' ⟨rfl, rfl⟩))
  all_goals
    go_ret
    refine ⟨ret_bool ?_, rfl⟩
    rw [HL.out]
    simp_all
    try omega
theorem cutQ (s : ByteArray) (w : World) (h : 0 < s.size) : Calls Tryd.prog 46 #[.string s, .string ⟨#[39]⟩] w fun e w' =>
    e = .returned (.tuple #[.string (if (s[0].toNat : Int) = 39 then s.extract 1 s.size else s), .bool (decide ((s[0].toNat : Int) = 39))]) ∧ w = w' := by
  refine (Tryd.strings_CutPrefix s ⟨#[39]⟩ w).mono ?_
  rintro e w' ⟨rfl, rfl⟩
  refine ⟨?_, rfl⟩
  have h1 : s.data.toList = s[0] :: s.data.toList.drop 1 := by have := Pl.drop_cons s 0 h; rw [Pl.toList_eq] at this; exact this
  have hp : Lib.hasPrefix s.data.toList [39] = decide ((s[0].toNat : Int) = 39) := by
    rw [h1]
    simp only [Lib.hasPrefix, List.isPrefixOf, Bool.and_true]
    rw [Bool.eq_iff_iff, beq_iff_eq, decide_eq_true_eq, Pl.u8_eq]
    constructor <;> intro h2 <;> exact h2.symm
  rw [show (⟨#[39]⟩ : ByteArray).data.toList = [39] from rfl, hp]
  unfold Lib.trimPrefix
  rw [hp]
  by_cases hq : (s[0].toNat : Int) = 39
  · simp only [hq, decide_true, if_true]
    congr 5
    rw [← Pl.toList_eq, show [(39 : UInt8)].length = 1 from rfl, ← Pl.extract_end s 1, Pl.toList_eq]
  · simp only [hq, decide_false, if_false, Bool.false_eq_true]
set_option maxHeartbeats 400000 in
theorem isVar_any (s : ByteArray) (w : World) (hs : s.size ≤ maxLen) :
    Calls Tryd.prog 15 #[.string s] w fun e w' => e = .returned (.bool (Pl.isVar s.toList)) ∧ w = w' := by
  have hs' := hs
  unfold maxLen at hs
  by_cases h0 : 0 < s.size
  · by_cases hq : (s[0].toNat : Int) = 39
    · have HL := Lib.hid (show Pl.isVar s.toList = (decide (s.size ≤ 24) && Pl.word1 1 (s.extract 1 s.size).toList) from by rw [Pl.isVar_cons s h0, Pl.extract_end]; simp [hq])
      have hc := cutQ s w h0
      rw [if_pos hq, decide_eq_true hq] at hc
      have HC := Lib.hid hc
      clear hc hq
      have hs2 : (s.extract 1 s.size).size ≤ maxLen := by rw [ByteArray.size_extract]; unfold maxLen; omega
      have HS := Lib.hid hs2
      clear hs2
      go_enter Tryd.func15, Tryd.ntmps15
      go_wp2_with (first | (go_at_call 46; refine (HC.out).mono ?_; rintro e w' ⟨rfl, rfl⟩) | (go_at_call 39; refine (isWord_any _ _ _ HS.out).mono ?_; rintro e w' ⟨rfl, rfl⟩))
      all_goals
        go_ret
        refine ⟨ret_bool ?_, rfl⟩
        rw [HL.out]
        simp
        try omega
    · have HL := Lib.hid (show Pl.isVar s.toList = false from by rw [Pl.isVar_cons s h0]; simp [hq])
      have hc := cutQ s w h0
      rw [if_neg hq, decide_eq_false hq] at hc
      have HC := Lib.hid hc
      clear hc hq
      go_enter Tryd.func15, Tryd.ntmps15
      go_wp2_with (first | (go_at_call 46; refine (HC.out).mono ?_; rintro e w' ⟨rfl, rfl⟩))
      go_ret
      exact ⟨ret_bool HL.out.symm, rfl⟩
  · have he := Pl.nil_of_zero s h0
    have HL := Lib.hid (show Pl.isVar s.toList = false from by rw [he]; rfl)
    have hp : Lib.hasPrefix s.data.toList [39] = false := by rw [← Pl.toList_eq, he]; rfl
    clear he
    go_enter Tryd.func15, Tryd.ntmps15
    go_wp2_with (first | (go_at_call 46; refine (Tryd.strings_CutPrefix _ _ _).mono ?_; rintro e w' ⟨rfl, rfl⟩))
    go_ret
    exact ⟨ret_bool HL.out.symm, rfl⟩
set_option maxHeartbeats 400000 in
theorem rIsVar_any (s : ByteArray) (w : World) (hs : s.size ≤ maxLen) :
    Calls Tryd.prog 16 #[.string s] w fun e w' => e = .returned (.bool (Pl.isVar s.toList)) ∧ w = w' := by
  have hs' := hs
  unfold maxLen at hs
  by_cases h2 : 2 ≤ s.size
  · have HL := Lib.hid (Pl.isVar_two s h2)
    have hs2 : (s.extract 1 s.size).size ≤ maxLen := by rw [ByteArray.size_extract]; unfold maxLen; omega
    have HS := Lib.hid hs2
    clear hs2
    go_enter Tryd.func16, Tryd.ntmps16
    go_wp2_with (first | (go_at_call 42; refine (rsmall_any _ _).mono ?_; rintro e w' ⟨rfl, rfl⟩) | (go_at_call 47; refine (rinner_any _ _ HS.out).mono ?_; rintro e w' ⟨rfl, rfl⟩))
    all_goals
      go_ret
      refine ⟨ret_bool ?_, rfl⟩
      rw [HL.out]
      simp_all
      try omega
  · have HL := Lib.hid (Pl.isVar_short s h2)
    go_enter Tryd.func16, Tryd.ntmps16
    go_wp2
    go_ret
    exact ⟨ret_bool HL.out.symm, rfl⟩
set_option maxHeartbeats 400000 in
theorem isLabel_any (s : ByteArray) (w : World) (hs : s.size ≤ maxLen) :
    Calls Tryd.prog 17 #[.string s] w fun e w' => e = .returned (.bool (Pl.isLabel s.toList)) ∧ w = w' := by
  have hs' := hs
  unfold maxLen at hs
  have HL := Lib.hid (show Pl.isLabel s.toList = (s.toList.all Pl.labelB && (decide (1 ≤ s.size) && decide (s.size ≤ 48))) from by unfold Pl.isLabel; rw [Pl.len_size])
  by_cases h0 : 1 ≤ s.size
  · have he : ¬ s.toList = [] := by intro h; have := Pl.len_size s; rw [h] at this; simp at this; omega
    have he2 : s.toList.isEmpty = false := by simpa using he
    by_cases h48 : s.size ≤ 48
    · have h48' : decide ((48 : Int) < (s.size : Int)) = false := by simp; omega
      go_enter Tryd.func17, Tryd.ntmps17
      go_wp2
      go_loop [13] (fun i => ∃ k : Nat, k ≤ s.size ∧ i = .int .i64 k ∧ (s.toList.take k).all Pl.labelB = true) (fun i => s.size - (intOf i).toNat)
      case atStart => exact ⟨0, by omega, rfl, by simp⟩
      case round =>
        obtain ⟨k, hk, rfl, hin⟩ := hrel
        have HI := Lib.hid hin
        clear hin
        by_cases hlt : k < s.size
        · by_cases hb : Pl.cls s[k].toNat = 0
          · have hb2 : (Pl.cls (s[k].toNat : Int) == 0) = true := by simpa using hb
            have HB := Lib.hid hb
            clear hb
            go_wp2_with (go_at_call 48; refine (class_any _ _).mono ?_; rintro e w' ⟨rfl, rfl⟩)
            go_ret
            exact ⟨ret_bool (by rw [HL.out, Pl.all_false _ s k hlt (by rw [Pl.label_of_cls, HB.out]; rfl)]; rfl), rfl⟩
          · have hb2 : (Pl.cls (s[k].toNat : Int) == 0) = false := by simpa using hb
            go_wp2_with (go_at_call 48; refine (class_any _ _).mono ?_; rintro e w' ⟨rfl, rfl⟩)
            go_round
            case rel => exact ⟨k + 1, by omega, by go_num, Pl.label_step s k hlt HI.out (by rw [Pl.label_of_cls]; simpa using hb)⟩
            case measure => simp [intOf]; omega
        · go_wp2
          go_ret
          have hi := HI.out
          rw [Pl.take_all s k (by omega)] at hi
          exact ⟨ret_bool (by rw [HL.out, hi]; simp [h0, h48]), rfl⟩
    · have h48' : decide ((48 : Int) < (s.size : Int)) = true := by simp; omega
      go_enter Tryd.func17, Tryd.ntmps17
      go_wp2
      go_ret
      exact ⟨ret_bool (by rw [HL.out]; simp [h48]), rfl⟩
  · have he := Pl.nil_of_zero s (by omega)
    have he2 : s.toList.isEmpty = true := by rw [he]; rfl
    have HE := Lib.hid he
    go_enter Tryd.func17, Tryd.ntmps17
    go_wp2
    go_ret
    exact ⟨ret_bool (by rw [HE.out]; rfl), rfl⟩
set_option maxHeartbeats 400000 in
theorem rIsLabel_any (s : ByteArray) (w : World) (hs : s.size ≤ maxLen) :
    Calls Tryd.prog 18 #[.string s] w fun e w' => e = .returned (.bool (Pl.isLabel s.toList)) ∧ w = w' := by
  have hs' := hs
  unfold maxLen at hs
  have HL := Lib.hid (show Pl.isLabel s.toList = (s.toList.all Pl.labelB && (decide (1 ≤ s.size) && decide (s.size ≤ 48))) from by unfold Pl.isLabel; rw [Pl.len_size])
  go_enter Tryd.func18, Tryd.ntmps18
  go_wp2
  go_loop [3] (fun i => ∃ k : Nat, k ≤ s.size ∧ i = .int .i64 k ∧ (s.toList.take k).all Pl.labelB = true) (fun i => s.size - (intOf i).toNat)
  case atStart => exact ⟨0, by omega, rfl, by simp⟩
  case round =>
    obtain ⟨k, hk, rfl, hin⟩ := hrel
    have HI := Lib.hid hin
    clear hin
    by_cases hlt : k < s.size
    · cases hb : Pl.inner (s[k].toNat : Int)
      · by_cases hd : (s[k].toNat : Int) = 46
        · have hb2 : ((s[k].toNat : Int) != 46) = false := by simp [hd]
          have HD := Lib.hid hd
          clear hd
          go_wp2_with (go_at_call 49; refine (rinnerc_any _ _).mono ?_; rintro e w' ⟨rfl, rfl⟩)
          exact ⟨⟨k + 1, by omega, by go_num, Pl.label_step s k hlt HI.out (by unfold Pl.labelB; rw [HD.out]; simp)⟩, by simp [intOf]; omega⟩
        · have hb2 : ((s[k].toNat : Int) != 46) = true := by simp [hd]
          go_wp2_with (go_at_call 49; refine (rinnerc_any _ _).mono ?_; rintro e w' ⟨rfl, rfl⟩)
          go_ret
          exact ⟨ret_bool (by rw [HL.out, Pl.all_false _ s k hlt (by unfold Pl.labelB Pl.innerB; rw [hb]; simpa using hd)]; rfl), rfl⟩
      · go_wp2_with (go_at_call 49; refine (rinnerc_any _ _).mono ?_; rintro e w' ⟨rfl, rfl⟩)
        go_round
        case rel => exact ⟨k + 1, by omega, by go_num, Pl.label_step s k hlt HI.out (by unfold Pl.labelB Pl.innerB; rw [hb]; rfl)⟩
        case measure => simp [intOf]; omega
    · go_wp2
      all_goals
        go_ret
        have hi := HI.out
        rw [Pl.take_all s k (by omega)] at hi
        refine ⟨ret_bool ?_, rfl⟩
        rw [HL.out, hi, Bool.eq_iff_iff]
        simp
        try omega
end Go.Proofs.YtmegdcjhpokakaaDoor
