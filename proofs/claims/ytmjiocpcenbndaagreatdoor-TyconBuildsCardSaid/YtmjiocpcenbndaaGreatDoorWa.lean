/-
  Walks of layer 1, first part: classes of bytes.
-/
import Derived.Test.YtmjiocpcenbndaaGreatDoorProg
import Derived.Test.YtmjiocpcenbndaaGreatDoorPl
import Derived.WalkKit
import Derived.WalkSpells
import Derived.WalkLawsBesides
import Derived.Lib.Hide
namespace Go.Proofs.YtmjiocpcenbndaaGreatDoor
open Go.RowKit

theorem ret_int {k : IntKind} {a b : Int} (h : a = b) : Ending.returned (.int k a) = .returned (.int k b) := by rw [h]
theorem ret_bool {a b : Bool} (h : a = b) : Ending.returned (.bool a) = .returned (.bool b) := by rw [h]

set_option maxHeartbeats 400000 in
theorem class_any (c : Int) (w : World) :
    Calls Tryz.prog 142 #[.int .u8 c] w fun e w' => e = .returned (.int .i64 (Pl.cls c)) ∧ w = w' := by
  go_enter Tryz.func142, Tryz.ntmps142
  go_wp2
  all_goals
    go_ret
    refine ⟨ret_int ?_, rfl⟩
    (try simp only [beq_iff_eq, beq_eq_false_iff_ne] at *)
    unfold Pl.cls
    repeat' split
    all_goals omega
set_option maxHeartbeats 400000 in
theorem rsmall_any (c : Int) (w : World) :
    Calls Tryz.prog 139 #[.int .u8 c] w fun e w' => e = .returned (.bool (Pl.small c)) ∧ w = w' := by
  go_enter Tryz.func139, Tryz.ntmps139
  go_wp2
  all_goals
    go_ret
    refine ⟨ret_bool ?_, rfl⟩
    unfold Pl.small
    simp; try omega
set_option maxHeartbeats 400000 in
theorem rcapital_any (c : Int) (w : World) :
    Calls Tryz.prog 124 #[.int .u8 c] w fun e w' => e = .returned (.bool (Pl.capital c)) ∧ w = w' := by
  go_enter Tryz.func124, Tryz.ntmps124
  go_wp2
  all_goals
    go_ret
    refine ⟨ret_bool ?_, rfl⟩
    unfold Pl.capital
    simp; try omega
set_option maxHeartbeats 400000 in
theorem rdigit_any (c : Int) (w : World) :
    Calls Tryz.prog 122 #[.int .u8 c] w fun e w' => e = .returned (.bool (Pl.digit c)) ∧ w = w' := by
  go_enter Tryz.func122, Tryz.ntmps122
  go_wp2
  all_goals
    go_ret
    refine ⟨ret_bool ?_, rfl⟩
    unfold Pl.digit
    simp; try omega
set_option maxHeartbeats 400000 in
theorem rinnerc_any (c : Int) (w : World) :
    Calls Tryz.prog 121 #[.int .u8 c] w fun e w' => e = .returned (.bool (Pl.inner c)) ∧ w = w' := by
  go_enter Tryz.func121, Tryz.ntmps121
  go_wp2_with (first | (go_at_call 139; refine (rsmall_any _ _).mono ?_; rintro e w' ⟨rfl, rfl⟩) | (go_at_call 124; refine (rcapital_any _ _).mono ?_; rintro e w' ⟨rfl, rfl⟩) | (go_at_call 122; refine (rdigit_any _ _).mono ?_; rintro e w' ⟨rfl, rfl⟩))
  all_goals
    go_ret
    refine ⟨ret_bool ?_, rfl⟩
    unfold Pl.inner
    simp_all
  exact (decide_eq_decide.2 Iff.rfl)

set_option maxHeartbeats 400000 in
theorem isWord_any (s : ByteArray) (f : Int) (w : World) (hs : s.size ≤ maxLen) :
    Calls Tryz.prog 143 #[.string s, .int .i64 f] w fun e w' => e = .returned (.bool (Pl.word1 f s.toList)) ∧ w = w' := by
  unfold maxLen at hs
  by_cases h0 : 0 < s.size
  · have he : ¬ s.toList = [] := by intro h; have := Pl.len_size s; rw [h] at this; simp at this; omega
    have he2 : s.toList.isEmpty = false := by simpa using he
    have HW := Lib.hid (Pl.word1_pos s f h0)
    by_cases hf : Pl.cls s[0].toNat = f
    · have hf2 : (Pl.cls s[0].toNat != f) = false := by simpa using hf
      have HF := Lib.hid hf
      clear hf
      go_enter Tryz.func143, Tryz.ntmps143
      go_wp2_with (go_at_call 142; refine (class_any _ _).mono ?_; rintro e w' ⟨rfl, rfl⟩)
      go_loop [5] (fun i => ∃ k : Nat, 1 ≤ k ∧ k ≤ s.size ∧ i = .int .i64 k ∧ Pl.innerL ((s.toList.take k).drop 1) = true) (fun i => s.size - (intOf i).toNat)
      case atStart => exact ⟨1, by omega, by omega, rfl, by simp [Pl.innerL]⟩
      case round =>
        obtain ⟨k, hk1, hk, rfl, hin⟩ := hrel
        have HI := Lib.hid hin
        clear hin
        by_cases hlt : k < s.size
        · go_wp2_with (go_at_call 142; refine (class_any _ _).mono ?_; rintro e w' ⟨rfl, rfl⟩)
          · go_ret
            have hc : (Pl.cls ↑s[k].toNat == 0) = true := by assumption
            exact ⟨ret_bool (by rw [HW.out, Pl.rest_false s k hk1 hlt (Pl.not_inner_of_cls _ (.inl (by simpa using hc)))]; simp), rfl⟩
          · go_ret
            have hc : (Pl.cls ↑s[k].toNat == 5) = true := by assumption
            exact ⟨ret_bool (by rw [HW.out, Pl.rest_false s k hk1 hlt (Pl.not_inner_of_cls _ (.inr (by simpa using hc)))]; simp), rfl⟩
          · have hc0 : (Pl.cls ↑s[k].toNat == 0) = false := by assumption
            have hc5 : (Pl.cls ↑s[k].toNat == 5) = false := by assumption
            exact ⟨⟨k + 1, by omega, by omega, by go_num, Pl.inner_step1 s k hk1 hlt HI.out (Pl.inner_of_cls _ (by simpa using hc0) (by simpa using hc5))⟩, by simp [intOf]; omega⟩
        · go_wp2
          go_ret
          refine ⟨ret_bool ?_, rfl⟩
          have hi := HI.out
          rw [Pl.take_all s k (by omega)] at hi
          rw [HW.out, hi, HF.out]; simp
    · have hf2 : (Pl.cls s[0].toNat != f) = true := by simpa using hf
      go_enter Tryz.func143, Tryz.ntmps143
      go_wp2_with (go_at_call 142; refine (class_any _ _).mono ?_; rintro e w' ⟨rfl, rfl⟩)
      go_ret
      exact ⟨ret_bool (by rw [HW.out]; simp [hf]), rfl⟩
  · have he := Pl.nil_of_zero s h0
    have he2 : s.toList.isEmpty = true := by rw [he]; rfl
    have HE := Lib.hid he
    go_enter Tryz.func143, Tryz.ntmps143
    go_wp2
    go_ret
    exact ⟨ret_bool (by rw [HE.out]; rfl), rfl⟩

set_option maxHeartbeats 400000 in
theorem rinner_any (s : ByteArray) (w : World) (hs : s.size ≤ maxLen) :
    Calls Tryz.prog 140 #[.string s] w fun e w' => e = .returned (.bool (Pl.innerL s.toList)) ∧ w = w' := by
  unfold maxLen at hs
  go_enter Tryz.func140, Tryz.ntmps140
  go_wp2
  go_loop [3] (fun i => ∃ k : Nat, k ≤ s.size ∧ i = .int .i64 k ∧ Pl.innerL (s.toList.take k) = true) (fun i => s.size - (intOf i).toNat)
  case atStart => exact ⟨0, by omega, rfl, by simp [Pl.innerL]⟩
  case round =>
    obtain ⟨k, hk, rfl, hin⟩ := hrel
    have HI := Lib.hid hin
    clear hin
    by_cases hlt : k < s.size
    · by_cases hb : Pl.innerB s[k] = true
      · have hb2 : Pl.inner (s[k].toNat : Int) = true := hb
        go_wp2_with (go_at_call 121; refine (rinnerc_any _ _).mono ?_; rintro e w' ⟨rfl, rfl⟩)
        go_round
        case rel => exact ⟨k + 1, by omega, by go_num, Pl.inner_step s k hlt HI.out hb⟩
        case measure => simp [intOf]; omega
      · have hb2 : Pl.inner (s[k].toNat : Int) = false := by simpa [Pl.innerB] using hb
        go_wp2_with (go_at_call 121; refine (rinnerc_any _ _).mono ?_; rintro e w' ⟨rfl, rfl⟩)
        go_ret
        exact ⟨ret_bool (Pl.all_false _ s k hlt (by simpa using hb)).symm, rfl⟩
    · go_wp2
      go_ret
      have hi := HI.out
      rw [Pl.take_all s k (by omega)] at hi
      exact ⟨ret_bool hi.symm, rfl⟩
set_option maxHeartbeats 400000 in
theorem rWord_any (s : ByteArray) (w : World) (hs : s.size ≤ maxLen) :
    Calls Tryz.prog 123 #[.string s] w fun e w' => e = .returned (.bool (Pl.isWord s.toList)) ∧ w = w' := by
  have hs' := hs
  unfold maxLen at hs
  have HW := Lib.hid (show Pl.isWord s.toList = (decide (1 ≤ s.size) && decide (s.size ≤ 24) && Pl.innerL s.toList) from by unfold Pl.isWord; rw [Pl.len_size])
  go_enter Tryz.func123, Tryz.ntmps123
  go_wp2_with (go_at_call 140; refine (rinner_any _ _ hs').mono ?_; rintro e w' ⟨rfl, rfl⟩)
  all_goals
    go_ret
    refine ⟨ret_bool ?_, rfl⟩
    rw [HW.out]
    simp
    try omega
set_option maxHeartbeats 400000 in
theorem rIsUpper_any (s : ByteArray) (w : World) (hs : s.size ≤ maxLen) :
    Calls Tryz.prog 101 #[.string s] w fun e w' => e = .returned (.bool (Pl.isUpper s.toList)) ∧ w = w' := by
  go_enter Tryz.func101, Tryz.ntmps101
  by_cases hw : Pl.isWord s.toList = true
  · have h0 : 0 < s.size := by have := hw; unfold Pl.isWord at this; simp [Pl.len_size] at this; omega
    have HU := Lib.hid (show Pl.isUpper s.toList = Pl.capital s[0].toNat from by unfold Pl.isUpper; rw [hw, Pl.head_pos _ s h0]; rfl)
    go_wp2_with (first | (go_at_call 123; refine (rWord_any _ _ hs).mono ?_; rintro e w' ⟨rfl, rfl⟩) | (go_at_call 124; refine (rcapital_any _ _).mono ?_; rintro e w' ⟨rfl, rfl⟩))
    go_ret
    exact ⟨ret_bool HU.out.symm, rfl⟩
  · have hw2 : Pl.isWord s.toList = false := by simpa using hw
    go_wp2_with (first | (go_at_call 123; refine (rWord_any _ _ hs).mono ?_; rintro e w' ⟨rfl, rfl⟩) | (go_at_call 124; refine (rcapital_any _ _).mono ?_; rintro e w' ⟨rfl, rfl⟩))
    go_ret
    exact ⟨ret_bool (by unfold Pl.isUpper; rw [hw2]; rfl), rfl⟩
end Go.Proofs.YtmjiocpcenbndaaGreatDoor
