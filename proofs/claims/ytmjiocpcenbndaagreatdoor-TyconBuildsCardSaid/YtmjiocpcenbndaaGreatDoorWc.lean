/-
  Walks of layer 1, third part: names, type variables and labels, of the program and of the reference.
-/
import Derived.Test.YtmjiocpcenbndaaGreatDoorWb
namespace Go.Proofs.YtmjiocpcenbndaaGreatDoor
open Go.RowKit

theorem key_found (s : ByteArray) : decide (Lib.idxOfS (keyStrs.take 31) s < 0) = !Pl.isKey s.toList := by
  have h := (Lib.idxOfS_nonneg_iff keyStrs s).trans (mem_keyStrs s)
  rw [show keyStrs.take 31 = keyStrs from rfl]
  cases hk : Pl.isKey s.toList
  · rw [hk] at h; simp at h ⊢; omega
  · rw [hk] at h; simp at h ⊢; omega
set_option maxHeartbeats 400000 in
theorem isUpper_any (s : ByteArray) (w : World) (hs : s.size ≤ maxLen) :
    Calls Tryz.prog 133 #[.string s] w fun e w' => e = .returned (.bool (Pl.isUpper s.toList)) ∧ w = w' := by
  have hs' := hs
  unfold maxLen at hs
  have HL := Lib.hid (show Pl.isUpper s.toList = (decide (s.size ≤ 24) && Pl.word1 2 s.toList) from by rw [← Pl.upper_eq, Pl.len_size])
  go_enter Tryz.func133, Tryz.ntmps133
  go_wp2_with (first | (go_at_call 143; refine (isWord_any _ _ _ hs').mono ?_; rintro e w' ⟨rfl, rfl⟩))
  all_goals
    go_ret
    refine ⟨ret_bool ?_, rfl⟩
    rw [HL.out]
    simp_all
    try omega
set_option maxHeartbeats 400000 in
theorem isLabel_any (s : ByteArray) (w : World) (hs : s.size ≤ maxLen) :
    Calls Tryz.prog 135 #[.string s] w fun e w' => e = .returned (.bool (Pl.isLabel s.toList)) ∧ w = w' := by
  have hs' := hs
  unfold maxLen at hs
  have HL := Lib.hid (show Pl.isLabel s.toList = (s.toList.all Pl.labelB && (decide (1 ≤ s.size) && decide (s.size ≤ 48))) from by unfold Pl.isLabel; rw [Pl.len_size])
  by_cases h0 : 1 ≤ s.size
  · have he : ¬ s.toList = [] := by intro h; have := Pl.len_size s; rw [h] at this; simp at this; omega
    have he2 : s.toList.isEmpty = false := by simpa using he
    by_cases h48 : s.size ≤ 48
    · have h48' : decide ((48 : Int) < (s.size : Int)) = false := by simp; omega
      go_enter Tryz.func135, Tryz.ntmps135
      go_wp2
      go_loop [13] (fun i => ∃ k : Nat, k ≤ s.size ∧ i = .int .i64 k ∧ (s.toList.take k).all Pl.labelB = true) (fun i => s.size - (intOf i).toNat)
      case atStart => exact ⟨0, by omega, rfl, by simp⟩
      case round =>
        obtain ⟨k, hk, rfl, hin⟩ := hrel
        have HI := Lib.hid hin
        clear hin
        by_cases hlt : k < s.size
        · by_cases hb : Pl.cls s[k].toNat = 0
          · have hb2 : (Pl.cls (s[k].toNat : Int) == 0) = true := by simpa using hb
            have HB := Lib.hid hb
            clear hb
            go_wp2_with (go_at_call 142; refine (class_any _ _).mono ?_; rintro e w' ⟨rfl, rfl⟩)
            go_ret
            exact ⟨ret_bool (by rw [HL.out, Pl.all_false _ s k hlt (by rw [Pl.label_of_cls, HB.out]; rfl)]; rfl), rfl⟩
          · have hb2 : (Pl.cls (s[k].toNat : Int) == 0) = false := by simpa using hb
            go_wp2_with (go_at_call 142; refine (class_any _ _).mono ?_; rintro e w' ⟨rfl, rfl⟩)
            go_round
            case rel => exact ⟨k + 1, by omega, by go_num, Pl.label_step s k hlt HI.out (by rw [Pl.label_of_cls]; simpa using hb)⟩
            case measure => simp [intOf]; omega
        · go_wp2
          go_ret
          have hi := HI.out
          rw [Pl.take_all s k (by omega)] at hi
          exact ⟨ret_bool (by rw [HL.out, hi]; simp [h0, h48]), rfl⟩
    · have h48' : decide ((48 : Int) < (s.size : Int)) = true := by simp; omega
      go_enter Tryz.func135, Tryz.ntmps135
      go_wp2
      go_ret
      exact ⟨ret_bool (by rw [HL.out]; simp [h48]), rfl⟩
  · have he := Pl.nil_of_zero s (by omega)
    have he2 : s.toList.isEmpty = true := by rw [he]; rfl
    have HE := Lib.hid he
    go_enter Tryz.func135, Tryz.ntmps135
    go_wp2
    go_ret
    exact ⟨ret_bool (by rw [HE.out]; rfl), rfl⟩
set_option maxHeartbeats 400000 in
theorem rIsLabel_any (s : ByteArray) (w : World) (hs : s.size ≤ maxLen) :
    Calls Tryz.prog 98 #[.string s] w fun e w' => e = .returned (.bool (Pl.isLabel s.toList)) ∧ w = w' := by
  have hs' := hs
  unfold maxLen at hs
  have HL := Lib.hid (show Pl.isLabel s.toList = (s.toList.all Pl.labelB && (decide (1 ≤ s.size) && decide (s.size ≤ 48))) from by unfold Pl.isLabel; rw [Pl.len_size])
  go_enter Tryz.func98, Tryz.ntmps98
  go_wp2
  go_loop [3] (fun i => ∃ k : Nat, k ≤ s.size ∧ i = .int .i64 k ∧ (s.toList.take k).all Pl.labelB = true) (fun i => s.size - (intOf i).toNat)
  case atStart => exact ⟨0, by omega, rfl, by simp⟩
  case round =>
    obtain ⟨k, hk, rfl, hin⟩ := hrel
    have HI := Lib.hid hin
    clear hin
    by_cases hlt : k < s.size
    · cases hb : Pl.inner (s[k].toNat : Int)
      · by_cases hd : (s[k].toNat : Int) = 46
        · have hb2 : ((s[k].toNat : Int) != 46) = false := by simp [hd]
          have HD := Lib.hid hd
          clear hd
          go_wp2_with (go_at_call 121; refine (rinnerc_any _ _).mono ?_; rintro e w' ⟨rfl, rfl⟩)
          exact ⟨⟨k + 1, by omega, by go_num, Pl.label_step s k hlt HI.out (by unfold Pl.labelB; rw [HD.out]; simp)⟩, by simp [intOf]; omega⟩
        · have hb2 : ((s[k].toNat : Int) != 46) = true := by simp [hd]
          go_wp2_with (go_at_call 121; refine (rinnerc_any _ _).mono ?_; rintro e w' ⟨rfl, rfl⟩)
          go_ret
          exact ⟨ret_bool (by rw [HL.out, Pl.all_false _ s k hlt (by unfold Pl.labelB Pl.innerB; rw [hb]; simpa using hd)]; rfl), rfl⟩
      · go_wp2_with (go_at_call 121; refine (rinnerc_any _ _).mono ?_; rintro e w' ⟨rfl, rfl⟩)
        go_round
        case rel => exact ⟨k + 1, by omega, by go_num, Pl.label_step s k hlt HI.out (by unfold Pl.labelB Pl.innerB; rw [hb]; rfl)⟩
        case measure => simp [intOf]; omega
    · go_wp2
      all_goals
        go_ret
        have hi := HI.out
        rw [Pl.take_all s k (by omega)] at hi
        refine ⟨ret_bool ?_, rfl⟩
        rw [HL.out, hi, Bool.eq_iff_iff]
        simp
        try omega
end Go.Proofs.YtmjiocpcenbndaaGreatDoor
