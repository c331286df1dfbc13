/-
  Numbers: the walks of Number, of the reference's Number, and of the law.
-/
import Derived.Test.YtmjiocpcenbndaaGreatDoorWf
import Derived.Test.YtmjiocpcenbndaaGreatDoorPo
namespace Go.Proofs.YtmjiocpcenbndaaGreatDoor
open Go.RowKit

theorem ret_two {a b c d : Int} (h : (a, b) = (c, d)) : Ending.returned (.tuple #[.int .i64 a, .int .i64 b]) = .returned (.tuple #[.int .i64 c, .int .i64 d]) := by
  cases h; rfl
theorem number_zeroed (s : ByteArray) (w : World) (hs : s.size ≤ maxLen) (hz : Pl.zeroed s.toList = true) :
    Calls Tryz.prog 132 #[.string s] w fun e w' => e = .returned (.tuple #[.int .i64 0, .int .i64 3]) ∧ w = w' := by
  unfold maxLen at hs
  by_cases h0 : 0 < s.size
  · have he : ¬ s.toList = [] := by intro h; have := Pl.len_size s; rw [h] at this; simp at this; omega
    have he2 : s.toList.isEmpty = false := by simpa using he
    rw [Pl.zeroed_pos s h0] at hz
    simp only [Bool.and_eq_true, decide_eq_true_eq] at hz
    obtain ⟨hz1, hz2⟩ := hz
    have hz3 : ((s[0].toNat : Int) == 48) = true := by simpa using hz1
    have HZ := Lib.hid hz1
    clear hz1
    go_enter Tryz.func132, Tryz.ntmps132
    go_wp2
    go_ret2
    exact ⟨rfl, rfl⟩
  · have he := Pl.nil_of_zero s h0
    have he2 : s.toList.isEmpty = true := by rw [he]; rfl
    clear hz
    go_enter Tryz.func132, Tryz.ntmps132
    go_wp2
    go_ret2
    exact ⟨rfl, rfl⟩
set_option maxHeartbeats 1000000 in
theorem number_read (s : ByteArray) (w : World) (hs : s.size ≤ maxLen) (hz : Pl.zeroed s.toList = false) :
    Calls Tryz.prog 132 #[.string s] w fun e w' => e = .returned (.tuple #[.int .i64 (Pl.number s.toList).1, .int .i64 (Pl.number s.toList).2]) ∧ w = w' := by
  unfold maxLen at hs
  have h0 : 0 < s.size := by
    rcases Nat.eq_zero_or_pos s.size with h | h
    · rw [Pl.nil_of_zero s (by omega)] at hz; cases hz
    · exact h
  have HN := Lib.hid (show Pl.number s.toList = (if Pl.digits s.toList then (if 4503599627370496 < Pl.val s.toList then (0, 6) else (Pl.val s.toList, 0)) else (0, 3)) from by unfold Pl.number; rw [hz]; rfl)
  have he : ¬ s.toList = [] := by intro h; have := Pl.len_size s; rw [h] at this; simp at this; omega
  have he2 : s.toList.isEmpty = false := by simpa using he
  rw [Pl.zeroed_pos s h0] at hz
  have hz2 : ((s[0].toNat : Int) == 48) = false ∨ ((s[0].toNat : Int) == 48) = true ∧ ¬ 1 < s.size := by
    cases h : ((s[0].toNat : Int) == 48)
    · exact .inl rfl
    · right
      refine ⟨rfl, fun h1 => ?_⟩
      rw [decide_eq_true (by simpa using h), decide_eq_true h1] at hz
      cases hz
  clear hz
  rcases hz2 with hz2 | ⟨hz2, hz3⟩
  all_goals
    go_enter Tryz.func132, Tryz.ntmps132
    go_wp2
    go_loop [21, 4, 5] (fun i n b => ∃ k : Nat, k ≤ s.size ∧ i = .int .i64 k ∧ Pl.digits (s.toList.take k) = true ∧ ((b = .bool false ∧ n = .int .i64 (Pl.val (s.toList.take k)) ∧ Pl.val (s.toList.take k) ≤ 4503599627370496) ∨ (b = .bool true ∧ (∃ m, n = .int .i64 m) ∧ Pl.val (s.toList.take k) = 4503599627370497))) (fun i _ _ => s.size - (intOf i).toNat)
    case atStart => exact ⟨0, by omega, rfl, rfl, .inl ⟨rfl, rfl, by simp [Pl.val]⟩⟩
    case round =>
      obtain ⟨k, hk, rfl, hin, hst⟩ := hrel
      have HI := Lib.hid hin
      have HV := Lib.hid (Pl.val_bound s k hin)
      clear hin
      by_cases hlt : k < s.size
      · by_cases hd : Pl.digitB s[k] = true
        · have hr := Pl.digit_of _ hd
          obtain ⟨hr1, hr2⟩ := hr
          have hc3 : (Pl.cls (s[k].toNat : Int) != 3) = false := by have := (Pl.cls_digitB s[k]).mpr hd; simp [this]
          have HD := Lib.hid (Pl.digits_snoc s k hlt HI.out hd)
          have HS := Lib.hid (Pl.val_take s k hlt)
          have HDB := Lib.hid hd
          clear hd
          rcases hst with ⟨rfl, rfl, hv⟩ | ⟨rfl, ⟨m, rfl⟩, hv⟩
          · have hv0 := HV.out.1
            generalize hvv : Pl.val (s.toList.take k) = v at hv hv0 HS
            clear hvv HV
            by_cases hbig : 4503599627370496 < 10 * v + ((s[k].toNat : Int) - 48)
            · have hb2 : decide (4503599627370496 < 10 * v + ((s[k].toNat : Int) - 48)) = true := decide_eq_true hbig
              go_wp2_with (go_at_call 142; refine (class_any _ _).mono ?_; rintro e w' ⟨rfl, rfl⟩)
              exact ⟨⟨k + 1, by omega, by go_num, HD.out, .inr ⟨rfl, ⟨_, rfl⟩, by rw [HS.out, Pl.step_big _ _ hbig]⟩⟩, by simp [intOf]; omega⟩
            · have hb2 : decide (4503599627370496 < 10 * v + ((s[k].toNat : Int) - 48)) = false := decide_eq_false hbig
              go_wp2_with (go_at_call 142; refine (class_any _ _).mono ?_; rintro e w' ⟨rfl, rfl⟩)
              exact ⟨⟨k + 1, by omega, by go_num, HD.out, .inl ⟨rfl, by rw [HS.out, Pl.step_small _ _ (by omega)], by rw [HS.out, Pl.step_small _ _ (by omega)]; omega⟩⟩, by simp [intOf]; omega⟩
          · have HVV := Lib.hid hv
            clear hv HV
            go_wp2_with (go_at_call 142; refine (class_any _ _).mono ?_; rintro e w' ⟨rfl, rfl⟩)
            go_round
            case rel => exact ⟨k + 1, by omega, by go_num, HD.out, .inr ⟨rfl, ⟨m, rfl⟩, by rw [HS.out, HVV.out, Pl.step_stays _ HDB.out]⟩⟩
            case measure => simp [intOf]; omega
        · have hc3 : (Pl.cls (s[k].toNat : Int) != 3) = true := by
            have hx : ¬ Pl.cls (s[k].toNat : Int) = 3 := fun hq => hd ((Pl.cls_digitB s[k]).mp hq)
            simpa using hx
          have HF := Lib.hid (Pl.digits_false s k hlt (by simpa using hd))
          clear hd HV hst
          go_wp2_with (go_at_call 142; refine (class_any _ _).mono ?_; rintro e w' ⟨rfl, rfl⟩)
          go_ret2
          exact ⟨ret_two (by rw [HN.out, HF.out]; rfl), rfl⟩
      · have hi := HI.out
        have hall := Pl.take_all s k (by omega)
        rw [hall] at hi hst
        have HI2 := Lib.hid hi
        clear hi hall HV HI
        rcases hst with ⟨rfl, rfl, hv⟩ | ⟨rfl, ⟨m, rfl⟩, hv⟩
        · have HVV := Lib.hid hv
          clear hv
          go_wp2
          go_ret2
          exact ⟨ret_two (by rw [HN.out, HI2.out, if_pos rfl, if_neg (by have := HVV.out; omega)]), rfl⟩
        · have HVV := Lib.hid hv
          clear hv
          go_wp2
          go_ret2
          exact ⟨ret_two (by rw [HN.out, HI2.out, if_pos rfl, if_pos (by have := HVV.out; omega)]), rfl⟩

theorem rnumber_zeroed (s : ByteArray) (w : World) (hs : s.size ≤ maxLen) (hz : Pl.zeroed s.toList = true) :
    Calls Tryz.prog 100 #[.string s] w fun e w' => e = .returned (.tuple #[.int .i64 0, .int .i64 3]) ∧ w = w' := by
  unfold maxLen at hs
  by_cases h0 : 0 < s.size
  · have hne : ((s.size : Int) == 0) = false := beq_eq_false_iff_ne.2 (by omega)
    rw [Pl.zeroed_pos s h0] at hz
    simp only [Bool.and_eq_true, decide_eq_true_eq] at hz
    obtain ⟨hz1, hz2⟩ := hz
    have hz3 : ((s[0].toNat : Int) == 48) = true := by simpa using hz1
    have HZ := Lib.hid hz1
    clear hz1
    go_enter Tryz.func100, Tryz.ntmps100
    go_wp2
    go_ret2
    exact ⟨rfl, rfl⟩
  · have hne : ((s.size : Int) == 0) = true := beq_iff_eq.2 (by omega)
    clear hz
    go_enter Tryz.func100, Tryz.ntmps100
    go_wp2
    go_ret2
    exact ⟨rfl, rfl⟩
set_option maxHeartbeats 1000000 in
theorem rnumber_read (s : ByteArray) (w : World) (hs : s.size ≤ maxLen) (hz : Pl.zeroed s.toList = false) :
    Calls Tryz.prog 100 #[.string s] w fun e w' => e = .returned (.tuple #[.int .i64 (Pl.number s.toList).1, .int .i64 (Pl.number s.toList).2]) ∧ w = w' := by
  unfold maxLen at hs
  have h0 : 0 < s.size := by
    rcases Nat.eq_zero_or_pos s.size with h | h
    · rw [Pl.nil_of_zero s (by omega)] at hz; cases hz
    · exact h
  have HN := Lib.hid (show Pl.number s.toList = (if Pl.digits s.toList then (if 4503599627370496 < Pl.val s.toList then (0, 6) else (Pl.val s.toList, 0)) else (0, 3)) from by unfold Pl.number; rw [hz]; rfl)
  have hne : ((s.size : Int) == 0) = false := beq_eq_false_iff_ne.2 (by omega)
  rw [Pl.zeroed_pos s h0] at hz
  have hz2 : ¬ 1 < s.size ∨ 1 < s.size ∧ ((s[0].toNat : Int) == 48) = false := by
    by_cases h1 : 1 < s.size
    · right
      refine ⟨h1, ?_⟩
      rw [decide_eq_true h1, Bool.and_true] at hz
      simpa using hz
    · exact .inl h1
  clear hz
  rcases hz2 with hz2 | ⟨hz2, hz3⟩
  all_goals
    go_enter Tryz.func100, Tryz.ntmps100
    go_wp2
    go_loop [5, 4] (fun i n => ∃ k : Nat, k ≤ s.size ∧ i = .int .i64 k ∧ Pl.digits (s.toList.take k) = true ∧ n = .int .i64 (Pl.val (s.toList.take k))) (fun i _ => s.size - (intOf i).toNat)
    case atStart => exact ⟨0, by omega, rfl, rfl, rfl⟩
    case round =>
      obtain ⟨k, hk, rfl, hin, rfl⟩ := hrel
      have HI := Lib.hid hin
      have HV := Lib.hid (Pl.val_bound s k hin)
      clear hin
      by_cases hlt : k < s.size
      · by_cases hd : Pl.digitB s[k] = true
        · have hr := Pl.digit_of _ hd
          obtain ⟨hr1, hr2⟩ := hr
          have hc3 : Pl.digit (s[k].toNat : Int) = true := hd
          have HD := Lib.hid (Pl.digits_snoc s k hlt HI.out hd)
          have HS := Lib.hid (Pl.val_take s k hlt)
          clear hd
          have hv0 := HV.out.1
          have hv := HV.out.2
          generalize Pl.val (s.toList.take k) = v at hv hv0 HS
          clear HV
          go_wp2_with (go_at_call 122; refine (rdigit_any _ _).mono ?_; rintro e w' ⟨rfl, rfl⟩)
          exact ⟨⟨k + 1, by omega, by go_num, HD.out, by rw [HS.out]; first | rfl | (congr 1; unfold Pl.step; split <;> omega)⟩, by simp [intOf]; omega⟩
        · have hdf : Pl.digitB s[k] = false := by simpa using hd
          have hc3 : Pl.digit (s[k].toNat : Int) = false := hdf
          have HF := Lib.hid (Pl.digits_false s k hlt hdf)
          clear hd hdf HV
          go_wp2_with (go_at_call 122; refine (rdigit_any _ _).mono ?_; rintro e w' ⟨rfl, rfl⟩)
          go_ret2
          exact ⟨ret_two (by rw [HN.out, HF.out]; rfl), rfl⟩
      · have hi := HI.out
        have hall := Pl.take_all s k (by omega)
        rw [hall] at hi ⊢
        rw [hi, if_pos rfl] at HN
        clear hi hall HV HI
        by_cases hv : 4503599627370496 < Pl.val s.toList
        · rw [if_pos hv] at HN
          go_wp2
          go_ret2
          exact ⟨ret_two (by rw [HN.out]), rfl⟩
        · rw [if_neg hv] at HN
          go_wp2
          go_ret2
          exact ⟨ret_two (by rw [HN.out]), rfl⟩

theorem number_any (s : ByteArray) (w : World) (hs : s.size ≤ maxLen) :
    Calls Tryz.prog 132 #[.string s] w fun e w' => e = .returned (.tuple #[.int .i64 (Pl.number s.toList).1, .int .i64 (Pl.number s.toList).2]) ∧ w = w' := by
  cases hz : Pl.zeroed s.toList
  · exact number_read s w hs hz
  · have e : Pl.number s.toList = (0, 3) := by unfold Pl.number; rw [hz]; rfl
    rw [e]; exact number_zeroed s w hs hz
theorem rnumber_any (s : ByteArray) (w : World) (hs : s.size ≤ maxLen) :
    Calls Tryz.prog 100 #[.string s] w fun e w' => e = .returned (.tuple #[.int .i64 (Pl.number s.toList).1, .int .i64 (Pl.number s.toList).2]) ∧ w = w' := by
  cases hz : Pl.zeroed s.toList
  · exact rnumber_read s w hs hz
  · have e : Pl.number s.toList = (0, 3) := by unfold Pl.number; rw [hz]; rfl
    rw [e]; exact rnumber_zeroed s w hs hz
end Go.Proofs.YtmjiocpcenbndaaGreatDoor
