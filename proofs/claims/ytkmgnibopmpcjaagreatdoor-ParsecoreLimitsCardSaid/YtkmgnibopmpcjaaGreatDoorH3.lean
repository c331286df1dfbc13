/-
  Walks and plain mathematics, several texts in one (Li Le).
-/
import Derived.Test.YtkmgnibopmpcjaaGreatDoorH2
/-
  Layer 1's functions that layer 2 calls: names, type variables and numbers.
-/
namespace Go.Proofs.YtkmgnibopmpcjaaGreatDoor
open Go.RowKit
set_option maxHeartbeats 400000 in
theorem class_any (c : Int) (w : World) :
    Calls Tryz.prog 174 #[.int .u8 c] w fun e w' => e = .returned (.int .i64 (Pl.cls c)) ∧ w = w' := by
  go_enter Tryz.func174, Tryz.ntmps174
  go_wp2
  all_goals
    go_ret
    refine ⟨ret_int ?_, rfl⟩
    (try simp only [beq_iff_eq, beq_eq_false_iff_ne] at *)
    unfold Pl.cls
    repeat' split
    all_goals omega
set_option maxHeartbeats 400000 in
theorem isWord_any (s : ByteArray) (f : Int) (w : World) (hs : s.size ≤ maxLen) :
    Calls Tryz.prog 171 #[.string s, .int .i64 f] w fun e w' => e = .returned (.bool (Pl.word1 f s.toList)) ∧ w = w' := by
  unfold maxLen at hs
  by_cases h0 : 0 < s.size
  · have he : ¬ s.toList = [] := by intro h; have := Pl.len_size s; rw [h] at this; simp at this; omega
    have he2 : s.toList.isEmpty = false := by simpa using he
    have HW := Lib.hid (Pl.word1_pos s f h0)
    by_cases hf : Pl.cls s[0].toNat = f
    · have hf2 : (Pl.cls s[0].toNat != f) = false := by simpa using hf
      have HF := Lib.hid hf
      clear hf
      go_enter Tryz.func171, Tryz.ntmps171
      go_wp2_with (go_at_call 174; refine (class_any _ _).mono ?_; rintro e w' ⟨rfl, rfl⟩)
      go_loop [5] (fun i => ∃ k : Nat, 1 ≤ k ∧ k ≤ s.size ∧ i = .int .i64 k ∧ Pl.innerL ((s.toList.take k).drop 1) = true) (fun i => s.size - (intOf i).toNat)
      case atStart => exact ⟨1, by omega, by omega, rfl, by simp [Pl.innerL]⟩
      case round =>
        obtain ⟨k, hk1, hk, rfl, hin⟩ := hrel
        have HI := Lib.hid hin
        clear hin
        by_cases hlt : k < s.size
        · go_wp2_with (go_at_call 174; refine (class_any _ _).mono ?_; rintro e w' ⟨rfl, rfl⟩)
          · go_ret
            have hc : (Pl.cls ↑s[k].toNat == 0) = true := by assumption
            exact ⟨ret_bool (by rw [HW.out, Pl.rest_false s k hk1 hlt (Pl.not_inner_of_cls _ (.inl (by simpa using hc)))]; simp), rfl⟩
          · go_ret
            have hc : (Pl.cls ↑s[k].toNat == 5) = true := by assumption
            exact ⟨ret_bool (by rw [HW.out, Pl.rest_false s k hk1 hlt (Pl.not_inner_of_cls _ (.inr (by simpa using hc)))]; simp), rfl⟩
          · have hc0 : (Pl.cls ↑s[k].toNat == 0) = false := by assumption
            have hc5 : (Pl.cls ↑s[k].toNat == 5) = false := by assumption
            exact ⟨⟨k + 1, by omega, by omega, by go_num, Pl.inner_step1 s k hk1 hlt HI.out (Pl.inner_of_cls _ (by simpa using hc0) (by simpa using hc5))⟩, by simp [intOf]; omega⟩
        · go_wp2
          go_ret
          refine ⟨ret_bool ?_, rfl⟩
          have hi := HI.out
          rw [Pl.take_all s k (by omega)] at hi
          rw [HW.out, hi, HF.out]; simp
    · have hf2 : (Pl.cls s[0].toNat != f) = true := by simpa using hf
      go_enter Tryz.func171, Tryz.ntmps171
      go_wp2_with (go_at_call 174; refine (class_any _ _).mono ?_; rintro e w' ⟨rfl, rfl⟩)
      go_ret
      exact ⟨ret_bool (by rw [HW.out]; simp [hf]), rfl⟩
  · have he := Pl.nil_of_zero s h0
    have he2 : s.toList.isEmpty = true := by rw [he]; rfl
    have HE := Lib.hid he
    go_enter Tryz.func171, Tryz.ntmps171
    go_wp2
    go_ret
    exact ⟨ret_bool (by rw [HE.out]; rfl), rfl⟩
set_option maxHeartbeats 400000 in
theorem isKey_no (s : ByteArray) (w : World) (h : Pl.isKey s.toList = false) :
    Calls Tryz.prog 172 #[.string s] w fun e w' => e = .returned (.bool false) ∧ w = w' := by
  simp only [Pl.isKey, Pl.keys, List.contains_cons, Bool.or_eq_false_iff] at h
  obtain ⟨h1, h2, h3, h4, h5, h6, h7, h8, h9, h10, h11, h12, h13, h14, h15, h16, h17, h18, h19, h20, h21, h22, h23, h24, h25, h26, h27, h28, h29, h30, h31, h32⟩ := h
  go_enter Tryz.func172, Tryz.ntmps172
  go_wp2
  go_ret
  exact ⟨rfl, rfl⟩
set_option maxHeartbeats 4000000 in
theorem isKey_yes (s : ByteArray) (w : World) (h : Pl.isKey s.toList = true) :
    Calls Tryz.prog 172 #[.string s] w fun e w' => e = .returned (.bool true) ∧ w = w' := by
  have h' : s.toList ∈ Pl.keys := by simpa [Pl.isKey] using h
  clear h
  simp only [Pl.keys, List.mem_cons, List.mem_nil_iff, or_false] at h'
  rcases h' with h | h | h | h | h | h | h | h | h | h | h | h | h | h | h | h | h | h | h | h | h | h | h | h | h | h | h | h | h | h | h
  all_goals
    go_enter Tryz.func172, Tryz.ntmps172
    go_wp2
    go_ret
    exact ⟨rfl, rfl⟩
theorem isKey_any (s : ByteArray) (w : World) :
    Calls Tryz.prog 172 #[.string s] w fun e w' => e = .returned (.bool (Pl.isKey s.toList)) ∧ w = w' := by
  cases h : Pl.isKey s.toList
  · exact isKey_no s w h
  · exact isKey_yes s w h
set_option maxHeartbeats 400000 in
theorem isLower_any (s : ByteArray) (w : World) (hs : s.size ≤ maxLen) :
    Calls Tryz.prog 100 #[.string s] w fun e w' => e = .returned (.bool (Pl.isLower s.toList)) ∧ w = w' := by
  have hs' := hs
  unfold maxLen at hs
  have HL := Lib.hid (show Pl.isLower s.toList = (decide (s.size ≤ 24) && Pl.word1 1 s.toList && !Pl.isKey s.toList) from by unfold Pl.isLower; rw [← Pl.lower_eq, Pl.len_size])
  go_enter Tryz.func100, Tryz.ntmps100
  go_wp2_with (first | (go_at_call 171; refine (isWord_any _ _ _ hs').mono ?_; rintro e w' ⟨rfl, rfl⟩) | (go_at_call 172; refine (isKey_any _ _).mono ?_; rintro e w' ⟨rfl, rfl⟩))
  all_goals
    go_ret
    refine ⟨ret_bool ?_, rfl⟩
    rw [HL.out]
    simp_all
    try omega
set_option maxHeartbeats 400000 in
theorem isUpper_any (s : ByteArray) (w : World) (hs : s.size ≤ maxLen) :
    Calls Tryz.prog 101 #[.string s] w fun e w' => e = .returned (.bool (Pl.isUpper s.toList)) ∧ w = w' := by
  have hs' := hs
  unfold maxLen at hs
  have HL := Lib.hid (show Pl.isUpper s.toList = (decide (s.size ≤ 24) && Pl.word1 2 s.toList) from by rw [← Pl.upper_eq, Pl.len_size])
  go_enter Tryz.func101, Tryz.ntmps101
  go_wp2_with (first | (go_at_call 171; refine (isWord_any _ _ _ hs').mono ?_; rintro e w' ⟨rfl, rfl⟩))
  all_goals
    go_ret
    refine ⟨ret_bool ?_, rfl⟩
    rw [HL.out]
    simp_all
    try omega
theorem cutQ (s : ByteArray) (w : World) (h : 0 < s.size) : Calls Tryz.prog 173 #[.string s, .string ⟨#[39]⟩] w fun e w' =>
    e = .returned (.tuple #[.string (if (s[0].toNat : Int) = 39 then s.extract 1 s.size else s), .bool (decide ((s[0].toNat : Int) = 39))]) ∧ w = w' := by
  refine (Tryz.strings_CutPrefix s ⟨#[39]⟩ w).mono ?_
  rintro e w' ⟨rfl, rfl⟩
  refine ⟨?_, rfl⟩
  have h1 : s.data.toList = s[0] :: s.data.toList.drop 1 := by have := Pl.drop_cons s 0 h; rw [Pl.toList_eq] at this; exact this
  have hp : Lib.hasPrefix s.data.toList [39] = decide ((s[0].toNat : Int) = 39) := by
    rw [h1]
    simp only [Lib.hasPrefix, List.isPrefixOf, Bool.and_true]
    rw [Bool.eq_iff_iff, beq_iff_eq, decide_eq_true_eq, Pl.u8_eq]
    constructor <;> intro h2 <;> exact h2.symm
  rw [show (⟨#[39]⟩ : ByteArray).data.toList = [39] from rfl, hp]
  unfold Lib.trimPrefix
  rw [hp]
  by_cases hq : (s[0].toNat : Int) = 39
  · simp only [hq, decide_true, if_true]
    congr 5
    rw [← Pl.toList_eq, show [(39 : UInt8)].length = 1 from rfl, ← Pl.extract_end s 1, Pl.toList_eq]
  · simp only [hq, decide_false, if_false, Bool.false_eq_true]
set_option maxHeartbeats 400000 in
theorem isVar_any (s : ByteArray) (w : World) (hs : s.size ≤ maxLen) :
    Calls Tryz.prog 102 #[.string s] w fun e w' => e = .returned (.bool (Pl.isVar s.toList)) ∧ w = w' := by
  have hs' := hs
  unfold maxLen at hs
  by_cases h0 : 0 < s.size
  · by_cases hq : (s[0].toNat : Int) = 39
    · have HL := Lib.hid (show Pl.isVar s.toList = (decide (s.size ≤ 24) && Pl.word1 1 (s.extract 1 s.size).toList) from by rw [Pl.isVar_cons s h0, Pl.extract_end]; simp [hq])
      have hc := cutQ s w h0
      rw [if_pos hq, decide_eq_true hq] at hc
      have HC := Lib.hid hc
      clear hc hq
      have hs2 : (s.extract 1 s.size).size ≤ maxLen := by rw [ByteArray.size_extract]; unfold maxLen; omega
      have HS := Lib.hid hs2
      clear hs2
      go_enter Tryz.func102, Tryz.ntmps102
      go_wp2_with (first | (go_at_call 173; refine (HC.out).mono ?_; rintro e w' ⟨rfl, rfl⟩) | (go_at_call 171; refine (isWord_any _ _ _ HS.out).mono ?_; rintro e w' ⟨rfl, rfl⟩))
      all_goals
        go_ret
        refine ⟨ret_bool ?_, rfl⟩
        rw [HL.out]
        simp
        try omega
    · have HL := Lib.hid (show Pl.isVar s.toList = false from by rw [Pl.isVar_cons s h0]; simp [hq])
      have hc := cutQ s w h0
      rw [if_neg hq, decide_eq_false hq] at hc
      have HC := Lib.hid hc
      clear hc hq
      go_enter Tryz.func102, Tryz.ntmps102
      go_wp2_with (first | (go_at_call 173; refine (HC.out).mono ?_; rintro e w' ⟨rfl, rfl⟩))
      go_ret
      exact ⟨ret_bool HL.out.symm, rfl⟩
  · have he := Pl.nil_of_zero s h0
    have HL := Lib.hid (show Pl.isVar s.toList = false from by rw [he]; rfl)
    have hp : Lib.hasPrefix s.data.toList [39] = false := by rw [← Pl.toList_eq, he]; rfl
    clear he
    go_enter Tryz.func102, Tryz.ntmps102
    go_wp2_with (first | (go_at_call 173; refine (Tryz.strings_CutPrefix _ _ _).mono ?_; rintro e w' ⟨rfl, rfl⟩))
    go_ret
    exact ⟨ret_bool HL.out.symm, rfl⟩
theorem ret_two {a b c d : Int} (h : (a, b) = (c, d)) : Ending.returned (.tuple #[.int .i64 a, .int .i64 b]) = .returned (.tuple #[.int .i64 c, .int .i64 d]) := by
  cases h; rfl
theorem number_zeroed (s : ByteArray) (w : World) (hs : s.size ≤ maxLen) (hz : Pl.zeroed s.toList = true) :
    Calls Tryz.prog 103 #[.string s] w fun e w' => e = .returned (.tuple #[.int .i64 0, .int .i64 3]) ∧ w = w' := by
  unfold maxLen at hs
  by_cases h0 : 0 < s.size
  · have he : ¬ s.toList = [] := by intro h; have := Pl.len_size s; rw [h] at this; simp at this; omega
    have he2 : s.toList.isEmpty = false := by simpa using he
    rw [Pl.zeroed_pos s h0] at hz
    simp only [Bool.and_eq_true, decide_eq_true_eq] at hz
    obtain ⟨hz1, hz2⟩ := hz
    have hz3 : ((s[0].toNat : Int) == 48) = true := by simpa using hz1
    have HZ := Lib.hid hz1
    clear hz1
    go_enter Tryz.func103, Tryz.ntmps103
    go_wp2
    go_ret2
    exact ⟨rfl, rfl⟩
  · have he := Pl.nil_of_zero s h0
    have he2 : s.toList.isEmpty = true := by rw [he]; rfl
    clear hz
    go_enter Tryz.func103, Tryz.ntmps103
    go_wp2
    go_ret2
    exact ⟨rfl, rfl⟩
set_option maxHeartbeats 1000000 in
theorem number_read (s : ByteArray) (w : World) (hs : s.size ≤ maxLen) (hz : Pl.zeroed s.toList = false) :
    Calls Tryz.prog 103 #[.string s] w fun e w' => e = .returned (.tuple #[.int .i64 (Pl.number s.toList).1, .int .i64 (Pl.number s.toList).2]) ∧ w = w' := by
  unfold maxLen at hs
  have h0 : 0 < s.size := by
    rcases Nat.eq_zero_or_pos s.size with h | h
    · rw [Pl.nil_of_zero s (by omega)] at hz; cases hz
    · exact h
  have HN := Lib.hid (show Pl.number s.toList = (if Pl.digits s.toList then (if 4503599627370496 < Pl.val s.toList then (0, 6) else (Pl.val s.toList, 0)) else (0, 3)) from by unfold Pl.number; rw [hz]; rfl)
  have he : ¬ s.toList = [] := by intro h; have := Pl.len_size s; rw [h] at this; simp at this; omega
  have he2 : s.toList.isEmpty = false := by simpa using he
  rw [Pl.zeroed_pos s h0] at hz
  have hz2 : ((s[0].toNat : Int) == 48) = false ∨ ((s[0].toNat : Int) == 48) = true ∧ ¬ 1 < s.size := by
    cases h : ((s[0].toNat : Int) == 48)
    · exact .inl rfl
    · right
      refine ⟨rfl, fun h1 => ?_⟩
      rw [decide_eq_true (by simpa using h), decide_eq_true h1] at hz
      cases hz
  clear hz
  rcases hz2 with hz2 | ⟨hz2, hz3⟩
  all_goals
    go_enter Tryz.func103, Tryz.ntmps103
    go_wp2
    go_loop [21, 4, 5] (fun i n b => ∃ k : Nat, k ≤ s.size ∧ i = .int .i64 k ∧ Pl.digits (s.toList.take k) = true ∧ ((b = .bool false ∧ n = .int .i64 (Pl.val (s.toList.take k)) ∧ Pl.val (s.toList.take k) ≤ 4503599627370496) ∨ (b = .bool true ∧ (∃ m, n = .int .i64 m) ∧ Pl.val (s.toList.take k) = 4503599627370497))) (fun i _ _ => s.size - (intOf i).toNat)
    case atStart => exact ⟨0, by omega, rfl, rfl, .inl ⟨rfl, rfl, by simp [Pl.val]⟩⟩
    case round =>
      obtain ⟨k, hk, rfl, hin, hst⟩ := hrel
      have HI := Lib.hid hin
      have HV := Lib.hid (Pl.val_bound s k hin)
      clear hin
      by_cases hlt : k < s.size
      · by_cases hd : Pl.digitB s[k] = true
        · have hr := Pl.digit_of _ hd
          obtain ⟨hr1, hr2⟩ := hr
          have hc3 : (Pl.cls (s[k].toNat : Int) != 3) = false := by have := (Pl.cls_digitB s[k]).mpr hd; simp [this]
          have HD := Lib.hid (Pl.digits_snoc s k hlt HI.out hd)
          have HS := Lib.hid (Pl.val_take s k hlt)
          have HDB := Lib.hid hd
          clear hd
          rcases hst with ⟨rfl, rfl, hv⟩ | ⟨rfl, ⟨m, rfl⟩, hv⟩
          · have hv0 := HV.out.1
            generalize hvv : Pl.val (s.toList.take k) = v at hv hv0 HS
            clear hvv HV
            by_cases hbig : 4503599627370496 < 10 * v + ((s[k].toNat : Int) - 48)
            · have hb2 : decide (4503599627370496 < 10 * v + ((s[k].toNat : Int) - 48)) = true := decide_eq_true hbig
              go_wp2_with (go_at_call 174; refine (class_any _ _).mono ?_; rintro e w' ⟨rfl, rfl⟩)
              exact ⟨⟨k + 1, by omega, by go_num, HD.out, .inr ⟨rfl, ⟨_, rfl⟩, by rw [HS.out, Pl.step_big _ _ hbig]⟩⟩, by simp [intOf]; omega⟩
            · have hb2 : decide (4503599627370496 < 10 * v + ((s[k].toNat : Int) - 48)) = false := decide_eq_false hbig
              go_wp2_with (go_at_call 174; refine (class_any _ _).mono ?_; rintro e w' ⟨rfl, rfl⟩)
              exact ⟨⟨k + 1, by omega, by go_num, HD.out, .inl ⟨rfl, by rw [HS.out, Pl.step_small _ _ (by omega)], by rw [HS.out, Pl.step_small _ _ (by omega)]; omega⟩⟩, by simp [intOf]; omega⟩
          · have HVV := Lib.hid hv
            clear hv HV
            go_wp2_with (go_at_call 174; refine (class_any _ _).mono ?_; rintro e w' ⟨rfl, rfl⟩)
            go_round
            case rel => exact ⟨k + 1, by omega, by go_num, HD.out, .inr ⟨rfl, ⟨m, rfl⟩, by rw [HS.out, HVV.out, Pl.step_stays _ HDB.out]⟩⟩
            case measure => simp [intOf]; omega
        · have hc3 : (Pl.cls (s[k].toNat : Int) != 3) = true := by
            have hx : ¬ Pl.cls (s[k].toNat : Int) = 3 := fun hq => hd ((Pl.cls_digitB s[k]).mp hq)
            simpa using hx
          have HF := Lib.hid (Pl.digits_false s k hlt (by simpa using hd))
          clear hd HV hst
          go_wp2_with (go_at_call 174; refine (class_any _ _).mono ?_; rintro e w' ⟨rfl, rfl⟩)
          go_ret2
          exact ⟨ret_two (by rw [HN.out, HF.out]; rfl), rfl⟩
      · have hi := HI.out
        have hall := Pl.take_all s k (by omega)
        rw [hall] at hi hst
        have HI2 := Lib.hid hi
        clear hi hall HV HI
        rcases hst with ⟨rfl, rfl, hv⟩ | ⟨rfl, ⟨m, rfl⟩, hv⟩
        · have HVV := Lib.hid hv
          clear hv
          go_wp2
          go_ret2
          exact ⟨ret_two (by rw [HN.out, HI2.out, if_pos rfl, if_neg (by have := HVV.out; omega)]), rfl⟩
        · have HVV := Lib.hid hv
          clear hv
          go_wp2
          go_ret2
          exact ⟨ret_two (by rw [HN.out, HI2.out, if_pos rfl, if_pos (by have := HVV.out; omega)]), rfl⟩
theorem number_any (s : ByteArray) (w : World) (hs : s.size ≤ maxLen) :
    Calls Tryz.prog 103 #[.string s] w fun e w' => e = .returned (.tuple #[.int .i64 (Pl.number s.toList).1, .int .i64 (Pl.number s.toList).2]) ∧ w = w' := by
  cases hz : Pl.zeroed s.toList
  · exact number_read s w hs hz
  · have e : Pl.number s.toList = (0, 3) := by unfold Pl.number; rw [hz]; rfl
    rw [e]; exact number_zeroed s w hs hz
end Go.Proofs.YtkmgnibopmpcjaaGreatDoor

/-
  Walks of layer 2: the reader's small methods.
-/
namespace Go.Proofs.YtkmgnibopmpcjaaGreatDoor
open Go.RowKit
set_option maxRecDepth 100000 in
set_option maxHeartbeats 400000 in
theorem place_any (b : Nat) (s : ByteArray) (n li st lim i : Int) (w : World) (h : Rd w b s n li st lim)
    (h1 : 0 ≤ st) (h2 : st ≤ i) (h3 : i ≤ 1000000) :
    Calls Tryz.prog 98 #[.pointer (some ⟨b, 0, none⟩), .int .i64 i] w fun e w' => e = .returned (.agg #[.int .i64 li, .int .i64 (i - st + 1)]) ∧ Below w.heap.size w w' := by
  have hr := h.alloc (.cells #[.int .i64 0, .int .i64 0] 30)
  have hn0 := blk_new w #[.int .i64 0, .int .i64 0] 30
  have hb1 : Below w.heap.size w (w.alloc (.cells #[.int .i64 0, .int .i64 0] 30)) := (Below.refl _ _).alloc (Nat.le_refl _) _
  clear h
  go_enter Tryz.func98, Tryz.ntmps98
  go_wp2
  generalize w.alloc (.cells #[.int .i64 0, .int .i64 0] 30) = w1 at hr hn0 hb1 ⊢
  refine wp_region_still_tail 12 (by kernel_rfl) (by kernel_rfl) ?_
  change wpStill _ _ w1.drew (fun a' => wpList _ _ _ _ a' w1.drew) _ _
  have hr := hr.drew
  have hn0 := hn0.drew
  have HB := Lib.hid hb1.drew
  clear hb1
  generalize w1.drew = wd at hr hn0 HB ⊢
  have c2 := hr.c2
  have c3 := hr.c3
  have d0 := hn0.cell 0 (.int .i64 0) rfl
  have d1 := hn0.cell 1 (.int .i64 0) rfl
  have e0 := hn0.thaw 0
  have e1 := hn0.thaw 1
  have hfin := (hn0.set 0 (.int .i64 li)).set 1 (.int .i64 (i - st + 1))
  have f0 := hfin.cell 0 (.int .i64 li) rfl
  have f1 := hfin.cell 1 (.int .i64 (i - st + 1)) rfl
  have F0 := Lib.hid f0
  have F1 := Lib.hid f1
  clear hr hn0 hfin f0 f1
  simp only [List.take_succ_cons, List.take_zero, List.drop_succ_cons, List.drop_zero]
  repeat still_step
  refine wpStill_nil ?_
  go_wp2
  have f0 := F0.out
  have f1 := F1.out
  exact bodyPost_ret (v := .agg #[.int .i64 li, .int .i64 (i - st + 1)]) (by simp [results, Tryz.results98, go_sem, f0, f1]) rfl ⟨rfl, (HB.out.setCell (Nat.le_refl _) _).setCell (Nat.le_refl _) _⟩
set_option maxRecDepth 100000 in
set_option maxHeartbeats 400000 in
theorem pass_any (b : Nat) (s : ByteArray) (n : Nat) (li st lim : Int) (w : World) (h : Rd w b s n li st lim) (hn : n < s.size) (hs : s.size ≤ maxLen) (hl0 : 0 ≤ li) (hl : li ≤ 1000000) :
    Calls Tryz.prog 162 #[.pointer (some ⟨b, 0, none⟩)] w fun e w' => e = .returned (.tuple #[]) ∧ Rd w' b s ((n + 1 : Nat) : Int) (if s[n] = 10 then li + 1 else li) (if s[n] = 10 then ((n + 1 : Nat) : Int) else st) lim ∧ Only b w w' := by
  unfold maxLen at hs
  have c0 := h.c0
  have c1 := h.c1
  have c2 := h.c2
  have c3 := h.c3
  have e1 := h.thaw 1
  have e2 := h.thaw 2
  have e3 := h.thaw 3
  have HR := Lib.hid h
  clear h
  by_cases hb : s[n] = 10
  · have hb2 : ((s[n].toNat : Int) == 10) = true := by rw [hb]; rfl
    have HB := Lib.hid hb
    clear hb
    go_enter Tryz.func162, Tryz.ntmps162
    go_wp2
    go_quiet (fail)
    go_wp2
    go_end0
    exact ⟨rfl, (((HR.out.drewN _).next _).line _).start _, ((((Only.refl b w).drewN _).setCell (.inl rfl) _).setCell (.inl rfl) _).setCell (.inl rfl) _⟩
  · have hb2 : ((s[n].toNat : Int) == 10) = false := beq_eq_false_iff_ne.2 (fun h => hb ((Pl.u8_eq _ _).2 h))
    have HB := Lib.hid hb
    clear hb
    go_enter Tryz.func162, Tryz.ntmps162
    go_wp2
    go_quiet (fail)
    go_wp2
    go_end0
    exact ⟨rfl, (HR.out.drewN _).next _, ((Only.refl b w).drewN _).setCell (.inl rfl) _⟩
set_option maxRecDepth 100000 in
set_option maxHeartbeats 400000 in
theorem isAt_any (b : Nat) (s p : ByteArray) (n : Nat) (li st lim : Int) (w : World) (h : Rd w b s n li st lim) (hn : n ≤ s.size) :
    Calls Tryz.prog 159 #[.pointer (some ⟨b, 0, none⟩), .string p] w fun e w' => e = .returned (.bool (p.toList.isPrefixOf (s.toList.drop n))) ∧ ∃ q, w' = w.drewN q := by
  have c0 := h.c0
  have c1 := h.c1
  have HX := Lib.hid (Pl.extract_end s n)
  clear h
  go_enter Tryz.func159, Tryz.ntmps159
  go_wp2
  go_quiet ((go_at_call 63; exact Calls.quiet_of_same ((hasPrefix_any _ _ _).mono fun _ _ ⟨he, hw⟩ => ⟨he, hw.symm⟩)))
  go_wp2
  go_ret
  exact ⟨ret_bool (by rw [HX.out]), _, rfl⟩
set_option maxRecDepth 100000 in
set_option maxHeartbeats 1000000 in
theorem takeName_any (b : Nat) (s : ByteArray) (n i : Nat) (li st lim : Int) (w : World) (h : Rd w b s n li st lim) (hn : n ≤ i) (hi : i ≤ s.size) (hs : s.size ≤ maxLen) :
    Calls Tryz.prog 209 #[.pointer (some ⟨b, 0, none⟩), .int .i64 i, .func (.func 210) #[] #[]] w fun e w' => e = .returned (.string (s.extract n (i + Pl.run Pl.innerB (s.toList.drop i)))) ∧ Rd w' b s ((i + Pl.run Pl.innerB (s.toList.drop i) : Nat) : Int) li st lim ∧ Only b w w' := by
  unfold maxLen at hs
  have c0 := h.c0
  have c1 := h.c1
  have e1 := h.thaw 1
  have HR := Lib.hid h
  have hbd := Pl.run_bound Pl.innerB s i hi
  generalize hj : i + Pl.run Pl.innerB (s.toList.drop i) = j at hbd ⊢
  have HJ := Lib.hid hj
  clear h hj
  go_enter Tryz.func209, Tryz.ntmps209
  go_wp2
  go_loop [1] (fun v => ∃ k : Nat, n ≤ k ∧ k ≤ s.size ∧ v = .int .i64 k ∧ k + Pl.run Pl.innerB (s.toList.drop k) = j) (fun v => s.size - (intOf v).toNat)
  case atStart => exact ⟨i, hn, hi, rfl, HJ.out⟩
  case round =>
    obtain ⟨k, hk0, hk, rfl, hin⟩ := hrel
    by_cases hlt : k < s.size
    · cases hp : Pl.inner (s[k].toNat : Int)
      · have hjk : j = k := by rw [Pl.run_miss _ s k hlt hp] at hin; omega
        subst hjk
        clear hin
        go_wp2_with (go_at_call 210; refine (isOfName_any _ _).mono ?_; rintro e w' ⟨rfl, rfl⟩)
        go_quiet (fail)
        go_wp2
        go_ret
        exact ⟨rfl, (HR.out.drewN _).next _, ((Only.refl b w).drewN _).setCell (.inl rfl) _⟩
      · have hin' : k + 1 + Pl.run Pl.innerB (s.toList.drop (k + 1)) = j := by rw [Pl.run_hit _ s k hlt hp] at hin; omega
        have HI := Lib.hid hin'
        clear hin hin'
        go_wp2_with (go_at_call 210; refine (isOfName_any _ _).mono ?_; rintro e w' ⟨rfl, rfl⟩)
        go_round
        case rel => exact ⟨k + 1, by omega, by omega, by go_num, HI.out⟩
        case measure => simp [intOf]; omega
    · have hjk : j = k := by rw [Pl.run_end _ s k (by omega)] at hin; omega
      subst hjk
      clear hin
      go_wp2
      go_quiet (fail)
      go_wp2
      go_ret
      exact ⟨rfl, (HR.out.drewN _).next _, ((Only.refl b w).drewN _).setCell (.inl rfl) _⟩
set_option maxRecDepth 100000 in
set_option maxHeartbeats 1000000 in
theorem takeDigit_any (b : Nat) (s : ByteArray) (n i : Nat) (li st lim : Int) (w : World) (h : Rd w b s n li st lim) (hn : n ≤ i) (hi : i ≤ s.size) (hs : s.size ≤ maxLen) :
    Calls Tryz.prog 209 #[.pointer (some ⟨b, 0, none⟩), .int .i64 i, .func (.func 167) #[] #[]] w fun e w' => e = .returned (.string (s.extract n (i + Pl.run Pl.digitB (s.toList.drop i)))) ∧ Rd w' b s ((i + Pl.run Pl.digitB (s.toList.drop i) : Nat) : Int) li st lim ∧ Only b w w' := by
  unfold maxLen at hs
  have c0 := h.c0
  have c1 := h.c1
  have e1 := h.thaw 1
  have HR := Lib.hid h
  have hbd := Pl.run_bound Pl.digitB s i hi
  generalize hj : i + Pl.run Pl.digitB (s.toList.drop i) = j at hbd ⊢
  have HJ := Lib.hid hj
  clear h hj
  go_enter Tryz.func209, Tryz.ntmps209
  go_wp2
  go_loop [1] (fun v => ∃ k : Nat, n ≤ k ∧ k ≤ s.size ∧ v = .int .i64 k ∧ k + Pl.run Pl.digitB (s.toList.drop k) = j) (fun v => s.size - (intOf v).toNat)
  case atStart => exact ⟨i, hn, hi, rfl, HJ.out⟩
  case round =>
    obtain ⟨k, hk0, hk, rfl, hin⟩ := hrel
    by_cases hlt : k < s.size
    · cases hp : Pl.digit (s[k].toNat : Int)
      · have hjk : j = k := by rw [Pl.run_miss _ s k hlt hp] at hin; omega
        subst hjk
        clear hin
        go_wp2_with (go_at_call 167; refine (isDigit_any _ _).mono ?_; rintro e w' ⟨rfl, rfl⟩)
        go_quiet (fail)
        go_wp2
        go_ret
        exact ⟨rfl, (HR.out.drewN _).next _, ((Only.refl b w).drewN _).setCell (.inl rfl) _⟩
      · have hin' : k + 1 + Pl.run Pl.digitB (s.toList.drop (k + 1)) = j := by rw [Pl.run_hit _ s k hlt hp] at hin; omega
        have HI := Lib.hid hin'
        clear hin hin'
        go_wp2_with (go_at_call 167; refine (isDigit_any _ _).mono ?_; rintro e w' ⟨rfl, rfl⟩)
        go_round
        case rel => exact ⟨k + 1, by omega, by omega, by go_num, HI.out⟩
        case measure => simp [intOf]; omega
    · have hjk : j = k := by rw [Pl.run_end _ s k (by omega)] at hin; omega
      subst hjk
      clear hin
      go_wp2
      go_quiet (fail)
      go_wp2
      go_ret
      exact ⟨rfl, (HR.out.drewN _).next _, ((Only.refl b w).drewN _).setCell (.inl rfl) _⟩
end Go.Proofs.YtkmgnibopmpcjaaGreatDoor
