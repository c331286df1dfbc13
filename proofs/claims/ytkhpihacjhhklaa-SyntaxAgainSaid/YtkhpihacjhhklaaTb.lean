/-
  Walks of layer 3: texts, numbers, lists of names.
-/
import Derived.Test.YtkhpihacjhhklaaTa
import Derived.Test.YtkhpihacjhhklaaSs
namespace Go.Proofs.Ytkhpihacjhhklaa
open Go Go.RowKit
open Pl (Syn)
set_option linter.unusedSimpArgs false

theorem okByte_iff (b : UInt8) : Pl.okByte b = true ↔ (b.toNat : Int) = 10 ∨ (32 ≤ (b.toNat : Int) ∧ (b.toNat : Int) ≤ 126) := by unfold Pl.okByte; rw [decide_eq_true_eq]
theorem okByte_no (b : UInt8) (h : ¬ ((b.toNat : Int) = 10 ∨ (32 ≤ (b.toNat : Int) ∧ (b.toNat : Int) ≤ 126))) : Pl.okByte b = false := by unfold Pl.okByte; exact decide_eq_false h
theorem text_big (s : ByteArray) (h : 16384 < s.size) : Pl.textS s = false := by unfold Pl.textS; rw [decide_eq_false (by omega)]; rfl
theorem text_bad (s : ByteArray) (k : Nat) (hk : k < s.size) (h : Pl.okByte s[k] = false) : Pl.textS s = false := by unfold Pl.textS; rw [Pl.all_false _ s k hk h, Bool.and_false]
theorem text_good (s : ByteArray) (h0 : s.size ≤ 16384) (h : (s.toList.take s.size).all Pl.okByte = true) : Pl.textS s = true := by
  unfold Pl.textS; rw [Pl.take_all s s.size (Nat.le_refl _)] at h; rw [h, decide_eq_true h0]; rfl
set_option maxRecDepth 100000 in
set_option maxHeartbeats 4000000 in
theorem isText_any (s : ByteArray) (w : World) (hs : s.size ≤ maxLen) : Calls Try.prog 70 #[.string s] w fun e w' => e = .returned (.bool (Pl.textS s)) ∧ w = w' := by
  unfold maxLen at hs
  by_cases hb : 16384 < s.size
  · have HT := Lib.hid (text_big s hb)
    go_enter Try.func70, Try.ntmps70
    go_wp2
    go_ret
    exact ⟨ret_bool HT.out.symm, rfl⟩
  · go_enter Try.func70, Try.ntmps70
    go_wp2_with fail
    go_loop [10] (fun i => ∃ k : Nat, k ≤ s.size ∧ i = .int .i64 k ∧ (s.toList.take k).all Pl.okByte = true) (fun i => s.size - (intOf i).toNat)
    case atStart => exact ⟨0, by omega, rfl, by simp⟩
    case round =>
      obtain ⟨k, hk, rfl, hin⟩ := hrel
      have HI := Lib.hid hin
      clear hin
      by_cases hlt : k < s.size
      · have HY := Lib.hid (show Pl.okByte s[k] = true → (s.toList.take (k + 1)).all Pl.okByte = true from fun h => by rw [Pl.all_take _ s k hlt, HI.out, h]; rfl)
        have HN := Lib.hid (fun h => text_bad s k hlt h)
        have HO := Lib.hid (okByte_iff s[k])
        have HO2 := Lib.hid (okByte_no s[k])
        go_wp2
        all_goals
          (try simp only [beq_iff_eq, beq_eq_false_iff_ne, bne_iff_ne, ne_eq, bne_eq_false_iff_eq] at *)
          first
          | (go_ret; exact ⟨ret_bool (HN.out (HO2.out (by omega))).symm, rfl⟩)
          | (go_round
             case rel => exact ⟨k + 1, by omega, by go_num, HY.out (HO.out.2 (by omega))⟩
             case measure => simp [intOf]; omega)
      · obtain rfl : k = s.size := by omega
        go_wp2
        go_ret
        exact ⟨ret_bool (text_good s (by omega) HI.out).symm, rfl⟩
set_option maxRecDepth 100000 in
set_option maxHeartbeats 4000000 in
theorem rtext_any (s : ByteArray) (w : World) (hs : s.size ≤ maxLen) : Calls Try.prog 99 #[.string s] w fun e w' => e = .returned (.bool (Pl.textS s)) ∧ w = w' := by
  unfold maxLen at hs
  go_enter Try.func99, Try.ntmps99
  go_wp2_with fail
  go_loop [3] (fun i => ∃ k : Nat, k ≤ s.size ∧ i = .int .i64 k ∧ (s.toList.take k).all Pl.okByte = true) (fun i => s.size - (intOf i).toNat)
  case atStart => exact ⟨0, by omega, rfl, by simp⟩
  case round =>
    obtain ⟨k, hk, rfl, hin⟩ := hrel
    have HI := Lib.hid hin
    clear hin
    by_cases hlt : k < s.size
    · have HY := Lib.hid (show Pl.okByte s[k] = true → (s.toList.take (k + 1)).all Pl.okByte = true from fun h => by rw [Pl.all_take _ s k hlt, HI.out, h]; rfl)
      have HN := Lib.hid (fun h => text_bad s k hlt h)
      have HO := Lib.hid (okByte_iff s[k])
      have HO2 := Lib.hid (okByte_no s[k])
      go_wp2
      all_goals
        (try simp only [beq_iff_eq, beq_eq_false_iff_ne, bne_iff_ne, ne_eq, bne_eq_false_iff_eq] at *)
        first
        | (go_ret; exact ⟨ret_bool (HN.out (HO2.out (by omega))).symm, rfl⟩)
        | (go_round
           case rel => exact ⟨k + 1, by omega, by go_num, HY.out (HO.out.2 (by omega))⟩
           case measure => simp [intOf]; omega)
    · obtain rfl : k = s.size := by omega
      by_cases hb : 16384 < s.size
      · have q : decide ((s.size : Int) ≤ 16384) = false := by simp; omega
        have HT := Lib.hid (text_big s hb)
        go_wp2
        go_ret
        exact ⟨ret_bool HT.out.symm, rfl⟩
      · have q : decide ((s.size : Int) ≤ 16384) = true := by simp; omega
        go_wp2
        go_ret
        exact ⟨ret_bool (text_good s (by omega) HI.out).symm, rfl⟩
set_option maxRecDepth 100000 in
set_option maxHeartbeats 4000000 in
theorem numberFits_any (op n : Int) (s : ByteArray) (nv lv : Value) (w : World) : Calls Try.prog 61 #[.agg #[.int .i64 op, .int .i64 n, .string s, nv, lv]] w fun e w' => e = .returned (.bool (Pl.num op n)) ∧ Below w.heap.size w w' := by
  go_enter Try.func61, Try.ntmps61
  go_wp2
  all_goals
    go_ret
    refine ⟨ret_bool ?_, (Below.refl _ _).alloc (Nat.le_refl _) _⟩
    (try simp only [beq_iff_eq, beq_eq_false_iff_ne, bne_iff_ne, ne_eq, bne_eq_false_iff_eq] at *)
    unfold Pl.num
    repeat' (first | rw [if_pos (by omega)] | rw [if_neg (by omega)])
    first | (symm; rw [decide_eq_true_eq]; omega) | (symm; rw [decide_eq_false_iff_not]; omega) | (rw [Bool.eq_iff_iff]; simp; done) | (rw [Bool.eq_iff_iff]; simp; omega)
set_option maxRecDepth 100000 in
set_option maxHeartbeats 4000000 in
theorem textFits_any (op n around : Int) (s : ByteArray) (nv lv : Value) (w : World) (hs : s.size ≤ maxLen) : Calls Try.prog 62 #[.agg #[.int .i64 op, .int .i64 n, .string s, nv, lv], .int .i64 around] w fun e w' => e = .returned (.bool (Pl.txt op around s)) ∧ Below w.heap.size w w' := by
  have HB := Lib.hid (show Below w.heap.size w (w.alloc (.cells #[.int .i64 op, .int .i64 n, .string s, nv, lv] 25)) from (Below.refl _ _).alloc (Nat.le_refl _) _)
  have HL := Lib.hid (show ∀ W, Calls Try.prog 68 #[.string s] W fun e w' => e = .returned (.bool (Pl.lowS s)) ∧ W = w' from fun W => isLower_any s W hs)
  have HU := Lib.hid (show ∀ W, Calls Try.prog 69 #[.string s] W fun e w' => e = .returned (.bool (Pl.upS s)) ∧ W = w' from fun W => isUpper_any s W hs)
  have HV := Lib.hid (show ∀ W, Calls Try.prog 67 #[.string s] W fun e w' => e = .returned (.bool (Pl.varS s)) ∧ W = w' from fun W => isVar_any s W hs)
  have HT := Lib.hid (fun W => isText_any s W hs)
  have HE := Lib.hid (show s.toList.isEmpty = Pl.emptyS s from rfl)
  clear hs
  go_enter Try.func62, Try.ntmps62
  go_wp2_with (first
    | (go_at_call 68; refine (HL.out _).mono ?_; rintro e w' ⟨rfl, rfl⟩)
    | (go_at_call 69; refine (HU.out _).mono ?_; rintro e w' ⟨rfl, rfl⟩)
    | (go_at_call 67; refine (HV.out _).mono ?_; rintro e w' ⟨rfl, rfl⟩)
    | (go_at_call 70; refine (HT.out _).mono ?_; rintro e w' ⟨rfl, rfl⟩))
  all_goals
    go_ret
    refine ⟨ret_bool ?_, HB.out⟩
    (try simp only [beq_iff_eq, beq_eq_false_iff_ne, bne_iff_ne, ne_eq, bne_eq_false_iff_eq] at *)
    unfold Pl.txt
    repeat' (first | rw [if_pos (by omega)] | rw [if_neg (by omega)])
    all_goals (try rw [← HE.out])
    all_goals first | rfl | simp_all
end Go.Proofs.Ytkhpihacjhhklaa
