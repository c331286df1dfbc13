/-
  Walks of layer 3: categories, numbers and texts.
-/
import Derived.Test.YtkhpihacjhhklaaSr
import Derived.Test.YtkhpihacjhhklaaSb
import Derived.Test.YtkhpihacjhhklaaIc
namespace Go.Proofs.Ytkhpihacjhhklaa
open Go Go.RowKit
open Pl (Syn)
set_option linter.unusedSimpArgs false

set_option maxRecDepth 100000 in
set_option maxHeartbeats 4000000 in
theorem category_any (op : Int) (w : World) : Calls Try.prog 13 #[.int .i64 op] w fun e w' => e = .returned (.int .i64 (Pl.cat op)) ∧ w = w' := by
  go_enter Try.func13, Try.ntmps13
  go_wp2
  all_goals
    go_ret
    refine ⟨ret_int ?_, rfl⟩
    (try simp only [beq_iff_eq, beq_eq_false_iff_ne] at *)
    unfold Pl.cat
    repeat' (first | rw [if_pos (by omega)] | rw [if_neg (by omega)])
set_option maxRecDepth 100000 in
set_option maxHeartbeats 4000000 in
theorem rcategory_any (op : Int) (w : World) : Calls Try.prog 14 #[.int .i64 op] w fun e w' => e = .returned (.int .i64 (Pl.cat op)) ∧ w = w' := by
  go_enter Try.func14, Try.ntmps14
  go_wp2
  all_goals
    go_ret
    refine ⟨ret_int ?_, rfl⟩
    (try simp only [beq_iff_eq, beq_eq_false_iff_ne, bne_iff_ne, ne_eq, bne_eq_false_iff_eq] at *)
    unfold Pl.cat
    repeat' (first | rw [if_pos (by omega)] | rw [if_neg (by omega)])
set_option maxHeartbeats 2000000 in
theorem belongs_any (op c : Int) (w : World) : Calls Try.prog 31 #[.int .i64 op, .int .i64 c] w fun e w' => e = .returned (.bool (Pl.bel op c)) ∧ w = w' := by
  have HC := Lib.hid (category_any op w)
  have HB := Lib.hid (show ¬ (op = 43 ∨ op = 44) → Pl.bel op c = decide (c ≠ 0 ∧ c = Pl.cat op) from fun h => by unfold Pl.bel; rw [if_neg h])
  have HA := Lib.hid (show (op = 43 ∨ op = 44) → Pl.bel op c = decide (c = 4 ∨ c = 5) from fun h => by unfold Pl.bel; rw [if_pos h])
  generalize Pl.cat op = k at *
  generalize Pl.bel op c = b at *
  go_enter Try.func31, Try.ntmps31
  go_wp2_with (go_at_call 13; refine HC.out.mono ?_; rintro e w' ⟨rfl, rfl⟩)
  all_goals
    go_ret
    refine ⟨ret_bool ?_, rfl⟩
    (try simp only [beq_iff_eq, beq_eq_false_iff_ne, bne_iff_ne, ne_eq, bne_eq_false_iff_eq] at *)
    first
    | (rw [HA.out (by omega)]; first | (symm; rw [decide_eq_true_eq]; omega) | (symm; rw [decide_eq_false_iff_not]; omega) | (rw [Bool.eq_iff_iff]; simp; done) | (rw [Bool.eq_iff_iff]; simp; omega))
    | (rw [HB.out (by omega)]; first | (symm; rw [decide_eq_true_eq]; omega) | (symm; rw [decide_eq_false_iff_not]; omega) | (rw [Bool.eq_iff_iff]; simp; done) | (rw [Bool.eq_iff_iff]; simp; omega))
set_option maxHeartbeats 2000000 in
theorem rbelongs_any (op c : Int) (w : World) : Calls Try.prog 33 #[.int .i64 op, .int .i64 c] w fun e w' => e = .returned (.bool (Pl.rbel op c)) ∧ w = w' := by
  have HC := Lib.hid (rcategory_any op w)
  have HB := Lib.hid (show Pl.rbel op c = decide (Pl.cat op = c ∨ (c = 5 ∧ (op = 43 ∨ op = 44))) from rfl)
  generalize Pl.cat op = k at *
  generalize Pl.rbel op c = b at *
  go_enter Try.func33, Try.ntmps33
  go_wp2_with (go_at_call 14; refine HC.out.mono ?_; rintro e w' ⟨rfl, rfl⟩)
  all_goals
    go_ret
    refine ⟨ret_bool ?_, rfl⟩
    rw [HB.out]
    (try simp only [beq_iff_eq, beq_eq_false_iff_ne, bne_iff_ne, ne_eq, bne_eq_false_iff_eq] at *)
    first | (symm; rw [decide_eq_true_eq]; omega) | (symm; rw [decide_eq_false_iff_not]; omega) | (rw [Bool.eq_iff_iff]; simp; done) | (rw [Bool.eq_iff_iff]; simp; omega)
set_option maxRecDepth 100000 in
set_option maxHeartbeats 4000000 in
theorem hasPath_any (op : Int) (w : World) : Calls Try.prog 41 #[.int .i64 op] w fun e w' => e = .returned (.bool (Pl.hasPath op)) ∧ w = w' := by
  go_enter Try.func41, Try.ntmps41
  go_wp2
  all_goals
    go_ret
    refine ⟨ret_bool ?_, rfl⟩
    (try simp only [beq_iff_eq, beq_eq_false_iff_ne] at *)
    unfold Pl.hasPath
    first | (symm; rw [decide_eq_true_eq]; omega) | (symm; rw [decide_eq_false_iff_not]; omega)
/-- the numbers of a slice -/
def IntsAt (w : World) (b off : Nat) (ks : List Int) : Prop := ∀ j (h : j < ks.length), w.cell? ⟨b, off + j, none⟩ = some (.int .i64 ks[j])
def pathKinds : List Int := [2, 5, 14, 23, 24, 34, 48, 49, 66, 72, 74, 82]
theorem hasPath_kinds (op : Int) : Pl.hasPath op = pathKinds.contains op := by
  unfold Pl.hasPath pathKinds
  rw [Bool.eq_iff_iff, decide_eq_true_eq]
  simp
set_option maxRecDepth 100000 in
set_option maxHeartbeats 4000000 in
theorem named_any (op : Int) (w : World) : Calls Try.prog 45 #[.int .i64 op] w fun e w' => e = .returned (.bool (Pl.hasPath op)) ∧ Below w.heap.size w w' := by
  have HH := Lib.hid (hasPath_kinds op)
  have HB := Lib.hid (show Below w.heap.size w (w.alloc (.cells #[.int .i64 2, .int .i64 5, .int .i64 14, .int .i64 23, .int .i64 24, .int .i64 34, .int .i64 48, .int .i64 49, .int .i64 66, .int .i64 72, .int .i64 74, .int .i64 82] 3)) from (Below.refl _ _).alloc (Nat.le_refl _) _)
  have HI := Lib.hid (show IntsAt (w.alloc (.cells #[.int .i64 2, .int .i64 5, .int .i64 14, .int .i64 23, .int .i64 24, .int .i64 34, .int .i64 48, .int .i64 49, .int .i64 66, .int .i64 72, .int .i64 74, .int .i64 82] 3)) w.heap.size 0 pathKinds from by
    intro j hj
    rw [Nat.zero_add]
    have := (blk_new w #[.int .i64 2, .int .i64 5, .int .i64 14, .int .i64 23, .int .i64 24, .int .i64 34, .int .i64 48, .int .i64 49, .int .i64 66, .int .i64 72, .int .i64 74, .int .i64 82] 3).cell j (.int .i64 pathKinds[j])
    refine this ?_
    have hj' : j < 12 := hj
    match j, hj' with
    | 0, _ => rfl
    | 1, _ => rfl
    | 2, _ => rfl
    | 3, _ => rfl
    | 4, _ => rfl
    | 5, _ => rfl
    | 6, _ => rfl
    | 7, _ => rfl
    | 8, _ => rfl
    | 9, _ => rfl
    | 10, _ => rfl
    | 11, _ => rfl)
  have HL := Lib.hid (show pathKinds.length = 12 from rfl)
  generalize pathKinds = ks at *
  generalize Pl.hasPath op = b at *
  go_enter Try.func45, Try.ntmps45
  go_wp2_with fail
  generalize w.alloc _ = w1 at *
  go_loopg [4] (12 + 1) (fun g i wr => ∃ k : Nat, k ≤ 12 ∧ i = .int .i64 k ∧ g = 12 + 1 - k ∧ wr = w1 ∧ ∀ j (h : j < ks.length), j < k → ks[j] ≠ op)
  case atStart => exact ⟨0, by omega, rfl, by omega, rfl, fun j h hj => absurd hj (Nat.not_lt_zero _)⟩
  case round =>
    obtain ⟨k, hk, rfl, hg, rfl, hall⟩ := hrel
    have HA := Lib.hid hall
    clear hall
    by_cases hlt : k < 12
    · have hkl : k < ks.length := by rw [HL.out]; exact hlt
      have a0 := HI.out k hkl
      rw [Nat.zero_add] at a0
      have HM := Lib.hid (List.getElem_mem hkl)
      have HX := Lib.hid (show ∀ x, x = ks[k] → x ≠ op → ∀ j (h : j < ks.length), j < k + 1 → ks[j] ≠ op from fun x hx hne j h hj => by
        rcases Nat.lt_or_ge j k with h1 | h1
        · exact HA.out j h h1
        · obtain rfl : j = k := by omega
          rw [← hx]; exact hne)
      have HK := Lib.hid (show ks[k] = ks[k] from rfl)
      generalize hx : ks[k] = x at a0 HM
      have HE := Lib.hid hx
      clear hx
      by_cases he : x = op
      · have q : (x == op) = true := beq_iff_eq.2 he
        have HE2 := Lib.hid he
        clear he
        go_wp2
        go_ret
        exact ⟨ret_bool (by rw [HH.out, ← HE2.out]; exact (List.contains_iff_mem.2 HM.out).symm), HB.out⟩
      · have q : (x == op) = false := beq_eq_false_iff_ne.2 he
        have HE2 := Lib.hid he
        clear he
        go_wp2
        go_roundg (gk - 1)
        case measure => omega
        case rel => exact ⟨k + 1, by omega, by go_num, by omega, rfl, HX.out x HE.out.symm HE2.out⟩
    · go_wp2
      go_ret
      refine ⟨ret_bool ?_, HB.out⟩
      rw [HH.out]
      symm
      rw [Bool.eq_false_iff]
      intro hc
      rw [List.contains_iff_mem] at hc
      obtain ⟨j, hj, he⟩ := List.getElem_of_mem hc
      exact HA.out j hj (by rw [HL.out] at hj; omega) he
end Go.Proofs.Ytkhpihacjhhklaa
