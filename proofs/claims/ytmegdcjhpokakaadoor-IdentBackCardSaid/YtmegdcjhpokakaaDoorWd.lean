/-
  Walks of layer 1, fourth part: labels.
-/
import Derived.Test.YtmegdcjhpokakaaDoorWc
namespace Go.Proofs.YtmegdcjhpokakaaDoor
open Go.RowKit

set_option maxHeartbeats 1000000 in
theorem labelPrefix_any (k : Int) (w : World) :
    Calls Tryd.prog 50 #[.int .i64 k] w fun e w' => e = .returned (.tuple #[.string (Pl.mk (Pl.head k)), .bool (Pl.isKind k)]) ∧ w = w' := by
  by_cases h1 : k = 1
  · subst h1
    go_enter Tryd.func50, Tryd.ntmps50
    go_wp2
    go_ret2
    exact ⟨rfl, rfl⟩
  by_cases h2 : k = 2
  · subst h2
    go_enter Tryd.func50, Tryd.ntmps50
    go_wp2
    go_ret2
    exact ⟨rfl, rfl⟩
  by_cases h3 : k = 3
  · subst h3
    go_enter Tryd.func50, Tryd.ntmps50
    go_wp2
    go_ret2
    exact ⟨rfl, rfl⟩
  by_cases h4 : k = 4
  · subst h4
    go_enter Tryd.func50, Tryd.ntmps50
    go_wp2
    go_ret2
    exact ⟨rfl, rfl⟩
  by_cases h5 : k = 5
  · subst h5
    go_enter Tryd.func50, Tryd.ntmps50
    go_wp2
    go_ret2
    exact ⟨rfl, rfl⟩
  have HH := Lib.hid (show Pl.head k = [] from by simp [Pl.head, h1, h2, h3, h4, h5])
  have HK := Lib.hid (show Pl.isKind k = false from by unfold Pl.isKind; simp; omega)
  have t1 : (k == 1) = false := by simpa using h1
  have t2 : (k == 2) = false := by simpa using h2
  have t3 : (k == 3) = false := by simpa using h3
  have t4 : (k == 4) = false := by simpa using h4
  have t5 : (k == 5) = false := by simpa using h5
  go_enter Tryd.func50, Tryd.ntmps50
  go_wp2
  go_ret2
  exact ⟨by rw [HH.out, HK.out]; rfl, rfl⟩
set_option maxHeartbeats 400000 in
theorem isNameOf_any (k : Int) (s : ByteArray) (w : World) (hs : s.size ≤ maxLen) :
    Calls Tryd.prog 51 #[.int .i64 k, .string s] w fun e w' => e = .returned (.bool (Pl.fits k s.toList)) ∧ w = w' := by
  by_cases h1 : k = 1
  · subst h1
    go_enter Tryd.func51, Tryd.ntmps51
    go_wp2_with (first | (go_at_call 11; refine (isLower_any _ _ hs).mono ?_; rintro e w' ⟨rfl, rfl⟩) | (go_at_call 13; refine (isUpper_any _ _ hs).mono ?_; rintro e w' ⟨rfl, rfl⟩))
    go_ret
    exact ⟨rfl, rfl⟩
  by_cases h2 : k = 2
  · subst h2
    go_enter Tryd.func51, Tryd.ntmps51
    go_wp2_with (first | (go_at_call 11; refine (isLower_any _ _ hs).mono ?_; rintro e w' ⟨rfl, rfl⟩) | (go_at_call 13; refine (isUpper_any _ _ hs).mono ?_; rintro e w' ⟨rfl, rfl⟩))
    go_ret
    exact ⟨rfl, rfl⟩
  have HL := Lib.hid (show Pl.fits k s.toList = Pl.isUpper s.toList from by unfold Pl.fits; rw [if_neg (by omega)])
  have t1 : (k == 1) = false := by simpa using h1
  have t2 : (k == 2) = false := by simpa using h2
  go_enter Tryd.func51, Tryd.ntmps51
  go_wp2_with (first | (go_at_call 11; refine (isLower_any _ _ hs).mono ?_; rintro e w' ⟨rfl, rfl⟩) | (go_at_call 13; refine (isUpper_any _ _ hs).mono ?_; rintro e w' ⟨rfl, rfl⟩))
  go_ret
  exact ⟨ret_bool HL.out.symm, rfl⟩
set_option maxHeartbeats 400000 in
theorem label_any (k : Int) (s : ByteArray) (w : World) (hs : s.size ≤ maxLen) :
    Calls Tryd.prog 19 #[.int .i64 k, .string s] w fun e w' => e = .returned (.tuple #[.string (Pl.mk (Pl.label k s.toList).1), .int .i64 (Pl.label k s.toList).2]) ∧ w = w' := by
  cases hk : Pl.isKind k
  · have HL := Lib.hid (show Pl.label k s.toList = ([], 2) from by unfold Pl.label; rw [hk]; rfl)
    go_enter Tryd.func19, Tryd.ntmps19
    go_wp2_with (first | (go_at_call 50; refine (labelPrefix_any _ _).mono ?_; rintro e w' ⟨rfl, rfl⟩))
    go_ret2
    exact ⟨by rw [HL.out]; rfl, rfl⟩
  · cases hf : Pl.fits k s.toList
    · have HL := Lib.hid (show Pl.label k s.toList = ([], 3) from by unfold Pl.label; rw [hk, hf]; rfl)
      go_enter Tryd.func19, Tryd.ntmps19
      go_wp2_with (first | (go_at_call 50; refine (labelPrefix_any _ _).mono ?_; rintro e w' ⟨rfl, rfl⟩) | (go_at_call 51; refine (isNameOf_any _ _ _ hs).mono ?_; rintro e w' ⟨rfl, rfl⟩))
      go_ret2
      exact ⟨by rw [HL.out]; rfl, rfl⟩
    · have HL := Lib.hid (show Pl.label k s.toList = (Pl.head k ++ s.toList, 0) from by unfold Pl.label; rw [hk, hf]; rfl)
      have hsz : (Pl.mk (Pl.head k)).size + s.size ≤ 9223372036854775807 := by
        have h1 := (Pl.fits_le k _ hf).2
        have h2 : (Pl.head k).length ≤ 5 := by unfold Pl.head; repeat' split
                                               all_goals decide
        rw [Pl.len_size] at h1; rw [Pl.mk_size]; omega
      go_enter Tryd.func19, Tryd.ntmps19
      go_wp2_with (first | (go_at_call 50; refine (labelPrefix_any _ _).mono ?_; rintro e w' ⟨rfl, rfl⟩) | (go_at_call 51; refine (isNameOf_any _ _ _ hs).mono ?_; rintro e w' ⟨rfl, rfl⟩))
      go_ret2
      exact ⟨by rw [HL.out, ← Pl.add_mk]; rfl, rfl⟩
end Go.Proofs.YtmegdcjhpokakaaDoor
