/-
  The laws IdentNames and IdentApart, as walks: each call returns true, and nothing that lay in memory before it turns.
-/
import Derived.Test.YtmegdcjhpokakaaDoorWf
namespace Go.Proofs.YtmegdcjhpokakaaDoor
open Go.RowKit

theorem identNames_walk (s : ByteArray) (w : World) (hs : s.size ≤ maxLen) (hw : Wok w) :
    Calls Tryd.prog 3 #[.string s] w fun e w' => e = .returned (.bool true) ∧ Below w.heap.size w w' := by
  have hs' := hs
  unfold maxLen at hs
  by_cases hl : s.size ≤ 1000
  · have hl' : decide ((1000 : Int) < (s.size : Int)) = false := by simp; omega
    go_enter Tryd.func3, Tryd.ntmps3
    go_wp2_with (first | (go_at_call 10; refine (awake_any _ (by assumption)).mono ?_; rintro e w1 ⟨rfl, hb1⟩; have hw1 := Wok.below (by assumption) hb1; have HB1 := Lib.hid hb1; clear hb1) | (go_at_call 11; refine (isLower_any _ _ hs').mono ?_; rintro e w' ⟨rfl, rfl⟩) | (go_at_call 13; refine (isUpper_any _ _ hs').mono ?_; rintro e w' ⟨rfl, rfl⟩) | (go_at_call 15; refine (isVar_any _ _ hs').mono ?_; rintro e w' ⟨rfl, rfl⟩) | (go_at_call 17; refine (isLabel_any _ _ hs').mono ?_; rintro e w' ⟨rfl, rfl⟩) | (go_at_call 12; refine (rIsLower_any _ _ hs').mono ?_; rintro e w2 ⟨rfl, hb2⟩; have HB2 := Lib.hid hb2; clear hb2) | (go_at_call 14; refine (rIsUpper_any _ _ hs').mono ?_; rintro e w' ⟨rfl, rfl⟩) | (go_at_call 16; refine (rIsVar_any _ _ hs').mono ?_; rintro e w' ⟨rfl, rfl⟩) | (go_at_call 18; refine (rIsLabel_any _ _ hs').mono ?_; rintro e w' ⟨rfl, rfl⟩))
    go_ret
    exact ⟨rfl, HB1.out.trans (HB2.out.mono HB1.out.size)⟩
  · have hl' : decide ((1000 : Int) < (s.size : Int)) = true := by simp; omega
    go_enter Tryd.func3, Tryd.ntmps3
    go_wp2_with fail
    refine (awake_any _ hw).mono ?_
    rintro e w1 ⟨rfl, hb1⟩
    have hw1 := hw.below hb1
    have HB1 := Lib.hid hb1
    clear hb1
    go_wp2_with fail
    refine (awake_any _ hw1).mono ?_
    rintro e w2 ⟨rfl, hb2⟩
    have HB2 := Lib.hid hb2
    clear hb2
    go_wp2
    go_ret
    exact ⟨rfl, HB1.out.trans (HB2.out.mono HB1.out.size)⟩
end Go.Proofs.YtmegdcjhpokakaaDoor
