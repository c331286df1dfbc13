/-
  The laws IdentNames and IdentApart, as walks: each call returns true, and nothing that lay in memory before it turns.
-/
import Derived.Test.YtmegdcjhpokakaaDoorWf
import Derived.Test.YtmegdcjhpokakaaDoorPn
namespace Go.Proofs.YtmegdcjhpokakaaDoor
open Go.RowKit

theorem identNames_walk (s : ByteArray) (w : World) (hs : s.size ≤ maxLen) (hw : Wok w) :
    Calls Tryd.prog 3 #[.string s] w fun e w' => e = .returned (.bool true) ∧ Below w.heap.size w w' := by
  have hs' := hs
  unfold maxLen at hs
  by_cases hl : s.size ≤ 1000
  · have hl' : decide ((1000 : Int) < (s.size : Int)) = false := by simp; omega
    go_enter Tryd.func3, Tryd.ntmps3
    go_wp2_with (first | (go_at_call 10; refine (awake_any _ (by assumption)).mono ?_; rintro e w1 ⟨rfl, hb1⟩; have hw1 := Wok.below (by assumption) hb1; have HB1 := Lib.hid hb1; clear hb1) | (go_at_call 11; refine (isLower_any _ _ hs').mono ?_; rintro e w' ⟨rfl, rfl⟩) | (go_at_call 13; refine (isUpper_any _ _ hs').mono ?_; rintro e w' ⟨rfl, rfl⟩) | (go_at_call 15; refine (isVar_any _ _ hs').mono ?_; rintro e w' ⟨rfl, rfl⟩) | (go_at_call 17; refine (isLabel_any _ _ hs').mono ?_; rintro e w' ⟨rfl, rfl⟩) | (go_at_call 12; refine (rIsLower_any _ _ hs').mono ?_; rintro e w2 ⟨rfl, hb2⟩; have HB2 := Lib.hid hb2; clear hb2) | (go_at_call 14; refine (rIsUpper_any _ _ hs').mono ?_; rintro e w' ⟨rfl, rfl⟩) | (go_at_call 16; refine (rIsVar_any _ _ hs').mono ?_; rintro e w' ⟨rfl, rfl⟩) | (go_at_call 18; refine (rIsLabel_any _ _ hs').mono ?_; rintro e w' ⟨rfl, rfl⟩))
    go_ret
    exact ⟨rfl, HB1.out.trans (HB2.out.mono HB1.out.size)⟩
  · have hl' : decide ((1000 : Int) < (s.size : Int)) = true := by simp; omega
    go_enter Tryd.func3, Tryd.ntmps3
    go_wp2_with fail
    refine (awake_any _ hw).mono ?_
    rintro e w1 ⟨rfl, hb1⟩
    have hw1 := hw.below hb1
    have HB1 := Lib.hid hb1
    clear hb1
    go_wp2_with fail
    refine (awake_any _ hw1).mono ?_
    rintro e w2 ⟨rfl, hb2⟩
    have HB2 := Lib.hid hb2
    clear hb2
    go_wp2
    go_ret
    exact ⟨rfl, HB1.out.trans (HB2.out.mono HB1.out.size)⟩

theorem identApart_walk (s : ByteArray) (w : World) (hs : s.size ≤ maxLen) (hw : Wok w) :
    Calls Tryd.prog 9 #[.string s] w fun e w' => e = .returned (.bool true) ∧ Below w.heap.size w w' := by
  have hs' := hs
  unfold maxLen at hs
  by_cases hl : s.size ≤ 1000
  · have hl' : decide ((1000 : Int) < (s.size : Int)) = false := by simp; omega
    have HL := Lib.hid (fun wx => isLower_any s wx hs')
    have HU := Lib.hid (fun wx => isUpper_any s wx hs')
    have HV := Lib.hid (fun wx => isVar_any s wx hs')
    have HLa := Lib.hid (fun wx => isLabel_any s wx hs')
    by_cases hn : Pl.isName s.toList = true
    · rw [Pl.name_not_var _ hn] at HV
      rw [Pl.name_label _ hn] at HLa
      have hsplit := Pl.name_split s hn
      have HP := Lib.hid (fun wx (hx : Wok wx) => parsePath_yes s wx (by omega) hx (by rw [hsplit, Pl.isPath_one]; exact hn))
      rw [hsplit] at HP
      have hsz : (s ++ (⟨#[48]⟩ : ByteArray)).size = s.size + 1 := by rw [ByteArray.size_append]; rfl
      have HML := Lib.hid (fun wx => isLower_any (s ++ ⟨#[48]⟩) wx (by rw [hsz]; unfold maxLen; omega))
      have HMU := Lib.hid (fun wx => isUpper_any (s ++ ⟨#[48]⟩) wx (by rw [hsz]; unfold maxLen; omega))
      rw [Pl.add_one, Pl.more_lower _ hn, Pl.len_size] at HML
      rw [Pl.add_one, Pl.more_upper _ hn, Pl.len_size] at HMU
      have HSZ := Lib.hid hsz
      have h1m : [s].length ≤ maxLen := by show 1 ≤ maxLen; unfold maxLen; omega
      have HEQ := Lib.hid (fun (W : World) => equal_any W.heap.size 0 1 (W.heap.size + 1) 0 1 [s] [s] _ 1 1 rfl rfl h1m h1m (two_at W [s]).1 (two_at W [s]).2)
      rw [decide_eq_true rfl] at HEQ
      have hcat : s.size + (⟨#[48]⟩ : ByteArray).size ≤ 9223372036854775807 := by rw [show (⟨#[48]⟩ : ByteArray).size = 1 from rfl]; omega
      have hlu : (Pl.isLower s.toList = true ∧ Pl.isUpper s.toList = false) ∨ (Pl.isLower s.toList = false ∧ Pl.isUpper s.toList = true) := by
        cases h1 : Pl.isLower s.toList
        · right; unfold Pl.isName at hn; rw [h1] at hn; exact ⟨rfl, by simpa using hn⟩
        · left; exact ⟨rfl, Pl.lower_not_upper _ h1⟩
      clear hsplit hn hsz h1m
      rcases hlu with ⟨h1, h2⟩ | ⟨h1, h2⟩
      all_goals
        rw [h1] at HL HML
        rw [h2] at HU HMU
        clear h1 h2
        go_enter Tryd.func9, Tryd.ntmps9
        go_wp2_with (first | (go_at_call 10; refine (awake_any _ (by assumption)).mono ?_; rintro e w1 ⟨rfl, hb1⟩; have hw1 := Wok.below (by assumption) hb1; have HB1 := Lib.hid hb1; clear hb1) | (with_reducible refine (HL.out _).mono ?_; rintro e w' ⟨rfl, rfl⟩) | (with_reducible refine (HU.out _).mono ?_; rintro e w' ⟨rfl, rfl⟩) | (with_reducible refine (HV.out _).mono ?_; rintro e w' ⟨rfl, rfl⟩) | (with_reducible refine (HLa.out _).mono ?_; rintro e w' ⟨rfl, rfl⟩) | (with_reducible refine (HML.out _).mono ?_; rintro e w' ⟨rfl, rfl⟩) | (with_reducible refine (HMU.out _).mono ?_; rintro e w' ⟨rfl, rfl⟩) | (go_at_call 25; refine (HP.out _ (by assumption)).mono ?_; rintro e w2 ⟨rfl, rfl⟩) | (go_at_call 28; refine (HEQ.out w1).mono ?_; rintro e w' ⟨rfl, q, rfl⟩))
        all_goals
          go_ret
          refine ⟨ret_bool ?_, HB1.out.trans ((below_drewN (((Below.refl _ _).alloc (Nat.le_refl _) _).alloc (by simp) _) q).mono HB1.out.size)⟩
          first
            | rfl
            | (rw [beq_iff_eq, decide_eq_decide]; omega)
    · have hn1 : Pl.isLower s.toList = false := by cases h : Pl.isLower s.toList; rfl; exact absurd (by unfold Pl.isName; rw [h]; rfl) hn
      have hn2 : Pl.isUpper s.toList = false := by cases h : Pl.isUpper s.toList; rfl; exact absurd (by unfold Pl.isName; rw [h]; simp) hn
      rw [hn1] at HL
      rw [hn2] at HU
      clear hn hn1 hn2
      cases hv : Pl.isVar s.toList
      · rw [hv] at HV
        clear hv
        go_enter Tryd.func9, Tryd.ntmps9
        go_wp2_with (first | (go_at_call 10; refine (awake_any _ (by assumption)).mono ?_; rintro e w1 ⟨rfl, hb1⟩; have hw1 := Wok.below (by assumption) hb1; have HB1 := Lib.hid hb1; clear hb1) | (with_reducible refine (HL.out _).mono ?_; rintro e w' ⟨rfl, rfl⟩) | (with_reducible refine (HU.out _).mono ?_; rintro e w' ⟨rfl, rfl⟩) | (with_reducible refine (HV.out _).mono ?_; rintro e w' ⟨rfl, rfl⟩))
        go_ret
        exact ⟨rfl, HB1.out⟩
      · rw [Pl.var_not_label _ hv] at HLa
        rw [hv] at HV
        clear hv
        go_enter Tryd.func9, Tryd.ntmps9
        go_wp2_with (first | (go_at_call 10; refine (awake_any _ (by assumption)).mono ?_; rintro e w1 ⟨rfl, hb1⟩; have hw1 := Wok.below (by assumption) hb1; have HB1 := Lib.hid hb1; clear hb1) | (with_reducible refine (HL.out _).mono ?_; rintro e w' ⟨rfl, rfl⟩) | (with_reducible refine (HU.out _).mono ?_; rintro e w' ⟨rfl, rfl⟩) | (with_reducible refine (HV.out _).mono ?_; rintro e w' ⟨rfl, rfl⟩) | (with_reducible refine (HLa.out _).mono ?_; rintro e w' ⟨rfl, rfl⟩))
        go_ret
        exact ⟨rfl, HB1.out⟩
  · have hl' : decide ((1000 : Int) < (s.size : Int)) = true := by simp; omega
    go_enter Tryd.func9, Tryd.ntmps9
    go_wp2_with fail
    refine (awake_any _ hw).mono ?_
    rintro e w1 ⟨rfl, hb1⟩
    have hw1 := hw.below hb1
    have HB1 := Lib.hid hb1
    clear hb1
    go_wp2_with fail
    refine (awake_any _ hw1).mono ?_
    rintro e w2 ⟨rfl, hb2⟩
    have HB2 := Lib.hid hb2
    clear hb2
    go_wp2
    go_ret
    exact ⟨rfl, HB1.out.trans (HB2.out.mono HB1.out.size)⟩
end Go.Proofs.YtmegdcjhpokakaaDoor
