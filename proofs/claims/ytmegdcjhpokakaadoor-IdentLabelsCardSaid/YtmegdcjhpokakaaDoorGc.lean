/-
  The law IdentLabels, as a walk.
-/
import Derived.Test.YtmegdcjhpokakaaDoorWi
namespace Go.Proofs.YtmegdcjhpokakaaDoor
open Go.RowKit

theorem parts_cases (l : Pl.Bytes) : Pl.parts l = (0, []) ∨ ∃ (k : Nat) (r : Pl.Bytes), 1 ≤ k ∧ Pl.parts l = ((k : Int), r) := by
  by_cases h : ∃ j, 1 ≤ j ∧ j < 6 ∧ Pl.hitN j l = true
  · right
    obtain ⟨j, h1, h6, hj⟩ := h
    -- the least one
    have : ∃ m, 1 ≤ m ∧ m < 6 ∧ Pl.hitN m l = true ∧ ∀ i, 1 ≤ i → i < m → Pl.hitN i l = false := by
      induction j using Nat.strongRecOn with
      | ind j ih =>
        by_cases hx : ∃ i, 1 ≤ i ∧ i < j ∧ Pl.hitN i l = true
        · obtain ⟨i, hi1, hij, hi⟩ := hx
          exact ih i hij hi1 (by omega) hi
        · refine ⟨j, h1, h6, hj, fun i hi1 hij => ?_⟩
          cases hh : Pl.hitN i l
          · rfl
          · exact absurd ⟨i, hi1, hij, hh⟩ hx
    obtain ⟨m, hm1, hm6, hm, hno⟩ := this
    exact ⟨m, _, hm1, Pl.parts_hit l m hm1 (by omega) hm hno⟩
  · left
    refine Pl.parts_none l fun j h1 h6 => ?_
    cases hh : Pl.hitN j l
    · rfl
    · exact absurd ⟨j, h1, h6, hh⟩ h

/-- the three ways of Label -/
theorem labelWay (k : Int) (s : ByteArray) : ((k < 1 ∨ 5 < k) ∧ Pl.label k s.toList = ([], 2)) ∨ (1 ≤ k ∧ k ≤ 5 ∧ Pl.fits k s.toList = false ∧ Pl.label k s.toList = ([], 3)) ∨ (1 ≤ k ∧ k ≤ 5 ∧ Pl.fits k s.toList = true ∧ Pl.label k s.toList = (Pl.head k ++ s.toList, 0)) := by
  by_cases h : 1 ≤ k ∧ k ≤ 5
  · have hk : Pl.isKind k = true := by unfold Pl.isKind; simp [h.1, h.2]
    cases hf : Pl.fits k s.toList
    · exact .inr (.inl ⟨h.1, h.2, rfl, by unfold Pl.label; rw [hk, hf]; rfl⟩)
    · exact .inr (.inr ⟨h.1, h.2, rfl, by unfold Pl.label; rw [hk, hf]; rfl⟩)
  · have hk : Pl.isKind k = false := by unfold Pl.isKind; simp; omega
    exact .inl ⟨by omega, by unfold Pl.label; rw [hk]; rfl⟩

set_option maxHeartbeats 1000000 in
theorem identLabels_walk (k : Int) (s : ByteArray) (w : World) (hs : s.size ≤ maxLen) (hw : Wok w) :
    Calls Tryd.prog 4 #[.int .i64 k, .string s] w fun e w' => e = .returned (.bool true) ∧ Below w.heap.size w w' := by
  have hs' := hs
  unfold maxLen at hs
  by_cases hl : s.size ≤ 1000
  · have hl' : decide ((1000 : Int) < (s.size : Int)) = false := by simp; omega
    have hsp := fun wx => split_any s wx hs'
    have hrs := fun wx => rSplit_any s wx hs'
    have hla := fun wx => label_any k s wx hs'
    have hfi := fun wx => rFits_any k s wx hs'
    rcases parts_cases s.toList with hp | ⟨a, r, ha, hp⟩
    · rw [hp] at hsp hrs
      have hsp2 : ∀ wx, Calls Tryd.prog 20 #[.string s] wx fun e w' => e = .returned (.tuple #[.int .i64 0, .string ⟨#[]⟩, .int .i64 3]) ∧ wx = w' := hsp
      have hrs2 : ∀ wx, Calls Tryd.prog 23 #[.string s] wx fun e w' => e = .returned (.tuple #[.int .i64 0, .string ⟨#[]⟩]) ∧ Below wx.heap.size wx w' := hrs
      have HSP := Lib.hid hsp2
      have HRS := Lib.hid hrs2
      clear hsp hrs hsp2 hrs2 hp
      rcases labelWay k s with ⟨h, hlb⟩ | ⟨h1, h5, hf, hlb⟩ | ⟨h1, h5, hf, hlb⟩
      · rw [hlb] at hla
        have hla2 : ∀ wx, Calls Tryd.prog 19 #[.int .i64 k, .string s] wx fun e w' => e = .returned (.tuple #[.string ⟨#[]⟩, .int .i64 2]) ∧ wx = w' := hla
        have HLA := Lib.hid hla2
        clear hla hla2 hfi hlb
        rcases h with h | h
        all_goals
          go_enter Tryd.func4, Tryd.ntmps4
          go_wp2_with (first | (go_at_call 10; refine (awake_any _ hw).mono ?_; rintro e w1 ⟨rfl, hb1⟩; have HB1 := Lib.hid hb1; clear hb1) | (go_at_call 19; refine (HLA.out _).mono ?_; rintro e w' ⟨rfl, rfl⟩) | (go_at_call 20; refine (HSP.out _).mono ?_; rintro e w' ⟨rfl, rfl⟩) | (go_at_call 23; refine (HRS.out _).mono ?_; rintro e w2 ⟨rfl, hb2⟩; have HB2 := Lib.hid hb2; clear hb2))
          go_ret
          exact ⟨rfl, HB1.out.trans (HB2.out.mono HB1.out.size)⟩
      · rw [hlb] at hla
        rw [hf] at hfi
        have hla2 : ∀ wx, Calls Tryd.prog 19 #[.int .i64 k, .string s] wx fun e w' => e = .returned (.tuple #[.string ⟨#[]⟩, .int .i64 3]) ∧ wx = w' := hla
        have HLA := Lib.hid hla2
        have HFI := Lib.hid hfi
        clear hla hla2 hfi hlb hf
        go_enter Tryd.func4, Tryd.ntmps4
        go_wp2_with (first | (go_at_call 10; refine (awake_any _ hw).mono ?_; rintro e w1 ⟨rfl, hb1⟩; have HB1 := Lib.hid hb1; clear hb1) | (go_at_call 19; refine (HLA.out _).mono ?_; rintro e w' ⟨rfl, rfl⟩) | (go_at_call 20; refine (HSP.out _).mono ?_; rintro e w' ⟨rfl, rfl⟩) | (go_at_call 23; refine (HRS.out _).mono ?_; rintro e w2 ⟨rfl, hb2⟩; have HB2 := Lib.hid hb2; clear hb2) | (go_at_call 21; refine (HFI.out _).mono ?_; rintro e w3 ⟨rfl, hb3⟩; have HB3 := Lib.hid hb3; clear hb3))
        go_ret
        exact ⟨rfl, HB1.out.trans ((HB3.out.trans (HB2.out.mono HB3.out.size)).mono HB1.out.size)⟩
      · obtain ⟨n, rfl⟩ := Int.eq_ofNat_of_zero_le (show 0 ≤ k by omega)
        have hrl := fun wx => rLabel_any n s wx (by omega) hl
        rw [hlb] at hla
        rw [hf] at hfi
        have hla2 : ∀ wx, Calls Tryd.prog 19 #[.int .i64 (n : Int), .string s] wx fun e w' => e = .returned (.tuple #[.string (Pl.mk (Pl.head (n : Int) ++ s.toList)), .int .i64 0]) ∧ wx = w' := hla
        generalize Pl.mk (Pl.head (n : Int) ++ s.toList) = x at hla2 hrl
        have HLA := Lib.hid hla2
        have HFI := Lib.hid hfi
        have HRL := Lib.hid hrl
        clear hla hla2 hfi hlb hf hrl
        go_enter Tryd.func4, Tryd.ntmps4
        go_wp2_with (first | (go_at_call 10; refine (awake_any _ hw).mono ?_; rintro e w1 ⟨rfl, hb1⟩; have HB1 := Lib.hid hb1; clear hb1) | (go_at_call 19; refine (HLA.out _).mono ?_; rintro e w' ⟨rfl, rfl⟩) | (go_at_call 20; refine (HSP.out _).mono ?_; rintro e w' ⟨rfl, rfl⟩) | (go_at_call 23; refine (HRS.out _).mono ?_; rintro e w2 ⟨rfl, hb2⟩; have HB2 := Lib.hid hb2; clear hb2) | (go_at_call 21; refine (HFI.out _).mono ?_; rintro e w3 ⟨rfl, hb3⟩; have HB3 := Lib.hid hb3; clear hb3) | (go_at_call 22; refine (HRL.out _).mono ?_; rintro e w4 ⟨rfl, hb4⟩; have HB4 := Lib.hid hb4; clear hb4))
        go_ret
        exact ⟨rfl, HB1.out.trans ((HB3.out.trans ((HB4.out.trans (HB2.out.mono HB4.out.size)).mono HB3.out.size)).mono HB1.out.size)⟩
    · have hc : splitCode (a : Int) = 0 := if_neg (by omega)
      have ha0 : ((a : Int) == 0) = false := beq_eq_false_iff_ne.2 (by omega)
      rw [hp] at hsp hrs
      simp only [hc] at hsp
      generalize Pl.mk r = y at hsp hrs
      have HSP := Lib.hid hsp
      have HRS := Lib.hid hrs
      clear hsp hrs hp hc
      rcases labelWay k s with ⟨h, hlb⟩ | ⟨h1, h5, hf, hlb⟩ | ⟨h1, h5, hf, hlb⟩
      · rw [hlb] at hla
        have hla2 : ∀ wx, Calls Tryd.prog 19 #[.int .i64 k, .string s] wx fun e w' => e = .returned (.tuple #[.string ⟨#[]⟩, .int .i64 2]) ∧ wx = w' := hla
        have HLA := Lib.hid hla2
        clear hla hla2 hfi hlb
        rcases h with h | h
        all_goals
          go_enter Tryd.func4, Tryd.ntmps4
          go_wp2_with (first | (go_at_call 10; refine (awake_any _ hw).mono ?_; rintro e w1 ⟨rfl, hb1⟩; have HB1 := Lib.hid hb1; clear hb1) | (go_at_call 19; refine (HLA.out _).mono ?_; rintro e w' ⟨rfl, rfl⟩) | (go_at_call 20; refine (HSP.out _).mono ?_; rintro e w' ⟨rfl, rfl⟩) | (go_at_call 23; refine (HRS.out _).mono ?_; rintro e w2 ⟨rfl, hb2⟩; have HB2 := Lib.hid hb2; clear hb2))
          go_ret
          exact ⟨rfl, HB1.out.trans (HB2.out.mono HB1.out.size)⟩
      · rw [hlb] at hla
        rw [hf] at hfi
        have hla2 : ∀ wx, Calls Tryd.prog 19 #[.int .i64 k, .string s] wx fun e w' => e = .returned (.tuple #[.string ⟨#[]⟩, .int .i64 3]) ∧ wx = w' := hla
        have HLA := Lib.hid hla2
        have HFI := Lib.hid hfi
        clear hla hla2 hfi hlb hf
        go_enter Tryd.func4, Tryd.ntmps4
        go_wp2_with (first | (go_at_call 10; refine (awake_any _ hw).mono ?_; rintro e w1 ⟨rfl, hb1⟩; have HB1 := Lib.hid hb1; clear hb1) | (go_at_call 19; refine (HLA.out _).mono ?_; rintro e w' ⟨rfl, rfl⟩) | (go_at_call 20; refine (HSP.out _).mono ?_; rintro e w' ⟨rfl, rfl⟩) | (go_at_call 23; refine (HRS.out _).mono ?_; rintro e w2 ⟨rfl, hb2⟩; have HB2 := Lib.hid hb2; clear hb2) | (go_at_call 21; refine (HFI.out _).mono ?_; rintro e w3 ⟨rfl, hb3⟩; have HB3 := Lib.hid hb3; clear hb3))
        go_ret
        exact ⟨rfl, HB1.out.trans ((HB3.out.trans (HB2.out.mono HB3.out.size)).mono HB1.out.size)⟩
      · obtain ⟨n, rfl⟩ := Int.eq_ofNat_of_zero_le (show 0 ≤ k by omega)
        have hrl := fun wx => rLabel_any n s wx (by omega) hl
        rw [hlb] at hla
        rw [hf] at hfi
        have hla2 : ∀ wx, Calls Tryd.prog 19 #[.int .i64 (n : Int), .string s] wx fun e w' => e = .returned (.tuple #[.string (Pl.mk (Pl.head (n : Int) ++ s.toList)), .int .i64 0]) ∧ wx = w' := hla
        generalize Pl.mk (Pl.head (n : Int) ++ s.toList) = x at hla2 hrl
        have HLA := Lib.hid hla2
        have HFI := Lib.hid hfi
        have HRL := Lib.hid hrl
        clear hla hla2 hfi hlb hf hrl
        go_enter Tryd.func4, Tryd.ntmps4
        go_wp2_with (first | (go_at_call 10; refine (awake_any _ hw).mono ?_; rintro e w1 ⟨rfl, hb1⟩; have HB1 := Lib.hid hb1; clear hb1) | (go_at_call 19; refine (HLA.out _).mono ?_; rintro e w' ⟨rfl, rfl⟩) | (go_at_call 20; refine (HSP.out _).mono ?_; rintro e w' ⟨rfl, rfl⟩) | (go_at_call 23; refine (HRS.out _).mono ?_; rintro e w2 ⟨rfl, hb2⟩; have HB2 := Lib.hid hb2; clear hb2) | (go_at_call 21; refine (HFI.out _).mono ?_; rintro e w3 ⟨rfl, hb3⟩; have HB3 := Lib.hid hb3; clear hb3) | (go_at_call 22; refine (HRL.out _).mono ?_; rintro e w4 ⟨rfl, hb4⟩; have HB4 := Lib.hid hb4; clear hb4))
        go_ret
        exact ⟨rfl, HB1.out.trans ((HB3.out.trans ((HB4.out.trans (HB2.out.mono HB4.out.size)).mono HB3.out.size)).mono HB1.out.size)⟩
  · have hl' : decide ((1000 : Int) < (s.size : Int)) = true := by simp; omega
    go_enter Tryd.func4, Tryd.ntmps4
    go_wp2_with fail
    refine (awake_any _ hw).mono ?_
    rintro e w1 ⟨rfl, hb1⟩
    have hw1 := hw.below hb1
    have HB1 := Lib.hid hb1
    clear hb1
    go_wp2_with fail
    refine (awake_any _ hw1).mono ?_
    rintro e w2 ⟨rfl, hb2⟩
    have HB2 := Lib.hid hb2
    clear hb2
    go_wp2
    go_ret
    exact ⟨rfl, HB1.out.trans (HB2.out.mono HB1.out.size)⟩
end Go.Proofs.YtmegdcjhpokakaaDoor
