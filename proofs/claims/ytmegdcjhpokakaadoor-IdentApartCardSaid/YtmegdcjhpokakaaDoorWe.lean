/-
  Walks of layer 1, fifth part: paths.
-/
import Derived.Test.YtmegdcjhpokakaaDoorWd
import Derived.Test.YtmegdcjhpokakaaDoorPm
namespace Go.Proofs.YtmegdcjhpokakaaDoor
open Go.RowKit

theorem isPath_empty (a : Option Addr) (c : Nat) (w : World) :
    Calls Tryd.prog 56 #[.slice a 0 c] w fun e w' => e = .returned (.bool false) ∧ w = w' := by
  go_enter Tryd.func56, Tryd.ntmps56
  go_wp2
  go_ret
  exact ⟨rfl, rfl⟩
set_option maxHeartbeats 1000000 in
theorem isPath_any (b off n c : Nat) (zs : List ByteArray) (w : World) (hz : zs.length = n) (h1 : 1 ≤ n) (hnc : n ≤ c) (hcm : c ≤ maxLen) (hsz : ∀ s ∈ zs, s.size ≤ maxLen) (hc : StrsAt w b off zs) :
    Calls Tryd.prog 56 #[.slice (some ⟨b, off, none⟩) n c] w fun e w' => e = .returned (.bool (Pl.isPath zs)) ∧ w = w' := by
  have hcm2 : c ≤ 9223372036854775807 := hcm
  clear hcm
  have HZ := Lib.hid hz
  have HC := Lib.hid hc
  have HS := Lib.hid hsz
  clear hz hc hsz
  have hne : ((n : Int) == 0) = false := by simp; omega
  have hel : ∀ j, j < n → w.cell? ⟨b, off + j, none⟩ = some (.string (Pl.el zs j)) := fun j hj => HC.out j (by rw [HZ.out]; exact hj)
  have hels : ∀ j, j < n → (Pl.el zs j).size ≤ maxLen := fun j hj => by
    have hj' : j < zs.length := by rw [HZ.out]; exact hj
    have e : Pl.el zs j = zs[j] := by simp [Pl.el, List.getD, hj']
    rw [e]; exact HS.out _ (List.getElem_mem _)
  have HEL := Lib.hid hel
  have HES := Lib.hid hels
  clear hel hels
  by_cases h8 : n ≤ 8
  · have h8' : decide ((8 : Int) < (n : Int)) = false := by simp; omega
    go_enter Tryd.func56, Tryd.ntmps56
    go_wp2
    go_loop [21] (fun i => ∃ k : Nat, k ≤ n - 1 ∧ i = .int .i64 k ∧ ∀ j, j < k → Pl.isUpper (Pl.el zs j).toList = true) (fun i => n - (intOf i).toNat)
    case atStart => exact ⟨0, by omega, rfl, fun j hj => absurd hj (Nat.not_lt_zero _)⟩
    case round =>
      obtain ⟨k, hk, rfl, hin⟩ := hrel
      have HI := Lib.hid hin
      clear hin
      by_cases hlt : k < n - 1
      · have hlt2 : (k : Int) < (n : Int) - 1 := by omega
        have hcell := HEL.out k (by omega)
        have hes := HES.out k (by omega)
        have hub := Pl.isPath_bad zs k (by rw [HZ.out]; exact hlt)
        have hst : ∀ j, j < k + 1 → Pl.isUpper (Pl.el zs k).toList = true → Pl.isUpper (Pl.el zs j).toList = true := fun j hj hu => by
          rcases Nat.lt_succ_iff_lt_or_eq.1 hj with h | h
          · exact HI.out j h
          · subst h; exact hu
        generalize Pl.el zs k = z at hcell hes hub hst
        have HE := Lib.hid hes
        have HB := Lib.hid hub
        have HT := Lib.hid hst
        clear hes hub hst
        cases hu : Pl.isUpper z.toList
        · have HU := Lib.hid hu
          go_wp2_with (go_at_call 13; refine (isUpper_any _ _ HE.out).mono ?_; rintro e w' ⟨rfl, rfl⟩)
          go_ret
          exact ⟨ret_bool (HB.out HU.out).symm, rfl⟩
        · have HU := Lib.hid hu
          go_wp2_with (go_at_call 13; refine (isUpper_any _ _ HE.out).mono ?_; rintro e w' ⟨rfl, rfl⟩)
          exact ⟨⟨k + 1, by omega, by go_num, fun j hj => HT.out j hj HU.out⟩, by simp [intOf]; omega⟩
      · have hlt2 : ¬ (k : Int) < (n : Int) - 1 := by omega
        obtain ⟨m, rfl⟩ : ∃ m, n = m + 1 := ⟨n - 1, by omega⟩
        have hcell := HEL.out m (by omega)
        have hes := HES.out m (by omega)
        have hp := Pl.isPath_last zs (by rw [HZ.out]; omega) (by rw [HZ.out]; omega) (fun j hj => HI.out j (by rw [HZ.out] at hj; omega))
        rw [HZ.out, Nat.add_sub_cancel] at hp
        generalize Pl.el zs m = z at hcell hes hp
        have HE := Lib.hid hes
        have HP := Lib.hid hp
        clear hes hp
        go_wp2_with (first | (go_at_call 13; refine (isUpper_any _ _ HE.out).mono ?_; rintro e w' ⟨rfl, rfl⟩) | (go_at_call 11; refine (isLower_any _ _ HE.out).mono ?_; rintro e w' ⟨rfl, rfl⟩))
        all_goals
          go_ret
          refine ⟨ret_bool ?_, rfl⟩
          rw [HP.out]
          unfold Pl.isName
          simp_all
  · have h8' : decide ((8 : Int) < (n : Int)) = true := by simp; omega
    go_enter Tryd.func56, Tryd.ntmps56
    go_wp2
    go_ret
    exact ⟨ret_bool (Pl.isPath_long zs (by rw [HZ.out]; omega)).symm, rfl⟩

set_option maxHeartbeats 1000000 in
theorem rIsPath_empty (a : Option Addr) (c : Nat) (w : World) :
    Calls Tryd.prog 29 #[.slice a 0 c] w fun e w' => e = .returned (.bool false) ∧ Below w.heap.size w w' := by
  go_enter Tryd.func29, Tryd.ntmps29
  go_wp2
  go_ret
  exact ⟨rfl, Below.refl _ _⟩
set_option maxHeartbeats 1000000 in
theorem rIsPath_any (b off n c : Nat) (zs : List ByteArray) (w : World) (hz : zs.length = n) (h1 : 1 ≤ n) (hn : n ≤ maxLen) (hb : b < w.heap.size) (hsz : ∀ s ∈ zs, s.size ≤ maxLen) (hc : StrsAt w b off zs) :
    Calls Tryd.prog 29 #[.slice (some ⟨b, off, none⟩) n c] w fun e w' => e = .returned (.bool (Pl.isPath zs)) ∧ Below w.heap.size w w' := by
  have hn2 : n ≤ 9223372036854775807 := hn
  clear hn
  have HZ := Lib.hid hz
  have HC := Lib.hid hc
  have HS := Lib.hid hsz
  clear hz hc hsz
  have hel : ∀ j, j < n → w.cell? ⟨b, off + j, none⟩ = some (.string (Pl.el zs j)) := fun j hj => HC.out j (by rw [HZ.out]; exact hj)
  have hels : ∀ j, j < n → (Pl.el zs j).size ≤ maxLen := fun j hj => by
    have hj' : j < zs.length := by rw [HZ.out]; exact hj
    have e : Pl.el zs j = zs[j] := by simp [Pl.el, List.getD, hj']
    rw [e]; exact HS.out _ (List.getElem_mem _)
  have HEL := Lib.hid hel
  have HES := Lib.hid hels
  clear hel hels
  by_cases h8 : n ≤ 8
  · go_enter Tryd.func29, Tryd.ntmps29
    go_wp2
    go_loop [4] (fun i => ∃ k : Nat, k ≤ n - 1 ∧ i = .int .i64 k ∧ ∀ j, j < k → Pl.isUpper (Pl.el zs j).toList = true) (fun i => n - (intOf i).toNat)
    case atStart => exact ⟨0, by omega, rfl, fun j hj => absurd hj (Nat.not_lt_zero _)⟩
    case round =>
      obtain ⟨k, hk, rfl, hin⟩ := hrel
      have HI := Lib.hid hin
      clear hin
      by_cases hlt : k < n - 1
      · have hlt2 : (k : Int) + 1 < (n : Int) := by omega
        have hcell := HEL.out k (by omega)
        have hes := HES.out k (by omega)
        have hub := Pl.isPath_bad zs k (by rw [HZ.out]; exact hlt)
        have hst : ∀ j, j < k + 1 → Pl.isUpper (Pl.el zs k).toList = true → Pl.isUpper (Pl.el zs j).toList = true := fun j hj hu => by
          rcases Nat.lt_succ_iff_lt_or_eq.1 hj with h | h
          · exact HI.out j h
          · subst h; exact hu
        generalize Pl.el zs k = z at hcell hes hub hst
        have HE := Lib.hid hes
        have HB := Lib.hid hub
        have HT := Lib.hid hst
        clear hes hub hst
        cases hu : Pl.isUpper z.toList
        · have HU := Lib.hid hu
          go_wp2_with (go_at_call 14; refine (rIsUpper_any _ _ HE.out).mono ?_; rintro e w' ⟨rfl, rfl⟩)
          go_ret
          exact ⟨ret_bool (HB.out HU.out).symm, Below.refl _ _⟩
        · have HU := Lib.hid hu
          go_wp2_with (go_at_call 14; refine (rIsUpper_any _ _ HE.out).mono ?_; rintro e w' ⟨rfl, rfl⟩)
          exact ⟨⟨k + 1, by omega, by go_num, fun j hj => HT.out j hj HU.out⟩, by simp [intOf]; omega⟩
      · have hlt2 : ¬ (k : Int) + 1 < (n : Int) := by omega
        obtain ⟨m, rfl⟩ : ∃ m, n = m + 1 := ⟨n - 1, by omega⟩
        have hcell := HEL.out m (by omega)
        have hes := HES.out m (by omega)
        have hp := Pl.isPath_last zs (by rw [HZ.out]; omega) (by rw [HZ.out]; omega) (fun j hj => HI.out j (by rw [HZ.out] at hj; omega))
        rw [HZ.out, Nat.add_sub_cancel] at hp
        generalize Pl.el zs m = z at hcell hes hp
        have HE := Lib.hid hes
        have HP := Lib.hid hp
        clear hes hp
        go_wp2_with (first | (go_at_call 12; refine (rIsLower_any _ _ HE.out).mono ?_; rintro e w' ⟨rfl, hbl⟩; have hcell2 := (hbl.cell (p := ⟨b, off + m, none⟩) hb).trans hcell; have HBL := Lib.hid hbl; clear hbl) | (go_at_call 14; refine (rIsUpper_any _ _ HE.out).mono ?_; rintro e w' ⟨rfl, rfl⟩))
        all_goals
          go_ret
          refine ⟨ret_bool ?_, HBL.out⟩
          rw [HP.out]
          unfold Pl.isName
          simp_all
  · go_enter Tryd.func29, Tryd.ntmps29
    go_wp2
    go_ret
    exact ⟨ret_bool (Pl.isPath_long zs (by rw [HZ.out]; omega)).symm, Below.refl _ _⟩
end Go.Proofs.YtmegdcjhpokakaaDoor
