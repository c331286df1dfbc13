/-
  Walks of layer 1, eighth part: Ascending and Find, of the program and of the reference.
-/
import Derived.Test.YtmjiocpcenbndaaGreatDoorWg
namespace Go.Proofs.YtmjiocpcenbndaaGreatDoor
open Go.RowKit

def lessAt (zs : List ByteArray) (j : Nat) : Bool := Op.bytesLess (Pl.el zs j).toList (Pl.el zs (j + 1)).toList
def asc (zs : List ByteArray) : Bool := (List.range (zs.length - 1)).all (lessAt zs)
theorem asc_no (zs : List ByteArray) (j : Nat) (hj : j + 1 < zs.length) (h : lessAt zs j = false) : asc zs = false := by
  unfold asc
  exact List.all_eq_false.2 ⟨j, List.mem_range.2 (by omega), by simp [h]⟩
theorem asc_yes (zs : List ByteArray) (h : ∀ j, j + 1 < zs.length → lessAt zs j = true) : asc zs = true :=
  List.all_eq_true.2 fun j hj => h j (by have := List.mem_range.1 hj; omega)

theorem asc_empty (a : Option Addr) (c : Nat) (w : World) :
    Calls Tryz.prog 136 #[.slice a 0 c] w fun e w' => e = .returned (.bool true) ∧ w = w' := by
  go_enter Tryz.func136, Tryz.ntmps136
  go_wp2
  go_loop [7] (fun i => i = .int .i64 0) (fun _ => 0)
  case atStart => exact rfl
  case round =>
    subst hrel
    go_wp2
    go_ret
    exact ⟨rfl, rfl⟩
theorem asc_any (b off n c : Nat) (zs : List ByteArray) (w : World) (hz : zs.length = n) (hn : n ≤ maxLen) (hc : StrsAt w b off zs) :
    Calls Tryz.prog 136 #[.slice (some ⟨b, off, none⟩) n c] w fun e w' => e = .returned (.bool (asc zs)) ∧ w = w' := by
  have hn2 : n ≤ 9223372036854775807 := hn
  clear hn
  have HZ := Lib.hid hz
  have HC := Lib.hid hc.cell
  clear hz hc
  go_enter Tryz.func136, Tryz.ntmps136
  go_wp2
  go_loop [7] (fun i => ∃ k : Nat, k ≤ n ∧ i = .int .i64 k ∧ ∀ j, j + 1 < k → lessAt zs j = true) (fun i => n - (intOf i).toNat)
  case atStart => exact ⟨0, by omega, rfl, fun j hj => absurd hj (Nat.not_lt_zero _)⟩
  case round =>
    obtain ⟨k, hk, rfl, hin⟩ := hrel
    have HI := Lib.hid hin
    clear hin
    by_cases hlt : k < n
    · rcases Nat.eq_zero_or_pos k with hk0 | hk0
      · subst hk0
        have hcell := HC.out 0 (by rw [HZ.out]; exact hlt)
        generalize Pl.el zs 0 = z at hcell
        rw [Nat.add_zero] at hcell
        go_wp2
        exact ⟨⟨1, by omega, rfl, fun j hj => absurd hj (by omega)⟩, by simp [intOf]; omega⟩
      · obtain ⟨m, rfl⟩ : ∃ m, k = m + 1 := ⟨k - 1, by omega⟩
        have hcell1 := HC.out m (by rw [HZ.out]; omega)
        have hcell2 := HC.out (m + 1) (by rw [HZ.out]; exact hlt)
        have hno := asc_no zs m (by rw [HZ.out]; exact hlt)
        have hyes : lessAt zs m = true → ∀ j, j + 1 < m + 1 + 1 → lessAt zs j = true := fun hq j hj => by
          rcases Nat.lt_succ_iff_lt_or_eq.1 hj with h | h
          · exact HI.out j h
          · obtain rfl : j = m := by omega
            exact hq
        have hla : lessAt zs m = Op.bytesLess (Pl.el zs m).toList (Pl.el zs (m + 1)).toList := rfl
        generalize lessAt zs m = q at hno hyes hla
        generalize Pl.el zs m = z1 at hcell1 hla
        generalize Pl.el zs (m + 1) = z2 at hcell2 hla
        have HNO := Lib.hid hno
        have HY := Lib.hid hyes
        have HLA := Lib.hid hla
        clear hno hyes hla
        cases hq : Op.bytesLess z1.toList z2.toList
        · have HQ := Lib.hid hq
          go_wp2
          go_ret
          exact ⟨ret_bool (HNO.out (HLA.out.trans HQ.out)).symm, rfl⟩
        · have HQ := Lib.hid hq
          go_wp2
          exact ⟨⟨m + 1 + 1, by omega, by go_num, HY.out (HLA.out.trans HQ.out)⟩, by simp [intOf]; omega⟩
    · go_wp2
      go_ret
      exact ⟨ret_bool (asc_yes zs (fun j hj => HI.out j (by rw [HZ.out] at hj; omega))).symm, rfl⟩
theorem rasc_empty (a : Option Addr) (c : Nat) (w : World) :
    Calls Tryz.prog 99 #[.slice a 0 c] w fun e w' => e = .returned (.bool true) ∧ w = w' := by
  go_enter Tryz.func99, Tryz.ntmps99
  go_wp2
  go_loop [3] (fun i => i = .int .i64 1) (fun _ => 0)
  case atStart => exact rfl
  case round =>
    subst hrel
    go_wp2
    go_ret
    exact ⟨rfl, rfl⟩
def Drew (r : Bool) (w : World) (e : Ending) (w' : World) : Prop := e = .returned (.bool r) ∧ ∃ q, w' = w.drewN q
theorem rasc_any (b off n c : Nat) (zs : List ByteArray) (w : World) (hz : zs.length = n) (h1 : 1 ≤ n) (hn : n ≤ maxLen) (hc : StrsAt w b off zs) :
    Calls Tryz.prog 99 #[.slice (some ⟨b, off, none⟩) n c] w (Drew (asc zs) w) := by
  have hn2 : n ≤ 9223372036854775807 := hn
  clear hn
  have HZ := Lib.hid hz
  have HC := Lib.hid hc.cell
  clear hz hc
  go_enter Tryz.func99, Tryz.ntmps99
  go_wp2
  go_loopw [3] (fun i wr => (∃ k : Nat, 1 ≤ k ∧ k ≤ n ∧ i = .int .i64 k ∧ ∀ j, j + 1 < k → lessAt zs j = true) ∧ ∃ q, wr = w.drewN q) (fun i _ => n - (intOf i).toNat)
  case atStart => exact ⟨⟨1, by omega, by omega, rfl, fun j hj => absurd hj (by omega)⟩, 0, rfl⟩
  case round =>
    obtain ⟨⟨k, hk1, hk, rfl, hin⟩, q, rfl⟩ := hrel
    have HI := Lib.hid hin
    clear hin
    by_cases hlt : k < n
    · obtain ⟨m, rfl⟩ : ∃ m, k = m + 1 := ⟨k - 1, by omega⟩
      have hcell1 := HC.out m (by rw [HZ.out]; omega)
      have hcell2 := HC.out (m + 1) (by rw [HZ.out]; exact hlt)
      have hno := asc_no zs m (by rw [HZ.out]; exact hlt)
      have hyes : lessAt zs m = true → ∀ j, j + 1 < m + 1 + 1 → lessAt zs j = true := fun hq j hj => by
        rcases Nat.lt_succ_iff_lt_or_eq.1 hj with h | h
        · exact HI.out j h
        · obtain rfl : j = m := by omega
          exact hq
      have hla : lessAt zs m = Op.bytesLess (Pl.el zs m).toList (Pl.el zs (m + 1)).toList := rfl
      generalize lessAt zs m = q at hno hyes hla
      generalize Pl.el zs m = z1 at hcell1 hla
      generalize Pl.el zs (m + 1) = z2 at hcell2 hla
      have HNO := Lib.hid hno
      have HY := Lib.hid hyes
      have HLA := Lib.hid hla
      clear hno hyes hla
      cases hq : Op.bytesLess z1.toList z2.toList
      · have HQ := Lib.hid hq
        go_wp2
        go_quiet (fail)
        go_wp2
        go_ret
        exact ⟨ret_bool (HNO.out (HLA.out.trans HQ.out)).symm, _, World.drewN_drewN _ _ _⟩
      · have HQ := Lib.hid hq
        go_wp2
        go_quiet (fail)
        go_wp2
        exact ⟨⟨⟨m + 1 + 1, by omega, by omega, by go_num, HY.out (HLA.out.trans HQ.out)⟩, _, rfl⟩, by simp [intOf]; omega⟩
    · go_wp2
      go_ret
      exact ⟨ret_bool (asc_yes zs (fun j hj => HI.out j (by rw [HZ.out] at hj; omega))).symm, q, rfl⟩

theorem asc_of {w : World} {v : Value} {zs : List ByteArray} (h : SliceOf w v zs) :
    Calls Tryz.prog 136 #[v] w fun e w' => e = .returned (.bool (asc zs)) ∧ w = w' := by
  rcases h with ⟨rfl, a, c, rfl⟩ | ⟨b, off, c, rfl, h2, h3, h4, h5, h6, h7⟩
  · exact asc_empty a c w
  · exact asc_any b off zs.length c zs w rfl (Nat.le_trans h3 h4) h7
theorem rasc_of {w : World} {v : Value} {zs : List ByteArray} (h : SliceOf w v zs) :
    Calls Tryz.prog 99 #[v] w fun e w' => e = .returned (.bool (asc zs)) ∧ Below w.heap.size w w' := by
  rcases h with ⟨rfl, a, c, rfl⟩ | ⟨b, off, c, rfl, h2, h3, h4, h5, h6, h7⟩
  · exact (rasc_empty a c w).mono fun e w' ⟨he, hw⟩ => ⟨he, by subst hw; exact Below.refl _ _⟩
  · exact (rasc_any b off zs.length c zs w rfl h2 (Nat.le_trans h3 h4) h7).mono fun e w' ⟨he, q, hw⟩ => ⟨he, by subst hw; exact below_drewN (Below.refl _ _) q⟩

end Go.Proofs.YtmjiocpcenbndaaGreatDoor
