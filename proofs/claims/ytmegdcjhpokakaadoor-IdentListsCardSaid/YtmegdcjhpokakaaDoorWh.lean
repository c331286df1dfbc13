/-
  Walks of layer 1, eighth part: Ascending and Find, of the program and of the reference.
-/
import Derived.Test.YtmegdcjhpokakaaDoorWg
namespace Go.Proofs.YtmegdcjhpokakaaDoor
open Go.RowKit

def lessAt (zs : List ByteArray) (j : Nat) : Bool := Op.bytesLess (Pl.el zs j).toList (Pl.el zs (j + 1)).toList
def asc (zs : List ByteArray) : Bool := (List.range (zs.length - 1)).all (lessAt zs)
theorem asc_no (zs : List ByteArray) (j : Nat) (hj : j + 1 < zs.length) (h : lessAt zs j = false) : asc zs = false := by
  unfold asc
  exact List.all_eq_false.2 ⟨j, List.mem_range.2 (by omega), by simp [h]⟩
theorem asc_yes (zs : List ByteArray) (h : ∀ j, j + 1 < zs.length → lessAt zs j = true) : asc zs = true :=
  List.all_eq_true.2 fun j hj => h j (by have := List.mem_range.1 hj; omega)

theorem asc_empty (a : Option Addr) (c : Nat) (w : World) :
    Calls Tryd.prog 31 #[.slice a 0 c] w fun e w' => e = .returned (.bool true) ∧ w = w' := by
  go_enter Tryd.func31, Tryd.ntmps31
  go_wp2
  go_loop [7] (fun i => i = .int .i64 0) (fun _ => 0)
  case atStart => exact rfl
  case round =>
    subst hrel
    go_wp2
    go_ret
    exact ⟨rfl, rfl⟩
theorem asc_any (b off n c : Nat) (zs : List ByteArray) (w : World) (hz : zs.length = n) (hn : n ≤ maxLen) (hc : StrsAt w b off zs) :
    Calls Tryd.prog 31 #[.slice (some ⟨b, off, none⟩) n c] w fun e w' => e = .returned (.bool (asc zs)) ∧ w = w' := by
  have hn2 : n ≤ 9223372036854775807 := hn
  clear hn
  have HZ := Lib.hid hz
  have HC := Lib.hid hc.cell
  clear hz hc
  go_enter Tryd.func31, Tryd.ntmps31
  go_wp2
  go_loop [7] (fun i => ∃ k : Nat, k ≤ n ∧ i = .int .i64 k ∧ ∀ j, j + 1 < k → lessAt zs j = true) (fun i => n - (intOf i).toNat)
  case atStart => exact ⟨0, by omega, rfl, fun j hj => absurd hj (Nat.not_lt_zero _)⟩
  case round =>
    obtain ⟨k, hk, rfl, hin⟩ := hrel
    have HI := Lib.hid hin
    clear hin
    by_cases hlt : k < n
    · rcases Nat.eq_zero_or_pos k with hk0 | hk0
      · subst hk0
        have hcell := HC.out 0 (by rw [HZ.out]; exact hlt)
        generalize Pl.el zs 0 = z at hcell
        rw [Nat.add_zero] at hcell
        go_wp2
        exact ⟨⟨1, by omega, rfl, fun j hj => absurd hj (by omega)⟩, by simp [intOf]; omega⟩
      · obtain ⟨m, rfl⟩ : ∃ m, k = m + 1 := ⟨k - 1, by omega⟩
        have hcell1 := HC.out m (by rw [HZ.out]; omega)
        have hcell2 := HC.out (m + 1) (by rw [HZ.out]; exact hlt)
        have hno := asc_no zs m (by rw [HZ.out]; exact hlt)
        have hyes : lessAt zs m = true → ∀ j, j + 1 < m + 1 + 1 → lessAt zs j = true := fun hq j hj => by
          rcases Nat.lt_succ_iff_lt_or_eq.1 hj with h | h
          · exact HI.out j h
          · obtain rfl : j = m := by omega
            exact hq
        have hla : lessAt zs m = Op.bytesLess (Pl.el zs m).toList (Pl.el zs (m + 1)).toList := rfl
        generalize lessAt zs m = q at hno hyes hla
        generalize Pl.el zs m = z1 at hcell1 hla
        generalize Pl.el zs (m + 1) = z2 at hcell2 hla
        have HNO := Lib.hid hno
        have HY := Lib.hid hyes
        have HLA := Lib.hid hla
        clear hno hyes hla
        cases hq : Op.bytesLess z1.toList z2.toList
        · have HQ := Lib.hid hq
          go_wp2
          go_ret
          exact ⟨ret_bool (HNO.out (HLA.out.trans HQ.out)).symm, rfl⟩
        · have HQ := Lib.hid hq
          go_wp2
          exact ⟨⟨m + 1 + 1, by omega, by go_num, HY.out (HLA.out.trans HQ.out)⟩, by simp [intOf]; omega⟩
    · go_wp2
      go_ret
      exact ⟨ret_bool (asc_yes zs (fun j hj => HI.out j (by rw [HZ.out] at hj; omega))).symm, rfl⟩
theorem rasc_empty (a : Option Addr) (c : Nat) (w : World) :
    Calls Tryd.prog 32 #[.slice a 0 c] w fun e w' => e = .returned (.bool true) ∧ w = w' := by
  go_enter Tryd.func32, Tryd.ntmps32
  go_wp2
  go_loop [3] (fun i => i = .int .i64 1) (fun _ => 0)
  case atStart => exact rfl
  case round =>
    subst hrel
    go_wp2
    go_ret
    exact ⟨rfl, rfl⟩
def Drew (r : Bool) (w : World) (e : Ending) (w' : World) : Prop := e = .returned (.bool r) ∧ ∃ q, w' = w.drewN q
theorem rasc_any (b off n c : Nat) (zs : List ByteArray) (w : World) (hz : zs.length = n) (h1 : 1 ≤ n) (hn : n ≤ maxLen) (hc : StrsAt w b off zs) :
    Calls Tryd.prog 32 #[.slice (some ⟨b, off, none⟩) n c] w (Drew (asc zs) w) := by
  have hn2 : n ≤ 9223372036854775807 := hn
  clear hn
  have HZ := Lib.hid hz
  have HC := Lib.hid hc.cell
  clear hz hc
  go_enter Tryd.func32, Tryd.ntmps32
  go_wp2
  go_loopw [3] (fun i wr => (∃ k : Nat, 1 ≤ k ∧ k ≤ n ∧ i = .int .i64 k ∧ ∀ j, j + 1 < k → lessAt zs j = true) ∧ ∃ q, wr = w.drewN q) (fun i _ => n - (intOf i).toNat)
  case atStart => exact ⟨⟨1, by omega, by omega, rfl, fun j hj => absurd hj (by omega)⟩, 0, rfl⟩
  case round =>
    obtain ⟨⟨k, hk1, hk, rfl, hin⟩, q, rfl⟩ := hrel
    have HI := Lib.hid hin
    clear hin
    by_cases hlt : k < n
    · obtain ⟨m, rfl⟩ : ∃ m, k = m + 1 := ⟨k - 1, by omega⟩
      have hcell1 := HC.out m (by rw [HZ.out]; omega)
      have hcell2 := HC.out (m + 1) (by rw [HZ.out]; exact hlt)
      have hno := asc_no zs m (by rw [HZ.out]; exact hlt)
      have hyes : lessAt zs m = true → ∀ j, j + 1 < m + 1 + 1 → lessAt zs j = true := fun hq j hj => by
        rcases Nat.lt_succ_iff_lt_or_eq.1 hj with h | h
        · exact HI.out j h
        · obtain rfl : j = m := by omega
          exact hq
      have hla : lessAt zs m = Op.bytesLess (Pl.el zs m).toList (Pl.el zs (m + 1)).toList := rfl
      generalize lessAt zs m = q at hno hyes hla
      generalize Pl.el zs m = z1 at hcell1 hla
      generalize Pl.el zs (m + 1) = z2 at hcell2 hla
      have HNO := Lib.hid hno
      have HY := Lib.hid hyes
      have HLA := Lib.hid hla
      clear hno hyes hla
      cases hq : Op.bytesLess z1.toList z2.toList
      · have HQ := Lib.hid hq
        go_wp2
        go_quiet (fail)
        go_wp2
        go_ret
        exact ⟨ret_bool (HNO.out (HLA.out.trans HQ.out)).symm, _, World.drewN_drewN _ _ _⟩
      · have HQ := Lib.hid hq
        go_wp2
        go_quiet (fail)
        go_wp2
        exact ⟨⟨⟨m + 1 + 1, by omega, by omega, by go_num, HY.out (HLA.out.trans HQ.out)⟩, _, rfl⟩, by simp [intOf]; omega⟩
    · go_wp2
      go_ret
      exact ⟨ret_bool (asc_yes zs (fun j hj => HI.out j (by rw [HZ.out] at hj; omega))).symm, q, rfl⟩

theorem asc_of {w : World} {v : Value} {zs : List ByteArray} (h : SliceOf w v zs) :
    Calls Tryd.prog 31 #[v] w fun e w' => e = .returned (.bool (asc zs)) ∧ w = w' := by
  rcases h with ⟨rfl, a, c, rfl⟩ | ⟨b, off, c, rfl, h2, h3, h4, h5, h6, h7⟩
  · exact asc_empty a c w
  · exact asc_any b off zs.length c zs w rfl (Nat.le_trans h3 h4) h7
theorem rasc_of {w : World} {v : Value} {zs : List ByteArray} (h : SliceOf w v zs) :
    Calls Tryd.prog 32 #[v] w fun e w' => e = .returned (.bool (asc zs)) ∧ Below w.heap.size w w' := by
  rcases h with ⟨rfl, a, c, rfl⟩ | ⟨b, off, c, rfl, h2, h3, h4, h5, h6, h7⟩
  · exact (rasc_empty a c w).mono fun e w' ⟨he, hw⟩ => ⟨he, by subst hw; exact Below.refl _ _⟩
  · exact (rasc_any b off zs.length c zs w rfl h2 (Nat.le_trans h3 h4) h7).mono fun e w' ⟨he, q, hw⟩ => ⟨he, by subst hw; exact below_drewN (Below.refl _ _) q⟩

theorem find_empty (a : Option Addr) (c : Nat) (x : ByteArray) (w : World) :
    Calls Tryd.prog 33 #[.slice a 0 c, .string x] w fun e w' => e = .returned (.int .i64 (-1)) ∧ w = w' := by
  go_enter Tryd.func33, Tryd.ntmps33
  go_wp2
  go_loop [9] (fun i => i = .int .i64 0) (fun _ => 0)
  case atStart => exact rfl
  case round =>
    subst hrel
    go_wp2
    go_ret
    exact ⟨rfl, rfl⟩
set_option maxHeartbeats 400000 in
theorem find_any (b off n c : Nat) (zs : List ByteArray) (x : ByteArray) (w : World) (hz : n ≤ zs.length) (hn : n ≤ maxLen) (hc : StrsAt w b off zs) :
    Calls Tryd.prog 33 #[.slice (some ⟨b, off, none⟩) n c, .string x] w fun e w' => e = .returned (.int .i64 (Lib.idxOfS (zs.take n) x)) ∧ w = w' := by
  unfold maxLen at hn
  have HC := Lib.hid hc
  clear hc
  go_enter Tryd.func33, Tryd.ntmps33
  go_wp2
  go_loop [9] (fun i => ∃ k : Nat, k ≤ n ∧ i = .int .i64 k ∧ ∀ j, j < k → zs.getD j ByteArray.empty ≠ x) (fun i => n - (intOf i).toNat)
  case atStart => exact ⟨0, by omega, rfl, fun j hj => absurd hj (Nat.not_lt_zero _)⟩
  case round =>
    obtain ⟨k, hk, rfl, hin⟩ := hrel
    have HI := Lib.hid hin
    clear hin
    by_cases hlt : k < n
    · have hcell : w.cell? ⟨b, off + k, none⟩ = some (.string (zs.getD k ByteArray.empty)) := HC.out k (by omega)
      generalize hzk : zs.getD k ByteArray.empty = z at hcell
      have HZ := Lib.hid hzk
      clear hzk
      by_cases he : z = x
      · have he2 : (z.toList == x.toList) = true := (Lib.bytes_beq_iff z x).2 he
        have HE := Lib.hid he
        clear he
        go_wp2
        go_ret
        exact ⟨ret_int (Lib.idxOfS_hit zs n k x hlt hz (HZ.out.trans HE.out) HI.out).symm, rfl⟩
      · have he2 : (z.toList == x.toList) = false := (Lib.bytes_beq_false_iff z x).2 he
        have HE := Lib.hid he
        clear he
        go_wp2
        exact ⟨⟨k + 1, by omega, by go_num, fun j hj => by
          rcases Nat.lt_succ_iff_lt_or_eq.1 hj with h | h
          · exact HI.out j h
          · subst h; rw [HZ.out]; exact HE.out⟩, by simp [intOf]; omega⟩
    · go_wp2
      go_ret
      exact ⟨ret_int (Lib.idxOfS_miss zs n x (fun j hj => HI.out j (by omega))).symm, rfl⟩
theorem find_of {w : World} {v : Value} {zs : List ByteArray} (h : SliceOf w v zs) (x : ByteArray) :
    Calls Tryd.prog 33 #[v, .string x] w fun e w' => e = .returned (.int .i64 (Lib.idxOfS zs x)) ∧ w = w' := by
  rcases h with ⟨rfl, a, c, rfl⟩ | ⟨b, off, c, rfl, h2, h3, h4, h5, h6, h7⟩
  · exact find_empty a c x w
  · have h := find_any b off zs.length c zs x w (Nat.le_refl _) (Nat.le_trans h3 h4) h7
    rw [List.take_length] at h; exact h
theorem index_of {w : World} {v : Value} {zs : List ByteArray} (h : SliceOf w v zs) (x : ByteArray) :
    Calls Tryd.prog 34 #[v, .string x] w fun e w' => e = .returned (.int .i64 (Lib.idxOfS zs x)) ∧ w = w' := by
  rcases h with ⟨rfl, a, c, rfl⟩ | ⟨b, off, c, rfl, h2, h3, h4, h5, h6, h7⟩
  · exact (Tryd.slices_Index_string_empty a c x w).mono fun e w' ⟨he, hw⟩ => ⟨he, hw.symm⟩
  · have h := Tryd.slices_Index_string b off zs.length c zs x w (Nat.le_refl _) (Nat.le_trans h3 h4) h7
    rw [List.take_length] at h
    exact h.mono fun e w' ⟨he, hw⟩ => ⟨he, hw.symm⟩

theorem identLists_walk {w : World} {v : Value} {zs : List ByteArray} (h : SliceOf w v zs) (x : ByteArray) (hw : Wok w) :
    Calls Tryd.prog 6 #[v, .string x] w fun e w' => e = .returned (.bool true) ∧ Below w.heap.size w w' := by
  cases hl : isLong zs
  · go_enter Tryd.func6, Tryd.ntmps6
    go_wp2_with fail
    refine (awake_any _ hw).mono ?_
    rintro e w1 ⟨rfl, hb1⟩
    have HS1 := Lib.hid (h.below hb1)
    have HB1 := Lib.hid hb1
    have hlo := long_of (h.below hb1)
    rw [hl] at hlo
    have HLO := Lib.hid hlo
    clear hb1 hlo hl h
    go_wp2_with fail
    refine HLO.out.mono ?_
    rintro e w' ⟨rfl, rfl⟩
    go_wp2_with fail
    refine (asc_of HS1.out).mono ?_
    rintro e w' ⟨rfl, rfl⟩
    go_wp2_with fail
    refine (rasc_of HS1.out).mono ?_
    rintro e w2 ⟨rfl, hb2⟩
    have HB2 := Lib.hid hb2
    have HS2 := Lib.hid (HS1.out.below hb2)
    clear hb2
    go_wp2_with fail
    refine (find_of HS2.out x).mono ?_
    rintro e w' ⟨rfl, rfl⟩
    go_wp2_with fail
    refine (index_of HS2.out x).mono ?_
    rintro e w' ⟨rfl, rfl⟩
    go_wp2
    go_ret
    exact ⟨rfl, HB1.out.trans (HB2.out.mono HB1.out.size)⟩
  · go_enter Tryd.func6, Tryd.ntmps6
    go_wp2_with fail
    refine (awake_any _ hw).mono ?_
    rintro e w1 ⟨rfl, hb1⟩
    have hlo := long_of (h.below hb1)
    rw [hl] at hlo
    have HLO := Lib.hid hlo
    have hw1 := hw.below hb1
    have HB1 := Lib.hid hb1
    clear hb1 hlo hl h
    go_wp2_with fail
    refine HLO.out.mono ?_
    rintro e w' ⟨rfl, rfl⟩
    go_wp2_with fail
    refine (awake_any _ hw1).mono ?_
    rintro e w2 ⟨rfl, hb2⟩
    have HB2 := Lib.hid hb2
    clear hb2
    go_wp2
    go_ret
    exact ⟨rfl, HB1.out.trans (HB2.out.mono HB1.out.size)⟩
end Go.Proofs.YtmegdcjhpokakaaDoor
