/-
  Walks of layer 1, ninth part: labels and their parts, of the program and of the reference.
-/
import Derived.Test.YtmegdcjhpokakaaDoorWh
import Derived.Test.YtmegdcjhpokakaaDoorPq
import Derived.StillTailTactics
namespace Go.Proofs.YtmegdcjhpokakaaDoor
open Go.RowKit

theorem cut_any (s : ByteArray) (p : Pl.Bytes) (w : World) :
    Calls Tryd.prog 46 #[.string s, .string (Pl.mk p)] w fun e w' => e = .returned (.tuple #[.string (if p.isPrefixOf s.toList then Pl.mk (s.toList.drop p.length) else s), .bool (p.isPrefixOf s.toList)]) ∧ w = w' := by
  refine (Tryd.strings_CutPrefix s (Pl.mk p) w).mono ?_
  rintro e w' ⟨rfl, rfl⟩
  refine ⟨?_, rfl⟩
  have hp : (Pl.mk p).data.toList = p := by rw [← Pl.toList_eq, Pl.mk_toList]
  rw [hp, ← Pl.toList_eq]
  unfold Lib.trimPrefix Lib.hasPrefix
  cases h : p.isPrefixOf s.toList
  · have e : (⟨s.toList.toArray⟩ : ByteArray) = s := Pl.mk_of s
    simp only [Bool.false_eq_true, if_false, e]
  · rfl
def splitCode (k : Int) : Int := if k = 0 then 3 else 0
theorem split_end (s : ByteArray) (k : Nat) (r : Pl.Bytes) (h1 : 1 ≤ k) (h : Pl.parts s.toList = ((k : Int), r)) :
    Ending.returned (.tuple #[.int .i64 (k : Int), .string (Pl.mk r), .int .i64 0]) = Ending.returned (.tuple #[.int .i64 (Pl.parts s.toList).1, .string (Pl.mk (Pl.parts s.toList).2), .int .i64 (splitCode (Pl.parts s.toList).1)]) := by
  rw [h]
  have : ¬ ((k : Int) = 0) := by omega
  simp only [splitCode, this, if_false]
set_option maxHeartbeats 1000000 in
theorem split_any (s : ByteArray) (w : World) (hs : s.size ≤ maxLen) :
    Calls Tryd.prog 20 #[.string s] w fun e w' => e = .returned (.tuple #[.int .i64 (Pl.parts s.toList).1, .string (Pl.mk (Pl.parts s.toList).2), .int .i64 (splitCode (Pl.parts s.toList).1)]) ∧ w = w' := by
  have hs' := hs
  unfold maxLen at hs
  go_enter Tryd.func20, Tryd.ntmps20
  go_wp2
  go_loop [5] (fun i => ∃ k : Nat, 1 ≤ k ∧ k ≤ 6 ∧ i = .int .i64 k ∧ ∀ j, 1 ≤ j → j < k → Pl.hitN j s.toList = false) (fun i => 6 - (intOf i).toNat)
  case atStart => exact ⟨1, by omega, by omega, rfl, fun j h1 h2 => absurd h2 (by omega)⟩
  case round =>
    obtain ⟨k, hk1, hk, rfl, hin⟩ := hrel
    have HI := Lib.hid hin
    clear hin
    by_cases hlt : k ≤ 5
    · have hyes := fun h => Pl.parts_hit s.toList k hk1 hlt h HI.out
      have hno : Pl.hitN k s.toList = false → ∀ j, 1 ≤ j → j < k + 1 → Pl.hitN j s.toList = false := fun hq j h1 hj => by
        rcases Nat.lt_succ_iff_lt_or_eq.1 hj with h | h
        · exact HI.out j h1 h
        · subst h; exact hq
      have hcut := cut_any s (Pl.head k) w
      have hle : (Pl.mk (Pl.rest k s.toList)).size ≤ maxLen := Nat.le_trans (Pl.rest_le k s) hs'
      have hfit := isNameOf_any k (Pl.mk (Pl.rest k s.toList)) w hle
      rw [Pl.mk_toList] at hfit
      have hhit : Pl.hitN k s.toList = ((Pl.head k).isPrefixOf s.toList && Pl.fits k (Pl.rest k s.toList)) := rfl
      have HY := Lib.hid hyes
      have HNO := Lib.hid hno
      have HH := Lib.hid hhit
      clear hyes hno hhit
      cases hp : (Pl.head k).isPrefixOf s.toList
      · rw [hp] at hcut HH
        have HC := Lib.hid hcut
        clear hcut hfit hp hle
        go_wp2_with (first | (go_at_call 50; refine (labelPrefix_any _ _).mono ?_; rintro e w' ⟨rfl, rfl⟩) | (go_at_call 46; refine HC.out.mono ?_; rintro e w' ⟨rfl, rfl⟩))
        go_round
        case rel => exact ⟨k + 1, by omega, by omega, by go_num, HNO.out (by rw [HH.out]; rfl)⟩
        case measure => simp [intOf]; omega
      · rw [hp] at hcut HH
        rw [if_pos rfl] at hcut
        have HC := Lib.hid hcut
        cases hf : Pl.fits k (Pl.rest k s.toList)
        · rw [hf] at hfit HH
          have HF := Lib.hid hfit
          clear hcut hfit hp hf hle
          go_wp2_with (first | (go_at_call 50; refine (labelPrefix_any _ _).mono ?_; rintro e w' ⟨rfl, rfl⟩) | (go_at_call 46; refine HC.out.mono ?_; rintro e w' ⟨rfl, rfl⟩) | (go_at_call 51; refine HF.out.mono ?_; rintro e w' ⟨rfl, rfl⟩))
          go_round
          case rel => exact ⟨k + 1, by omega, by omega, by go_num, HNO.out (by rw [HH.out]; rfl)⟩
          case measure => simp [intOf]; omega
        · rw [hf] at hfit HH
          have HF := Lib.hid hfit
          clear hcut hfit hp hf hle
          go_wp2_with (first | (go_at_call 50; refine (labelPrefix_any _ _).mono ?_; rintro e w' ⟨rfl, rfl⟩) | (go_at_call 46; refine HC.out.mono ?_; rintro e w' ⟨rfl, rfl⟩) | (go_at_call 51; refine HF.out.mono ?_; rintro e w' ⟨rfl, rfl⟩))
          go_ret3
          exact ⟨split_end s k _ hk1 (HY.out (HH.out.trans rfl)), rfl⟩
    · have hn := Pl.parts_none s.toList (fun j h1 h6 => HI.out j h1 (by omega))
      have HN := Lib.hid hn
      clear hn
      go_wp2
      go_ret3
      exact ⟨by rw [HN.out]; rfl, rfl⟩

theorem heads_any (w : World) :
    Calls Tryd.prog 52 #[] w fun e w' => e = .returned (.slice (some ⟨w.heap.size, 0, none⟩) 6 6) ∧ w.alloc (.cells (Pl.headStrs.map Value.string).toArray 9) = w' := by
  go_enter Tryd.func52, Tryd.ntmps52
  go_wp2
  go_ret
  exact ⟨rfl, rfl⟩
theorem rFits_any (k : Int) (s : ByteArray) (w : World) (hs : s.size ≤ maxLen) :
    Calls Tryd.prog 21 #[.int .i64 k, .string s] w fun e w' => e = .returned (.bool (Pl.fits k s.toList)) ∧ Below w.heap.size w w' := by
  by_cases h1 : k = 1
  · subst h1
    go_enter Tryd.func21, Tryd.ntmps21
    go_wp2_with (first | (go_at_call 12; refine (rIsLower_any _ _ hs).mono ?_; rintro e w1 ⟨rfl, hb⟩; have HB := Lib.hid hb; clear hb) | (go_at_call 14; refine (rIsUpper_any _ _ hs).mono ?_; rintro e w' ⟨rfl, rfl⟩))
    go_ret
    exact ⟨rfl, HB.out⟩
  by_cases h2 : k = 2
  · subst h2
    go_enter Tryd.func21, Tryd.ntmps21
    go_wp2_with (first | (go_at_call 12; refine (rIsLower_any _ _ hs).mono ?_; rintro e w1 ⟨rfl, hb⟩; have HB := Lib.hid hb; clear hb) | (go_at_call 14; refine (rIsUpper_any _ _ hs).mono ?_; rintro e w' ⟨rfl, rfl⟩))
    go_ret
    exact ⟨rfl, HB.out⟩
  have HL := Lib.hid (show Pl.fits k s.toList = Pl.isUpper s.toList from by unfold Pl.fits; rw [if_neg (by omega)])
  have t1 : (k == 1) = false := by simpa using h1
  have t2 : (k == 2) = false := by simpa using h2
  go_enter Tryd.func21, Tryd.ntmps21
  go_wp2_with (first | (go_at_call 14; refine (rIsUpper_any _ _ hs).mono ?_; rintro e w' ⟨rfl, rfl⟩))
  go_ret
  exact ⟨ret_bool HL.out.symm, Below.refl _ _⟩
theorem rLabel_any (k : Nat) (s : ByteArray) (w : World) (hk : k ≤ 5) (hs : s.size ≤ 1000) :
    Calls Tryd.prog 22 #[.int .i64 k, .string s] w fun e w' => e = .returned (.string (Pl.mk (Pl.head k ++ s.toList))) ∧ Below w.heap.size w w' := by
  have hat := (strsAt_alloc w Pl.headStrs 9).cell k (by show k < 6; omega)
  rw [Pl.headStrs_el k hk] at hat
  have hsz : (Pl.mk (Pl.head k)).size + s.size ≤ 9223372036854775807 := by
    have := Pl.head_le k
    rw [Pl.mk_size]; omega
  have HA := Lib.hid (Pl.add_mk (Pl.head k) s)
  generalize Pl.mk (Pl.head (k : Int)) = z at hat hsz HA
  rw [Nat.zero_add] at hat
  have HAT := Lib.hid hat
  clear hat
  go_enter Tryd.func22, Tryd.ntmps22
  go_wp2_with fail
  refine (heads_any w).mono ?_
  rintro e w1 ⟨rfl, hw1⟩
  have hat : w1.cell? ⟨w.heap.size, k, none⟩ = some (.string z) := by rw [← hw1]; exact HAT.out
  have HB := Lib.hid (show Below w.heap.size w w1 from by rw [← hw1]; exact (Below.refl _ _).alloc (Nat.le_refl _) _)
  clear hw1 HAT
  go_wp2
  go_ret
  exact ⟨by rw [HA.out]; rfl, HB.out⟩
theorem rsplit_end (s x : ByteArray) (k : Nat) (h : Pl.parts s.toList = ((k : Int), Pl.rest (k : Int) s.toList)) (hx : x = Pl.mk (Pl.rest (k : Int) s.toList)) :
    Ending.returned (.tuple #[.int .i64 (k : Int), .string x]) = Ending.returned (.tuple #[.int .i64 (Pl.parts s.toList).1, .string (Pl.mk (Pl.parts s.toList).2)]) := by
  rw [h, hx]
set_option maxHeartbeats 1000000 in
theorem rSplit_any (s : ByteArray) (w : World) (hs : s.size ≤ maxLen) :
    Calls Tryd.prog 23 #[.string s] w fun e w' => e = .returned (.tuple #[.int .i64 (Pl.parts s.toList).1, .string (Pl.mk (Pl.parts s.toList).2)]) ∧ Below w.heap.size w w' := by
  have hs' := hs
  unfold maxLen at hs
  go_enter Tryd.func23, Tryd.ntmps23
  go_wp2_with fail
  refine (heads_any w).mono ?_
  rintro e w1 ⟨rfl, hw1⟩
  have hat := (strsAt_alloc w Pl.headStrs 9).cell
  rw [hw1] at hat
  have HAT := Lib.hid hat
  have hb1 : w.heap.size < w1.heap.size := by rw [← hw1]; simp
  have HB1 := Lib.hid (show Below w.heap.size w w1 from by rw [← hw1]; exact (Below.refl _ _).alloc (Nat.le_refl _) _)
  clear hw1 hat
  go_wp2
  go_loopw [5] (fun i wr => (∃ k : Nat, 1 ≤ k ∧ k ≤ 6 ∧ i = .int .i64 k ∧ ∀ j, 1 ≤ j → j < k → Pl.hitN j s.toList = false) ∧ Below w1.heap.size w1 wr) (fun i _ => 6 - (intOf i).toNat)
  case atStart => exact ⟨⟨1, by omega, by omega, rfl, fun j h1 h2 => absurd h2 (by omega)⟩, Below.refl _ _⟩
  case round =>
    obtain ⟨⟨k, hk1, hk, rfl, hin⟩, hbr⟩ := hrel
    have HI := Lib.hid hin
    have HBR := Lib.hid hbr
    clear hin hbr
    by_cases hlt : k ≤ 5
    · have hyes := fun h => Pl.parts_hit s.toList k hk1 hlt h HI.out
      have hno : Pl.hitN k s.toList = false → ∀ j, 1 ≤ j → j < k + 1 → Pl.hitN j s.toList = false := fun hq j h1 hj => by
        rcases Nat.lt_succ_iff_lt_or_eq.1 hj with h | h
        · exact HI.out j h1 h
        · subst h; exact hq
      have hcell : wr.cell? ⟨w.heap.size, k, none⟩ = some (.string (Pl.mk (Pl.head (k : Int)))) := by
        have h := HAT.out k (by show k < 6; omega)
        rw [Pl.headStrs_el k hlt, Nat.zero_add] at h
        rw [HBR.out.cell (p := ⟨w.heap.size, k, none⟩) hb1]; exact h
      have hhit := Pl.hit_ref (k : Int) s _ rfl
      have hrest := Pl.rest_ref (k : Int) s _ rfl
      have hzs : (Pl.mk (Pl.head (k : Int))).size ≤ 5 := by rw [Pl.mk_size]; exact Pl.head_le _
      generalize Pl.mk (Pl.head (k : Int)) = z at hcell hhit hrest hzs
      have hH : Pl.hitN k s.toList = (decide (z.size < s.size) && ((s.extract 0 z.size).toList == z.toList) && Pl.fits (k : Int) (s.extract z.size s.size).toList) := hhit
      have HY := Lib.hid hyes
      have HNO := Lib.hid hno
      have HH := Lib.hid hH
      have HR := Lib.hid hrest
      clear hyes hno hH hrest hhit
      by_cases hl : z.size < s.size
      · have hl2 : decide ((z.size : Int) < (s.size : Int)) = true := by simp; omega
        have hl3 : z.size ≤ s.size := by omega
        cases hp : ((s.extract 0 z.size).toList == z.toList)
        · have HP := Lib.hid hp
          go_wp2
          go_quiet (fail)
          go_wp2
          exact ⟨⟨⟨k + 1, by omega, by omega, by go_num, HNO.out (by rw [HH.out, HP.out, Bool.and_false, Bool.false_and])⟩, below_drewN HBR.out _⟩, by simp [intOf]; omega⟩
        · have HP := Lib.hid hp
          have hle : (s.extract z.size s.size).size ≤ maxLen := by rw [ByteArray.size_extract]; unfold maxLen; omega
          have hfit := fun wx => rFits_any (k : Int) (s.extract z.size s.size) wx hle
          have HF := Lib.hid hfit
          clear hfit hle
          go_wp2
          refine wp_region_still_tail 19 (by kernel_rfl) (by kernel_rfl) ?_
          have hcd : wr.drew.cell? ⟨w.heap.size, k, none⟩ = some (.string z) := hcell
          have HBD := Lib.hid HBR.out.drew
          change wpStill _ _ wr.drew (fun a' => wpList _ _ _ _ a' wr.drew) _ _
          generalize wr.drew = wd at hcd HBD ⊢
          simp only [List.take_succ_cons, List.take_zero, List.drop_succ_cons, List.drop_zero]
          repeat still_step
          refine wpStill_nil ?_
          go_wp2_with (go_at_call 21; refine (HF.out _).mono ?_; rintro e w2 ⟨rfl, hb2⟩; have HB2 := Lib.hid hb2; clear hb2)
          · have hf : Pl.fits (k : Int) (s.extract z.size s.size).toList = true := by assumption
            have HF2 := Lib.hid hf
            go_quiet (fail)
            go_wp2
            go_ret2
            exact ⟨rsplit_end s _ k (HY.out (by rw [HH.out, HF2.out, HP.out, decide_eq_true hl]; rfl)) HR.out, below_drewN (HB1.out.trans ((HBD.out.trans (HB2.out.mono HBD.out.size)).mono HB1.out.size)) _⟩
          · have hf : Pl.fits (k : Int) (s.extract z.size s.size).toList = false := by assumption
            have HF2 := Lib.hid hf
            exact ⟨⟨⟨k + 1, by omega, by omega, by go_num, HNO.out (by rw [HH.out, HF2.out, Bool.and_false])⟩, HBD.out.trans (HB2.out.mono HBD.out.size)⟩, by simp [intOf]; omega⟩
      · have hl2 : decide ((z.size : Int) < (s.size : Int)) = false := by simp; omega
        go_wp2
        go_quiet (fail)
        go_wp2
        exact ⟨⟨⟨k + 1, by omega, by omega, by go_num, HNO.out (by rw [HH.out, decide_eq_false hl, Bool.false_and, Bool.false_and])⟩, below_drewN HBR.out _⟩, by simp [intOf]; omega⟩
    · have hn := Pl.parts_none s.toList (fun j h1 h6 => HI.out j h1 (by omega))
      have HN := Lib.hid hn
      clear hn
      go_wp2
      go_ret2
      exact ⟨by rw [HN.out]; rfl, HB1.out.trans (HBR.out.mono HB1.out.size)⟩
end Go.Proofs.YtmegdcjhpokakaaDoor
