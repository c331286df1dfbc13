/-
  Walks of layer 9: names of constants; the kinds of nodes.
-/
import Derived.Test.YtmjiocpcenbndaaGreatDoorQe
import Derived.Test.YtmjiocpcenbndaaGreatDoorWh
import Derived.Test.YtmjiocpcenbndaaGreatDoorGb
namespace Go.Proofs.YtmjiocpcenbndaaGreatDoor
open Go Go.RowKit
open Pl (K Con)
set_option linter.unusedSimpArgs false
namespace Pl
def noDot (b : UInt8) : Bool := !decide ((b.toNat : Int) = 46)
/-- the name of a constant -/
def cname (l : Bytes) : Bool := decide (l.length ≤ 48) && (match l.drop (l.takeWhile noDot).length with
  | [] => false
  | _ :: q => isUpper (l.takeWhile noDot) && decide ((number q).2 = 0))
theorem takeWhile_at {α : Type} (p : α → Bool) (l : List α) : ∀ (k : Nat) (hk : k < l.length), (l.take k).all p = true → p l[k] = false → l.takeWhile p = l.take k := by
  induction l with
  | nil => intro k hk; exact absurd hk (Nat.not_lt_zero _)
  | cons x r ih =>
    intro k hk ha hp
    cases k with
    | zero => simp at hp; simp [hp]
    | succ k =>
      simp only [List.take_succ_cons, List.all_cons, Bool.and_eq_true] at ha
      rw [List.takeWhile_cons, if_pos ha.1, ih k (by simpa using hk) ha.2 (by simpa using hp)]
      rfl
theorem takeWhile_none {α : Type} (p : α → Bool) (l : List α) (h : l.all p = true) : l.takeWhile p = l := by
  induction l with
  | nil => rfl
  | cons x r ih =>
    simp only [List.all_cons, Bool.and_eq_true] at h
    rw [List.takeWhile_cons, if_pos h.1, ih h.2]
theorem cname_none (l : Bytes) (h : l.all noDot = true) : cname l = false := by
  unfold cname
  rw [takeWhile_none _ _ h, List.drop_length, Bool.and_false]
theorem cname_long (l : Bytes) (h : 48 < l.length) : cname l = false := by
  unfold cname
  rw [decide_eq_false (by omega), Bool.false_and]
theorem cname_at (s : ByteArray) (k : Nat) (hk : k < s.size) (h48 : s.size ≤ 48) (ha : (s.toList.take k).all noDot = true) (hp : noDot s[k] = false) : cname s.toList = (isUpper (s.toList.take k) && decide ((number (s.toList.drop (k + 1))).2 = 0)) := by
  have hl := len_size s
  have e : s.toList.takeWhile noDot = s.toList.take k := takeWhile_at noDot s.toList k (by omega) ha (by
    have := drop_cons s k hk
    rw [List.drop_eq_getElem_cons (by omega)] at this
    injection this with this _
    rw [this]; exact hp)
  unfold cname
  rw [e, List.length_take, show min k s.toList.length = k from by omega, drop_cons s k hk, decide_eq_true (by omega), Bool.true_and]
end Pl
set_option maxRecDepth 100000 in
theorem rcname_any (s : ByteArray) (w : World) (hs : s.size ≤ maxLen) :
    Calls Tryz.prog 72 #[.string s] w fun e w' => e = .returned (.bool (Pl.cname s.toList)) ∧ w = w' := by
  unfold maxLen at hs
  by_cases h48 : 48 < s.size
  · have q1 : decide ((48 : Int) < (s.size : Int)) = true := decide_eq_true (by omega)
    have HF := Lib.hid (Pl.cname_long s.toList (by rw [Pl.len_size]; exact h48))
    go_enter Tryz.func72, Tryz.ntmps72
    go_wp2
    go_ret
    exact ⟨by rw [HF.out]; rfl, rfl⟩
  have q1 : decide ((48 : Int) < (s.size : Int)) = false := decide_eq_false (by omega)
  go_enter Tryz.func72, Tryz.ntmps72
  go_wp2
  go_loopg [3] (s.size + 1) (fun g i wr => ∃ k : Nat, k ≤ s.size ∧ i = .int .i64 k ∧ g = s.size + 1 - k ∧ (s.toList.take k).all Pl.noDot = true ∧ wr = w)
  case atStart => exact ⟨0, by omega, rfl, by omega, by simp, rfl⟩
  case round =>
    obtain ⟨k, hk, rfl, hg, hin, rfl⟩ := hrel
    have HI := Lib.hid hin
    clear hin
    by_cases hlt : k < s.size
    · have q5 : decide ((k : Int) < (s.size : Int)) = true := decide_eq_true (by omega)
      by_cases hd : (s[k].toNat : Int) = 46
      · have hd2 : decide ((s[k].toNat : Int) = 46) = true := decide_eq_true hd
        have hd3 : ((s[k].toNat : Int) == 46) = true := by simpa using hd
        have HV := Lib.hid (Pl.cname_at s k hlt (by omega) HI.out (by unfold Pl.noDot; rw [hd2]; rfl))
        have HA := Lib.hid (fun W => rnumber_any (s.extract (k + 1) s.size) W (by rw [ByteArray.size_extract]; unfold maxLen; omega))
        have HB := Lib.hid (fun W => rIsUpper_any (s.extract 0 k) W (by rw [ByteArray.size_extract]; unfold maxLen; omega))
        rw [Pl.extract_end] at HA
        rw [show (s.extract 0 k).toList = s.toList.take k from by rw [Lib.extract_toList, ← Pl.toList_eq]; simp] at HB
        generalize Pl.isUpper (s.toList.take k) = r at *
        generalize (Pl.number (s.toList.drop (k + 1))).2 = y at *
        generalize (Pl.number (s.toList.drop (k + 1))).1 = z at *
        have w1 : wrap64 ((k : Int) + 1) = (k : Int) + 1 := by rw [wrap64]; omega
        clear hd
        go_wp2_with fail
        refine (HA.out _).mono ?_
        rintro e w' ⟨rfl, rfl⟩
        go_wp2_with fail
        refine (HB.out _).mono ?_
        rintro e w' ⟨rfl, rfl⟩
        cases r
        · go_wp2
          go_ret
          exact ⟨by rw [HV.out]; rfl, rfl⟩
        · by_cases hy : y = 0
          · subst hy
            go_wp2
            go_ret
            exact ⟨by rw [HV.out]; rfl, rfl⟩
          · have q7 : (y == 0) = false := by simpa using hy
            have HY := Lib.hid (decide_eq_false hy)
            clear hy
            go_wp2
            go_ret
            exact ⟨by rw [HV.out, HY.out]; rfl, rfl⟩
      · have hd2 : decide ((s[k].toNat : Int) = 46) = false := decide_eq_false hd
        have hd3 : ((s[k].toNat : Int) == 46) = false := by simpa using hd
        have HT := Lib.hid (show (s.toList.take (k + 1)).all Pl.noDot = true from by rw [Pl.all_take _ s k hlt, HI.out]; unfold Pl.noDot; rw [hd2]; rfl)
        go_wp2
        go_roundg (gk - 1)
        case measure => omega
        case rel => exact ⟨k + 1, by omega, by go_num, by omega, HT.out, rfl⟩
    · have q5 : decide ((k : Int) < (s.size : Int)) = false := decide_eq_false (by omega)
      have HF := Lib.hid (show Pl.cname s.toList = false from Pl.cname_none _ (by have := HI.out; rwa [Pl.take_all s k (by omega)] at this))
      go_wp2
      go_ret
      exact ⟨by rw [HF.out]; rfl, rfl⟩
end Go.Proofs.YtmjiocpcenbndaaGreatDoor
