/-
  Plain mathematics of layer 1: numbers.
-/
import Derived.Test.YtmjiocpcenbndaaGreatDoorPl
namespace Go.Proofs.YtmjiocpcenbndaaGreatDoor.Pl
open Go

def digitB (b : UInt8) : Bool := digit b.toNat
/-- one digit more; a number that is too big stays at the first one past the limit -/
def step (n : Int) (b : UInt8) : Int := min 4503599627370497 (10 * n + (b.toNat - 48))
def val (l : Bytes) : Int := l.foldl step 0
def digits (l : Bytes) : Bool := l.all digitB
def zeroed (l : Bytes) : Bool := match l with
  | [] => true
  | b :: r => decide ((b.toNat : Int) = 48) && decide (1 ≤ r.length)
def number (l : Bytes) : Int × Int :=
  if zeroed l then (0, 3) else if digits l then (if 4503599627370496 < val l then (0, 6) else (val l, 0)) else (0, 3)
theorem val_snoc (l : Bytes) (b : UInt8) : val (l ++ [b]) = step (val l) b := by unfold val; rw [List.foldl_append]; rfl
theorem step_range (n : Int) (b : UInt8) (h0 : 0 ≤ n) (hb : digitB b = true) : 0 ≤ step n b ∧ step n b ≤ 4503599627370497 := by
  unfold digitB digit at hb
  simp only [Bool.and_eq_true, decide_eq_true_eq] at hb
  unfold step
  omega
theorem digit_of (b : UInt8) (hb : digitB b = true) : 48 ≤ (b.toNat : Int) ∧ (b.toNat : Int) ≤ 57 := by
  unfold digitB digit at hb
  simpa using hb
theorem val_range : ∀ (n : Nat) (l : Bytes), l.length = n → digits l = true → 0 ≤ val l ∧ val l ≤ 4503599627370497 := by
  intro n
  induction n with
  | zero => intro l h _; rw [List.eq_nil_of_length_eq_zero h]; unfold val; simp
  | succ n ih =>
    intro l h hd
    have hne : l ≠ [] := by intro e; subst e; simp at h
    rw [← List.dropLast_concat_getLast hne] at hd ⊢
    unfold digits at hd
    rw [List.all_append, Bool.and_eq_true] at hd
    rw [val_snoc]
    exact step_range _ _ (ih _ (by rw [List.length_dropLast]; omega) hd.1).1 (by simpa using hd.2)
theorem digits_snoc (s : ByteArray) (k : Nat) (h : k < s.size) (hi : digits (s.toList.take k) = true) (hp : digitB s[k] = true) : digits (s.toList.take (k + 1)) = true := by
  unfold digits at *; rw [all_take _ s k h, hi, hp]; rfl
theorem digits_false (s : ByteArray) (k : Nat) (h : k < s.size) (hp : digitB s[k] = false) : digits s.toList = false := all_false _ s k h hp
theorem val_take (s : ByteArray) (k : Nat) (h : k < s.size) : val (s.toList.take (k + 1)) = step (val (s.toList.take k)) s[k] := by
  rw [take_snoc s k h, val_snoc]
theorem val_bound (s : ByteArray) (k : Nat) (hi : digits (s.toList.take k) = true) : 0 ≤ val (s.toList.take k) ∧ val (s.toList.take k) ≤ 4503599627370497 := val_range _ _ rfl hi
theorem zeroed_pos (s : ByteArray) (h : 0 < s.size) : zeroed s.toList = (decide ((s[0].toNat : Int) = 48) && decide (1 < s.size)) := by
  have h1 : s.toList = s[0] :: s.toList.drop 1 := drop_cons s 0 h
  have h2 : (s.toList.drop 1).length = s.size - 1 := by rw [List.length_drop, len_size]
  rw [h1]
  simp only [zeroed, h2]
  congr 1
  rw [decide_eq_decide]; omega
theorem step_small (n : Int) (b : UInt8) (h : 10 * n + ((b.toNat : Int) - 48) ≤ 4503599627370496) : step n b = 10 * n + (b.toNat - 48) := by
  unfold step; omega
theorem step_big (n : Int) (b : UInt8) (h : 4503599627370496 < 10 * n + ((b.toNat : Int) - 48)) : step n b = 4503599627370497 := by
  unfold step; omega
theorem step_stays (b : UInt8) (hb : digitB b = true) : step 4503599627370497 b = 4503599627370497 := by
  have := digit_of b hb
  unfold step; omega
theorem cls_digitB (b : UInt8) : (cls b.toNat = 3) = (digitB b = true) := cls_digit _

end Go.Proofs.YtmjiocpcenbndaaGreatDoor.Pl
