/-
  Plain mathematics of layer 1: labels and their parts.
-/
import Derived.Test.YtmegdcjhpokakaaDoorPm
namespace Go.Proofs.YtmegdcjhpokakaaDoor.Pl
open Go

def rest (k : Int) (l : Bytes) : Bytes := l.drop (head k).length
def hit (k : Int) (l : Bytes) : Bool := (head k).isPrefixOf l && fits k (rest k l)
def hitN (j : Nat) (l : Bytes) : Bool := hit (j : Int) l
/-- the kind and the name of a label; 0 if it is none -/
def parts (l : Bytes) : Int × Bytes :=
  match [1, 2, 3, 4, 5].find? (fun j : Nat => hitN j l) with
  | some j => ((j : Int), rest (j : Int) l)
  | none => (0, [])
theorem parts_hit (l : Bytes) (k : Nat) (h1 : 1 ≤ k) (h5 : k ≤ 5) (h : hitN k l = true) (hno : ∀ j, 1 ≤ j → j < k → hitN j l = false) : parts l = ((k : Int), rest (k : Int) l) := by
  have e : [1, 2, 3, 4, 5].find? (fun j : Nat => hitN j l) = some k := by
    have hk : k = 1 ∨ k = 2 ∨ k = 3 ∨ k = 4 ∨ k = 5 := by omega
    rcases hk with rfl | rfl | rfl | rfl | rfl
    · simp [h]
    · simp [h, hno 1 (by omega) (by omega)]
    · simp [h, hno 1 (by omega) (by omega), hno 2 (by omega) (by omega)]
    · simp [h, hno 1 (by omega) (by omega), hno 2 (by omega) (by omega), hno 3 (by omega) (by omega)]
    · simp [h, hno 1 (by omega) (by omega), hno 2 (by omega) (by omega), hno 3 (by omega) (by omega), hno 4 (by omega) (by omega)]
  unfold parts
  rw [e]
theorem parts_none (l : Bytes) (hno : ∀ j, 1 ≤ j → j < 6 → hitN j l = false) : parts l = (0, []) := by
  have e : [1, 2, 3, 4, 5].find? (fun j : Nat => hitN j l) = none := by
    simp [hno 1 (by omega) (by omega), hno 2 (by omega) (by omega), hno 3 (by omega) (by omega), hno 4 (by omega) (by omega), hno 5 (by omega) (by omega)]
  unfold parts
  rw [e]
theorem fits_nil (k : Int) : fits k [] = false := by unfold fits; split <;> rfl
/-- a hit, as the reference asks for it -/
theorem hit_ref (k : Int) (s z : ByteArray) (hz : z = mk (head k)) : hit k s.toList = (decide (z.size < s.size) && ((s.extract 0 z.size).toList == z.toList) && fits k (s.extract z.size s.size).toList) := by
  subst hz
  unfold hit rest
  rw [mk_size, extract_end, mk_toList, Lib.extract_toList, List.drop_zero, Nat.sub_zero, ← toList_eq]
  by_cases hl : (head k).length < s.size
  · rw [decide_eq_true hl, Bool.true_and]
    congr 1
    rw [Bool.eq_iff_iff, List.isPrefixOf_iff_prefix, beq_iff_eq]
    constructor
    · intro h; exact (List.prefix_iff_eq_take.1 h).symm
    · intro h; exact List.prefix_iff_eq_take.2 h.symm
  · rw [decide_eq_false hl, Bool.false_and, Bool.false_and]
    have : s.toList.drop (head k).length = [] := List.drop_eq_nil_of_le (by rw [len_size]; omega)
    rw [this, fits_nil, Bool.and_false]
theorem rest_ref (k : Int) (s z : ByteArray) (hz : z = mk (head k)) : s.extract z.size s.size = mk (rest k s.toList) := by
  rw [← mk_of (s.extract z.size s.size), extract_end]
  subst hz
  rw [mk_size]; rfl
def headStrs : List ByteArray := [0, 1, 2, 3, 4, 5].map fun k : Int => mk (head k)
theorem headStrs_el (k : Nat) (h : k ≤ 5) : el headStrs k = mk (head (k : Int)) := by
  have hk : k = 0 ∨ k = 1 ∨ k = 2 ∨ k = 3 ∨ k = 4 ∨ k = 5 := by omega
  rcases hk with rfl | rfl | rfl | rfl | rfl | rfl <;> rfl
theorem head_le (k : Int) : (head k).length ≤ 5 := by
  unfold head; repeat' split
  all_goals decide
theorem rest_le (k : Int) (s : ByteArray) : (mk (rest k s.toList)).size ≤ s.size := by
  rw [mk_size]; unfold rest; rw [List.length_drop, len_size]; omega

end Go.Proofs.YtmegdcjhpokakaaDoor.Pl
