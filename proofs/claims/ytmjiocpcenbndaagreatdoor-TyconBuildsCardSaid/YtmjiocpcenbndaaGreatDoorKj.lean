/-
  Walks of layer 8: whether a text has a part at an index.
-/
import Derived.Test.YtmjiocpcenbndaaGreatDoorKi
namespace Go.Proofs.YtmjiocpcenbndaaGreatDoor
open Go Go.RowKit
open Pl (K)
set_option linter.unusedSimpArgs false

/-- a part at an index -/
def atN (l : List UInt8) (i : Nat) (p : List UInt8) : Bool := decide (i + p.length ≤ l.length) && ((l.drop i).take p.length == p)
theorem cut_toList (s : ByteArray) (i j : Nat) : (s.extract i j).toList = (s.toList.drop i).take (j - i) := by
  rw [Pl.toList_eq, Pl.toList_eq, ByteArray.data_extract, Array.toList_extract, List.extract]
theorem atN_app (a b p : List UInt8) : atN (a ++ (p ++ b)) a.length p = true := by
  unfold atN
  rw [List.drop_left, List.take_left, beq_self_eq_true, Bool.and_true]
  exact decide_eq_true (by rw [List.length_append, List.length_append]; omega)
theorem atN_iff (l : List UInt8) (i : Nat) (p : List UInt8) : atN l i p = true ↔ ∃ r, l.drop i = p ++ r ∧ i ≤ l.length := by
  unfold atN
  rw [Bool.and_eq_true, decide_eq_true_iff, beq_iff_eq]
  constructor
  · rintro ⟨h1, h2⟩
    exact ⟨(l.drop i).drop p.length, by rw [← h2, List.length_take, List.length_drop, Nat.min_eq_left (by omega)]; exact (List.take_append_drop _ _).symm, by omega⟩
  · rintro ⟨r, h1, h2⟩
    have := congrArg List.length h1
    rw [List.length_drop, List.length_append] at this
    exact ⟨by omega, by rw [h1, List.take_left]⟩
end Go.Proofs.YtmjiocpcenbndaaGreatDoor
