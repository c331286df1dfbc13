/-
  Walks of layer 1, seventh part: lists of strings that came in.
-/
import Derived.Test.YtmjiocpcenbndaaGreatDoorWf
import Derived.BigQuiet
import Derived.Deep.QuietTactic
namespace Go.Proofs.YtmjiocpcenbndaaGreatDoor
open Go.RowKit

/-- A value that is a slice of these strings: nil or empty, or somewhere in memory. -/
def SliceOf (w : World) (v : Value) (zs : List ByteArray) : Prop :=
  (zs = [] ∧ ∃ a c, v = .slice a 0 c) ∨
  ∃ b off c, v = .slice (some ⟨b, off, none⟩) zs.length c ∧ 1 ≤ zs.length ∧ zs.length ≤ c ∧ c ≤ maxLen ∧ b < w.heap.size ∧ (∀ s ∈ zs, s.size ≤ maxLen) ∧ StrsAt w b off zs
theorem SliceOf.below {w w' : World} {v : Value} {zs : List ByteArray} (h : SliceOf w v zs) (hb : Below w.heap.size w w') : SliceOf w' v zs := by
  rcases h with h | ⟨b, off, c, h1, h2, h3, h4, h5, h6, h7⟩
  · exact .inl h
  · exact .inr ⟨b, off, c, h1, h2, h3, h4, Nat.lt_of_lt_of_le h5 hb.size, h6, h7.below hb h5⟩
/-- one element of such a list, as the walk meets it -/
theorem StrsAt.cell {w : World} {b off : Nat} {zs : List ByteArray} (h : StrsAt w b off zs) (k : Nat) (hk : k < zs.length) : w.cell? ⟨b, off + k, none⟩ = some (.string (Pl.el zs k)) := h k hk
theorem el_size {zs : List ByteArray} (h : ∀ s ∈ zs, s.size ≤ maxLen) (k : Nat) (hk : k < zs.length) : (Pl.el zs k).size ≤ maxLen := by
  have e : Pl.el zs k = zs[k] := by simp [Pl.el, List.getD, hk]
  rw [e]; exact h _ (List.getElem_mem _)
def tooLong (s : ByteArray) : Bool := decide (300 < s.size)
theorem el_any (p : ByteArray → Bool) (zs : List ByteArray) (k : Nat) (hk : k < zs.length) (h : p (Pl.el zs k) = true) : zs.any p = true := by
  have e : Pl.el zs k = zs[k] := by simp [Pl.el, List.getD, hk]
  rw [e] at h
  exact List.any_eq_true.2 ⟨_, List.getElem_mem _, h⟩
theorem any_none (p : ByteArray → Bool) (zs : List ByteArray) (h : ∀ k, k < zs.length → p (Pl.el zs k) = false) : zs.any p = false := by
  rw [List.any_eq_false]
  intro s hs
  obtain ⟨k, hk, rfl⟩ := List.getElem_of_mem hs
  have e : Pl.el zs k = zs[k] := by simp [Pl.el, List.getD, hk]
  have := h k hk
  rw [e] at this; simp [this]

/-- what IndexFunc answers: -1, or a place, as there is a string that is too long -/
def Found (zs : List ByteArray) (w : World) (e : Ending) (w' : World) : Prop := ∃ r : Int, e = .returned (.int .i64 r) ∧ decide (0 ≤ r) = zs.any tooLong ∧ w = w'
def isLong (zs : List ByteArray) : Bool := decide (50 < zs.length) || zs.any tooLong
end Go.Proofs.YtmjiocpcenbndaaGreatDoor
