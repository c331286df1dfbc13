/-
  Walks of layer 8: the reference's Arity.
-/
import Derived.Test.YtmjiocpcenbndaaGreatDoorKe
namespace Go.Proofs.YtmjiocpcenbndaaGreatDoor
open Go Go.RowKit
open Pl (K)
set_option linter.unusedSimpArgs false

theorem Same.set {P : Nat → Prop} {w : World} (p : Addr) (v : Value) (h : ∀ b, P b → b ≠ p.block) : Same P w (w.setCell p v) := fun b hb => Below.heap_setCell w p v b (h b hb)
theorem blk_one {w : World} {g : Nat} {T : TypeId} {x y : Value} (h : Blk w g T #[x]) : Blk (w.setCell ⟨g, 0, none⟩ y) g T #[y] := by
  have := h.set 0 y
  simpa using this
theorem below_set {B : Nat} {a w : World} (h : Below B a w) {g : Nat} (hg : B ≤ g) (v : Value) : Below B a (w.setCell ⟨g, 0, none⟩ v) := h.setCell (p := ⟨g, 0, none⟩) hg v
theorem size_set (w : World) (p : Addr) (v : Value) : (w.setCell p v).heap.size = w.heap.size := by simp [World.setCell]
/-- blocks from B on -/
def From (B : Nat) (w : World) (b : Nat) : Prop := B ≤ b ∧ b < w.heap.size
end Go.Proofs.YtmjiocpcenbndaaGreatDoor
