/-
  Walks of layer 1, sixth part: ParsePath and PathText, and the laws' own examples.
-/
import Derived.Test.YtmjiocpcenbndaaGreatDoorWe
import Derived.Test.YtmjiocpcenbndaaGreatDoorShelf
namespace Go.Proofs.YtmjiocpcenbndaaGreatDoor
open Go.RowKit

/-- What every walk is handed of the world: the library's own variable holds a number. -/
def Wok (w : World) : Prop := (∃ m, w.cell? ⟨0, 0, none⟩ = some (.int .i64 m)) ∧ 0 < w.heap.size
theorem Wok.below {w w' : World} (h : Wok w) (hb : Below w.heap.size w w') : Wok w' := by
  obtain ⟨⟨m, hm⟩, h1⟩ := h
  exact ⟨⟨m, (hb.cell (p := ⟨0, 0, none⟩) h1).trans hm⟩, Nat.lt_of_lt_of_le h1 hb.size⟩
theorem splitS_size (s : ByteArray) (hs : s.size ≤ maxLen) : ∀ z ∈ Pl.splitS s, z.size ≤ maxLen := fun z hz => Nat.le_trans (Pl.splitS_le s z hz) hs
theorem two_at (W : World) (zs : List ByteArray) : StrsAt ((W.alloc (.cells (zs.map Value.string).toArray 9)).alloc (.cells (zs.map Value.string).toArray 9)) W.heap.size 0 zs ∧ StrsAt ((W.alloc (.cells (zs.map Value.string).toArray 9)).alloc (.cells (zs.map Value.string).toArray 9)) (W.heap.size + 1) 0 zs := by
  refine ⟨(strsAt_alloc W zs 9).below (B := W.heap.size + 1) (Below.alloc (Below.refl _ _) (by simp) _) (Nat.lt_succ_self _), ?_⟩
  have h := strsAt_alloc (W.alloc (.cells (zs.map Value.string).toArray 9)) zs 9
  have e : (W.alloc (.cells (zs.map Value.string).toArray 9)).heap.size = W.heap.size + 1 := by simp
  rw [e] at h; exact h
end Go.Proofs.YtmjiocpcenbndaaGreatDoor
