/-
  Walks of layer 1, second part: key words and names.
-/
import Derived.Test.YtmjiocpcenbndaaGreatDoorWa
import Derived.Lib.SlicesS
namespace Go.Proofs.YtmjiocpcenbndaaGreatDoor
open Go.RowKit

def keyStrs : List ByteArray := Pl.keys.map fun l => ⟨l.toArray⟩
theorem mem_keyStrs (s : ByteArray) : s ∈ keyStrs ↔ Pl.isKey s.toList = true := by
  unfold keyStrs Pl.isKey
  rw [List.contains_iff_mem, List.mem_map, Pl.toList_eq]
  constructor
  · rintro ⟨l, hl, rfl⟩; simpa using hl
  · intro h; exact ⟨_, h, rfl⟩
/-- What a slice's cells hold: these strings. -/
def StrsAt (w : World) (b off : Nat) (zs : List ByteArray) : Prop := ∀ j, j < zs.length → w.cell? ⟨b, off + j, none⟩ = some (.string (zs.getD j ByteArray.empty))
theorem StrsAt.below {w w' : World} {B b off : Nat} {zs : List ByteArray} (h : StrsAt w b off zs) (hb : Below B w w') (hB : b < B) : StrsAt w' b off zs := fun j hj => by
  rw [hb.cell (p := ⟨b, off + j, none⟩) hB]; exact h j hj
theorem strsAt_alloc (w : World) (zs : List ByteArray) (t : TypeId) : StrsAt (w.alloc (.cells (zs.map Value.string).toArray t)) w.heap.size 0 zs := fun j hj => by
  rw [World.cell?_alloc_new]
  simp [List.getD, hj]
end Go.Proofs.YtmjiocpcenbndaaGreatDoor
