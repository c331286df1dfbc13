/-
  Walks of layer 8: the reference's equality.
-/
import Derived.Test.YtmjiocpcenbndaaGreatDoorKc
import Derived.StillTailTactics
import Derived.BigQuiet
namespace Go.Proofs.YtmjiocpcenbndaaGreatDoor
open Go Go.RowKit
open Pl (K)
set_option linter.unusedSimpArgs false

/-- the parts of a kind in memory, one by one -/
theorem kids_each {w : World} {P : Nat → Prop} {a : Option Addr} {l : List K} (hka : ∀ (j : Nat) (hj : j < l.length), ∃ b off x, a = some ⟨b, off, none⟩ ∧ P b ∧ w.cell? ⟨b, off + j, none⟩ = some x ∧ KidV w P l[j] x) (h : 0 < l.length) : ∃ b off, a = some ⟨b, off, none⟩ ∧ P b ∧ ∀ (j : Nat) (hj : j < l.length), ∃ x, w.cell? ⟨b, off + j, none⟩ = some x ∧ KidV w P l[j] x := by
  obtain ⟨b, off, x0, rfl, hPb, -, -⟩ := hka 0 h
  refine ⟨b, off, rfl, hPb, fun j hj => ?_⟩
  obtain ⟨b', off', x, e, -, e2, e3⟩ := hka j hj
  injection e with e
  injection e with e e'
  subst e e'
  exact ⟨x, e2, e3⟩
theorem eqvs_step (l m : List K) (k : Nat) (hk : k < l.length) (hm : k < m.length) : K.eqvs (l.drop k) (m.drop k) = (K.eqv l[k] m[k] && K.eqvs (l.drop (k + 1)) (m.drop (k + 1))) := by
  rw [List.drop_eq_getElem_cons hk, List.drop_eq_getElem_cons hm, K.eqvs]
theorem two_new (w : World) (T : TypeId) (u v : Value) : Blk ((w.alloc (.cells #[u] T)).alloc (.cells #[v] T)) w.heap.size T #[u] ∧ Blk ((w.alloc (.cells #[u] T)).alloc (.cells #[v] T)) (w.heap.size + 1) T #[v] ∧ Below w.heap.size w ((w.alloc (.cells #[u] T)).alloc (.cells #[v] T)) := by
  have h := blk_new (w.alloc (.cells #[u] T)) #[v] T
  rw [size_alloc] at h
  exact ⟨(blk_new w #[u] T).alloc _, h, ((Below.refl _ _).alloc (Nat.le_refl _) _).alloc (by rw [size_alloc]; omega) _⟩
end Go.Proofs.YtmjiocpcenbndaaGreatDoor
