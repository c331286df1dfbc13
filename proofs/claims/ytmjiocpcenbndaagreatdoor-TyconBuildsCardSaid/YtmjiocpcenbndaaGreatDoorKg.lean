/-
  Walks of layer 8: the reference's Arrow.
-/
import Derived.Test.YtmjiocpcenbndaaGreatDoorKf
namespace Go.Proofs.YtmjiocpcenbndaaGreatDoor
open Go Go.RowKit
open Pl (K)
set_option linter.unusedSimpArgs false

theorem KidV.form {w : World} {P : Nat → Prop} {t : K} {x : Value} (h : KidV w P t x) : ∃ a c, x = .slice a t.l.length c := by
  obtain ⟨l⟩ := t
  obtain ⟨a, c, h, -⟩ := (kidV_iff _ _ _ _).1 h
  exact ⟨a, c, h⟩
namespace Pl.K
/-- a part of what is valid is valid -/
theorem valid_tail {a b : K} (h : valid (.mk [a, b]) = true) : valid b = true := by
  rw [valid_iff] at h ⊢
  obtain ⟨h1, h2, h3⟩ := h
  rw [ok, oks, oks, oks] at h1
  rw [size, sizes, sizes, sizes] at h2
  rw [depth, depths, depths, depths] at h3
  refine ⟨?_, by omega, by omega⟩
  simp only [Bool.and_eq_true] at h1
  exact h1.2.2.1
theorem arrow_cons (a : K) (l : List K) (to : K) : arrow (a :: l) to = .mk [a, arrow l to] := rfl
theorem valid_drop (l : List K) (to : K) (h : valid (arrow l to) = true) : ∀ i, valid (arrow (l.drop i) to) = true := by
  induction l with
  | nil => intro i; rw [List.drop_nil]; exact h
  | cons a r ih =>
    intro i
    cases i with
    | zero => exact h
    | succ i => exact ih (valid_tail h) i
theorem depth_arrow (l : List K) (to : K) : l.length + 1 ≤ depth (arrow l to) := by
  induction l with
  | nil => exact depth_pos to
  | cons a r ih =>
    rw [arrow_cons, depth, depths, depths, depths, List.length_cons]
    omega
theorem long_bad (l : List K) (to : K) (h : 400 < l.length) : valid (arrow l to) = false := by
  cases hv : valid (arrow l to)
  · rfl
  · exfalso
    have h3 := ((valid_iff _).1 hv).2.2
    have := depth_arrow l to
    omega
/-- what Arrow answers -/
def arrowOut (l : List K) (to : K) : K × Int := if (l.all valid && valid to) = true then (if valid (arrow l to) = true then (arrow l to, 0) else (.mk [], 5)) else (.mk [], 1)
end Pl.K
end Go.Proofs.YtmjiocpcenbndaaGreatDoor
