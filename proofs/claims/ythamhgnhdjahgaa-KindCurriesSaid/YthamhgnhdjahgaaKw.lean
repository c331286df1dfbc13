/-
  Layer 8, plain: a kind is its parameters (for KindCurries).
-/
import Derived.Test.YthamhgnhdjahgaaKu
namespace Go.Proofs.Ythamhgnhdjahgaa
open Pl (K)
namespace Pl.K

theorem parts_arrow (l : List K) (t : K) : parts (arrow l t) = l ++ parts t := by
  induction l with
  | nil => rfl
  | cons a r ih => rw [arrow_cons, parts_two, ih]; rfl
/-- a kind's own parameters make it -/
theorem arrowOut_parts (t : K) (h : valid t = true) : arrowOut (parts t) (.mk []) = (t, 0) := by
  have ha : (parts t).all valid = true := List.all_eq_true.2 (parts_valid _ t (Nat.le_refl _) h)
  have hs : valid (.mk []) = true := by decide +kernel
  have he : arrow (parts t) (.mk []) = t := arrow_parts t ((valid_iff t).1 h).1
  unfold arrowOut
  rw [ha, hs, he]
  show (if valid t = true then (t, (0 : Int)) else (.mk [], 5)) = _
  rw [if_pos h]
/-- what is left after i applications -/
def left (t : K) (i : Nat) : K := arrow ((parts t).drop i) (.mk [])
theorem left_zero (t : K) (h : valid t = true) : left t 0 = t := arrow_parts t ((valid_iff t).1 h).1
theorem left_end (t : K) : left t (parts t).length = .mk [] := by
  unfold left
  rw [List.drop_of_length_le (Nat.le_refl _)]
  rfl
theorem left_valid (t : K) (h : valid t = true) (i : Nat) : valid (left t i) = true := valid_drop _ _ (by rw [arrow_parts t ((valid_iff t).1 h).1]; exact h) i
theorem left_step (t : K) (h : valid t = true) (i : Nat) (hi : i < (parts t).length) : applyOut (left t i) (parts t)[i] = (left t (i + 1), 0) := by
  have e : left t i = .mk [(parts t)[i], left t (i + 1)] := by
    unfold left
    rw [List.drop_eq_getElem_cons hi, arrow_cons]
  have h1 := left_valid t h i
  have h2 := parts_valid _ t (Nat.le_refl _) h (parts t)[i] (List.getElem_mem hi)
  unfold applyOut
  rw [h1, h2, e]
  show (if (parts t)[i] = (parts t)[i] then (left t (i + 1), (0 : Int)) else (.mk [], 11)) = _
  rw [if_pos rfl]
theorem apply_star : applyOut (.mk []) (.mk []) = (.mk [], 11) := by decide +kernel
/-- an arrow with further parameters: it, or too much -/
theorem arrowOut_more (l : List K) (t : K) (hl : l.all valid = true) (h : valid t = true) : (arrowOut l t = (arrow l t, 0) ∧ valid (arrow l t) = true) ∨ arrowOut l t = (.mk [], 5) := by
  unfold arrowOut
  rw [hl, h]
  show ((if valid (arrow l t) = true then (arrow l t, (0 : Int)) else (.mk [], 5)) = _ ∧ _) ∨ (if valid (arrow l t) = true then (arrow l t, (0 : Int)) else (.mk [], 5)) = _
  by_cases hv : valid (arrow l t) = true
  · exact .inl ⟨if_pos hv, hv⟩
  · exact .inr (if_neg hv)
end Pl.K
end Go.Proofs.Ythamhgnhdjahgaa
