/-
  Layer 8, plain: texts and kinds belong to each other.
-/
import Derived.Test.YthamhgnhdjahgaaKo
namespace Go.Proofs.Ythamhgnhdjahgaa
open Go
open Pl (K)
set_option linter.unusedSimpArgs false

theorem atN_at (a p r : List UInt8) : atN (a ++ (p ++ r)) a.length p = true := atN_app a r p
theorem atN_not (a r p : List UInt8) (h : ¬ ∃ s, r = p ++ s) : atN (a ++ r) a.length p = false := by
  cases hq : atN (a ++ r) a.length p
  · rfl
  · obtain ⟨s, h1, -⟩ := (atN_iff _ _ _).1 hq
    rw [List.drop_left] at h1
    exact absurd ⟨s, h1⟩ h
/-- no arrow follows -/
def Stops (r : List UInt8) : Prop := ¬ ∃ s, r = [32, 45, 62, 32] ++ s
theorem stops_nil : Stops [] := fun ⟨s, h⟩ => by cases h
theorem stops_par (r : List UInt8) : Stops (41 :: r) := fun ⟨s, h⟩ => by
  injection h with h
  exact absurd h (by decide)
theorem prs_succ (l : List UInt8) (d i : Nat) : prs l (d + 1) i = if atN l i [42] = true then tailW (prs l d) l (.mk []) (i + 1)
    else if atN l i [40] = true then (prs l d (i + 1)).bind fun p => if p.1.l.length = 0 then none else if atN l p.2 [41] = true then tailW (prs l d) l p.1 (p.2 + 1) else none
    else none := by rw [prs]
theorem tail_stop {f : Nat → Option (K × Nat)} {a r : List UInt8} {k : K} (h : Stops r) : tailW f (a ++ r) k a.length = some (k, a.length) := by
  unfold tailW
  rw [atN_not _ _ _ h]
  rfl
theorem tail_go {f : Nat → Option (K × Nat)} {a r : List UInt8} {k u : K} {e : Nat} (h : f (a.length + 4) = some (u, e)) : tailW f (a ++ ([32, 45, 62, 32] ++ r)) k a.length = some (.mk [k, u], e) := by
  unfold tailW
  rw [atN_at, if_pos rfl, h]
  rfl
set_option maxRecDepth 10000 in
/-- the text of a kind is read as this kind -/
theorem prs_text (t : K) : K.ok t = true → ∀ (d : Nat), K.depth t ≤ d → ∀ (a r : List UInt8), Stops r → prs (a ++ (K.text t ++ r)) d a.length = some (t, a.length + (K.text t).length) := by
  induction t using K.ind with
  | h t ih =>
    intro hok d hd a r hr
    obtain ⟨d, rfl⟩ : ∃ k, d = k + 1 := ⟨d - 1, by have := K.depth_pos t; omega⟩
    rcases K.ok_cases hok with rfl | ⟨x, y, rfl⟩
    · rw [K.text_star, prs_succ, atN_at, if_pos rfl]
      have h := tail_stop (f := prs (a ++ ([42] ++ r)) d) (a := a ++ [42]) (r := r) (k := .mk []) hr
      rw [List.append_assoc, List.length_append] at h
      exact h
    · have h2 := K.ok_two hok
      have hdx : K.depth x ≤ d ∧ K.depth y ≤ d := by
        rw [K.depth, K.depths, K.depths, K.depths] at hd; omega
      rw [K.text_two]
      by_cases hx : x.l.length = 0
      · rw [if_pos hx]
        obtain rfl : x = .mk [] := by
          obtain ⟨l⟩ := x
          rw [List.eq_nil_of_length_eq_zero (show l.length = 0 from hx)]
        rw [K.text_star]
        have hy := ih y (by simp [K.l]) h2.2 d hdx.2 (a ++ [42] ++ [32, 45, 62, 32]) r hr
        have e : a ++ [42] ++ [32, 45, 62, 32] ++ (K.text y ++ r) = a ++ ([42] ++ ([32, 45, 62, 32] ++ K.text y) ++ r) := by simp [List.append_assoc]
        rw [e] at hy
        have el : (a ++ [42] ++ [32, 45, 62, 32]).length = (a ++ [42]).length + 4 := by rw [List.length_append]; rfl
        rw [el] at hy
        have ht := tail_go (f := prs (a ++ ([42] ++ ([32, 45, 62, 32] ++ K.text y) ++ r)) d) (a := a ++ [42]) (r := K.text y ++ r) (k := .mk []) hy
        have e2 : a ++ [42] ++ ([32, 45, 62, 32] ++ (K.text y ++ r)) = a ++ ([42] ++ ([32, 45, 62, 32] ++ K.text y) ++ r) := by simp [List.append_assoc]
        rw [e2] at ht
        rw [prs_succ, show a ++ ([42] ++ ([32, 45, 62, 32] ++ K.text y) ++ r) = a ++ ([42] ++ ([32, 45, 62, 32] ++ K.text y ++ r)) from by rw [List.append_assoc [42]], atN_at, if_pos rfl]
        rw [show a ++ ([42] ++ ([32, 45, 62, 32] ++ K.text y) ++ r) = a ++ ([42] ++ ([32, 45, 62, 32] ++ K.text y ++ r)) from by rw [List.append_assoc [42]], List.length_append] at ht
        refine (show _ = _ from ht).trans ?_
        congr 2
        simp [List.length_append]
        omega
      · rw [if_neg hx]
        have hxx := ih x (by simp [K.l]) h2.1 d hdx.1 (a ++ [40]) (41 :: ([32, 45, 62, 32] ++ K.text y ++ r)) (stops_par _)
        have hy := ih y (by simp [K.l]) h2.2 d hdx.2 (a ++ [40] ++ K.text x ++ [41] ++ [32, 45, 62, 32]) r hr
        have e0 : a ++ (40 :: (K.text x ++ [41]) ++ ([32, 45, 62, 32] ++ K.text y) ++ r) = a ++ [40] ++ (K.text x ++ 41 :: ([32, 45, 62, 32] ++ K.text y ++ r)) := by simp [List.append_assoc]
        have e1 : a ++ [40] ++ K.text x ++ [41] ++ [32, 45, 62, 32] ++ (K.text y ++ r) = a ++ [40] ++ (K.text x ++ 41 :: ([32, 45, 62, 32] ++ K.text y ++ r)) := by simp [List.append_assoc]
        rw [e1] at hy
        rw [e0]
        generalize hL : a ++ [40] ++ (K.text x ++ 41 :: ([32, 45, 62, 32] ++ K.text y ++ r)) = L at *
        have a1 : atN L a.length [42] = false := by
          rw [← hL, List.append_assoc]
          exact atN_not _ _ _ (fun ⟨s, h⟩ => by injection h with h; exact absurd h (by decide))
        have a2 : atN L a.length [40] = true := by
          rw [← hL, List.append_assoc]
          exact atN_at _ _ _
        have a3 : atN L ((a ++ [40]).length + (K.text x).length) [41] = true := by
          have : L = a ++ [40] ++ K.text x ++ ([41] ++ ([32, 45, 62, 32] ++ K.text y ++ r)) := by rw [← hL]; simp [List.append_assoc]
          rw [this, ← List.length_append]
          exact atN_at _ _ _
        have el : (a ++ [40] ++ K.text x ++ [41] ++ [32, 45, 62, 32]).length = (a ++ [40] ++ K.text x ++ [41]).length + 4 := by rw [List.length_append]; rfl
        rw [el] at hy
        have ht := tail_go (f := prs L d) (a := a ++ [40] ++ K.text x ++ [41]) (r := K.text y ++ r) (k := x) hy
        have e2 : a ++ [40] ++ K.text x ++ [41] ++ ([32, 45, 62, 32] ++ (K.text y ++ r)) = L := by rw [← hL]; simp [List.append_assoc]
        rw [e2] at ht
        have el2 : (a ++ [40] ++ K.text x ++ [41]).length = (a ++ [40]).length + (K.text x).length + 1 := by rw [List.length_append, List.length_append]; rfl
        rw [el2] at ht
        rw [prs_succ, a1, if_neg (by decide), a2, if_pos rfl]
        rw [List.length_append] at hxx
        have hxx : prs L d (a.length + 1) = some (x, a.length + 1 + (K.text x).length) := hxx
        rw [List.length_append] at a3 ht
        have a3 : atN L (a.length + 1 + (K.text x).length) [41] = true := a3
        rw [hxx]
        show (if x.l.length = 0 then none else if atN L (a.length + 1 + (K.text x).length) [41] = true then tailW (prs L d) L x (a.length + 1 + (K.text x).length + 1) else none) = _
        rw [if_neg hx, a3, if_pos rfl]
        refine (show _ = _ from ht).trans ?_
        congr 2
        simp [List.length_append]
        omega
theorem text_inj {t u : K} (ht : K.ok t = true) (hu : K.ok u = true) (h : K.text t = K.text u) : t = u := by
  have h1 := prs_text t ht (max (K.depth t) (K.depth u)) (by omega) [] [] stops_nil
  have h2 := prs_text u hu (max (K.depth t) (K.depth u)) (by omega) [] [] stops_nil
  rw [h, h2] at h1
  injection h1 with h1
  injection h1 with h1 _
  exact h1.symm
/-- what has the text of a valid kind is read as this kind -/
theorem parseOut_text (t : K) (h : K.valid t = true) : parseOut (K.text t) = (t, 0) := by
  have hf := (K.valid_iff t).1 h
  have h1 := prs_text t hf.1 401 (by have := hf.2.2; omega) [] [] stops_nil
  rw [List.nil_append, List.append_nil] at h1
  unfold parseOut
  rw [show prs (K.text t) 401 0 = some (t, 0 + (K.text t).length) from h1]
  show (if _ then _ else _) = _
  rw [if_pos]
  refine ⟨Nat.zero_add _, h, fun hl => ?_, rfl⟩
  obtain ⟨l⟩ := t
  obtain rfl := List.eq_nil_of_length_eq_zero (show l.length = 0 from hl)
  exact K.text_star
/-- what is read is valid, and has the text -/
theorem parseOut_cases (l : List UInt8) : (∃ t, K.valid t = true ∧ K.text t = l ∧ parseOut l = (t, 0)) ∨ ((∀ t, K.valid t = true → K.text t ≠ l) ∧ parseOut l = (.mk [], 3)) := by
  by_cases h : ∃ t, K.valid t = true ∧ K.text t = l
  · obtain ⟨t, h1, rfl⟩ := h
    exact .inl ⟨t, h1, rfl, parseOut_text t h1⟩
  · refine .inr ⟨fun t h1 h2 => h ⟨t, h1, h2⟩, ?_⟩
    unfold parseOut
    cases hp : prs l 401 0 with
    | none => rfl
    | some p =>
      obtain ⟨k, j⟩ := p
      show (if _ then _ else _) = _
      rw [if_neg]
      exact fun hh => h ⟨k, hh.2.1, hh.2.2.2⟩
end Go.Proofs.Ythamhgnhdjahgaa
