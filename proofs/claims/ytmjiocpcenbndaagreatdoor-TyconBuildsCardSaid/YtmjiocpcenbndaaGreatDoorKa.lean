/-
  Layer 8, plain: kinds as trees of parts, their size and depth, what the reference counts, what is valid.
-/
import Derived.Test.YtmjiocpcenbndaaGreatDoorPl
namespace Go.Proofs.YtmjiocpcenbndaaGreatDoor
namespace Pl
/-- a kind: its parts -/
inductive K where
  | mk (l : List K)
instance : Inhabited K := ⟨.mk []⟩
namespace K
def l : K → List K
  | mk l => l
theorem mk_l (t : K) : mk t.l = t := by cases t; rfl
theorem ind {p : K → Prop} (h : ∀ t : K, (∀ x ∈ t.l, p x) → p t) (t : K) : p t := by
  match t with
  | mk l => exact h (mk l) (fun x hx => ind h x)
termination_by SizeOf.sizeOf t
decreasing_by
  have : x ∈ l := hx
  have := List.sizeOf_lt_of_mem this
  simp
  omega
mutual
def size : K → Nat
  | mk l => 1 + sizes l
def sizes : List K → Nat
  | [] => 0
  | t :: r => size t + sizes r
end
mutual
def depth : K → Nat
  | mk l => 1 + depths l
def depths : List K → Nat
  | [] => 0
  | t :: r => max (depth t) (depths r)
end
mutual
/-- each node has no part or two -/
def ok : K → Bool
  | mk l => (l.length == 0 || l.length == 2) && oks l
def oks : List K → Bool
  | [] => true
  | t :: r => ok t && oks r
end
mutual
/-- the nodes that are left, as the reference counts them -/
def cnt : K → Int → Int → Int
  | mk l, left, d => if left < 1 ∨ d < 1 ∨ (l.length ≠ 0 ∧ l.length ≠ 2) then -1 else cnts l (left - 1) (d - 1)
def cnts : List K → Int → Int → Int
  | [], left, _ => left
  | t :: r, left, d => if left < 0 then left else cnts r (cnt t left d) d
end
theorem size_pos (t : K) : 1 ≤ size t := by
  cases t with
  | mk l => rw [size]; omega
theorem depth_pos (t : K) : 1 ≤ depth t := by
  cases t with
  | mk l => rw [depth]; omega
theorem cnts_neg (l : List K) (left d : Int) (h : left < 0) : cnts l left d = left := by
  cases l with
  | nil => rw [cnts]
  | cons t r => rw [cnts, if_pos h]
/-- what fits -/
def Fit (t : K) (left d : Int) : Prop := ok t = true ∧ (size t : Int) ≤ left ∧ (depth t : Int) ≤ d
def Fits (l : List K) (left d : Int) : Prop := oks l = true ∧ (sizes l : Int) ≤ left ∧ (depths l : Int) ≤ d
theorem cnts_eq (l : List K) (ih : ∀ x ∈ l, ∀ left d : Int, (Fit x left d → cnt x left d = left - size x) ∧ (¬ Fit x left d → cnt x left d = -1)) : ∀ (left d : Int), 0 ≤ left → (Fits l left d → cnts l left d = left - sizes l) ∧ (¬ Fits l left d → 0 ≤ d → cnts l left d = -1) := by
  induction l with
  | nil =>
    intro left d h0
    refine ⟨fun _ => by rw [cnts, sizes]; omega, fun h hd => absurd ⟨by rw [oks], by rw [sizes]; exact h0, by rw [depths]; exact hd⟩ h⟩
  | cons t r ihr =>
    intro left d h0
    have iht := ih t List.mem_cons_self left d
    have ihr := ihr (fun x hx => ih x (List.mem_cons_of_mem _ hx))
    rw [cnts, if_neg (by omega)]
    by_cases hf : Fit t left d
    · rw [iht.1 hf]
      have h1 : 0 ≤ left - (size t : Int) := by have := hf.2.1; omega
      have := ihr (left - size t) d h1
      constructor
      · rintro ⟨k1, k2, k3⟩
        rw [oks, Bool.and_eq_true] at k1
        rw [sizes] at k2 ⊢
        rw [depths] at k3
        rw [this.1 ⟨k1.2, by omega, by omega⟩]
        omega
      · intro hn hd
        refine this.2 (fun hr => hn ⟨?_, ?_, ?_⟩) hd
        · rw [oks, hf.1, hr.1]; rfl
        · have := hr.2.1; rw [sizes]; omega
        · have := hr.2.2; have := hf.2.2; rw [depths]; omega
    · rw [iht.2 hf, cnts_neg r (-1) d (by omega)]
      refine ⟨fun hk => absurd ⟨?_, ?_, ?_⟩ hf, fun _ _ => rfl⟩
      · have := hk.1; rw [oks, Bool.and_eq_true] at this; exact this.1
      · have := hk.2.1; rw [sizes] at this; omega
      · have := hk.2.2; rw [depths] at this; omega
theorem cnt_eq (t : K) : ∀ left d : Int, (Fit t left d → cnt t left d = left - size t) ∧ (¬ Fit t left d → cnt t left d = -1) := by
  induction t using K.ind with
  | h t ih =>
    obtain ⟨l⟩ := t
    have hl := cnts_eq l ih
    intro left d
    have hlen : (l.length ≠ 0 ∧ l.length ≠ 2) ↔ (l.length == 0 || l.length == 2) = false := by simp
    rw [cnt]
    constructor
    · rintro ⟨k1, k2, k3⟩
      rw [ok, Bool.and_eq_true] at k1
      rw [size] at k2 ⊢
      rw [depth] at k3
      rw [if_neg (by rw [hlen, k1.1]; simp; omega), (hl (left - 1) (d - 1) (by omega)).1 ⟨k1.2, by omega, by omega⟩]
      omega
    · intro hn
      split
      · rfl
      · next hc =>
        have h1 : ¬ (l.length ≠ 0 ∧ l.length ≠ 2) := fun h => hc (Or.inr (Or.inr h))
        rw [hlen, Bool.not_eq_false] at h1
        refine (hl (left - 1) (d - 1) (by omega)).2 (fun hf => hn ⟨?_, ?_, ?_⟩) (by omega)
        · rw [ok, h1, hf.1]; rfl
        · have := hf.2.1; rw [size]; omega
        · have := hf.2.2; rw [depth]; omega
/-- a valid kind -/
def valid (t : K) : Bool := ok t && decide (size t ≤ 20000) && decide (depth t ≤ 400)
theorem valid_iff (t : K) : valid t = true ↔ Fit t 20000 400 := by
  unfold valid Fit
  rw [Bool.and_eq_true, Bool.and_eq_true, decide_eq_true_iff, decide_eq_true_iff]
  exact ⟨fun ⟨⟨a, b⟩, c⟩ => ⟨a, by omega, by omega⟩, fun ⟨a, b, c⟩ => ⟨⟨a, by omega⟩, by omega⟩⟩
theorem cnt_valid (t : K) : valid t = decide (0 ≤ cnt t 20000 400) := by
  have := cnt_eq t 20000 400
  by_cases h : Fit t 20000 400
  · rw [(valid_iff t).2 h, this.1 h]
    have := h.2.1
    exact (decide_eq_true (by omega)).symm
  · rw [this.2 h]
    have : valid t = false := by
      cases hv : valid t
      · rfl
      · exact absurd ((valid_iff t).1 hv) h
    rw [this]
    rfl
mutual
/-- equality, as a program finds it -/
def eqv : K → K → Bool
  | mk l, mk m => l.length == m.length && eqvs l m
def eqvs : List K → List K → Bool
  | [], _ => true
  | _ :: _, [] => true
  | t :: r, u :: s => eqv t u && eqvs r s
end
theorem eqvs_iff (l : List K) (ih : ∀ x ∈ l, ∀ u, eqv x u = true ↔ x = u) : ∀ m : List K, l.length = m.length → (eqvs l m = true ↔ l = m) := by
  induction l with
  | nil =>
    intro m h
    cases m with
    | nil => simp [eqvs]
    | cons _ _ => simp at h
  | cons t r ihr =>
    intro m h
    cases m with
    | nil => simp at h
    | cons u s =>
      have e1 := ih t List.mem_cons_self u
      have e2 := ihr (fun x hx => ih x (List.mem_cons_of_mem _ hx)) s (by simpa using h)
      rw [eqvs, Bool.and_eq_true, e1, e2, List.cons.injEq]
theorem eqv_iff (t : K) : ∀ u, eqv t u = true ↔ t = u := by
  induction t using K.ind with
  | h t ih =>
    obtain ⟨l⟩ := t
    intro u
    obtain ⟨m⟩ := u
    have hl := eqvs_iff l ih m
    rw [eqv, Bool.and_eq_true, beq_iff_eq, mk.injEq]
    constructor
    · rintro ⟨h1, h2⟩
      exact (hl h1).1 h2
    · rintro rfl
      exact ⟨rfl, (hl rfl).2 rfl⟩
/-- the parameters, and the kind of some parameters -/
def parts : K → List K
  | mk [a, b] => a :: parts b
  | _ => []
def arrow (l : List K) (to : K) : K := l.foldr (fun a b => mk [a, b]) to
def arity : Nat → K
  | 0 => mk []
  | n + 1 => mk [mk [], arity n]
theorem arrow_parts (t : K) (h : ok t = true) : arrow (parts t) (mk []) = t := by
  induction t using K.ind with
  | h t ih =>
    obtain ⟨l⟩ := t
    rw [ok, Bool.and_eq_true] at h
    match l, h, ih with
    | [], _, _ =>
      have : parts (mk []) = [] := by
        rw [parts]
        intro a b e
        injection e with e
        cases e
      rw [this]
      rfl
    | [_], h, _ => exact absurd h.1 (by simp)
    | [a, b], h, ih =>
      have hb : ok b = true := by
        have := h.2
        rw [oks, oks, oks, Bool.and_eq_true, Bool.and_eq_true] at this
        exact this.2.1
      have := ih b (by simp [K.l]) hb
      rw [parts]
      show mk [a, arrow (parts b) (mk [])] = _
      rw [this]
    | _ :: _ :: _ :: _, h, _ => exact absurd h.1 (by simp)
end K
end Pl
end Go.Proofs.YtmjiocpcenbndaaGreatDoor
