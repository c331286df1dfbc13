/-
  Layer 8, plain: what an arity, the parts of a kind and a chain of arrows are.
-/
import Derived.Test.YthamhgnhdjahgaaKq
namespace Go.Proofs.Ythamhgnhdjahgaa
open Pl (K)
namespace Pl.K

theorem depth_two (a b : K) : depth (.mk [a, b]) = 1 + max (depth a) (depth b) := by
  rw [depth, depths, depths, depths]
  omega
theorem ok_mk2 {a b : K} (ha : ok a = true) (hb : ok b = true) : ok (.mk [a, b]) = true := by
  rw [ok, oks, oks, oks, ha, hb]
  rfl
theorem star_sizes : size (.mk []) = 1 ∧ depth (.mk []) = 1 ∧ ok (.mk []) = true := by decide +kernel
/-- an arity is the chain in the second parts -/
theorem arity_sizes (n : Nat) : size (arity n) = 2 * n + 1 ∧ depth (arity n) = n + 1 ∧ ok (arity n) = true := by
  induction n with
  | zero => exact star_sizes
  | succ n ih =>
    obtain ⟨h1, h2, h3⟩ := ih
    have e : arity (n + 1) = .mk [.mk [], arity n] := rfl
    rw [e]
    refine ⟨?_, ?_, ok_mk2 star_sizes.2.2 h3⟩
    · rw [size_two, star_sizes.1, h1]; omega
    · rw [depth_two, star_sizes.2.1, h2]; omega
theorem arity_valid (n : Nat) (h : n ≤ 100) : valid (arity n) = true := by
  obtain ⟨h1, h2, h3⟩ := arity_sizes n
  exact (valid_iff _).2 ⟨h3, by rw [h1]; omega, by rw [h2]; omega⟩
/-- the chain in the first parts -/
def chainF : Nat → K
  | 0 => .mk []
  | n + 1 => .mk [chainF n, .mk []]
theorem chainF_sizes (n : Nat) : size (chainF n) = 2 * n + 1 ∧ depth (chainF n) = n + 1 ∧ ok (chainF n) = true := by
  induction n with
  | zero => exact star_sizes
  | succ n ih =>
    obtain ⟨h1, h2, h3⟩ := ih
    have e : chainF (n + 1) = .mk [chainF n, .mk []] := rfl
    rw [e]
    refine ⟨?_, ?_, ok_mk2 h3 star_sizes.2.2⟩
    · rw [size_two, star_sizes.1, h1]; omega
    · rw [depth_two, star_sizes.2.1, h2]; omega
/-- a chain is valid up to the greatest depth -/
theorem chain_valid (t : K) (n : Nat) (hn : n ≤ 500) (h : size t = 2 * n + 1 ∧ depth t = n + 1 ∧ ok t = true) : valid t = decide (n + 1 ≤ 400) := by
  obtain ⟨h1, h2, h3⟩ := h
  by_cases hd : n + 1 ≤ 400
  · rw [decide_eq_true hd]
    exact (valid_iff _).2 ⟨h3, by rw [h1]; omega, by rw [h2]; omega⟩
  · rw [decide_eq_false hd]
    cases hv : valid t
    · rfl
    · have := ((valid_iff _).1 hv).2.2
      rw [h2] at this
      omega
theorem valid_head {a b : K} (h : valid (.mk [a, b]) = true) : valid a = true := by
  rw [valid_iff] at h ⊢
  obtain ⟨h1, h2, h3⟩ := h
  rw [size_two] at h2
  rw [depth_two] at h3
  exact ⟨(ok_two h1).1, by omega, by omega⟩
theorem parts_star : parts (.mk []) = [] := by
  rw [parts]
  intro a b h
  cases h
theorem parts_two (a b : K) : parts (.mk [a, b]) = a :: parts b := by rw [parts]
theorem parts_valid (m : Nat) : ∀ t : K, size t ≤ m → valid t = true → ∀ p ∈ parts t, valid p = true := by
  induction m with
  | zero =>
    intro t h
    obtain ⟨l⟩ := t
    rw [size] at h
    omega
  | succ m ih =>
    intro t h hv p hp
    rcases ok_cases ((valid_iff t).1 hv).1 with rfl | ⟨a, b, rfl⟩
    · rw [parts_star] at hp
      cases hp
    · rw [parts_two] at hp
      rw [size_two] at h
      rcases List.mem_cons.1 hp with rfl | hp
      · exact valid_head hv
      · exact ih b (by omega) (valid_tail hv) p hp
theorem arrowOut_valid (l : List K) (to : K) : valid (arrowOut l to).1 = true := by
  unfold arrowOut
  have hs : valid (.mk []) = true := by decide +kernel
  by_cases h1 : (l.all valid && valid to) = true
  · rw [if_pos h1]
    by_cases h2 : valid (arrow l to) = true
    · rw [if_pos h2]
      exact h2
    · rw [if_neg h2]
      exact hs
  · rw [if_neg h1]
    exact hs
end Pl.K
theorem eqAll_self (f : K → K → Bool) (l : List K) (h : ∀ p ∈ l, f p p = true) : eqAllB f l l = true := by
  induction l with
  | nil => rfl
  | cons a r ih => rw [eqAllB, h a (List.mem_cons_self), ih (fun p hp => h p (List.mem_cons_of_mem _ hp))]; rfl
theorem all_parts (t : K) (h : K.valid t = true) : ((K.parts t).length == (K.parts t).length && eqAllB (fun a b => K.valid a && K.valid b && K.eqv a b) (K.parts t) (K.parts t)) = true := by
  rw [beq_self_eq_true, Bool.true_and]
  refine eqAll_self _ _ fun p hp => ?_
  rw [K.parts_valid _ t (Nat.le_refl _) h p hp, eqv_self]
  rfl
end Go.Proofs.Ythamhgnhdjahgaa
