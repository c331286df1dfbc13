/-
  Walks of layer 8: the reference's parse.
-/
import Derived.Test.YtmjiocpcenbndaaGreatDoorKj
namespace Go.Proofs.YtmjiocpcenbndaaGreatDoor
open Go Go.RowKit
open Pl (K)
set_option linter.unusedSimpArgs false

/-- what follows a head of a text: an arrow, or the end -/
def tailW (f : Nat → Option (K × Nat)) (l : List UInt8) (k : K) (j : Nat) : Option (K × Nat) := if atN l j [32, 45, 62, 32] = true then (f (j + 4)).bind fun p => some (.mk [k, p.1], p.2) else some (k, j)
/-- the reference's parser -/
def prs (l : List UInt8) : Nat → Nat → Option (K × Nat)
  | 0, _ => none
  | d + 1, i =>
    if atN l i [42] = true then tailW (prs l d) l (.mk []) (i + 1)
    else if atN l i [40] = true then (prs l d (i + 1)).bind fun p => if p.1.l.length = 0 then none else if atN l p.2 [41] = true then tailW (prs l d) l p.1 (p.2 + 1) else none
    else none
theorem atN_le (l : List UInt8) (i : Nat) (p : List UInt8) (h : atN l i p = true) : i + p.length ≤ l.length := by
  unfold atN at h
  rw [Bool.and_eq_true] at h
  exact of_decide_eq_true h.1
theorem tailW_le {f : Nat → Option (K × Nat)} {l : List UInt8} {k : K} {j : Nat} (hf : ∀ i k e, f i = some (k, e) → i ≤ e ∧ e ≤ l.length) (hj : j ≤ l.length) {k' : K} {e : Nat} (h : tailW f l k j = some (k', e)) : j ≤ e ∧ e ≤ l.length := by
  unfold tailW at h
  split at h
  · cases hq : f (j + 4) with
    | none => rw [hq] at h; cases h
    | some p =>
      rw [hq] at h
      have h : some (K.mk [k, p.1], p.2) = some (k', e) := h
      injection h with h
      injection h with _ h
      subst h
      have := hf (j + 4) p.1 p.2 (by rw [hq])
      exact ⟨by omega, this.2⟩
  · injection h with h
    injection h with _ h
    subst h
    exact ⟨Nat.le_refl _, hj⟩
theorem prs_le (l : List UInt8) : ∀ (d i : Nat) (k : K) (e : Nat), prs l d i = some (k, e) → i ≤ e ∧ e ≤ l.length := by
  intro d
  induction d with
  | zero => intro i k e h; cases h
  | succ d ih =>
    intro i k e h
    rw [prs] at h
    split at h
    · next h1 =>
      have := atN_le _ _ _ h1
      have := tailW_le ih (by simpa using this) h
      omega
    · split at h
      · next h1 =>
        cases hq : prs l d (i + 1) with
        | none => rw [hq] at h; cases h
        | some p =>
          rw [hq] at h
          have h : (if p.1.l.length = 0 then none else if atN l p.2 [41] = true then tailW (prs l d) l p.1 (p.2 + 1) else none) = some (k, e) := h
          have hp := ih (i + 1) p.1 p.2 (by rw [hq])
          split at h
          · cases h
          · split at h
            · next h2 =>
              have := atN_le _ _ _ h2
              have := tailW_le ih (by simpa using this) h
              omega
            · cases h
      · cases h
/-- what the reference's parse answers -/
def POut (R : Option (K × Nat)) (w : World) (e : Ending) (w' : World) : Prop := (match R with
  | some (k, j) => ∃ y, e = .returned (.tuple #[y, .int .i64 j]) ∧ KV w' (From w.heap.size w') k y
  | none => e = .returned (.tuple #[.agg #[.slice none 0 0], .int .i64 (-1)])) ∧ Below w.heap.size w w'
end Go.Proofs.YtmjiocpcenbndaaGreatDoor
