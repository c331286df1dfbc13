/-
  Plain mathematics of layer 3: what Replace answers where a part is put somewhere, and put back.
-/
import Derived.Test.YtkhpihacjhhklaaYi
namespace Go.Proofs.Ytkhpihacjhhklaa
open Go Go.RowKit
open Pl (Syn)

theorem any_of_valid (t : Syn) (h : validP (Pl.cat t.op) t = true) : anyP t = true := by
  unfold validP at h
  unfold anyP
  rw [Bool.and_eq_true] at h ⊢
  refine ⟨decide_eq_true (fun e => ?_), h.2⟩
  have h1 := h.1
  rw [e, Pl.bel_zero] at h1
  cases h1
theorem any_parts {t : Syn} (h : anyP t = true) : Pl.cat t.op ≠ 0 ∧ Pl.formed t = true := by
  unfold anyP at h
  rw [Bool.and_eq_true] at h
  exact ⟨of_decide_eq_true h.1, h.2⟩
theorem bel_cat (op : Int) (h : Pl.cat op ≠ 0) : Pl.bel op (Pl.cat op) = true := by
  rw [Pl.bel_eq _ _ h]
  unfold Pl.rbel
  exact decide_eq_true (.inl rfl)
theorem cat_of_bel (op c : Int) (h : Pl.bel op c = true) : Pl.cat op ≠ 0 := by
  unfold Pl.bel at h
  split at h
  · next h1 => rcases h1 with rfl | rfl <;> decide
  · have := of_decide_eq_true h
    omega
theorem common_self (op : Int) (h : Pl.cat op ≠ 0) : common op op = true := by
  rw [common_iff]
  have hr := Pl.cat_range op
  refine ⟨(Pl.cat op).toNat, by omega, by omega, ?_⟩
  rw [Int.toNat_of_nonneg hr.1, bel_cat op h]; rfl
theorem common_turn (op o : Int) (h : common op o = true) : common o op = true := by
  rw [common_iff] at h ⊢
  obtain ⟨c, h1, h2, h3⟩ := h
  exact ⟨c, h1, h2, by rw [Bool.and_comm]; exact h3⟩
theorem common_cat (op o : Int) (h : common op o = true) : Pl.cat o ≠ 0 := by
  rw [common_iff] at h
  obtain ⟨c, h1, h2, h3⟩ := h
  rw [Bool.and_eq_true] at h3
  exact cat_of_bel o c h3.2
/-- no such place -/
theorem rep_range (t : Syn) (at' : List Int) (by' : Syn) (ha : anyP t = true) (hf : Pl.find at' t = none) : repCode t at' by' = 2 := by
  unfold repCode
  rw [if_neg (by rw [ha]; decide), (Pl.put_none at' t by').2 hf]
/-- the part itself -/
theorem rep_self (t : Syn) (at' : List Int) (old : Syn) (ha : anyP t = true) (hf : Pl.find at' t = some old) : repCode t at' old = 0 ∧ Pl.put at' t old = some t := by
  have hp := Pl.put_self at' t old hf
  refine ⟨?_, hp⟩
  unfold repCode
  rw [if_neg (by rw [ha]; decide), hp]
  have h := any_parts ha
  show (if (Pl.formed t && common t.op t.op) = true then (0 : Int) else 3) = 0
  rw [h.2, common_self _ h.1]; rfl
/-- another part: it is there, or the tree would not be well-formed -/
theorem rep_other (t : Syn) (at' : List Int) (by' old : Syn) (ha : anyP t = true) (hf : Pl.find at' t = some old) : repCode t at' by' = 3 ∨ (repCode t at' by' = 0 ∧ ∃ x, Pl.put at' t by' = some x ∧ Pl.find at' x = some by' ∧ anyP x = true ∧ repCode x at' old = 0 ∧ Pl.put at' x old = some t ∧ x.size + old.size = t.size + by'.size) := by
  have hne : Pl.put at' t by' ≠ none := fun e => by
    rw [(Pl.put_none at' t by').1 e] at hf; cases hf
  cases hp : Pl.put at' t by' with
  | none => exact absurd hp hne
  | some x =>
    have h := any_parts ha
    by_cases hc : (Pl.formed x && common t.op x.op) = true
    · right
      have hc2 := hc
      rw [Bool.and_eq_true] at hc2
      have hax : anyP x = true := by
        unfold anyP
        rw [hc2.1, decide_eq_true (common_cat _ _ hc2.2)]; rfl
      have hpx : Pl.put at' x old = some t := by rw [Pl.put_put at' t by' x old hp, Pl.put_self at' t old hf]
      refine ⟨?_, x, rfl, Pl.put_find at' t by' x hp, hax, ?_, hpx, Pl.put_size at' t by' x old hp hf⟩
      · unfold repCode
        rw [if_neg (by rw [ha]; decide), hp]
        exact if_pos hc
      · unfold repCode
        rw [if_neg (by rw [hax]; decide), hpx]
        show (if (Pl.formed t && common x.op t.op) = true then (0 : Int) else 3) = 0
        rw [h.2, common_turn _ _ hc2.2]; rfl
    · left
      unfold repCode
      rw [if_neg (by rw [ha]; decide), hp]
      exact if_neg hc
end Go.Proofs.Ytkhpihacjhhklaa
