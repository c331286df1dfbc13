/-
  Walks of layer 8: the reference's Equal, Pair and All; whether a kind is zero.
-/
import Derived.Test.YtmjiocpcenbndaaGreatDoorKd
namespace Go.Proofs.YtmjiocpcenbndaaGreatDoor
open Go Go.RowKit
open Pl (K)
set_option linter.unusedSimpArgs false

/-- a kind's value, its parts' cell known -/
theorem KV.form {w : World} {P : Nat → Prop} {t : K} {v : Value} (h : KV w P t v) : ∃ a c, v = .agg #[.slice a t.l.length c] := by
  obtain ⟨a, c, rfl, -⟩ := h.open
  exact ⟨a, c, rfl⟩
theorem KV.kid {w : World} {P : Nat → Prop} {t : K} {x : Value} (h : KV w P t (.agg #[x])) : KidV w P t x := by
  obtain ⟨y, e, h⟩ := h
  injection e with e
  have e : x = y := by simpa using e
  rw [e]; exact h
/-- the blocks P, and new ones -/
def Ext (P : Nat → Prop) (w w' : World) (b : Nat) : Prop := P b ∨ (w.heap.size ≤ b ∧ b < w'.heap.size)
theorem Ext.lt {P : Nat → Prop} {w w' : World} (hP : ∀ b, P b → b < w.heap.size) (hb : Below w.heap.size w w') : ∀ b, Ext P w w' b → b < w'.heap.size := fun b h => by
  rcases h with h | h
  · exact Nat.lt_of_lt_of_le (hP b h) hb.size
  · exact h.2
theorem Ext.left {P : Nat → Prop} {w w' : World} : ∀ b, P b → Ext P w w' b := fun _ h => .inl h
/-- two kinds in a row -/
theorem pair_kids {w : World} {P : Nat → Prop} {t u : K} {v x : Value} (hP : ∀ b, P b → b < w.heap.size) (ht : KidV w P t v) (hu : KidV w P u x) :
    KidV (w.alloc (.cells #[v, x] 24)) (Ext P w (w.alloc (.cells #[v, x] 24))) (.mk [t, u]) (.slice (some ⟨w.heap.size, 0, none⟩) 2 2) := by
  have hk := blk_new w #[v, x] 24
  have hb : Below w.heap.size w (w.alloc (.cells #[v, x] 24)) := (Below.refl _ _).alloc (Nat.le_refl _) _
  refine (kidV_iff _ _ _ _).2 ⟨_, 2, rfl, Nat.le_refl _, by unfold maxLen; omega, (fun h => by cases h), .inr ⟨w.heap.size, 0, rfl, .inr ⟨Nat.le_refl _, hk.lt⟩, (kidsK_iff _ _ _ _ _).2 fun j hj => ?_⟩⟩
  match j, hj with
  | 0, _ => exact ⟨v, hk.cell 0 _ rfl, (ht.keep (Same.of_below hb hP)).mono Ext.left⟩
  | 1, _ => exact ⟨x, hk.cell 1 _ rfl, (hu.keep (Same.of_below hb hP)).mono Ext.left⟩
theorem KSl.each {w : World} {P : Nat → Prop} {v : Value} {l : List K} (h : KSl w P v l) : ∃ a c, v = .slice a l.length c ∧ l.length ≤ c ∧ c ≤ maxLen ∧ (∀ (j : Nat) (hj : j < l.length), ∃ b off x, a = some ⟨b, off, none⟩ ∧ P b ∧ w.cell? ⟨b, off + j, none⟩ = some x ∧ KidV w P l[j] x) := by
  have h0 : KV w P (.mk l) (.agg #[v]) := ⟨v, rfl, h⟩
  obtain ⟨a, c, e, h1, h2, h3⟩ := h0.open
  injection e with e
  have e : v = .slice a (K.mk l).l.length c := by simpa using e
  exact ⟨a, c, e, h1, h2, h3⟩
theorem all_step (l : List K) (k : Nat) (hk : k < l.length) : (l.drop k).all K.valid = (K.valid l[k] && (l.drop (k + 1)).all K.valid) := by
  rw [List.drop_eq_getElem_cons hk, List.all_cons]
end Go.Proofs.YtmjiocpcenbndaaGreatDoor
