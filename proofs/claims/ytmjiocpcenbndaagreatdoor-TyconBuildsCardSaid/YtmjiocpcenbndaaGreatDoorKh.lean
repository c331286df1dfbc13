/-
  Walks of layer 8: the reference's Parts.
-/
import Derived.Test.YtmjiocpcenbndaaGreatDoorKg
import Derived.Deep.AppendLies
import Derived.Laws.OwnMore
namespace Go.Proofs.YtmjiocpcenbndaaGreatDoor
open Go Go.RowKit
open Pl (K)
set_option linter.unusedSimpArgs false

theorem info3 {P : Program} {t : TypeId} {z : Value} {n b : Nat} (h : (P.info? t).map (fun i => (i.zero, i.size, i.bytes)) = some (some z, n, b)) : ∃ i, P.info? t = some i ∧ i.zero = some z ∧ i.size = n ∧ i.bytes = b := by
  cases hi : P.info? t with
  | none => rw [hi] at h; cases h
  | some i =>
    rw [hi] at h
    simp only [Option.map_some, Option.some.injEq, Prod.mk.injEq] at h
    exact ⟨i, rfl, h.1, h.2.1, h.2.2⟩
theorem infoKind : (Tryz.prog.info? 24).map (fun i => (i.zero, i.size, i.bytes)) = some (some (.agg #[.slice none 0 0]), 1, 24) := by kernel_rfl
theorem below_grown {B : Nat} {a w w' : World} {row : Option Nat} (h : Below B a w) (hB : B ≤ w.heap.size) (hg : w.grownBy w' row) (hr : ∀ k, row = some k → B ≤ k) : Below B a w' := h.grown hg hB hr
theorem blk_grown {W W' : World} {b : Nat} {T : TypeId} {cs : Array Value} {row : Option Nat} (h : Blk W b T cs) (hg : W.grownBy W' row) (hr : ∀ k, row = some k → b < k) : Blk W' b T cs := h.of_eq (hg.block b h.lt (fun e => by have := hr b e.symm; omega))
/-- a row of kinds, their parts in the blocks P -/
def KindRow (w : World) (P : Nat → Prop) (us : List Value) (ts : List K) : Prop := us.length = ts.length ∧ ∀ j (h : j < ts.length), ∃ x, us[j]? = some x ∧ KidV w P ts[j] x
theorem KindRow.keep {w w' : World} {P : Nat → Prop} {us : List Value} {ts : List K} (hs : Same P w w') (h : KindRow w P us ts) : KindRow w' P us ts :=
  ⟨h.1, fun j hj => by obtain ⟨x, h1, h2⟩ := h.2 j hj; exact ⟨x, h1, h2.keep hs⟩⟩
theorem KindRow.push {w : World} {P : Nat → Prop} {us : List Value} {ts : List K} {u : K} {x : Value} (h : KindRow w P us ts) (hu : KidV w P u x) : KindRow w P (us ++ [x]) (ts ++ [u]) := by
  refine ⟨by rw [List.length_append, List.length_append, h.1]; rfl, fun j hj => ?_⟩
  rcases Nat.lt_or_ge j ts.length with hlt | hge
  · obtain ⟨y, h1, h2⟩ := h.2 j hlt
    refine ⟨y, ?_, ?_⟩
    · rw [List.getElem?_append_left (by rw [h.1]; exact hlt)]; exact h1
    · rw [List.getElem_append_left hlt]; exact h2
  · have e : j = ts.length := by simp at hj; omega
    subst e
    refine ⟨x, ?_, ?_⟩
    · rw [← h.1]; simp
    · rw [List.getElem_append_right (Nat.le_refl _)]
      simpa using hu
/-- an owned row of kinds, read as a slice -/
theorem row_slice {w : World} {P : Nat → Prop} {base : Nat} {v : Value} {us : List Value} {ts : List K} (h : w.ownsRow base 24 1 v ts.length us) (hr : KindRow w P us ts) : KSl w (fun b => P b ∨ From base w b) v ts := by
  have hc : ∀ {g : Nat}, v.ownBlock = some g → ∀ j u, us[j]? = some u → w.cell? ((⟨g, 0, none⟩ : Addr).add j) = some u := fun e => h.cells e
  refine (kidV_iff _ _ _ _).2 ?_
  rcases h.2 with ⟨rfl, h0⟩ | ⟨g, cap, cur, rfl, hbg, hg, hnc, hcm, -, -⟩
  · obtain rfl := List.eq_nil_of_length_eq_zero h0
    exact ⟨none, 0, rfl, Nat.le_refl _, Nat.zero_le _, fun _ => rfl, .inl rfl⟩
  · refine ⟨_, cap, rfl, hnc, hcm, fun h => (by cases h), .inr ⟨g, 0, rfl, .inr ⟨hbg, (h.lt g rfl).2⟩, (kidsK_iff _ _ _ _ _).2 fun j hj => ?_⟩⟩
    obtain ⟨x, hx, hk⟩ := hr.2 j hj
    refine ⟨x, ?_, hk.mono fun b hb => .inl hb⟩
    have := hc rfl j x hx
    by_cases h0 : j = 0
    · subst h0
      simpa [Addr.add] using this
    · simpa [Addr.add, h0] using this
theorem parts_two (a b : K) : K.parts (.mk [a, b]) = a :: K.parts b := by rw [K.parts]
theorem parts_not (l : List K) (h : l.length ≠ 2) : K.parts (.mk l) = [] := by
  rw [K.parts]
  intro a b e
  injection e with e
  subst e
  exact h rfl
theorem depth_two (a b : K) : K.depth b + 1 ≤ K.depth (.mk [a, b]) := by
  rw [K.depth, K.depths, K.depths, K.depths]; omega
end Go.Proofs.YtmjiocpcenbndaaGreatDoor
