/-
  Walks of layer 8: two rows of kinds compared by a function; kinds as arguments read as they did.
-/
import Derived.Test.YtmjiocpcenbndaaGreatDoorKn
import Derived.OpenShut
namespace Go.Proofs.YtmjiocpcenbndaaGreatDoor
open Go Go.RowKit
open Pl (K)
set_option linter.unusedSimpArgs false

def eqAllB (f : K → K → Bool) : List K → List K → Bool
  | t :: r, u :: s => f t u && eqAllB f r s
  | _, _ => true
theorem eqAllB_step (f : K → K → Bool) (l m : List K) (i : Nat) (hl : i < l.length) (hm : i < m.length) : eqAllB f (l.drop i) (m.drop i) = (f l[i] m[i] && eqAllB f (l.drop (i + 1)) (m.drop (i + 1))) := by
  rw [List.drop_eq_getElem_cons hl, List.drop_eq_getElem_cons hm, eqAllB]
theorem eqAllB_end (f : K → K → Bool) (l m : List K) (i : Nat) (hl : l.length ≤ i) : eqAllB f (l.drop i) (m.drop i) = true := by
  rw [List.drop_of_length_le hl]
  cases m.drop i <;> rfl
open Go.ChangeShapes Go.WideShapes Go.Deep in
set_option maxRecDepth 100000 in
/-- a kind reads as it did -/
theorem stay_kind {H : Type} {enc : TypeId × Value → H} {W W' : World} {v : Value} {d : DataW H} {ps : List MemPlace} (h : DataW.Trod enc Tryz.prog W 0 (fun _ => true) true 24 v d ps) (hb : Below W.heap.size W W') :
    DataW.Trod enc Tryz.prog W' 0 (fun b => decide (b < W.heap.size)) true 24 v d ps := by
  have hlt : ∀ p ∈ ps, p.block < W.heap.size := by
    obtain ⟨n, hn⟩ := h
    exact DataW.trod_lt n _ _ _ hn
  exact Go.WideElems.Trod_stays (by kernel_rfl) (by kernel_rfl) (of_decide_eq_true (by kernel_rfl)) h (fun p hp => below_same hb p (hlt p hp)) (fun p hp => decide_eq_true (hlt p hp))
open Go.ChangeShapes Go.WideShapes Go.Deep in
set_option maxRecDepth 100000 in
/-- some kinds read as they did -/
theorem stay_kinds {H : Type} {enc : TypeId × Value → H} {W W' : World} {v : Value} {d : DataW H} {ps : List MemPlace} (h : DataW.Trod enc Tryz.prog W 0 (fun _ => true) true 22 v d ps) (hb : Below W.heap.size W W') :
    DataW.Trod enc Tryz.prog W' 0 (fun b => decide (b < W.heap.size)) true 22 v d ps := by
  have hlt : ∀ p ∈ ps, p.block < W.heap.size := by
    obtain ⟨n, hn⟩ := h
    exact DataW.trod_lt n _ _ _ hn
  exact Go.WideElems.Trod_stays (by kernel_rfl) (by kernel_rfl) (of_decide_eq_true (by kernel_rfl)) h (fun p hp => below_same hb p (hlt p hp)) (fun p hp => decide_eq_true (hlt p hp))
end Go.Proofs.YtmjiocpcenbndaaGreatDoor
