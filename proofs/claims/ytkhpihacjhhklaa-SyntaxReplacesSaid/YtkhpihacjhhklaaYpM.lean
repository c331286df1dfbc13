/-
  The frame of a row's proof: an argument that is a place.
-/
import Derived.Test.YtkhpihacjhhklaaFsM
import Derived.Test.YtkhpihacjhhklaaYkM
namespace Go.Proofs.Ytkhpihacjhhklaa
open Go Go.ChangeShapes Go.WideShapes Go.ChangeAt Go.RowKit

theorem open_ints_at {H : Type} {enc : TypeId × Value → H} {W : World} {base : Nat} {v : Value} {d : DataW H} {ps : List MemPlace} (hval : Value.okWide Try.prog W .any base 39 v) (h : DataW.Trod enc Try.prog W 0 (fun _ => true) true 39 v d ps) : ∃ cs, AtSl W v cs := by
  obtain ⟨a0, len, cap, rfl⟩ := okWide_slice Try.underlying39 hval
  obtain ⟨fuel, hf⟩ := h
  obtain ⟨cs, ht⟩ := trod_ints (v := .slice a0 len cap) (by simpa [Value.cells] using hf)
  exact ⟨cs, ht⟩
set_option maxRecDepth 100000 in
/-- a place reads as it did -/
theorem stay_ints {H : Type} {enc : TypeId × Value → H} {W W' : World} {v : Value} {d : DataW H} {ps : List MemPlace} (h : DataW.Trod enc Try.prog W 0 (fun _ => true) true 39 v d ps) (hb : Below W.heap.size W W') :
    DataW.Trod enc Try.prog W' 0 (fun b => decide (b < W.heap.size)) true 39 v d ps := by
  have hlt : ∀ p ∈ ps, p.block < W.heap.size := by
    obtain ⟨n, hn⟩ := h
    exact DataW.trod_lt n _ _ _ hn
  exact Go.WideElems.Trod_stays (by kernel_rfl) (by kernel_rfl) (of_decide_eq_true (by kernel_rfl)) h (fun p hp => below_same hb p (hlt p hp)) (fun p hp => decide_eq_true (hlt p hp))
end Go.Proofs.Ytkhpihacjhhklaa
