/-
  A slice of tokens that comes in.
-/
import Derived.Test.YtbmkbenlhkcklaaLp
import Derived.Deep.Slices
import Derived.Deep.Strs
import Derived.WideKeyArgs
import Derived.ChangeOld
import Derived.ProofKit
namespace Go.Proofs.Ytbmkbenlhkcklaa
open Go Go.RowKit Go.ChangeShapes Go.WideShapes Go.Deep

theorem below_same {W W' : World} (hb : Below W.heap.size W W') (p : MemPlace) (h : p.block < W.heap.size) : W.sameAt W' p := by
  cases p with
  | cell b o => exact hb.cell (p := ⟨b, o, none⟩) h
  | map b => exact hb.block b h
theorem cellsToken : Try.prog.cellsOf 43 = 4 := by kernel_rfl
theorem cellsPos : Try.prog.cellsOf 26 = 2 := by kernel_rfl
theorem cellsString : Try.prog.cellsOf 9 = 1 := by kernel_rfl
theorem cellsInt : Try.prog.cellsOf 3 = 1 := by kernel_rfl
instance : Inhabited Pl.Tok := ⟨⟨0, [], 0, 0⟩⟩
section
variable {H : Type} {enc : TypeId × Value → H} {W : World}
set_option maxRecDepth 100000 in
theorem open_toks {base : Nat} {v : Value} {d : DataW H} {ps : List MemPlace} (hval : Value.okWide Try.prog W .any base 24 v) (h : DataW.Trod enc Try.prog W 0 (fun _ => true) true 24 v d ps) : ∃ ts, TokSlice W v ts := by
  obtain ⟨a, len, cap, rfl⟩ := okWide_slice Try.underlying24 hval
  obtain ⟨fuel, hf⟩ := h
  rcases open_slice Try.underlying24 hf with ⟨h1, _⟩ | ⟨a', len', cap', m, n, D, Ps, h1, _, hl, hm, hmm, _, hx⟩
  · simp [Value.cells] at h1
    obtain ⟨rfl, rfl, rfl⟩ := h1
    exact ⟨[], .inl ⟨rfl, _, _, rfl⟩⟩
  · simp [Value.cells] at h1
    obtain ⟨rfl, rfl, rfl⟩ := h1
    rcases Nat.eq_zero_or_pos len with h0 | hpos
    · subst h0
      exact ⟨[], .inl ⟨rfl, _, _, rfl⟩⟩
    · have hlm : len ≤ m := by rw [hmm]; split <;> omega
      obtain ⟨b, off, spot⟩ := a'
      have each : ∀ i, i < len → ∃ t : Pl.Tok, W.cell? ((⟨b, off, spot⟩ : Addr).add (i * 4)) = some (.int .i64 t.kind) ∧ W.cell? ((⟨b, off, spot⟩ : Addr).add (i * 4 + 1)) = some (.string (Pl.mk t.text)) ∧ W.cell? ((⟨b, off, spot⟩ : Addr).add (i * 4 + 2)) = some (.int .i64 t.line) ∧ W.cell? ((⟨b, off, spot⟩ : Addr).add (i * 4 + 3)) = some (.int .i64 t.col) := by
        intro i hi
        obtain ⟨cs', g1, g2⟩ := hx i (by omega)
        rw [cellsToken] at g1
        obtain ⟨_, hlen, hcell⟩ := World.cells?_some g1
        obtain ⟨y0, y1, y2, n2, _, _, k0, k1, k2⟩ := trod_struct3 Try.underlying43 g2
        obtain ⟨z0, z1, n3, _, _, l0, l1⟩ := trod_struct2 Try.underlying26 k2
        match cs', hlen with
        | [v0, v1, v2, v3], _ =>
          simp only [cellsInt, cellsString, cellsPos, List.drop_succ_cons, List.drop_zero, List.take_succ_cons, List.take_zero] at k0 k1 l0 l1
          obtain ⟨kd, e0, _, _⟩ := DataW.trod_int Try.underlying3 k0
          obtain ⟨tx, e1, _, _⟩ := DataW.trod_string Try.underlying9 k1
          obtain ⟨li, e2, _, _⟩ := DataW.trod_int Try.underlying3 l0
          obtain ⟨co, e3, _, _⟩ := DataW.trod_int Try.underlying3 l1
          injection e0 with e0 _
          injection e1 with e1 _
          injection e2 with e2 _
          injection e3 with e3 _
          subst e0 e1 e2 e3
          have f0 := hcell 0 (by omega)
          have f1 := hcell 1 (by omega)
          have f2 := hcell 2 (by omega)
          have f3 := hcell 3 (by omega)
          rw [add_add] at f0 f1 f2 f3
          exact ⟨⟨kd, tx.toList, li, co⟩, by simpa using f0, by rw [Pl.mk_of]; simpa using f1, by simpa using f2, by simpa using f3⟩
      have hspot : spot = none := by
        obtain ⟨t, h, _⟩ := each 0 hpos
        simpa [Addr.add] using World.cell?_spot h
      subst hspot
      obtain ⟨T, hT⟩ := choose_lt each
      have hbl : b < W.heap.size := by
        obtain ⟨h, _⟩ := hT 0 hpos
        rw [add_plain] at h
        rcases Nat.lt_or_ge b W.heap.size with g | g
        · exact g
        · exfalso
          have hn : W.heap[b]? = none := by simp; omega
          simp [World.cell?, hn] at h
      refine ⟨(List.range len).map T, .inr ⟨b, off, cap, by simp, by simp; omega, by simpa using hl, hm, hbl, fun j hj => ?_⟩⟩
      have hj' : j < len := by simpa using hj
      obtain ⟨g0, g1, g2, g3⟩ := hT j hj'
      rw [add_plain] at g0 g1 g2 g3
      rw [List.getElem_map, List.getElem_range, Nat.mul_comm]
      exact ⟨g0, g1, g2, g3⟩
set_option maxRecDepth 100000 in
/-- it reads as it did -/
theorem stay_toks {W' : World} {v : Value} {d : DataW H} {ps : List MemPlace} (h : DataW.Trod enc Try.prog W 0 (fun _ => true) true 24 v d ps) (hb : Below W.heap.size W W') :
    DataW.Trod enc Try.prog W' 0 (fun b => decide (b < W.heap.size)) true 24 v d ps := by
  have hlt : ∀ p ∈ ps, p.block < W.heap.size := by
    obtain ⟨n, hn⟩ := h
    exact DataW.trod_lt n _ _ _ hn
  exact Go.WideElems.Trod_stays (by kernel_rfl) (by kernel_rfl) (of_decide_eq_true (by kernel_rfl)) h (fun p hp => below_same hb p (hlt p hp)) (fun p hp => decide_eq_true (hlt p hp))
end
end Go.Proofs.Ytbmkbenlhkcklaa
