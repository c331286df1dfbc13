/-
  Walks of layer 3: a place that comes in as an argument.
-/
import Derived.Test.YtkhpihacjhhklaaG18
namespace Go.Proofs.Ytkhpihacjhhklaa
open Go Go.RowKit Go.ChangeShapes Go.WideShapes Go.Deep
open Pl (Syn)

theorem trod_ints {H : Type} {enc : TypeId × Value → H} {W : World} {spare : Nat → Bool} {held : Bool} {n : Nat} {v : Value} {x : DataW H × List MemPlace} (h : DataW.trod enc Try.prog W 0 spare held n 39 [v] = some x) : ∃ cs, AtSl W v cs := by
  rcases DataW.trod_slice Try.underlying39 h with ⟨h1, _⟩ | ⟨a, len, cap, elems, rest, m, _, h1, _, _, hl, hm, hlen, hel, _⟩
  · injection h1 with h1 _
    exact ⟨[], none, 0, h1, Nat.le_refl _, Nat.zero_le _, .inl rfl⟩
  · injection h1 with h1 _
    subst h1
    obtain ⟨b, off, spot⟩ := a
    have each : ∀ i, i < len → ∃ z : Int, W.cell? ((⟨b, off, spot⟩ : Addr).add i) = some (.int .i64 z) := by
      intro i hi
      have g := hel i hi
      rw [cellsInt] at g
      rw [List.getElem?_eq_getElem (by omega), Option.bind_eq_some_iff] at g
      obtain ⟨cs, g1, g2⟩ := g
      obtain ⟨_, hlen', hcell⟩ := World.cells?_some g1
      obtain ⟨z, e0, _, _⟩ := DataW.trod_int Try.underlying3 g2
      subst e0
      have := hcell 0 (by omega)
      refine ⟨z, ?_⟩
      simpa [Deep.add_add] using this
    obtain ⟨Z, hZ⟩ := choose_lt each
    rcases Nat.eq_zero_or_pos len with h0 | hpos
    · subst h0
      exact ⟨[], _, cap, rfl, by simp, hm, .inl rfl⟩
    · have hspot : spot = none := by
        have := hZ 0 hpos
        simpa [Addr.add] using World.cell?_spot this
      subst hspot
      refine ⟨(List.range len).map Z, _, cap, by simp, by simpa using hl, hm, .inr ⟨b, off, rfl, lt_of_cell (hZ 0 hpos), fun j hj => ?_⟩⟩
      have hj' : j < len := by simpa using hj
      have := hZ j hj'
      rw [add_plain] at this
      rw [List.getElem_map, List.getElem_range]
      exact this
end Go.Proofs.Ytkhpihacjhhklaa
