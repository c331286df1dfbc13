/-
  Layer 9: what the document asks of the program's functions (the first three), and TyconChecks over it.
-/
import Derived.Test.YtmjiocpcenbndaaGreatDoorQl
import Derived.Deep.RegionHeld3
namespace Go.Proofs.YtmjiocpcenbndaaGreatDoor
open Go Go.RowKit
open Pl (K Con)
set_option linter.unusedSimpArgs false

/-- whether two constructors are equal -/
noncomputable def Con.sameB (t u : Con) : Bool := @decide (t = u) (Classical.propDecidable _)
theorem sameB_iff (t u : Con) : Con.sameB t u = true ↔ t = u := by unfold Con.sameB; exact @decide_eq_true_iff _ (Classical.propDecidable _)
theorem sameB_self (t : Con) : Con.sameB t t = true := (sameB_iff t t).2 rfl
theorem rsameB_any (P Q : Nat → Prop) (t u : Con) (w : World) (v x : Value) (hP : ∀ b, P b → b < w.heap.size) (hQ : ∀ b, Q b → b < w.heap.size) (ht : ConV w P t v) (hu : ConV w Q u x) :
    Calls Tryz.prog 9 #[v, x] w fun e w' => e = .returned (.bool (Con.sameB t u)) ∧ Below w.heap.size w w' := by
  refine (rsame9_any P Q t u w v x hP hQ ht hu).mono ?_
  rintro e w' ⟨r, rfl, hr, hb⟩
  refine ⟨?_, hb⟩
  have : r = Con.sameB t u := by
    rw [Bool.eq_iff_iff, hr, sameB_iff]
  rw [this]
/-- the examples hold -/
def Awake9 : Prop := ∀ W : World, Calls Tryz.prog 4 #[] W fun e w' => e = .returned (.bool true) ∧ Below W.heap.size W w'
/-- two constructors side by side -/
theorem cons_two {w : World} {P : Nat → Prop} {g : Nat} {t u : Con} {x0 x1 x2 x3 x4 x5 y0 y1 y2 y3 y4 y5 : Value} (hb : Blk w g 28 #[x0, x1, x2, x3, x4, x5, y0, y1, y2, y3, y4, y5]) (hg : P g) (ht : ConV w P t (.agg #[x0, x1, x2, x3, x4, x5])) (hu : ConV w P u (.agg #[y0, y1, y2, y3, y4, y5])) : ConSl w P (.slice (some ⟨g, 0, none⟩) 2 2) [t, u] := by
  refine ⟨_, 2, rfl, by simp, by unfold maxLen; omega, (fun h => by cases h), .inr ⟨g, 0, rfl, hg, ?_⟩⟩
  rw [ConsAt, ConsAt, ConsAt]
  exact ⟨⟨_, ⟨x0, x1, x2, x3, x4, x5, rfl, hb.cell 0 _ rfl, hb.cell 1 _ rfl, hb.cell 2 _ rfl, hb.cell 3 _ rfl, hb.cell 4 _ rfl, hb.cell 5 _ rfl⟩, ht⟩, ⟨_, ⟨y0, y1, y2, y3, y4, y5, rfl, hb.cell 6 _ rfl, hb.cell 7 _ rfl, hb.cell 8 _ rfl, hb.cell 9 _ rfl, hb.cell 10 _ rfl, hb.cell 11 _ rfl⟩, hu⟩, trivial⟩
end Go.Proofs.YtmjiocpcenbndaaGreatDoor
