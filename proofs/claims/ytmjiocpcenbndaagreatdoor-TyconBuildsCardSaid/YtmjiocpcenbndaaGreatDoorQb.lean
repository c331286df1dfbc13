/-
  Walks of layer 9: the reference's size of a constructor.
-/
import Derived.Test.YtmjiocpcenbndaaGreatDoorQm
import Derived.Test.YtmjiocpcenbndaaGreatDoorKc
import Derived.Deep.LoopGhost
import Derived.StillTailTactics
import Derived.BigQuiet
namespace Go.Proofs.YtmjiocpcenbndaaGreatDoor
open Go Go.RowKit
open Pl (K Con)
set_option linter.unusedSimpArgs false

theorem KidV.shape {w : World} {P : Nat → Prop} {t : K} {x : Value} (h : KidV w P t x) : ∃ a c, x = .slice a t.l.length c := by
  obtain ⟨l⟩ := t
  obtain ⟨a, c, rfl, -⟩ := (kidV_iff _ _ _ _).1 h
  exact ⟨a, c, rfl⟩
/-- a constructor's value: its shape -/
theorem ConV.shape {w : World} {P : Nat → Prop} {t : Con} {v : Value} (h : ConV w P t v) : ∃ ka kn kc na nn nc la ln lc, v = .agg #[.int .i64 t.op, .int .i64 t.n, .string t.s, .slice ka kn kc, .slice na nn nc, .slice la ln lc] ∧ kn = t.kind.l.length ∧ nn = t.names.length ∧ ln = t.l.length := by
  obtain ⟨-, kv, nv, lv, rfl, hk, ⟨na, nc, rfl, -⟩, ⟨la, lc, rfl, -⟩⟩ := (conV_iff _ _ _ _).1 h
  obtain ⟨ka, kc, rfl⟩ := hk.shape
  exact ⟨ka, _, kc, na, _, nc, la, _, lc, rfl, rfl, rfl, rfl⟩
/-- one of a slice of constructors, in its cells -/
theorem ConSl.part {w : World} {P : Nat → Prop} {v : Value} {l : List Con} (h : ConSl w P v l) (k : Nat) (hk : k < l.length) : ∃ b off c ka kn kc na nn nc la ln lc, v = .slice (some ⟨b, off, none⟩) l.length c ∧ P b ∧
    w.cell? ⟨b, off + k * 6, none⟩ = some (.int .i64 l[k].op) ∧ w.cell? ⟨b, off + k * 6 + 1, none⟩ = some (.int .i64 l[k].n) ∧ w.cell? ⟨b, off + k * 6 + 2, none⟩ = some (.string l[k].s) ∧ w.cell? ⟨b, off + k * 6 + 3, none⟩ = some (.slice ka kn kc) ∧ w.cell? ⟨b, off + k * 6 + 4, none⟩ = some (.slice na nn nc) ∧ w.cell? ⟨b, off + k * 6 + 5, none⟩ = some (.slice la ln lc) ∧
    ConV w P l[k] (.agg #[.int .i64 l[k].op, .int .i64 l[k].n, .string l[k].s, .slice ka kn kc, .slice na nn nc, .slice la ln lc]) := by
  obtain ⟨a, c, rfl, -, -, hh⟩ := h.each
  obtain ⟨b, off, x, rfl, hP, ⟨x0, x1, x2, x3, x4, x5, rfl, f0, f1, f2, f3, f4, f5⟩, hx⟩ := hh k hk
  obtain ⟨ka, kn, kc, na, nn, nc, la, ln, lc, e, -, -, -⟩ := hx.shape
  simp only [Value.agg.injEq, Array.mk.injEq, List.cons.injEq, and_true] at e
  obtain ⟨rfl, rfl, rfl, rfl, rfl, rfl⟩ := e
  exact ⟨b, off, c, ka, kn, kc, na, nn, nc, la, ln, lc, rfl, hP, f0, f1, f2, f3, f4, f5, hx⟩
/-- a value in its box, of any size -/
theorem boxN_new (w : World) (T : TypeId) (cs : Array Value) : Blk (w.alloc (.cells cs T)) w.heap.size T cs ∧ Below w.heap.size w (w.alloc (.cells cs T)) := ⟨blk_new _ _ _, (Below.refl _ _).alloc (Nat.le_refl _) _⟩
end Go.Proofs.YtmjiocpcenbndaaGreatDoor
