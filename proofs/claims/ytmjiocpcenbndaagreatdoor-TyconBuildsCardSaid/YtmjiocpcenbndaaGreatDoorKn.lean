/-
  Walks of layer 8: whether a kind is big.
-/
import Derived.Test.YtmjiocpcenbndaaGreatDoorKl
import Derived.Laws.EntriesVeiled
namespace Go.Proofs.YtmjiocpcenbndaaGreatDoor
open Go Go.RowKit
open Pl (K)
set_option linter.unusedSimpArgs false

/-- Nothing has turned but block b, and what is new. -/
def Only (b : Nat) (w w' : World) : Prop := w.grownBy w' (some b)
theorem Only.refl (b : Nat) (w : World) : Only b w w := ⟨rfl, rfl, rfl, Nat.le_refl _, fun _ _ _ => rfl⟩
theorem Only.size {b : Nat} {w w' : World} (h : Only b w w') : w.heap.size ≤ w'.heap.size := World.grownBy.size h
theorem Only.trans {b : Nat} {a c d : World} (h : Only b a c) (k : Only b c d) : Only b a d :=
  ⟨(World.grownBy.os k).trans (World.grownBy.os h), (World.grownBy.tape k).trans (World.grownBy.tape h), (World.grownBy.output k).trans (World.grownBy.output h), Nat.le_trans h.size k.size,
   fun i hi hne => (World.grownBy.block k i (Nat.lt_of_lt_of_le hi h.size) hne).trans (World.grownBy.block h i hi hne)⟩
theorem Only.drew {b : Nat} {a w : World} (h : Only b a w) : Only b a w.drew := h.trans ⟨rfl, rfl, rfl, Nat.le_refl _, fun _ _ _ => rfl⟩
theorem Only.drewN {b : Nat} {a w : World} (h : Only b a w) (n : Nat) : Only b a (w.drewN n) := h.trans ⟨rfl, rfl, rfl, Nat.le_refl _, fun _ _ _ => rfl⟩
theorem Only.alloc {b : Nat} {a w : World} (h : Only b a w) (o : Obj) : Only b a (w.alloc o) :=
  h.trans ⟨rfl, rfl, rfl, by simp, fun i hi _ => Below.heap_alloc w o i hi⟩
theorem Only.setCell {b : Nat} {a w : World} (h : Only b a w) {p : Addr} (hp : p.block = b ∨ a.heap.size ≤ p.block) (v : Value) : Only b a (w.setCell p v) := by
  obtain ⟨h1, h2, h3, h4, h5⟩ := (show a.grownBy w (some b) from h)
  refine ⟨h1, h2, h3, by simpa [World.setCell] using h4, fun i hi hne => ?_⟩
  refine (Below.heap_setCell w p v i ?_).trans (h5 i hi hne)
  rintro rfl
  rcases hp with hp | hp
  · exact hne (by rw [hp])
  · omega
theorem Only.below {b : Nat} {a w w' : World} (h : Only b a w) {B : Nat} (hb : Below B w w') (hB : a.heap.size ≤ B) : Only b a w' :=
  ⟨hb.os.trans (World.grownBy.os h), hb.tape.trans (World.grownBy.tape h), hb.output.trans (World.grownBy.output h), Nat.le_trans h.size hb.size, fun i hi hne => (hb.block i (by omega)).trans (World.grownBy.block h i hi hne)⟩
theorem Only.to {b : Nat} {w w' : World} (h : Only b w w') {B : Nat} (hb : B ≤ b) (hB : B ≤ w.heap.size) : Below B w w' :=
  ⟨World.grownBy.os h, World.grownBy.tape h, World.grownBy.output h, h.size, fun i hi => World.grownBy.block h i (by omega) (fun e => by injection e with e; omega)⟩
theorem Only.blk {b : Nat} {w w' : World} (h : Only b w w') {g : Nat} {t : TypeId} {cs : Array Value} (hg : Blk w g t cs) (hne : g ≠ b) : Blk w' g t cs :=
  (World.grownBy.block h g hg.lt (fun e => by injection e with e; exact hne e)).trans hg
theorem cell_only {N b o : Nat} {w w' : World} (h : Only N w w') (hb : b < w.heap.size) (hne : b ≠ N) : w'.cell? ⟨b, o, none⟩ = w.cell? ⟨b, o, none⟩ := by
  have := World.grownBy.block h b hb (fun e => by injection e with e; exact hne e)
  simp only [World.cell?, this]
namespace Pl.K
theorem sizes_app (a b : List K) : sizes (a ++ b) = sizes a + sizes b := by
  induction a with
  | nil => rw [List.nil_append, sizes]; omega
  | cons t r ih => rw [List.cons_append, sizes, sizes, ih]; omega
theorem depths_app (a b : List K) : depths (a ++ b) = max (depths a) (depths b) := by
  induction a with
  | nil => rw [List.nil_append, depths]; omega
  | cons t r ih => rw [List.cons_append, depths, depths, ih]; omega
theorem sizes_snoc (l : List K) (i : Nat) (h : i < l.length) : sizes (l.take (i + 1)) = sizes (l.take i) + size l[i] := by
  rw [List.take_succ_eq_append_getElem h, sizes_app, sizes, sizes]; omega
theorem depths_snoc (l : List K) (i : Nat) (h : i < l.length) : depths (l.take (i + 1)) = max (depths (l.take i)) (depth l[i]) := by
  rw [List.take_succ_eq_append_getElem h, depths_app, depths, depths]; omega
end Pl.K
/-- what the counting closure leaves behind -/
def BigP (N : Nat) (t : K) (c dep : Int) (w : World) (e : Ending) (w' : World) : Prop :=
  e = .returned (.tuple #[]) ∧ ∃ c' : Int, Blk w' N 3 #[.int .i64 c'] ∧ 0 ≤ c' ∧ c' ≤ 1000 ∧ (c' ≤ 300 → c' = c + K.size t ∧ dep + K.depth t ≤ 61) ∧ Only N w w'
theorem three_new8 (w : World) (T1 T2 T3 : TypeId) (u v x : Value) : Blk (((w.alloc (.cells #[u] T1)).alloc (.cells #[v] T2)).alloc (.cells #[x] T3)) w.heap.size T1 #[u] ∧ Blk (((w.alloc (.cells #[u] T1)).alloc (.cells #[v] T2)).alloc (.cells #[x] T3)) (w.heap.size + 1) T2 #[v] ∧ Blk (((w.alloc (.cells #[u] T1)).alloc (.cells #[v] T2)).alloc (.cells #[x] T3)) (w.heap.size + 1 + 1) T3 #[x] ∧ Below w.heap.size w (((w.alloc (.cells #[u] T1)).alloc (.cells #[v] T2)).alloc (.cells #[x] T3)) := by
  have h2 := blk_new (w.alloc (.cells #[u] T1)) #[v] T2
  rw [size_alloc] at h2
  have h3 := blk_new ((w.alloc (.cells #[u] T1)).alloc (.cells #[v] T2)) #[x] T3
  rw [size_alloc, size_alloc] at h3
  exact ⟨((blk_new w #[u] T1).alloc _).alloc _, h2.alloc _, h3, below_new (below_new (below_new (Below.refl _ _)))⟩
/-- whether one of some kinds is big -/
def NotBig (t : K) : Prop := K.size t ≤ 300 ∧ K.depth t ≤ 60
end Go.Proofs.YtmjiocpcenbndaaGreatDoor
