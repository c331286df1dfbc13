/-
  Walks and plain mathematics, several texts in one (Yn Yo0).
-/
import Derived.Test.YtkhpihacjhhklaaG18
import Derived.Deep.AppendLies
import Derived.Laws.OwnMore
import Derived.Test.YtkhpihacjhhklaaG19
import Derived.Deep.QuietTactic
/-
  Walks of layer 3: the reference's put: what it holds while it goes on.
-/
namespace Go.Proofs.Ytkhpihacjhhklaa
open Go Go.RowKit
open Pl (Syn)
set_option linter.unusedSimpArgs false

/-- the cells of trees side by side, their parts in the blocks R -/
def NodesOf (w : World) (R : Nat → Prop) (us : List Value) (l : List Syn) : Prop :=
  us.length = l.length * 5 ∧ (∀ u ∈ us, u.oneCell' = true) ∧ ∀ j (h : j < l.length), ∃ x, NodeIn us.toArray (j * 5) x ∧ SynV w R l[j] x
theorem NodesOf.nil (w : World) (R : Nat → Prop) : NodesOf w R [] [] := ⟨rfl, fun u hu => (by cases hu), fun j hj => absurd hj (Nat.not_lt_zero _)⟩
theorem NodesOf.keep {w w' : World} {R : Nat → Prop} {us : List Value} {l : List Syn} (h : NodesOf w R us l) (hs : Same R w w') : NodesOf w' R us l := ⟨h.1, h.2.1, fun j hj => by obtain ⟨x, hx, hv⟩ := h.2.2 j hj; exact ⟨x, hx, hv.keep hs⟩⟩
theorem NodesOf.mono {w : World} {R S : Nat → Prop} {us : List Value} {l : List Syn} (h : NodesOf w R us l) (hs : ∀ b, R b → S b) : NodesOf w S us l := ⟨h.1, h.2.1, fun j hj => by obtain ⟨x, hx, hv⟩ := h.2.2 j hj; exact ⟨x, hx, hv.mono hs⟩⟩
theorem NodeIn.left {us vs : List Value} {o : Nat} {v : Value} (h : NodeIn us.toArray o v) : NodeIn (us ++ vs).toArray o v := by
  obtain ⟨x0, x1, x2, x3, x4, rfl, h0, h1, h2, h3, h4⟩ := h
  have each : ∀ (i : Nat) (x : Value), us.toArray[i]? = some x → (us ++ vs).toArray[i]? = some x := by
    intro i x hx
    simp only [List.getElem?_toArray] at hx ⊢
    have hi : i < us.length := by
      rcases Nat.lt_or_ge i us.length with h | h
      · exact h
      · rw [List.getElem?_eq_none h] at hx; cases hx
    rw [List.getElem?_append_left hi]; exact hx
  exact ⟨x0, x1, x2, x3, x4, rfl, each _ _ h0, each _ _ h1, each _ _ h2, each _ _ h3, each _ _ h4⟩
theorem NodesOf.push {w : World} {R : Nat → Prop} {us : List Value} {l : List Syn} {x0 x1 x2 x3 x4 : Value} {y : Syn} (h : NodesOf w R us l) (hy : SynV w R y (.agg #[x0, x1, x2, x3, x4])) : NodesOf w R (us ++ [x0, x1, x2, x3, x4]) (l ++ [y]) := by
  obtain ⟨h1, h2, h3⟩ := h
  refine ⟨by simp [h1]; omega, fun u hu => ?_, fun j hj => ?_⟩
  · rw [List.mem_append] at hu
    rcases hu with hu | hu
    · exact h2 u hu
    · obtain ⟨y0, y1, y2, y3, y4, he, o0, o1, o2, o3, o4⟩ := one_cell_of hy
      simp only [Value.agg.injEq, Array.mk.injEq, List.cons.injEq, and_true] at he
      obtain ⟨rfl, rfl, rfl, rfl, rfl⟩ := he
      simp at hu
      rcases hu with rfl | rfl | rfl | rfl | rfl
      · exact o0
      · exact o1
      · exact o2
      · exact o3
      · exact o4
  · by_cases hlt : j < l.length
    · obtain ⟨x, hx, hv⟩ := h3 j hlt
      exact ⟨x, hx.left, by rw [List.getElem_append_left hlt]; exact hv⟩
    · have hjl : j = l.length := by simp at hj; omega
      subst hjl
      refine ⟨.agg #[x0, x1, x2, x3, x4], ⟨x0, x1, x2, x3, x4, rfl, ?_⟩, by rw [List.getElem_append_right (Nat.le_refl _)]; simpa using hy⟩
      rw [← h1]
      simp only [List.getElem?_toArray]
      refine ⟨?_, ?_, ?_, ?_, ?_⟩
      all_goals (rw [List.getElem?_append_right (by omega)]; simp)
/-- what the reference's put holds while it goes on: its boxes, and the row of the parts so far -/
structure PutI (w : World) (P Q : Nat → Prop) (tb yb zb : Array Value) (o0 o1 o2 o3 : Value) (wr : World) (v : Value) (cur : List Syn) : Prop where
  below : Below w.heap.size w wr
  box : Blk wr w.heap.size 25 tb
  ybox : Blk wr (w.heap.size + 1) 25 yb
  zbox : Blk wr (w.heap.size + 1 + 1) 25 zb
  obox : Blk wr (w.heap.size + 1 + 1 + 1) 25 #[o0, o1, o2, o3, v]
  row : ∃ us R, wr.ownsRow (w.heap.size + 4) 25 5 v cur.length us ∧ NodesOf wr R us cur ∧ ∀ b, R b → (P b ∨ Q b ∨ w.heap.size + 4 ≤ b) ∧ b < wr.heap.size ∧ v.ownBlock ≠ some b
theorem ownsRow5_below {w w' : World} {base n : Nat} {T : TypeId} {v : Value} {xs : List Value} (h : w.ownsRow base T 5 v n xs) (hb : Below w.heap.size w w') : w'.ownsRow base T 5 v n xs :=
  h.kept (row := none) ⟨hb.os, hb.tape, hb.output, hb.size, fun i hi _ => hb.block i hi⟩ (by cases ho : v.ownBlock with | none => exact .inl rfl | some k => exact .inr (by simp))
/-- nothing below is written -/
theorem PutI.step {w wr w' : World} {P Q : Nat → Prop} {tb yb zb : Array Value} {o0 o1 o2 o3 v : Value} {cur : List Syn} (h : PutI w P Q tb yb zb o0 o1 o2 o3 wr v cur) (hb : Below wr.heap.size wr w') : PutI w P Q tb yb zb o0 o1 o2 o3 w' v cur := by
  obtain ⟨us, R, h1, h2, h3⟩ := h.row
  refine ⟨belowStep hb h.below, h.box.of_eq (hb.block _ h.box.lt), h.ybox.of_eq (hb.block _ h.ybox.lt), h.zbox.of_eq (hb.block _ h.zbox.lt), h.obox.of_eq (hb.block _ h.obox.lt), us, R, ownsRow5_below h1 hb, h2.keep (Same.of_below hb (fun b hR => (h3 b hR).2.1)), fun b hR => ⟨(h3 b hR).1, Nat.lt_of_lt_of_le (h3 b hR).2.1 hb.size, (h3 b hR).2.2⟩⟩
/-- the row of the parts so far, in a world -/
def PutR (w : World) (P Q : Nat → Prop) (w2 : World) (v : Value) (n : Nat) (cur : List Syn) (us : List Value) (R : Nat → Prop) : Prop :=
  w2.ownsRow (w.heap.size + 4) 25 5 v n us ∧ NodesOf w2 R us cur ∧ n = cur.length ∧ ∀ b, R b → (P b ∨ Q b ∨ w.heap.size + 4 ≤ b) ∧ b < w2.heap.size ∧ v.ownBlock ≠ some b
theorem PutI.rows {w wr : World} {P Q : Nat → Prop} {tb yb zb : Array Value} {o0 o1 o2 o3 v : Value} {cur : List Syn} (h : PutI w P Q tb yb zb o0 o1 o2 o3 wr v cur) {n : Nat} (hn : n = cur.length) : ∃ us R, ∀ w2, Below wr.heap.size wr w2 → PutR w P Q w2 v n cur us R := by
  subst hn
  obtain ⟨us, R, h1, h2, h3⟩ := h.row
  exact ⟨us, R, fun w2 hb => ⟨ownsRow5_below h1 hb, h2.keep (Same.of_below hb (fun b hR => (h3 b hR).2.1)), rfl, fun b hR => ⟨(h3 b hR).1, Nat.lt_of_lt_of_le (h3 b hR).2.1 hb.size, (h3 b hR).2.2⟩⟩⟩
theorem PutR.ne {w w2 : World} {P Q : Nat → Prop} {v : Value} {n : Nat} {cur : List Syn} {us : List Value} {R : Nat → Prop} (h : PutR w P Q w2 v n cur us R) {k : Nat} (hk : k < w.heap.size + 4) : v.ownBlock ≠ some k := fun e => by have := (h.1.lt k e).1; omega
/-- as a list of trees -/
theorem PutI.syns {w wr : World} {P Q : Nat → Prop} {tb yb zb : Array Value} {o0 o1 o2 o3 v : Value} {cur : List Syn} (h : PutI w P Q tb yb zb o0 o1 o2 o3 wr v cur) : SynSl wr (fun b => P b ∨ Q b ∨ (w.heap.size + 4 ≤ b ∧ b < wr.heap.size)) v cur := by
  obtain ⟨us, R, h1, h2, h3⟩ := h.row
  have hc := h1
  rcases h1.2 with ⟨rfl, h0⟩ | ⟨g, cap, cu, rfl, hbg, hg, hnc, hcm, hcs, htake⟩
  · obtain rfl : cur = [] := List.eq_nil_of_length_eq_zero h0
    exact ⟨none, 0, rfl, Nat.le_refl _, Nat.zero_le _, fun _ => rfl, .inl rfl⟩
  · have hgl : g < wr.heap.size := (hc.lt g rfl).2
    refine ⟨_, cap, rfl, hnc, hcm, (fun h => by cases h), .inr ⟨g, 0, rfl, .inr (.inr ⟨hbg, hgl⟩), ?_⟩⟩
    rw [kidsAt_iff]
    intro j hj
    obtain ⟨x, hx, hv⟩ := h2.2.2 j hj
    refine ⟨x, ?_, hv.mono (fun b hb => ?_)⟩
    · obtain ⟨x0, x1, x2, x3, x4, rfl, c0, c1, c2, c3, c4⟩ := hx
      simp only [List.getElem?_toArray] at c0 c1 c2 c3 c4
      have each : ∀ d u, d < 5 → us[j * 5 + d]? = some u → wr.cell? ⟨g, 0 + j * 5 + d, none⟩ = some u := by
        intro d u hd hu
        rw [Nat.zero_add, hc.cellAt (j * 5 + d) (by omega), hu]
      exact ⟨x0, x1, x2, x3, x4, rfl, each 0 _ (by omega) c0, each 1 _ (by omega) c1, each 2 _ (by omega) c2, each 3 _ (by omega) c3, each 4 _ (by omega) c4⟩
    · rcases (h3 b hb).1 with h4 | h4 | h4
      · exact .inl h4
      · exact .inr (.inl h4)
      · exact .inr (.inr ⟨h4, (h3 b hb).2.1⟩)
/-- a part is put behind the others -/
theorem PutI.push {w w2 w3 : World} {P Q S : Nat → Prop} {tb yb zb : Array Value} {o0 o1 o2 o3 v : Value} {cur : List Syn} {x0 x1 x2 x3 x4 : Value} {y : Syn} {g cap n : Nat} (hP : ∀ b, P b → b < w.heap.size) (hQ : ∀ b, Q b → b < w.heap.size) (h : PutI w P Q tb yb zb o0 o1 o2 o3 w2 v cur)
    (hy : SynV w2 S y (.agg #[x0, x1, x2, x3, x4])) (hS : ∀ b, S b → (P b ∨ Q b ∨ w.heap.size + 4 ≤ b) ∧ b < w2.heap.size ∧ v.ownBlock ≠ some b)
    {us : List Value} {R : Nat → Prop} {k : Nat} (hr : PutR w P Q w2 v k cur us R) (h4 : w3.ownsRow (w.heap.size + 4) 25 5 (.slice (some ⟨g, 0, none⟩) n cap) (k + 1) (us ++ [x0, x1, x2, x3, x4]))
    (hg : w2.grownBy w3 v.ownBlock) (hat : v.ownBlock = some g ∨ g = w2.heap.size) : PutI w P Q tb yb zb o0 o1 o2 o3 (w3.setCell ⟨w.heap.size + 1 + 1 + 1, 4, none⟩ (.slice (some ⟨g, 0, none⟩) n cap)) (.slice (some ⟨g, 0, none⟩) n cap) (cur ++ [y]) := by
  obtain ⟨h1, h2, hkl, h3⟩ := hr
  subst hkl
  have hne : ∀ k, k < w.heap.size + 4 → v.ownBlock ≠ some k := fun k hk e => by have := (h1.lt k e).1; omega
  have hgl : g < w3.heap.size ∧ w.heap.size + 4 ≤ g := by
    have := h4.lt g rfl
    exact ⟨this.2, this.1⟩
  have hbk : ∀ k, k < w2.heap.size → v.ownBlock ≠ some k → k ≠ w.heap.size + 1 + 1 + 1 → (w3.setCell ⟨w.heap.size + 1 + 1 + 1, 4, none⟩ (.slice (some ⟨g, 0, none⟩) n cap)).heap[k]? = w2.heap[k]? := fun k hk hn hk2 => (Below.heap_setCell w3 ⟨w.heap.size + 1 + 1 + 1, 4, none⟩ _ k hk2).trans (hg.block k hk (fun e => hn e.symm))
  have hsz : (w3.setCell ⟨w.heap.size + 1 + 1 + 1, 4, none⟩ (.slice (some ⟨g, 0, none⟩) n cap)).heap.size = w3.heap.size := by simp [World.setCell]
  have hb3 : Below w.heap.size w w3 := h.below.grown hg h.below.size (fun j hj => Nat.le_trans (Nat.le_add_right _ _) (h1.lt j hj).1)
  have hRS : ∀ b, (R b ∨ S b) → (P b ∨ Q b ∨ w.heap.size + 4 ≤ b) ∧ b < w2.heap.size ∧ v.ownBlock ≠ some b := fun b hb => hb.elim (h3 b) (hS b)
  have hO : ∀ b, (P b ∨ Q b ∨ w.heap.size + 4 ≤ b) → b ≠ w.heap.size + 1 + 1 + 1 := fun b hb e => by
    rcases hb with hb | hb | hb
    · have := hP b hb; omega
    · have := hQ b hb; omega
    · omega
  refine ⟨?_, h.box.of_eq (hbk _ h.box.lt (hne _ (by omega)) (by omega)), h.ybox.of_eq (hbk _ h.ybox.lt (hne _ (by omega)) (by omega)), h.zbox.of_eq (hbk _ h.zbox.lt (hne _ (by omega)) (by omega)), ?_, us ++ [x0, x1, x2, x3, x4], fun b => R b ∨ S b, ?_, ?_, fun b hb => ⟨(hRS b hb).1, ?_, ?_⟩⟩
  · exact hb3.setCell (show w.heap.size ≤ w.heap.size + 1 + 1 + 1 by omega) _
  · have hob : Blk w3 (w.heap.size + 1 + 1 + 1) 25 #[o0, o1, o2, o3, v] := h.obox.of_eq (hg.block _ h.obox.lt (fun e => hne (w.heap.size + 1 + 1 + 1) (by omega) e.symm))
    have := hob.set 4 (.slice (some ⟨g, 0, none⟩) n cap)
    simpa using this
  · rw [List.length_append]
    refine h4.kept (row := some (w.heap.size + 1 + 1 + 1)) ⟨by simp [World.setCell], by simp [World.setCell], by simp [World.setCell], by rw [hsz]; exact Nat.le_refl _, fun k hk hkn => Below.heap_setCell w3 ⟨w.heap.size + 1 + 1 + 1, 4, none⟩ _ k (fun e => hkn (by rw [e]))⟩ (.inr (by show some g ≠ _; intro e; injection e with e; omega))
  · have hs : Same (fun b => R b ∨ S b) w2 (w3.setCell ⟨w.heap.size + 1 + 1 + 1, 4, none⟩ (.slice (some ⟨g, 0, none⟩) n cap)) := fun b hb => hbk b (hRS b hb).2.1 (hRS b hb).2.2 (hO b (hRS b hb).1)
    exact ((h2.mono (fun b hb => .inl hb)).push (hy.mono (fun b hb => .inr hb))).keep hs
  · rw [hsz]; exact Nat.lt_of_lt_of_le (hRS b hb).2.1 hg.size
  · show some g ≠ some b
    intro e
    injection e with e
    subst e
    rcases hat with hat | hat
    · exact (hRS g hb).2.2 hat
    · have := (hRS g hb).2.1; omega
/-- a box of the call's own has been laid or written behind a call: what stays -/
structure FinX (wr w5 wF : World) (pb : Nat) (cs : Array Value) : Prop where
  below : Below wr.heap.size wr wF
  part : Blk wF pb 25 cs
  same : ∀ b, b ≠ pb → b < w5.heap.size → wF.heap[b]? = w5.heap[b]?
  size : w5.heap.size ≤ wF.heap.size
  five : wr.heap.size ≤ w5.heap.size
  big : wr.heap.size ≤ pb
theorem finX_alloc {wr w5 : World} (hb : Below wr.heap.size wr w5) (cs : Array Value) : FinX wr w5 (w5.alloc (.cells cs 25)) w5.heap.size cs :=
  ⟨hb.alloc hb.size _, blk_new w5 cs _, fun b _ hlt => Below.heap_alloc _ _ b hlt, by rw [size_alloc]; omega, hb.size, hb.size⟩
theorem finX_store {wr w5 : World} {pb : Nat} {y0 y1 y2 y3 y4 : Value} (hb : Below wr.heap.size wr w5) (hp : Blk w5 pb 25 #[y0, y1, y2, y3, y4]) (hs : wr.heap.size ≤ pb) (x0 x1 x2 x3 x4 : Value) : FinX wr w5 (store5 w5 pb 0 x0 x1 x2 x3 x4) pb #[x0, x1, x2, x3, x4] :=
  ⟨store5_below hb _ _ _ _ _ _ _ hs, by have := store5_blk hp 0 x0 x1 x2 x3 x4; simpa [put5] using this, fun b hne _ => store5_other _ _ _ _ _ _ _ _ b hne, by rw [store5_size]; exact Nat.le_refl _, hb.size, hs⟩
theorem FinX.syn {wr w5 wF : World} {pb lo : Nat} {cs : Array Value} {P Q : Nat → Prop} {y : Syn} {v : Value} (hF : FinX wr w5 wF pb cs) {ws : Nat} (hws : ws = wr.heap.size) (hv : SynV w5 (fun b => P b ∨ Q b ∨ (lo ≤ b ∧ b < w5.heap.size)) y v) (hlo : wr.heap.size ≤ lo) (hpb : pb < lo ∨ w5.heap.size ≤ pb) (hP : ∀ b, P b → b < wr.heap.size) (hQ : ∀ b, Q b → b < wr.heap.size) :
    SynV wF (fun b => P b ∨ Q b ∨ (ws ≤ b ∧ b < wF.heap.size ∧ b ≠ pb)) y v := by
  have h5 := hF.five
  have hbig := hF.big
  have hsz := hF.size
  have all : ∀ b, (P b ∨ Q b ∨ (lo ≤ b ∧ b < w5.heap.size)) → b ≠ pb ∧ b < w5.heap.size := by
    intro b hb
    rcases hb with hb | hb | hb
    · have := hP b hb; omega
    · have := hQ b hb; omega
    · omega
  refine (hv.keep (fun b hb => hF.same b (all b hb).1 (all b hb).2)).mono (fun b hb => ?_)
  have h2 := all b hb
  rcases hb with hb | hb | hb
  · exact .inl hb
  · exact .inr (.inl hb)
  · exact .inr (.inr ⟨by omega, by omega, h2.1⟩)
end Go.Proofs.Ytkhpihacjhhklaa

/-
  Walks of layer 3: the reference's put, where the place is in range.
-/
namespace Go.Proofs.Ytkhpihacjhhklaa
open Go Go.RowKit
open Pl (Syn)
set_option linter.unusedSimpArgs false

theorem synGetD {l : List Syn} {k : Nat} (d : Syn) (h : k < l.length) : l.getD k d = l[k] := by simp [List.getD, h]
/-- what the reference's put answers at a place that is in range -/
def PutPost (P Q : Nat → Prop) (op n : Int) (s : ByteArray) (na : Option Addr) (nn nc ln : Nat) (l : List Syn) (m : Nat) (x : Option Syn) (w : World) (e : Ending) (w' : World) : Prop :=
  (match x with
    | some y => ∃ ga gc, e = .returned (.tuple #[.agg #[.int .i64 op, .int .i64 n, .string s, .slice na nn nc, .slice ga ln gc], .bool true]) ∧ SynSl w' (fun b => P b ∨ Q b ∨ (w.heap.size ≤ b ∧ b < w'.heap.size)) (.slice ga ln gc) (l.set m y)
    | none => e = .returned (.tuple #[zeroSyn, .bool false])) ∧ Below w.heap.size w w'
end Go.Proofs.Ytkhpihacjhhklaa
