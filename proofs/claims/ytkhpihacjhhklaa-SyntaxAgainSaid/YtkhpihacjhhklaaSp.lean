/-
  Walks of layer 3: Size and Depth, whole.
-/
import Derived.Test.YtkhpihacjhhklaaSo
namespace Go.Proofs.Ytkhpihacjhhklaa
open Go Go.RowKit
open Pl (Syn)

theorem size_run (g : Nat) (t : Syn) : ∀ (n : Nat) (around depth : Int), (sizeV g).run n t around depth = (n + t.size, true) := by
  induction t using Syn.ind with
  | h t ih =>
    intro n around depth
    have hl : ∀ l : List Syn, (∀ x ∈ l, ∀ (n : Nat) (around depth : Int), (sizeV g).run n x around depth = (n + x.size, true)) → ∀ (n : Nat) (around depth : Int), (sizeV g).runs n l around depth = (n + Pl.sizes l, true) := by
      intro l
      induction l with
      | nil => intro _ n around depth; rw [Visitor.runs_nil, Pl.sizes_nil]; rfl
      | cons x r ihr =>
        intro h n around depth
        rw [Visitor.runs_cons, h x List.mem_cons_self, Pl.sizes_cons]
        simp only [if_true]
        rw [ihr (fun y hy => h y (List.mem_cons_of_mem _ hy))]
        simp only [Prod.mk.injEq, and_true]
        exact Nat.add_assoc _ _ _
    rw [Visitor.run_eq]
    show (if true = true then (sizeV g).runs (n + 1 : Nat) t.l t.op (depth + 1) else _) = _
    rw [if_pos rfl, hl t.l ih, Pl.size_eq]
    simp only [Prod.mk.injEq, and_true]
    exact Nat.add_assoc _ _ _
/-- what lies above -/
theorem fr_above {B : Nat} {own own' : Nat → Prop} {a w w' : World} (hb : Below B a w) (h : Fr own own' w w') (hB2 : B ≤ w.heap.size) (ho : ∀ i, own i → B ≤ i) : Below B a w' :=
  ⟨h.1.trans hb.os, h.2.1.trans hb.tape, h.2.2.1.trans hb.output, Nat.le_trans hb.size h.size, fun i hi => (h.block (Nat.lt_of_lt_of_le hi hB2) (fun g => by have := ho i g; omega)).trans (hb.block i hi)⟩
set_option maxRecDepth 100000 in
set_option maxHeartbeats 4000000 in
theorem size_any (P : Nat → Prop) (t : Syn) (w : World) (v : Value) (hP : ∀ b, P b → b < w.heap.size) (ht : SynV w P t v) (hbig : t.big ≤ 1073741824) :
    Calls Try.prog 15 #[v] w fun e w' => e = .returned (.int .i64 t.size) ∧ Below w.heap.size w w' := by
  have hsb := Pl.size_big t
  have HT := Lib.hid ht
  obtain ⟨na, nn, nc, la, ln, lc, rfl⟩ := ht.form
  have hb : Below w.heap.size w ((w.alloc (.cells #[.int .i64 t.op, .int .i64 t.n, .string t.s, .slice na nn nc, .slice la ln lc] 25)).alloc (.cells #[.int .i64 0] 3)) := (((Below.refl _ _).alloc (Nat.le_refl _) _).alloc (by simp) _)
  have hi : Cell1 (w.heap.size + 1) (0 : Nat) ((w.alloc (.cells #[.int .i64 t.op, .int .i64 t.n, .string t.s, .slice na nn nc, .slice la ln lc] 25)).alloc (.cells #[.int .i64 0] 3)) := by
    have := blk_new (w.alloc (.cells #[.int .i64 t.op, .int .i64 t.n, .string t.s, .slice na nn nc, .slice la ln lc] 25)) #[.int .i64 0] 3
    rw [size_alloc] at this
    exact this
  have HC := Lib.hid (visit_any (sizeV (w.heap.size + 1)) (size_good _) P t (0 : Nat) () _ (.agg #[.int .i64 t.op, .int .i64 t.n, .string t.s, .slice na nn nc, .slice la ln lc]) hi (fun b hbp => ⟨by rw [size_alloc, size_alloc]; have := hP b hbp; omega, fun ho => by have h1 : b = w.heap.size + 1 := ho; have := hP b hbp; omega⟩) (HT.out.keep (Same.of_below hb hP)) hbig (by show 0 + t.size ≤ 1073741824; omega))
  rw [size_run] at HC
  have HB := Lib.hid hb
  clear ht hb hi hP
  go_enter Try.func15, Try.ntmps15
  go_wp2_with fail
  refine HC.out.mono ?_
  rintro e w1 ⟨rfl, _, hi1, hf1⟩
  have hi1' : Cell1 (w.heap.size + 1) (0 + t.size : Nat) w1 := hi1
  rw [Nat.zero_add] at hi1'
  have c0 := Blk.cell hi1' 0 _ rfl
  have HF1 := Lib.hid (fr_above HB.out hf1 HB.out.size (fun i hi => by have h1 : i = w.heap.size + 1 := hi; omega))
  clear hi1 hf1 hi1'
  go_wp2
  go_ret
  exact ⟨rfl, HF1.out⟩

theorem cell1_set {g : Nat} {n x y : Int} {w : World} (h : Cell1 g n w) (hx : x = y) (o : Obj) : Cell1 g y ((w.setCell ⟨g, 0, none⟩ (.int .i64 x)).alloc o) := by
  subst hx
  have := (Blk.set h 0 (.int .i64 x)).alloc o
  simpa [Cell1] using this
/-- Depth's function -/
abbrev depthV (g : Nat) : Visitor where
  St := Int
  fid := 37
  g := g
  G := Unit
  Inv n _ w := Cell1 g n w
  own _ i := i = g
  cnt _ := 0
  next n _ _ d := (max n d, true)
set_option maxRecDepth 100000 in
set_option maxHeartbeats 4000000 in
theorem depth1_any (g : Nat) (n : Int) (w : World) (t : Syn) (v : Value) (P : Nat → Prop) (around depth : Int) (hi : Cell1 g n w) (ht : SynV w P t v) :
    Calls Try.prog 37 #[v, .int .i64 around, .int .i64 depth, .pointer (some ⟨g, 0, none⟩)] w fun e w' => e = .returned (.bool true) ∧ Cell1 g (max n depth) w' ∧ Fr (· = g) (· = g) w w' := by
  obtain ⟨na, nn, nc, la, ln, lc, rfl⟩ := ht.form
  have hb : Below w.heap.size w (w.alloc (.cells #[.int .i64 t.op, .int .i64 t.n, .string t.s, .slice na nn nc, .slice la ln lc] 25)) := (Below.refl _ _).alloc (Nat.le_refl _) _
  have hi1 := hi.below hb
  have c0 := Blk.cell hi1 0 _ rfl
  have f0 := Blk.thaw hi1 0
  have hgl := Blk.lt hi
  have HI := Lib.hid hi
  clear hb hi hi1 ht
  go_enter Try.func37, Try.ntmps37
  go_wp2
  all_goals
    go_ret
    exact ⟨rfl, cell1_set HI.out (by omega) _, (fr_set _ 0 (Below.refl _ _)).alloc _⟩
theorem depth_good (g : Nat) : (depthV g).Good where
  enter := by
    intro args w
    show Sem.run Try.prog (callFunc 37 args) w = .ok (.enter 37 args) w
    kernel_rfl
  calls := fun σ γ w P t v around depth hi ht hP hb hc h0 h1 => (depth1_any g σ w t v P around depth hi ht).mono fun e w' h => ⟨h.1, (), h.2.1, h.2.2⟩
  keep := fun σ γ w w' hi hb => Cell1.below hi hb
  lt := fun σ γ w i hi ho => by
    have h : i = g := ho
    subst h; exact Blk.lt hi
  cnt_le := fun σ t around depth => Nat.zero_le _
theorem depth_run (g : Nat) (t : Syn) : ∀ (n : Int) (around depth : Int), (depthV g).run n t around depth = (max n (depth + t.depth - 1), true) := by
  induction t using Syn.ind with
  | h t ih =>
    intro n around depth
    have hl : ∀ l : List Syn, (∀ x ∈ l, ∀ (n : Int) (around depth : Int), (depthV g).run n x around depth = (max n (depth + x.depth - 1), true)) → ∀ (n : Int) (around depth : Int), depth - 1 ≤ n → (depthV g).runs n l around depth = (max n (depth + Pl.depths l - 1), true) := by
      intro l
      induction l with
      | nil =>
        intro _ n around depth hn
        rw [Visitor.runs_nil, Pl.depths_nil]
        have : max n (depth + (0 : Nat) - 1) = n := by omega
        rw [this]
      | cons x r ihr =>
        intro h n around depth hn
        rw [Visitor.runs_cons, h x List.mem_cons_self, Pl.depths_cons]
        simp only [if_true]
        rw [ihr (fun y hy => h y (List.mem_cons_of_mem _ hy)) _ _ _ (by omega)]
        simp only [Prod.mk.injEq, and_true]
        omega
    rw [Visitor.run_eq]
    show (if true = true then (depthV g).runs (max n depth : Int) t.l t.op (depth + 1) else _) = _
    rw [if_pos rfl, hl t.l ih _ _ _ (by omega), Pl.depth_eq]
    simp only [Prod.mk.injEq, and_true]
    omega
set_option maxRecDepth 100000 in
set_option maxHeartbeats 4000000 in
theorem depth_any (P : Nat → Prop) (t : Syn) (w : World) (v : Value) (hP : ∀ b, P b → b < w.heap.size) (ht : SynV w P t v) (hbig : t.big ≤ 1073741824) :
    Calls Try.prog 17 #[v] w fun e w' => e = .returned (.int .i64 t.depth) ∧ Below w.heap.size w w' := by
  have hsb := Pl.size_big t
  have HT := Lib.hid ht
  obtain ⟨na, nn, nc, la, ln, lc, rfl⟩ := ht.form
  have hb : Below w.heap.size w ((w.alloc (.cells #[.int .i64 t.op, .int .i64 t.n, .string t.s, .slice na nn nc, .slice la ln lc] 25)).alloc (.cells #[.int .i64 0] 3)) := (((Below.refl _ _).alloc (Nat.le_refl _) _).alloc (by simp) _)
  have hi : Cell1 (w.heap.size + 1) 0 ((w.alloc (.cells #[.int .i64 t.op, .int .i64 t.n, .string t.s, .slice na nn nc, .slice la ln lc] 25)).alloc (.cells #[.int .i64 0] 3)) := by
    have := blk_new (w.alloc (.cells #[.int .i64 t.op, .int .i64 t.n, .string t.s, .slice na nn nc, .slice la ln lc] 25)) #[.int .i64 0] 3
    rw [size_alloc] at this
    exact this
  have HC := Lib.hid (visit_any (depthV (w.heap.size + 1)) (depth_good _) P t (0 : Int) () _ (.agg #[.int .i64 t.op, .int .i64 t.n, .string t.s, .slice na nn nc, .slice la ln lc]) hi (fun b hbp => ⟨by rw [size_alloc, size_alloc]; have := hP b hbp; omega, fun ho => by have h1 : b = w.heap.size + 1 := ho; have := hP b hbp; omega⟩) (HT.out.keep (Same.of_below hb hP)) hbig (by show 0 + t.size ≤ 1073741824; omega))
  rw [depth_run] at HC
  have HB := Lib.hid hb
  have HD := Lib.hid (show max (0 : Int) (1 + t.depth - 1) = t.depth from by omega)
  clear ht hb hi hP
  go_enter Try.func17, Try.ntmps17
  go_wp2_with fail
  refine HC.out.mono ?_
  rintro e w1 ⟨rfl, _, hi1, hf1⟩
  have hi1' : Cell1 (w.heap.size + 1) (max (0 : Int) (1 + t.depth - 1)) w1 := hi1
  rw [HD.out] at hi1'
  have c0 := Blk.cell hi1' 0 _ rfl
  have HF1 := Lib.hid (fr_above HB.out hf1 HB.out.size (fun i hi => by have h1 : i = w.heap.size + 1 := hi; omega))
  clear hi1 hf1 hi1'
  go_wp2
  go_ret
  exact ⟨rfl, HF1.out⟩
end Go.Proofs.Ytkhpihacjhhklaa
