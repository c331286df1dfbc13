/-
  Walks of layer 3: Size and Depth.
-/
import Derived.Test.YtkhpihacjhhklaaSn
import Derived.Laws.EntriesVeiled
namespace Go.Proofs.Ytkhpihacjhhklaa
open Go Go.RowKit
open Pl (Syn)

set_option maxRecDepth 100000 in
set_option maxHeartbeats 4000000 in
theorem visit_any (V : Visitor) (HV : V.Good) (P : Nat → Prop) (t : Syn) (σ : V.St) (γ : V.G) (w : World) (v : Value) (hi : V.Inv σ γ w) (hP : ∀ b, P b → b < w.heap.size ∧ ¬ V.own γ b) (ht : SynV w P t v) (hbig : t.big ≤ 1073741824) (hcnt : V.cnt σ + t.size ≤ 1073741824) :
    Calls Try.prog 35 #[v, .func (.func V.fid) #[] #[.pointer (some ⟨V.g, 0, none⟩)]] w (V.Post γ (V.run σ t 0 1) w) := by
  have hsb := Pl.size_big t
  have HT := Lib.hid ht
  obtain ⟨na, nn, nc, la, ln, lc, rfl⟩ := ht.form
  have hb : Below w.heap.size w (((w.alloc (.cells #[.int .i64 t.op, .int .i64 t.n, .string t.s, .slice na nn nc, .slice la ln lc] 25)).alloc (.cells #[.func (.func V.fid) #[] #[.pointer (some ⟨V.g, 0, none⟩)]] 52)).alloc (.cells #[.func (.func 57) #[] #[.pointer (some ⟨w.heap.size + 1, 0, none⟩), .pointer (some ⟨w.heap.size + 1 + 1, 0, none⟩)]] 52)) :=
    ((((Below.refl _ _).alloc (Nat.le_refl _) _).alloc (by simp) _).alloc (by simp; omega) _)
  have hat : V.At (w.heap.size + 1) (w.heap.size + 1 + 1) P σ γ (((w.alloc (.cells #[.int .i64 t.op, .int .i64 t.n, .string t.s, .slice na nn nc, .slice la ln lc] 25)).alloc (.cells #[.func (.func V.fid) #[] #[.pointer (some ⟨V.g, 0, none⟩)]] 52)).alloc (.cells #[.func (.func 57) #[] #[.pointer (some ⟨w.heap.size + 1, 0, none⟩), .pointer (some ⟨w.heap.size + 1 + 1, 0, none⟩)]] 52)) := by
    refine ⟨HV.keep σ γ _ _ hi hb, ?_, ?_, fun ho => ?_, fun ho => ?_, fun b hbp => ⟨?_, (hP b hbp).2⟩⟩
    · have := blk_new (w.alloc (.cells #[.int .i64 t.op, .int .i64 t.n, .string t.s, .slice na nn nc, .slice la ln lc] 25)) #[.func (.func V.fid) #[] #[.pointer (some ⟨V.g, 0, none⟩)]] 52
      rw [size_alloc] at this
      exact this.alloc _
    · have := blk_new ((w.alloc (.cells #[.int .i64 t.op, .int .i64 t.n, .string t.s, .slice na nn nc, .slice la ln lc] 25)).alloc (.cells #[.func (.func V.fid) #[] #[.pointer (some ⟨V.g, 0, none⟩)]] 52)) #[.func (.func 57) #[] #[.pointer (some ⟨w.heap.size + 1, 0, none⟩), .pointer (some ⟨w.heap.size + 1 + 1, 0, none⟩)]] 52
      rw [size_alloc, size_alloc] at this
      exact this
    · have := HV.lt σ γ w _ hi ho; omega
    · have := HV.lt σ γ w _ hi ho; omega
    · have := (hP b hbp).1
      rw [size_alloc, size_alloc, size_alloc]; omega
  have HC := Lib.hid (descend_any V HV _ _ P t σ γ _ (.agg #[.int .i64 t.op, .int .i64 t.n, .string t.s, .slice na nn nc, .slice la ln lc]) 0 1 hat (HT.out.keep (Same.of_below hb (fun b hb => (hP b hb).1))) hbig hcnt (by omega) (by omega))
  have HF := Lib.hid (Fr.of_below (o := V.own γ) hb)
  clear ht hat hb hi hP
  have c9 : (((w.alloc (.cells #[.int .i64 t.op, .int .i64 t.n, .string t.s, .slice na nn nc, .slice la ln lc] 25)).alloc (.cells #[.func (.func V.fid) #[] #[.pointer (some ⟨V.g, 0, none⟩)]] 52)).alloc (.cells #[.nilFunc] 52)).cell? ⟨w.heap.size + 1 + 1, 0, none⟩ = some .nilFunc := by
    have := (blk_new ((w.alloc (.cells #[.int .i64 t.op, .int .i64 t.n, .string t.s, .slice na nn nc, .slice la ln lc] 25)).alloc (.cells #[.func (.func V.fid) #[] #[.pointer (some ⟨V.g, 0, none⟩)]] 52)) #[.nilFunc] 52).cell 0 _ rfl
    rw [size_alloc, size_alloc] at this
    exact this
  go_enter Try.func35, Try.ntmps35
  go_wp2_with fail
  refine HC.out.mono ?_
  rintro e w1 ⟨rfl, γ1, hi1, hf1⟩
  have HI := Lib.hid hi1
  have HF1 := Lib.hid (HF.out.trans hf1)
  clear hi1 hf1
  go_wp2
  go_ret
  exact ⟨rfl, γ1, HI.out, HF1.out⟩

/-- a number that a visit counts with -/
def Cell1 (g : Nat) (n : Int) (w : World) : Prop := Blk w g 3 #[.int .i64 n]
theorem Cell1.below {g : Nat} {n : Int} {w w' : World} (h : Cell1 g n w) (hb : Below w.heap.size w w') : Cell1 g n w' := h.of_eq (hb.block _ h.lt)
theorem fr_set {g : Nat} {w w1 : World} (v : Value) (j : Nat) (hb : Below w.heap.size w w1) : Fr (· = g) (· = g) w (w1.setCell ⟨g, j, none⟩ v) :=
  ⟨hb.os, hb.tape, hb.output, by simpa [World.setCell] using hb.size, fun i hi hn => (Below.heap_setCell w1 ⟨g, j, none⟩ v i hn).trans (hb.block i hi), fun _ h => .inl h⟩
/-- Size's function -/
abbrev sizeV (g : Nat) : Visitor where
  St := Nat
  fid := 36
  g := g
  G := Unit
  Inv n _ w := Cell1 g n w
  own _ i := i = g
  cnt n := n
  next n _ _ _ := (n + 1, true)
set_option maxRecDepth 100000 in
set_option maxHeartbeats 4000000 in
theorem size1_any (g n : Nat) (w : World) (t : Syn) (v : Value) (P : Nat → Prop) (around depth : Int) (hi : Cell1 g n w) (ht : SynV w P t v) (hn : n < 1073741824) :
    Calls Try.prog 36 #[v, .int .i64 around, .int .i64 depth, .pointer (some ⟨g, 0, none⟩)] w fun e w' => e = .returned (.bool true) ∧ Cell1 g (n + 1 : Nat) w' ∧ Fr (· = g) (· = g) w w' := by
  obtain ⟨na, nn, nc, la, ln, lc, rfl⟩ := ht.form
  have hb : Below w.heap.size w (w.alloc (.cells #[.int .i64 t.op, .int .i64 t.n, .string t.s, .slice na nn nc, .slice la ln lc] 25)) := (Below.refl _ _).alloc (Nat.le_refl _) _
  have hi1 := hi.below hb
  have c0 := Blk.cell hi1 0 _ rfl
  have f0 := Blk.thaw hi1 0
  have hgl := Blk.lt hi
  have HI := Lib.hid hi
  clear hb hi hi1 ht
  go_enter Try.func36, Try.ntmps36
  go_wp2
  go_ret
  exact ⟨rfl, by have := (Blk.set HI.out 0 (.int .i64 (n + 1))).alloc (.cells #[.int .i64 t.op, .int .i64 t.n, .string t.s, .slice na nn nc, .slice la ln lc] 25); simpa [Cell1] using this, (fr_set _ 0 (Below.refl _ _)).alloc _⟩
theorem size_good (g : Nat) : (sizeV g).Good where
  enter := by
    intro args w
    show Sem.run Try.prog (callFunc 36 args) w = .ok (.enter 36 args) w
    kernel_rfl
  calls := fun σ γ w P t v around depth hi ht hP hb hc h0 h1 => (size1_any g σ w t v P around depth hi ht hc).mono fun e w' h => ⟨h.1, (), h.2.1, h.2.2⟩
  keep := fun σ γ w w' hi hb => Cell1.below hi hb
  lt := fun σ γ w i hi ho => by
    have h : i = g := ho
    subst h; exact Blk.lt hi
  cnt_le := fun σ t around depth => Nat.le_refl _
end Go.Proofs.Ytkhpihacjhhklaa
