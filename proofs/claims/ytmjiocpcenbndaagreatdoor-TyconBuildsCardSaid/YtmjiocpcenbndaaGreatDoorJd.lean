/-
  Walks of layer 8's code: slices.Backward over kinds: its closure hands every kind of the row to a loop's body, the last one first.
-/
import Derived.RangeFuncNested
import Derived.RangeFuncBound
import Derived.RangeFuncCalls
import Derived.RangeFuncLeaves
import Derived.Shelf.Abstract
import Derived.Shelf.RegionOpen
import Derived.WalkKit
import Derived.OwnWalkIn
import Derived.TacticsInMore
import Derived.LoopNIn
import Derived.LoopIn
import Derived.Test.YtmjiocpcenbndaaGreatDoorJb
namespace Go.Proofs.YtmjiocpcenbndaaGreatDoor
open Go Go.RowKit Go.Shelf
open Pl (K)
set_option linter.unusedSimpArgs false

attribute [local go_sem] Oper.semAt_some
/-- what has come when k rounds are over: n - 1, n - 2 .. -/
def down (n k : Nat) : List Nat := (List.range k).map (fun i => n - 1 - i)
theorem down_succ (n k : Nat) : down n (k + 1) = down n k ++ [n - 1 - k] := by simp [down, List.range_succ]
theorem down_length (n k : Nat) : (down n k).length = k := by simp [down]
/-- what a round keeps: what lay below n₀, and the block Bs -/
def KpB (n₀ Bs : Nat) (W W' : World) : Prop := Below n₀ W W' ∧ W'.heap[Bs]? = W.heap[Bs]?
theorem KpB.trans {n₀ Bs : Nat} {A B C : World} (h : KpB n₀ Bs A B) (k : KpB n₀ Bs B C) : KpB n₀ Bs A C := ⟨h.1.trans k.1, k.2.trans h.2⟩
theorem KpB.cell {n₀ Bs : Nat} {A B : World} (h : KpB n₀ Bs A B) (o : Nat) : B.cell? ⟨Bs, o, none⟩ = A.cell? ⟨Bs, o, none⟩ := by
  have := h.2
  simp only [World.cell?, this]
theorem kpB_b {n₀ Bs : Nat} {w : World} (hn : n₀ ≤ w.heap.size) (hB : Bs < w.heap.size) (W : World) (l : Nat) (o o' : Obj) (hl : w.heap.size ≤ l) (h : W.heap[l]? = some o) (h1 : o.isCells = false) (h2 : o.isWalk = false) : KpB n₀ Bs W (W.putObj l o') :=
  ⟨belowK_b hn W l o o' hl h h1 h2, World.putObj_heap_other (by omega)⟩
/-- a loop variable's two values: the number, and the kind there -/
def encB (va : Nat → Option Addr) (vn vc : Nat → Nat) (j : Nat) : Array Value := #[.int .i64 (j : Int), .agg #[.slice (va j) (vn j) (vc j)]]
set_option maxRecDepth 100000 in
set_option maxHeartbeats 2000000 in
theorem backward1_in (F : Fence) (n : Nat) (h7 : F.fn 128) (hro : F.round = none) (hn : 1 ≤ n) (l Bs n₀ len cap : Nat) (a : Option Addr) (va : Nat → Option Addr) (vn vc : Nat → Nat) (hlen : len ≤ 9223372036854775807) (J Jx : List Nat → World → Prop)
    (hY : ∀ pre x W, J pre W → pre.length < len → YieldAt F (n - 1) Tryz.prog l (encB va vn vc x) W fun e W' =>
      (e = .returned (.bool true) ∧ J (pre ++ [x]) W' ∧ KpB n₀ Bs W W') ∨ (e = .returned (.bool false) ∧ Jx (pre ++ [x]) W'))
    (W : World) (hBs : W.cell? ⟨Bs, 0, none⟩ = some (.slice a len cap)) (hc : ∀ j, j < len → ∃ b off, a = some ⟨b, off, none⟩ ∧ b < n₀ ∧ W.cell? ⟨b, off + j, none⟩ = some (.slice (va j) (vn j) (vc j))) (h0 : J [] W) :
    CallsIn F n Tryz.prog 128 #[.func (.yield l) #[] #[], .pointer (some ⟨Bs, 0, none⟩)] W fun e W' => (∃ v, e = .returned v) ∧
      ((∃ ys, ys = down len len ∧ J ys W') ∨ (∃ pre, True ∧ Jx pre W')) := by
  have HC := Lib.hid hc
  clear hc
  have w0 : wrap64 ((len : Int) - 1) = (len : Int) - 1 := by rw [wrap64]; omega
  refine callsIn_of_wp Tryz.func128 rfl h7 ?_ hro
  simp only [Tryz.ntmps128, List.size_toArray, List.length_cons, List.length_nil, Nat.reduceAdd, Nat.reduceSub, Array.replicate_succ, Array.replicate_zero, List.push_toArray, List.append_toArray, List.nil_append, List.cons_append]
  gi_wp2
  gi_loopw [3] (fun i wr => ∃ k : Nat, k ≤ len ∧ i = .int .i64 ((k : Int) - 1) ∧ J (down len (len - k)) wr ∧ KpB n₀ Bs W wr)
    (fun i _ => (intOf i + 1).toNat)
  case atStart => exact ⟨len, Nat.le_refl _, rfl, by rw [Nat.sub_self]; exact h0, Below.refl _ _, rfl⟩
  case round =>
    obtain ⟨k, hk, rfl, hJs, hnx⟩ := hrel
    have hbs := (hnx.cell 0).trans hBs
    cases k with
    | zero =>
      rw [Nat.sub_zero] at hJs
      gi_wp2
      go_end0
      exact ⟨⟨_, rfl⟩, .inl ⟨_, rfl, hJs⟩⟩
    | succ k =>
      have e1 : (((k + 1 : Nat) : Int) - 1) = (k : Int) := by omega
      rw [e1]
      clear e1
      obtain ⟨b, off, rfl, hb, hcell⟩ := HC.out k (by omega)
      obtain ⟨fn, tmps, assign, body, hy, hR⟩ := hY _ k wr hJs (by rw [down_length]; omega)
      have hcx := (hnx.1.cell (p := ⟨b, off + k, none⟩) hb).trans hcell
      have w1 : wrap64 ((k : Int) - 1) = (k : Int) - 1 := by rw [wrap64]; omega
      have q1 : decide ((0 : Int) ≤ (k : Int)) = true := decide_eq_true (by omega)
      have hkl : k < len := by omega
      unfold encB at hy
      gi_wp2
      refine hR.mono ?_
      rintro e W3 (⟨rfl, hJ3, hk3⟩ | ⟨rfl, hJx3⟩)
      · gi_wp2
        go_roundw
        case rel =>
          refine ⟨k, by omega, rfl, ?_, hnx.trans hk3⟩
          have e3 : len - k = len - (k + 1) + 1 := by omega
          rw [e3, down_succ, show len - 1 - (len - (k + 1)) = k by omega]
          exact hJ3
        case measure => first | (simp [intOf]; done) | (simp [intOf]; omega)
      · gi_wp2
        refine bodyPost_ret (results_none rfl _ _ _) rfl ?_
        exact ⟨⟨_, rfl⟩, .inr ⟨_, trivial, hJx3⟩⟩
set_option maxHeartbeats 1000000 in
theorem backward_any (a : Option Addr) (len cap : Nat) (w : World) :
    Calls Tryz.prog 112 #[.slice a len cap] w fun e w' => e = .returned (.func (.func 128) #[] #[.pointer (some ⟨w.heap.size, 0, none⟩)]) ∧ w' = w.alloc (.cells #[.slice a len cap] 22) := by
  go_enter Tryz.func112, Tryz.ntmps112
  go_wp2
  go_ret
  exact ⟨rfl, rfl⟩
/-- what slices.Backward hands back serves every body that keeps what lay below n₀ -/
theorem backward_stops (F : Fence) (n : Nat) (h7 : F.fn 128) (hro : F.round = none) (hn : 1 ≤ n) (Bs n₀ len cap : Nat) (a : Option Addr) (va : Nat → Option Addr) (vn vc : Nat → Nat) (hlen : len ≤ 9223372036854775807) (w : World) (hlt : Bs < w.heap.size) (hn₀ : n₀ ≤ w.heap.size)
    (hBs : w.cell? ⟨Bs, 0, none⟩ = some (.slice a len cap)) (hc : ∀ j, j < len → ∃ b off, a = some ⟨b, off, none⟩ ∧ b < n₀ ∧ w.cell? ⟨b, off + j, none⟩ = some (.slice (va j) (vn j) (vc j))) :
    SeqStopsK F n Tryz.prog 128 #[.pointer (some ⟨Bs, 0, none⟩)] (encB va vn vc) (KpB n₀ Bs) (fun ys => ys = down len len) (fun _ => True) len w := fun l J Jx W hW _ _ hY h0 => by
  refine backward1_in F n h7 hro hn l Bs n₀ len cap a va vn vc hlen J Jx hY W ((hW.cell (p := ⟨Bs, 0, none⟩) hlt).trans hBs) ?_ h0
  intro j hj
  obtain ⟨b, off, h1, h2, h3⟩ := hc j hj
  exact ⟨b, off, h1, h2, (hW.cell (p := ⟨b, off + j, none⟩) (Nat.lt_of_lt_of_le h2 hn₀)).trans h3⟩
end Go.Proofs.YtmjiocpcenbndaaGreatDoor
