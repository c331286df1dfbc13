/-
  Walks and plain mathematics, several texts in one (Yd Ye).
-/
import Derived.Test.YtkhpihacjhhklaaG17
/-
  Walks of layer 3: a tree with another one at a place.
-/
namespace Go.Proofs.Ytkhpihacjhhklaa
open Go Go.RowKit
open Pl (Syn)
set_option linter.unusedSimpArgs false

def zeroSyn : Value := .agg #[.int .i64 0, .int .i64 0, .string ByteArray.empty, .slice none 0 0, .slice none 0 0]
/-- a place: a slice of numbers -/
def AtSl (w : World) (v : Value) (cs : List Int) : Prop := ∃ a c, v = .slice a cs.length c ∧ cs.length ≤ c ∧ c ≤ maxLen ∧ (cs = [] ∨ ∃ b off, a = some ⟨b, off, none⟩ ∧ b < w.heap.size ∧ IntsAt w b off cs)
theorem AtSl.below {w w' : World} {v : Value} {cs : List Int} (h : AtSl w v cs) (hb : Below w.heap.size w w') : AtSl w' v cs := by
  obtain ⟨a, c, h1, h2, h3, h4⟩ := h
  refine ⟨a, c, h1, h2, h3, ?_⟩
  rcases h4 with h4 | ⟨b, off, h4, h5, h6⟩
  · exact .inl h4
  · exact .inr ⟨b, off, h4, Nat.lt_of_lt_of_le h5 hb.size, fun j hj => (hb.cell (p := ⟨b, off + j, none⟩) h5).trans (h6 j hj)⟩
theorem AtSl.head {w : World} {v : Value} {i : Int} {r : List Int} (h : AtSl w v (i :: r)) : ∃ b off c, v = .slice (some ⟨b, off, none⟩) (r.length + 1) c ∧ r.length + 1 ≤ c ∧ c ≤ maxLen ∧ b < w.heap.size ∧ w.cell? ⟨b, off, none⟩ = some (.int .i64 i) ∧ AtSl w (.slice (some ⟨b, off + 1, none⟩) r.length (c - 1)) r := by
  obtain ⟨a, c, rfl, h1, h2, h3⟩ := h
  rcases h3 with h3 | ⟨b, off, rfl, h4, h5⟩
  · cases h3
  · refine ⟨b, off, c, rfl, h1, h2, h4, by have := h5 0 (Nat.zero_lt_succ _); rw [Nat.add_zero] at this; exact this, _, c - 1, rfl, by simp at h1; omega, by omega, .inr ⟨b, off + 1, rfl, h4, fun j hj => ?_⟩⟩
    have := h5 (j + 1) (by simpa using hj)
    rw [show off + (j + 1) = off + 1 + j from by omega] at this
    simpa using this
/-- an element of a fresh list is another tree -/
theorem FreshSl.put {w : World} {base : Nat} {Q R S : Nat → Prop} {g c m n : Nat} {l : List Syn} {y : Syn} {x0 x1 x2 x3 x4 : Value} (h : FreshSl w base Q (.slice (some ⟨g, 0, none⟩) n c) l) (hm : m < l.length) (hy : SynV w R y (.agg #[x0, x1, x2, x3, x4])) (hQ : ∀ b, Q b → b ≠ g ∧ S b) (hR : ∀ b, R b → b ≠ g ∧ S b) (hS : S g) :
    SynSl (store5 w g (m * 5) x0 x1 x2 x3 x4) S (.slice (some ⟨g, 0, none⟩) n c) (l.set m y) := by
  obtain ⟨a, c', he, h1, h2, h3, h4⟩ := h
  injection he with e1 e2 e3
  subst e1 e2 e3
  rcases h4 with h4 | ⟨g', cur, he, hbg, hblk, hsz, hj⟩
  · rw [h4] at hm; simp at hm
  injection he with he
  injection he with he
  subst he
  refine ⟨_, c, by rw [List.length_set], by rw [List.length_set]; exact h1, h2, h3, .inr ⟨g, 0, rfl, hS, ?_⟩⟩
  rw [kidsAt_iff]
  intro j hj'
  rw [List.length_set] at hj'
  have hb := store5_blk hblk (m * 5) x0 x1 x2 x3 x4
  by_cases hjm : j = m
  · subst hjm
    rw [List.getElem_set_self]
    exact ⟨_, by rw [Nat.zero_add]; exact (put5_in cur (j * 5) x0 x1 x2 x3 x4 (by omega)).at hb, (hy.keep (fun b hb1 => store5_other _ _ _ _ _ _ _ _ b (hR b hb1).1)).mono (fun b hb1 => (hR b hb1).2)⟩
  · rw [List.getElem_set_ne (fun e => hjm e.symm)]
    obtain ⟨x, hx, hs⟩ := hj j hj'
    exact ⟨x, by rw [Nat.zero_add]; exact (put5_other cur (m * 5) x0 x1 x2 x3 x4 (j * 5) x (by omega) hx).at hb, (hs.keep (fun b hb1 => store5_other _ _ _ _ _ _ _ _ b (hQ b hb1).1)).mono (fun b hb1 => (hQ b hb1).2)⟩
def RepPost (P Q : Nat → Prop) (x : Option Syn) (w : World) (e : Ending) (w' : World) : Prop :=
  (match x with
    | some y => ∃ v, e = .returned (.tuple #[v, .bool true]) ∧ SynV w' (fun b => P b ∨ Q b ∨ (w.heap.size ≤ b ∧ b < w'.heap.size)) y v
    | none => e = .returned (.tuple #[zeroSyn, .bool false])) ∧ Below w.heap.size w w'
/-- a cell of the call's own has been laid or written behind a call: what stays -/
structure Fin (w w5 wF : World) (pb : Nat) (cs : Array Value) : Prop where
  below : Below w.heap.size w wF
  part : Blk wF pb 25 cs
  same : ∀ b, b ≠ pb → b < w5.heap.size → wF.heap[b]? = w5.heap[b]?
  size : w5.heap.size ≤ wF.heap.size
  big : w.heap.size + 3 ≤ pb
theorem fin_alloc {w w5 : World} (hb : Below w.heap.size w w5) (hs : w.heap.size + 3 ≤ w5.heap.size) (cs : Array Value) : Fin w w5 (w5.alloc (.cells cs 25)) w5.heap.size cs :=
  ⟨hb.alloc hb.size _, blk_new w5 cs _, fun b _ hlt => Below.heap_alloc _ _ b hlt, by rw [size_alloc]; omega, hs⟩
theorem fin_store {w w5 : World} {pb : Nat} {y0 y1 y2 y3 y4 : Value} (hb : Below w.heap.size w w5) (hp : Blk w5 pb 25 #[y0, y1, y2, y3, y4]) (hs : w.heap.size + 3 ≤ pb) (x0 x1 x2 x3 x4 : Value) : Fin w w5 (store5 w5 pb 0 x0 x1 x2 x3 x4) pb #[x0, x1, x2, x3, x4] :=
  ⟨store5_below hb _ _ _ _ _ _ _ (by omega), by have := store5_blk hp 0 x0 x1 x2 x3 x4; simpa [put5] using this, fun b hne _ => store5_other _ _ _ _ _ _ _ _ b hne, by rw [store5_size]; exact Nat.le_refl _, hs⟩
set_option maxRecDepth 100000 in
set_option maxHeartbeats 4000000 in
theorem replaced_out (op n : Int) (s : ByteArray) (na : Option Addr) (nn nc : Nat) (la : Option Addr) (ln lc : Nat) (bop bn : Int) (bs : ByteArray) (ma : Option Addr) (mn mc : Nat) (ka : Option Addr) (kn kc ab ao rn ac : Nat) (i : Int) (w : World) (habl : ab < w.heap.size) (hai : w.cell? ⟨ab, ao, none⟩ = some (.int .i64 i)) (h : i < 0 ∨ (ln : Int) ≤ i) (hrn : rn < 9223372036854775807) :
    Calls Try.prog 46 #[.agg #[.int .i64 op, .int .i64 n, .string s, .slice na nn nc, .slice la ln lc], .slice (some ⟨ab, ao, none⟩) (rn + 1) ac, .agg #[.int .i64 bop, .int .i64 bn, .string bs, .slice ma mn mc, .slice ka kn kc]] w fun e w' => e = .returned (.tuple #[zeroSyn, .bool false]) ∧ Below w.heap.size w w' := by
  have hbx := boxes_new w #[.int .i64 op, .int .i64 n, .string s, .slice na nn nc, .slice la ln lc] #[.int .i64 bop, .int .i64 bn, .string bs, .slice ma mn mc, .slice ka kn kc]
  have hbz := blk_new ((w.alloc (.cells #[.int .i64 op, .int .i64 n, .string s, .slice na nn nc, .slice la ln lc] 25)).alloc (.cells #[.int .i64 bop, .int .i64 bn, .string bs, .slice ma mn mc, .slice ka kn kc] 25)) #[.int .i64 0, .int .i64 0, .string ⟨#[]⟩, .slice none 0 0, .slice none 0 0] 25
  rw [size_alloc, size_alloc] at hbz
  have HB0 := Lib.hid (show Below w.heap.size w (((w.alloc (.cells #[.int .i64 op, .int .i64 n, .string s, .slice na nn nc, .slice la ln lc] 25)).alloc (.cells #[.int .i64 bop, .int .i64 bn, .string bs, .slice ma mn mc, .slice ka kn kc] 25)).alloc (.cells #[.int .i64 0, .int .i64 0, .string ⟨#[]⟩, .slice none 0 0, .slice none 0 0] 25)) from (below2 w _ _).alloc (by simp; omega) _)
  have HT0 := Lib.hid (hbx.1.alloc (.cells #[.int .i64 0, .int .i64 0, .string ⟨#[]⟩, .slice none 0 0, .slice none 0 0] 25))
  have HY0 := Lib.hid (hbx.2.alloc (.cells #[.int .i64 0, .int .i64 0, .string ⟨#[]⟩, .slice none 0 0, .slice none 0 0] 25))
  have HZ0 := Lib.hid hbz
  have HSZ0 := Lib.hid (show (((w.alloc (.cells #[.int .i64 op, .int .i64 n, .string s, .slice na nn nc, .slice la ln lc] 25)).alloc (.cells #[.int .i64 bop, .int .i64 bn, .string bs, .slice ma mn mc, .slice ka kn kc] 25)).alloc (.cells #[.int .i64 0, .int .i64 0, .string ⟨#[]⟩, .slice none 0 0, .slice none 0 0] 25)).heap.size = w.heap.size + 3 by simp)
  have a0 := (HB0.out.cell (p := ⟨ab, ao, none⟩) habl).trans hai
  obtain ⟨x0, x1, x2, x3, x4⟩ := box_cells HT0.out
  obtain ⟨y0, y1, y2, y3, y4⟩ := box_cells HY0.out
  obtain ⟨z0, z1, z2, z3, z4⟩ := box_cells HZ0.out
  have t0 := HZ0.out.thaw 0
  have t1 := HZ0.out.thaw 1
  have t2 := HZ0.out.thaw 2
  have t3 := HZ0.out.thaw 3
  have t4 := HZ0.out.thaw 4
  clear hbx hbz hai habl
  have q9 : (((rn : Int) + 1) == 0) = false := beq_eq_false_iff_ne.2 (by omega)
  by_cases hneg : i < 0
  · have q1 : decide (i < 0) = true := decide_eq_true hneg
    clear hneg h
    go_enter Try.func46, Try.ntmps46
    go_wp2
    refine bodyPost_ret (v := .tuple #[zeroSyn, .bool false]) (by simp [results, Try.results46, go_sem, z0, z1, z2, z3, z4, zeroSyn]; try rfl) rfl ?_
    exact ⟨rfl, HB0.out⟩
  · have q1 : decide (i < 0) = false := decide_eq_false hneg
    have q2 : decide (i ≥ (ln : Int)) = true := decide_eq_true (by omega)
    have q3 : decide ((ln : Int) ≤ i) = true := decide_eq_true (by omega)
    clear hneg h
    go_enter Try.func46, Try.ntmps46
    go_wp2
    refine bodyPost_ret (v := .tuple #[zeroSyn, .bool false]) (by simp [results, Try.results46, go_sem, z0, z1, z2, z3, z4, zeroSyn]; try rfl) rfl ?_
    exact ⟨rfl, HB0.out⟩
set_option maxRecDepth 100000 in
set_option maxHeartbeats 8000000 in
theorem replaced_none (op n : Int) (s : ByteArray) (na : Option Addr) (nn nc b off ln lc : Nat) (bop bn : Int) (bs : ByteArray) (ma : Option Addr) (mn mc : Nat) (ka : Option Addr) (kn kc ab ao rn ac : Nat) (m : Nat) (hm : m < ln) (xo xn : Int) (xs : ByteArray) (xna : Option Addr) (xnn xnc : Nat) (xla : Option Addr) (xln xlc : Nat) (w : World) (habl : ab < w.heap.size) (hai : w.cell? ⟨ab, ao, none⟩ = some (.int .i64 (m : Int))) (hac1 : ac ≠ 1) (hrn : rn < 9223372036854775807) (hbl : b < w.heap.size)
    (e0 : w.cell? ⟨b, off + m * 5, none⟩ = some (.int .i64 xo)) (e1 : w.cell? ⟨b, off + m * 5 + 1, none⟩ = some (.int .i64 xn)) (e2 : w.cell? ⟨b, off + m * 5 + 2, none⟩ = some (.string xs)) (e3 : w.cell? ⟨b, off + m * 5 + 3, none⟩ = some (.slice xna xnn xnc)) (e4 : w.cell? ⟨b, off + m * 5 + 4, none⟩ = some (.slice xla xln xlc))
    (HI : ∀ W, Below w.heap.size w W → Calls Try.prog 46 #[.agg #[.int .i64 xo, .int .i64 xn, .string xs, .slice xna xnn xnc, .slice xla xln xlc], .slice (some ⟨ab, ao + 1, none⟩) rn (ac - 1), .agg #[.int .i64 bop, .int .i64 bn, .string bs, .slice ma mn mc, .slice ka kn kc]] W fun e w' => e = .returned (.tuple #[.agg #[.int .i64 0, .int .i64 0, .string ⟨#[]⟩, .slice none 0 0, .slice none 0 0], .bool false]) ∧ Below W.heap.size W w') :
    Calls Try.prog 46 #[.agg #[.int .i64 op, .int .i64 n, .string s, .slice na nn nc, .slice (some ⟨b, off, none⟩) ln lc], .slice (some ⟨ab, ao, none⟩) (rn + 1) ac, .agg #[.int .i64 bop, .int .i64 bn, .string bs, .slice ma mn mc, .slice ka kn kc]] w fun e w' => e = .returned (.tuple #[zeroSyn, .bool false]) ∧ Below w.heap.size w w' := by
  have hbx := boxes_new w #[.int .i64 op, .int .i64 n, .string s, .slice na nn nc, .slice (some ⟨b, off, none⟩) ln lc] #[.int .i64 bop, .int .i64 bn, .string bs, .slice ma mn mc, .slice ka kn kc]
  have hbz := blk_new ((w.alloc (.cells #[.int .i64 op, .int .i64 n, .string s, .slice na nn nc, .slice (some ⟨b, off, none⟩) ln lc] 25)).alloc (.cells #[.int .i64 bop, .int .i64 bn, .string bs, .slice ma mn mc, .slice ka kn kc] 25)) #[.int .i64 0, .int .i64 0, .string ⟨#[]⟩, .slice none 0 0, .slice none 0 0] 25
  rw [size_alloc, size_alloc] at hbz
  have HB0 := Lib.hid (show Below w.heap.size w (((w.alloc (.cells #[.int .i64 op, .int .i64 n, .string s, .slice na nn nc, .slice (some ⟨b, off, none⟩) ln lc] 25)).alloc (.cells #[.int .i64 bop, .int .i64 bn, .string bs, .slice ma mn mc, .slice ka kn kc] 25)).alloc (.cells #[.int .i64 0, .int .i64 0, .string ⟨#[]⟩, .slice none 0 0, .slice none 0 0] 25)) from (below2 w _ _).alloc (by simp; omega) _)
  have HT0 := Lib.hid (hbx.1.alloc (.cells #[.int .i64 0, .int .i64 0, .string ⟨#[]⟩, .slice none 0 0, .slice none 0 0] 25))
  have HY0 := Lib.hid (hbx.2.alloc (.cells #[.int .i64 0, .int .i64 0, .string ⟨#[]⟩, .slice none 0 0, .slice none 0 0] 25))
  have HZ0 := Lib.hid hbz
  have HSZ0 := Lib.hid (show (((w.alloc (.cells #[.int .i64 op, .int .i64 n, .string s, .slice na nn nc, .slice (some ⟨b, off, none⟩) ln lc] 25)).alloc (.cells #[.int .i64 bop, .int .i64 bn, .string bs, .slice ma mn mc, .slice ka kn kc] 25)).alloc (.cells #[.int .i64 0, .int .i64 0, .string ⟨#[]⟩, .slice none 0 0, .slice none 0 0] 25)).heap.size = w.heap.size + 3 by simp)
  have a0 := (HB0.out.cell (p := ⟨ab, ao, none⟩) habl).trans hai
  obtain ⟨x0, x1, x2, x3, x4⟩ := box_cells HT0.out
  obtain ⟨y0, y1, y2, y3, y4⟩ := box_cells HY0.out
  obtain ⟨z0, z1, z2, z3, z4⟩ := box_cells HZ0.out
  have t0 := HZ0.out.thaw 0
  have t1 := HZ0.out.thaw 1
  have t2 := HZ0.out.thaw 2
  have t3 := HZ0.out.thaw 3
  have t4 := HZ0.out.thaw 4
  clear hbx hbz hai habl
  have q9 : (((rn : Int) + 1) == 0) = false := beq_eq_false_iff_ne.2 (by omega)
  have q8 : (1 : Int) ≤ (rn : Int) + 1 := by omega
  have q1 : decide ((m : Int) < 0) = false := decide_eq_false (by omega)
  have q2 : decide ((m : Int) ≥ (ln : Int)) = false := decide_eq_false (by omega)
  have q3 : decide ((ln : Int) ≤ (m : Int)) = false := decide_eq_false (by omega)
  have HD0 := Lib.hid (fun p (hp : p < w.heap.size) o => (HB0.out.drew.cell (p := ⟨p, o, none⟩) hp))
  have HHI := Lib.hid HI
  have ee0 := (HB0.out.cell (p := ⟨b, off + m * 5, none⟩) hbl).trans e0
  have ee1 := (HB0.out.cell (p := ⟨b, off + m * 5 + 1, none⟩) hbl).trans e1
  have ee2 := (HB0.out.cell (p := ⟨b, off + m * 5 + 2, none⟩) hbl).trans e2
  have ee3 := (HB0.out.cell (p := ⟨b, off + m * 5 + 3, none⟩) hbl).trans e3
  have ee4 := (HB0.out.cell (p := ⟨b, off + m * 5 + 4, none⟩) hbl).trans e4
  have HE5 := Lib.hid (And.intro e0 (And.intro e1 (And.intro e2 (And.intro e3 e4))))
  have HBL := Lib.hid hbl
  clear e0 e1 e2 e3 e4 hbl HI
  go_enter Try.func46, Try.ntmps46
  go_wp2
  generalize hw0 : ((w.alloc (.cells #[.int .i64 op, .int .i64 n, .string s, .slice na nn nc, .slice (some ⟨b, off, none⟩) ln lc] 25)).alloc (.cells #[.int .i64 bop, .int .i64 bn, .string bs, .slice ma mn mc, .slice ka kn kc] 25)).alloc (.cells #[.int .i64 0, .int .i64 0, .string ⟨#[]⟩, .slice none 0 0, .slice none 0 0] 25) = w0 at HB0 HT0 HY0 HZ0 HSZ0 HD0 HHI a0 x0 x1 x2 x3 x4 y0 y1 y2 y3 y4 z0 z1 z2 z3 z4 t0 t1 t2 t3 t4 ee0 ee1 ee2 ee3 ee4 ⊢
  clear hw0
  have HBA := Lib.hid HB0.out.drew
  have HBB := Lib.hid (show Below w.heap.size w (w0.alloc (.cells #[.int .i64 0, .int .i64 0, .string ⟨#[]⟩, .slice none 0 0, .slice none 0 0] 25)).drew from (HB0.out.alloc HB0.out.size _).drew)
  have HPB := Lib.hid (show Blk (w0.alloc (.cells #[.int .i64 0, .int .i64 0, .string ⟨#[]⟩, .slice none 0 0, .slice none 0 0] 25)).drew w0.heap.size 25 #[.int .i64 0, .int .i64 0, .string ⟨#[]⟩, .slice none 0 0, .slice none 0 0] from blk_new w0 _ _)
  have HYB := Lib.hid (show Blk (w0.alloc (.cells #[.int .i64 0, .int .i64 0, .string ⟨#[]⟩, .slice none 0 0, .slice none 0 0] 25)).drew (w.heap.size + 1) 25 #[.int .i64 bop, .int .i64 bn, .string bs, .slice ma mn mc, .slice ka kn kc] from HY0.out.alloc _)
  have HTB := Lib.hid (show Blk (w0.alloc (.cells #[.int .i64 0, .int .i64 0, .string ⟨#[]⟩, .slice none 0 0, .slice none 0 0] 25)).drew w.heap.size 25 #[.int .i64 op, .int .i64 n, .string s, .slice na nn nc, .slice (some ⟨b, off, none⟩) ln lc] from HT0.out.alloc _)
  obtain ⟨by0, by1, by2, by3, by4⟩ := box_cells HYB.out
  obtain ⟨bt0, bt1, bt2, bt3, bt4⟩ := box_cells HTB.out
  have be0 := (HBB.out.cell (p := ⟨b, off + m * 5, none⟩) HBL.out).trans HE5.out.1
  have be1 := (HBB.out.cell (p := ⟨b, off + m * 5 + 1, none⟩) HBL.out).trans HE5.out.2.1
  have be2 := (HBB.out.cell (p := ⟨b, off + m * 5 + 2, none⟩) HBL.out).trans HE5.out.2.2.1
  have be3 := (HBB.out.cell (p := ⟨b, off + m * 5 + 3, none⟩) HBL.out).trans HE5.out.2.2.2.1
  have be4 := (HBB.out.cell (p := ⟨b, off + m * 5 + 4, none⟩) HBL.out).trans HE5.out.2.2.2.2
  go_region_law (first
    | (go_simp; go_at_call 46; with_reducible refine (HHI.out _ HBA.out).mono ?_; rintro e w5 ⟨rfl, hb5⟩; have HW5 := Lib.hid (belowStep hb5 ((Below.refl w0.heap.size w0).drew)); have HB5 := Lib.hid (belowStep hb5 HBA.out); have HZ5 := Lib.hid (Blk.of_eq HZ0.out (HW5.out.block _ (Blk.lt HZ0.out))); clear hb5)
    | (go_simp; go_at_call 46; with_reducible refine (HHI.out _ HBB.out).mono ?_; rintro e w5 ⟨rfl, hb5⟩; have HW5 := Lib.hid (belowStep hb5 (((Below.refl w0.heap.size w0).alloc (Nat.le_refl _) _).drew)); have hpb := Blk.of_eq HPB.out (hb5.block _ (Blk.lt HPB.out)); have HB5 := Lib.hid (belowStep hb5 HBB.out); obtain ⟨p0, p1, p2, p3, p4⟩ := box_cells hpb; have r0 := hpb.thaw 0; have r1 := hpb.thaw 1; have r2 := hpb.thaw 2; have r3 := hpb.thaw 3; have r4 := hpb.thaw 4; have HZ5 := Lib.hid (Blk.of_eq HZ0.out (HW5.out.block _ (Blk.lt HZ0.out))); clear hb5))
  all_goals
    first
      | (have HF := Lib.hid (show Fin w w5 ((((((w5.setCell ⟨w0.heap.size, 0, none⟩ (.int .i64 0)).setCell ⟨w0.heap.size, 1, none⟩ (.int .i64 0)).setCell ⟨w0.heap.size, 2, none⟩ (.string ⟨#[]⟩)).setCell ⟨w0.heap.size, 3, none⟩ (.slice none 0 0)).setCell ⟨w0.heap.size, 4, none⟩ (.slice none 0 0))) w0.heap.size #[.int .i64 0, .int .i64 0, .string ⟨#[]⟩, .slice none 0 0, .slice none 0 0] from fin_store (w := w) (w5 := w5) HB5.out hpb (by have := HSZ0.out; omega) (.int .i64 0) (.int .i64 0) (.string ⟨#[]⟩) (.slice none 0 0) (.slice none 0 0)); have hpp : w.heap.size + 2 < w0.heap.size := (by have := HSZ0.out; omega); generalize hwf : (((((w5.setCell ⟨w0.heap.size, 0, none⟩ (.int .i64 0)).setCell ⟨w0.heap.size, 1, none⟩ (.int .i64 0)).setCell ⟨w0.heap.size, 2, none⟩ (.string ⟨#[]⟩)).setCell ⟨w0.heap.size, 3, none⟩ (.slice none 0 0)).setCell ⟨w0.heap.size, 4, none⟩ (.slice none 0 0)) = wF at HF ⊢; generalize w0.heap.size = pb at HF hpp ⊢)
      | (have HF := Lib.hid (fin_alloc (w := w) (w5 := w5) HB5.out (by have := HW5.out.size; have := HSZ0.out; omega) #[.int .i64 0, .int .i64 0, .string ⟨#[]⟩, .slice none 0 0, .slice none 0 0]); have hpp : w.heap.size + 2 < w5.heap.size := (by have := HW5.out.size; have := HSZ0.out; omega); generalize hwf : w5.alloc (.cells #[.int .i64 0, .int .i64 0, .string ⟨#[]⟩, .slice none 0 0, .slice none 0 0] 25) = wF at HF ⊢; generalize w5.heap.size = pb at HF hpp ⊢)
    clear hwf
    clear a0 x0 x1 x2 x3 x4 y0 y1 y2 y3 y4 z0 z1 z2 z3 z4 t0 t1 t2 t3 t4 ee0 ee1 ee2 ee3 ee4 by0 by1 by2 by3 by4 bt0 bt1 bt2 bt3 bt4 be0 be1 be2 be3 be4 q1 q2 q3 q8 q9
    try clear p0 p1 p2 p3 p4 r0 r1 r2 r3 r4 hpb
    have HZF := Lib.hid (Blk.of_eq HZ5.out (HF.out.same _ (by omega) (Blk.lt HZ5.out)))
    obtain ⟨f0, f1, f2, f3, f4⟩ := box_cells HZF.out
    have h0 := HZF.out.thaw 0
    have h1 := HZF.out.thaw 1
    have h2 := HZF.out.thaw 2
    have h3 := HZF.out.thaw 3
    have h4 := HZF.out.thaw 4
    go_wp2
    have HEND := (store5_below HF.out.below (w.heap.size + 1 + 1) 0 (.int .i64 0) (.int .i64 0) (.string ⟨#[]⟩) (.slice none 0 0) (.slice none 0 0) (by omega))
    have HENB := (store5_blk HZF.out 0 (.int .i64 0) (.int .i64 0) (.string ⟨#[]⟩) (.slice none 0 0) (.slice none 0 0))
    unfold store5 at HEND HENB
    simp only [Nat.zero_add] at HEND HENB
    obtain ⟨k0, k1, k2, k3, k4⟩ := box_cells (by simpa [put5] using HENB)
    refine bodyPost_ret (v := .tuple #[zeroSyn, .bool false]) (by simp [results, Try.results46, go_sem, k0, k1, k2, k3, k4, zeroSyn]; try rfl) rfl ?_
    exact ⟨rfl, HEND⟩
set_option maxRecDepth 100000 in
set_option maxHeartbeats 8000000 in
theorem replaced_noneB (op n : Int) (s : ByteArray) (na : Option Addr) (nn nc b off ln lc : Nat) (bop bn : Int) (bs : ByteArray) (ma : Option Addr) (mn mc : Nat) (ka : Option Addr) (kn kc ab ao : Nat) (m : Nat) (hm : m < ln) (xo xn : Int) (xs : ByteArray) (xna : Option Addr) (xnn xnc : Nat) (xla : Option Addr) (xln xlc : Nat) (w : World) (habl : ab < w.heap.size) (hai : w.cell? ⟨ab, ao, none⟩ = some (.int .i64 (m : Int))) (hbl : b < w.heap.size)
    (e0 : w.cell? ⟨b, off + m * 5, none⟩ = some (.int .i64 xo)) (e1 : w.cell? ⟨b, off + m * 5 + 1, none⟩ = some (.int .i64 xn)) (e2 : w.cell? ⟨b, off + m * 5 + 2, none⟩ = some (.string xs)) (e3 : w.cell? ⟨b, off + m * 5 + 3, none⟩ = some (.slice xna xnn xnc)) (e4 : w.cell? ⟨b, off + m * 5 + 4, none⟩ = some (.slice xla xln xlc))
    (HI : ∀ W, Below w.heap.size w W → Calls Try.prog 46 #[.agg #[.int .i64 xo, .int .i64 xn, .string xs, .slice xna xnn xnc, .slice xla xln xlc], .slice (some ⟨ab, ao, none⟩) 0 0, .agg #[.int .i64 bop, .int .i64 bn, .string bs, .slice ma mn mc, .slice ka kn kc]] W fun e w' => e = .returned (.tuple #[.agg #[.int .i64 0, .int .i64 0, .string ⟨#[]⟩, .slice none 0 0, .slice none 0 0], .bool false]) ∧ Below W.heap.size W w') :
    Calls Try.prog 46 #[.agg #[.int .i64 op, .int .i64 n, .string s, .slice na nn nc, .slice (some ⟨b, off, none⟩) ln lc], .slice (some ⟨ab, ao, none⟩) 1 1, .agg #[.int .i64 bop, .int .i64 bn, .string bs, .slice ma mn mc, .slice ka kn kc]] w fun e w' => e = .returned (.tuple #[zeroSyn, .bool false]) ∧ Below w.heap.size w w' := by
  have hbx := boxes_new w #[.int .i64 op, .int .i64 n, .string s, .slice na nn nc, .slice (some ⟨b, off, none⟩) ln lc] #[.int .i64 bop, .int .i64 bn, .string bs, .slice ma mn mc, .slice ka kn kc]
  have hbz := blk_new ((w.alloc (.cells #[.int .i64 op, .int .i64 n, .string s, .slice na nn nc, .slice (some ⟨b, off, none⟩) ln lc] 25)).alloc (.cells #[.int .i64 bop, .int .i64 bn, .string bs, .slice ma mn mc, .slice ka kn kc] 25)) #[.int .i64 0, .int .i64 0, .string ⟨#[]⟩, .slice none 0 0, .slice none 0 0] 25
  rw [size_alloc, size_alloc] at hbz
  have HB0 := Lib.hid (show Below w.heap.size w (((w.alloc (.cells #[.int .i64 op, .int .i64 n, .string s, .slice na nn nc, .slice (some ⟨b, off, none⟩) ln lc] 25)).alloc (.cells #[.int .i64 bop, .int .i64 bn, .string bs, .slice ma mn mc, .slice ka kn kc] 25)).alloc (.cells #[.int .i64 0, .int .i64 0, .string ⟨#[]⟩, .slice none 0 0, .slice none 0 0] 25)) from (below2 w _ _).alloc (by simp; omega) _)
  have HT0 := Lib.hid (hbx.1.alloc (.cells #[.int .i64 0, .int .i64 0, .string ⟨#[]⟩, .slice none 0 0, .slice none 0 0] 25))
  have HY0 := Lib.hid (hbx.2.alloc (.cells #[.int .i64 0, .int .i64 0, .string ⟨#[]⟩, .slice none 0 0, .slice none 0 0] 25))
  have HZ0 := Lib.hid hbz
  have HSZ0 := Lib.hid (show (((w.alloc (.cells #[.int .i64 op, .int .i64 n, .string s, .slice na nn nc, .slice (some ⟨b, off, none⟩) ln lc] 25)).alloc (.cells #[.int .i64 bop, .int .i64 bn, .string bs, .slice ma mn mc, .slice ka kn kc] 25)).alloc (.cells #[.int .i64 0, .int .i64 0, .string ⟨#[]⟩, .slice none 0 0, .slice none 0 0] 25)).heap.size = w.heap.size + 3 by simp)
  have a0 := (HB0.out.cell (p := ⟨ab, ao, none⟩) habl).trans hai
  obtain ⟨x0, x1, x2, x3, x4⟩ := box_cells HT0.out
  obtain ⟨y0, y1, y2, y3, y4⟩ := box_cells HY0.out
  obtain ⟨z0, z1, z2, z3, z4⟩ := box_cells HZ0.out
  have t0 := HZ0.out.thaw 0
  have t1 := HZ0.out.thaw 1
  have t2 := HZ0.out.thaw 2
  have t3 := HZ0.out.thaw 3
  have t4 := HZ0.out.thaw 4
  clear hbx hbz hai habl
  have q1 : decide ((m : Int) < 0) = false := decide_eq_false (by omega)
  have q2 : decide ((m : Int) ≥ (ln : Int)) = false := decide_eq_false (by omega)
  have q3 : decide ((ln : Int) ≤ (m : Int)) = false := decide_eq_false (by omega)
  have HD0 := Lib.hid (fun p (hp : p < w.heap.size) o => (HB0.out.drew.cell (p := ⟨p, o, none⟩) hp))
  have HHI := Lib.hid HI
  have ee0 := (HB0.out.cell (p := ⟨b, off + m * 5, none⟩) hbl).trans e0
  have ee1 := (HB0.out.cell (p := ⟨b, off + m * 5 + 1, none⟩) hbl).trans e1
  have ee2 := (HB0.out.cell (p := ⟨b, off + m * 5 + 2, none⟩) hbl).trans e2
  have ee3 := (HB0.out.cell (p := ⟨b, off + m * 5 + 3, none⟩) hbl).trans e3
  have ee4 := (HB0.out.cell (p := ⟨b, off + m * 5 + 4, none⟩) hbl).trans e4
  have HE5 := Lib.hid (And.intro e0 (And.intro e1 (And.intro e2 (And.intro e3 e4))))
  have HBL := Lib.hid hbl
  clear e0 e1 e2 e3 e4 hbl HI
  go_enter Try.func46, Try.ntmps46
  go_wp2
  generalize hw0 : ((w.alloc (.cells #[.int .i64 op, .int .i64 n, .string s, .slice na nn nc, .slice (some ⟨b, off, none⟩) ln lc] 25)).alloc (.cells #[.int .i64 bop, .int .i64 bn, .string bs, .slice ma mn mc, .slice ka kn kc] 25)).alloc (.cells #[.int .i64 0, .int .i64 0, .string ⟨#[]⟩, .slice none 0 0, .slice none 0 0] 25) = w0 at HB0 HT0 HY0 HZ0 HSZ0 HD0 HHI a0 x0 x1 x2 x3 x4 y0 y1 y2 y3 y4 z0 z1 z2 z3 z4 t0 t1 t2 t3 t4 ee0 ee1 ee2 ee3 ee4 ⊢
  clear hw0
  have HBA := Lib.hid HB0.out.drew
  have HBB := Lib.hid (show Below w.heap.size w (w0.alloc (.cells #[.int .i64 0, .int .i64 0, .string ⟨#[]⟩, .slice none 0 0, .slice none 0 0] 25)).drew from (HB0.out.alloc HB0.out.size _).drew)
  have HPB := Lib.hid (show Blk (w0.alloc (.cells #[.int .i64 0, .int .i64 0, .string ⟨#[]⟩, .slice none 0 0, .slice none 0 0] 25)).drew w0.heap.size 25 #[.int .i64 0, .int .i64 0, .string ⟨#[]⟩, .slice none 0 0, .slice none 0 0] from blk_new w0 _ _)
  have HYB := Lib.hid (show Blk (w0.alloc (.cells #[.int .i64 0, .int .i64 0, .string ⟨#[]⟩, .slice none 0 0, .slice none 0 0] 25)).drew (w.heap.size + 1) 25 #[.int .i64 bop, .int .i64 bn, .string bs, .slice ma mn mc, .slice ka kn kc] from HY0.out.alloc _)
  have HTB := Lib.hid (show Blk (w0.alloc (.cells #[.int .i64 0, .int .i64 0, .string ⟨#[]⟩, .slice none 0 0, .slice none 0 0] 25)).drew w.heap.size 25 #[.int .i64 op, .int .i64 n, .string s, .slice na nn nc, .slice (some ⟨b, off, none⟩) ln lc] from HT0.out.alloc _)
  obtain ⟨by0, by1, by2, by3, by4⟩ := box_cells HYB.out
  obtain ⟨bt0, bt1, bt2, bt3, bt4⟩ := box_cells HTB.out
  have be0 := (HBB.out.cell (p := ⟨b, off + m * 5, none⟩) HBL.out).trans HE5.out.1
  have be1 := (HBB.out.cell (p := ⟨b, off + m * 5 + 1, none⟩) HBL.out).trans HE5.out.2.1
  have be2 := (HBB.out.cell (p := ⟨b, off + m * 5 + 2, none⟩) HBL.out).trans HE5.out.2.2.1
  have be3 := (HBB.out.cell (p := ⟨b, off + m * 5 + 3, none⟩) HBL.out).trans HE5.out.2.2.2.1
  have be4 := (HBB.out.cell (p := ⟨b, off + m * 5 + 4, none⟩) HBL.out).trans HE5.out.2.2.2.2
  go_region_law (first
    | (go_simp; go_at_call 46; with_reducible refine (HHI.out _ HBA.out).mono ?_; rintro e w5 ⟨rfl, hb5⟩; have HW5 := Lib.hid (belowStep hb5 ((Below.refl w0.heap.size w0).drew)); have HB5 := Lib.hid (belowStep hb5 HBA.out); have HZ5 := Lib.hid (Blk.of_eq HZ0.out (HW5.out.block _ (Blk.lt HZ0.out))); clear hb5)
    | (go_simp; go_at_call 46; with_reducible refine (HHI.out _ HBB.out).mono ?_; rintro e w5 ⟨rfl, hb5⟩; have HW5 := Lib.hid (belowStep hb5 (((Below.refl w0.heap.size w0).alloc (Nat.le_refl _) _).drew)); have hpb := Blk.of_eq HPB.out (hb5.block _ (Blk.lt HPB.out)); have HB5 := Lib.hid (belowStep hb5 HBB.out); obtain ⟨p0, p1, p2, p3, p4⟩ := box_cells hpb; have r0 := hpb.thaw 0; have r1 := hpb.thaw 1; have r2 := hpb.thaw 2; have r3 := hpb.thaw 3; have r4 := hpb.thaw 4; have HZ5 := Lib.hid (Blk.of_eq HZ0.out (HW5.out.block _ (Blk.lt HZ0.out))); clear hb5))
  all_goals
    first
      | (have HF := Lib.hid (show Fin w w5 ((((((w5.setCell ⟨w0.heap.size, 0, none⟩ (.int .i64 0)).setCell ⟨w0.heap.size, 1, none⟩ (.int .i64 0)).setCell ⟨w0.heap.size, 2, none⟩ (.string ⟨#[]⟩)).setCell ⟨w0.heap.size, 3, none⟩ (.slice none 0 0)).setCell ⟨w0.heap.size, 4, none⟩ (.slice none 0 0))) w0.heap.size #[.int .i64 0, .int .i64 0, .string ⟨#[]⟩, .slice none 0 0, .slice none 0 0] from fin_store (w := w) (w5 := w5) HB5.out hpb (by have := HSZ0.out; omega) (.int .i64 0) (.int .i64 0) (.string ⟨#[]⟩) (.slice none 0 0) (.slice none 0 0)); have hpp : w.heap.size + 2 < w0.heap.size := (by have := HSZ0.out; omega); generalize hwf : (((((w5.setCell ⟨w0.heap.size, 0, none⟩ (.int .i64 0)).setCell ⟨w0.heap.size, 1, none⟩ (.int .i64 0)).setCell ⟨w0.heap.size, 2, none⟩ (.string ⟨#[]⟩)).setCell ⟨w0.heap.size, 3, none⟩ (.slice none 0 0)).setCell ⟨w0.heap.size, 4, none⟩ (.slice none 0 0)) = wF at HF ⊢; generalize w0.heap.size = pb at HF hpp ⊢)
      | (have HF := Lib.hid (fin_alloc (w := w) (w5 := w5) HB5.out (by have := HW5.out.size; have := HSZ0.out; omega) #[.int .i64 0, .int .i64 0, .string ⟨#[]⟩, .slice none 0 0, .slice none 0 0]); have hpp : w.heap.size + 2 < w5.heap.size := (by have := HW5.out.size; have := HSZ0.out; omega); generalize hwf : w5.alloc (.cells #[.int .i64 0, .int .i64 0, .string ⟨#[]⟩, .slice none 0 0, .slice none 0 0] 25) = wF at HF ⊢; generalize w5.heap.size = pb at HF hpp ⊢)
    clear hwf
    clear a0 x0 x1 x2 x3 x4 y0 y1 y2 y3 y4 z0 z1 z2 z3 z4 t0 t1 t2 t3 t4 ee0 ee1 ee2 ee3 ee4 by0 by1 by2 by3 by4 bt0 bt1 bt2 bt3 bt4 be0 be1 be2 be3 be4 q1 q2 q3
    try clear p0 p1 p2 p3 p4 r0 r1 r2 r3 r4 hpb
    have HZF := Lib.hid (Blk.of_eq HZ5.out (HF.out.same _ (by omega) (Blk.lt HZ5.out)))
    obtain ⟨f0, f1, f2, f3, f4⟩ := box_cells HZF.out
    have h0 := HZF.out.thaw 0
    have h1 := HZF.out.thaw 1
    have h2 := HZF.out.thaw 2
    have h3 := HZF.out.thaw 3
    have h4 := HZF.out.thaw 4
    go_wp2
    have HEND := (store5_below HF.out.below (w.heap.size + 1 + 1) 0 (.int .i64 0) (.int .i64 0) (.string ⟨#[]⟩) (.slice none 0 0) (.slice none 0 0) (by omega))
    have HENB := (store5_blk HZF.out 0 (.int .i64 0) (.int .i64 0) (.string ⟨#[]⟩) (.slice none 0 0) (.slice none 0 0))
    unfold store5 at HEND HENB
    simp only [Nat.zero_add] at HEND HENB
    obtain ⟨k0, k1, k2, k3, k4⟩ := box_cells (by simpa [put5] using HENB)
    refine bodyPost_ret (v := .tuple #[zeroSyn, .bool false]) (by simp [results, Try.results46, go_sem, k0, k1, k2, k3, k4, zeroSyn]; try rfl) rfl ?_
    exact ⟨rfl, HEND⟩
end Go.Proofs.Ytkhpihacjhhklaa

/-
  Walks of layer 3: a tree with another one at a place, whole.
-/
namespace Go.Proofs.Ytkhpihacjhhklaa
open Go Go.RowKit
open Pl (Syn)
set_option linter.unusedSimpArgs false

theorem FreshSl.keep {w w' : World} {base : Nat} {Q : Nat → Prop} {v : Value} {l : List Syn} (h : FreshSl w base Q v l) (hs : ∀ b, Q b ∨ (base ≤ b ∧ b < w.heap.size) → w'.heap[b]? = w.heap[b]?) : FreshSl w' base Q v l := by
  obtain ⟨a, c, h1, h2, h3, h4, h5⟩ := h
  refine ⟨a, c, h1, h2, h3, h4, ?_⟩
  rcases h5 with h5 | ⟨g, cur, h5, h6, h7, h8, h9⟩
  · exact .inl h5
  · refine .inr ⟨g, cur, h5, h6, h7.of_eq (hs g (.inr ⟨h6, h7.lt⟩)), h8, fun j hj => ?_⟩
    obtain ⟨x, hx, hv⟩ := h9 j hj
    exact ⟨x, hx, hv.keep (fun b hb => hs b (.inl hb))⟩
/-- the end of replaced: the part stands in the fresh row, the tree in the result's cell -/
theorem rep_end {w w6 : World} {P Q : Nat → Prop} {l : List Syn} {y : Syn} {m n g gc base pb : Nat} {x0 x1 x2 x3 x4 z0 z1 z2 z3 z4 : Value} (hP : ∀ b, P b → b < w.heap.size) (hQ : ∀ b, Q b → b < w.heap.size) (hB : Below w.heap.size w w6) (hF : FreshSl w6 base P (.slice (some ⟨g, 0, none⟩) n gc) l) (hbase : w.heap.size + 3 ≤ base) (hm : m < l.length)
    (hV : SynV w6 (fun b => P b ∨ Q b ∨ w.heap.size + 3 ≤ b ∧ b < base ∧ b ≠ pb) y (.agg #[x0, x1, x2, x3, x4])) (hgl : g < w6.heap.size) (hgb : base ≤ g) (hZ : Blk w6 (w.heap.size + 1 + 1) 25 #[z0, z1, z2, z3, z4]) (nv r0 r1 r2 r3 r4 : Value) :
    SynSl (store5 (store5 (w6.setCell ⟨w.heap.size, 4, none⟩ nv) g (m * 5) x0 x1 x2 x3 x4) (w.heap.size + 1 + 1) 0 r0 r1 r2 r3 r4) (fun b => P b ∨ Q b ∨ (w.heap.size ≤ b ∧ b < (store5 (store5 (w6.setCell ⟨w.heap.size, 4, none⟩ nv) g (m * 5) x0 x1 x2 x3 x4) (w.heap.size + 1 + 1) 0 r0 r1 r2 r3 r4).heap.size)) (.slice (some ⟨g, 0, none⟩) n gc) (l.set m y) ∧
      Below w.heap.size w (store5 (store5 (w6.setCell ⟨w.heap.size, 4, none⟩ nv) g (m * 5) x0 x1 x2 x3 x4) (w.heap.size + 1 + 1) 0 r0 r1 r2 r3 r4) ∧
      Blk (store5 (store5 (w6.setCell ⟨w.heap.size, 4, none⟩ nv) g (m * 5) x0 x1 x2 x3 x4) (w.heap.size + 1 + 1) 0 r0 r1 r2 r3 r4) (w.heap.size + 1 + 1) 25 #[r0, r1, r2, r3, r4] := by
  have h7 : ∀ b, b ≠ w.heap.size → (w6.setCell ⟨w.heap.size, 4, none⟩ nv).heap[b]? = w6.heap[b]? := fun b hb => Below.heap_setCell w6 ⟨w.heap.size, 4, none⟩ nv b hb
  have hsz7 : (w6.setCell ⟨w.heap.size, 4, none⟩ nv).heap.size = w6.heap.size := size_setCell _ _ _
  have hB7 : Below w.heap.size w (w6.setCell ⟨w.heap.size, 4, none⟩ nv) := hB.setCell (p := ⟨w.heap.size, 4, none⟩) (Nat.le_refl _) nv
  have hF7 : FreshSl (w6.setCell ⟨w.heap.size, 4, none⟩ nv) base P (.slice (some ⟨g, 0, none⟩) n gc) l := hF.keep (fun b hb => h7 b (by rcases hb with hb | hb; have := hP b hb; omega; omega))
  have hV7 := hV.keep (w' := w6.setCell ⟨w.heap.size, 4, none⟩ nv) (fun b hb => h7 b (by rcases hb with hb | hb | hb; have := hP b hb; omega; have := hQ b hb; omega; omega))
  have hZ7 := hZ.of_eq (h7 _ (by omega))
  generalize w6.setCell ⟨w.heap.size, 4, none⟩ nv = w7 at *
  have hS8 := FreshSl.put (S := fun b => P b ∨ Q b ∨ (w.heap.size + 3 ≤ b ∧ b < w6.heap.size)) hF7 hm hV7 (fun b hb => ⟨by have := hP b hb; omega, .inl hb⟩) (fun b hb => ⟨by rcases hb with hb | hb | hb; have := hP b hb; omega; have := hQ b hb; omega; omega, by rcases hb with hb | hb | hb; exact .inl hb; exact .inr (.inl hb); exact .inr (.inr ⟨by omega, by omega⟩)⟩) (.inr (.inr ⟨by omega, hgl⟩))
  have hB8 := store5_below hB7 g (m * 5) x0 x1 x2 x3 x4 (by omega)
  have hZ8 := hZ7.of_eq (store5_other w7 g (m * 5) x0 x1 x2 x3 x4 (w.heap.size + 1 + 1) (by omega))
  have hsz8 := store5_size w7 g (m * 5) x0 x1 x2 x3 x4
  generalize store5 w7 g (m * 5) x0 x1 x2 x3 x4 = w8 at *
  have hsz9 := store5_size w8 (w.heap.size + 1 + 1) 0 r0 r1 r2 r3 r4
  refine ⟨(hS8.keep (fun b hb => store5_other w8 (w.heap.size + 1 + 1) 0 r0 r1 r2 r3 r4 b (by rcases hb with hb | hb | hb; have := hP b hb; omega; have := hQ b hb; omega; omega))).mono (fun b hb => ?_), store5_below hB8 _ _ _ _ _ _ _ (by omega), ?_⟩
  · rcases hb with hb | hb | hb
    · exact .inl hb
    · exact .inr (.inl hb)
    · exact .inr (.inr ⟨by omega, by omega⟩)
  · have := store5_blk hZ8 0 r0 r1 r2 r3 r4
    simpa [put5] using this
set_option maxRecDepth 100000 in
set_option maxHeartbeats 8000000 in
theorem replaced_some (op n : Int) (s : ByteArray) (na : Option Addr) (nn nc b off ln lc : Nat) (bop bn : Int) (bs : ByteArray) (ma : Option Addr) (mn mc : Nat) (ka : Option Addr) (kn kc ab ao rn ac : Nat) (m : Nat) (hm : m < ln) (xo xn : Int) (xs : ByteArray) (xna : Option Addr) (xnn xnc : Nat) (xla : Option Addr) (xln xlc : Nat) (w : World) (P Q : Nat → Prop) (l : List Syn) (y : Syn) (hl : l.length = ln) (hP : ∀ b, P b → b < w.heap.size) (hQ : ∀ b, Q b → b < w.heap.size) (habl : ab < w.heap.size) (hai : w.cell? ⟨ab, ao, none⟩ = some (.int .i64 (m : Int))) (hac1 : ac ≠ 1) (hrn : rn < 9223372036854775807) (hbl : b < w.heap.size)
    (e0 : w.cell? ⟨b, off + m * 5, none⟩ = some (.int .i64 xo)) (e1 : w.cell? ⟨b, off + m * 5 + 1, none⟩ = some (.int .i64 xn)) (e2 : w.cell? ⟨b, off + m * 5 + 2, none⟩ = some (.string xs)) (e3 : w.cell? ⟨b, off + m * 5 + 3, none⟩ = some (.slice xna xnn xnc)) (e4 : w.cell? ⟨b, off + m * 5 + 4, none⟩ = some (.slice xla xln xlc))
    (HI : ∀ W, Below w.heap.size w W → Calls Try.prog 46 #[.agg #[.int .i64 xo, .int .i64 xn, .string xs, .slice xna xnn xnc, .slice xla xln xlc], .slice (some ⟨ab, ao + 1, none⟩) rn (ac - 1), .agg #[.int .i64 bop, .int .i64 bn, .string bs, .slice ma mn mc, .slice ka kn kc]] W fun e w' => (∃ v, e = .returned (.tuple #[v, .bool true]) ∧ SynV w' (fun b => P b ∨ Q b ∨ (W.heap.size ≤ b ∧ b < w'.heap.size)) y v) ∧ Below W.heap.size W w')
    (HCL : ∀ W, Below w.heap.size w W → Calls Try.prog 58 #[.slice (some ⟨b, off, none⟩) ln lc] W fun e w' => (∃ a n c, e = .returned (.slice a n c) ∧ FreshSl w' W.heap.size P (.slice a n c) l) ∧ Below W.heap.size W w') :
    Calls Try.prog 46 #[.agg #[.int .i64 op, .int .i64 n, .string s, .slice na nn nc, .slice (some ⟨b, off, none⟩) ln lc], .slice (some ⟨ab, ao, none⟩) (rn + 1) ac, .agg #[.int .i64 bop, .int .i64 bn, .string bs, .slice ma mn mc, .slice ka kn kc]] w fun e w' => (∃ ga gc, e = .returned (.tuple #[.agg #[.int .i64 op, .int .i64 n, .string s, .slice na nn nc, .slice ga ln gc], .bool true]) ∧ SynSl w' (fun b => P b ∨ Q b ∨ (w.heap.size ≤ b ∧ b < w'.heap.size)) (.slice ga ln gc) (l.set m y)) ∧ Below w.heap.size w w' := by
  have hbx := boxes_new w #[.int .i64 op, .int .i64 n, .string s, .slice na nn nc, .slice (some ⟨b, off, none⟩) ln lc] #[.int .i64 bop, .int .i64 bn, .string bs, .slice ma mn mc, .slice ka kn kc]
  have hbz := blk_new ((w.alloc (.cells #[.int .i64 op, .int .i64 n, .string s, .slice na nn nc, .slice (some ⟨b, off, none⟩) ln lc] 25)).alloc (.cells #[.int .i64 bop, .int .i64 bn, .string bs, .slice ma mn mc, .slice ka kn kc] 25)) #[.int .i64 0, .int .i64 0, .string ⟨#[]⟩, .slice none 0 0, .slice none 0 0] 25
  rw [size_alloc, size_alloc] at hbz
  have HB0 := Lib.hid (show Below w.heap.size w (((w.alloc (.cells #[.int .i64 op, .int .i64 n, .string s, .slice na nn nc, .slice (some ⟨b, off, none⟩) ln lc] 25)).alloc (.cells #[.int .i64 bop, .int .i64 bn, .string bs, .slice ma mn mc, .slice ka kn kc] 25)).alloc (.cells #[.int .i64 0, .int .i64 0, .string ⟨#[]⟩, .slice none 0 0, .slice none 0 0] 25)) from (below2 w _ _).alloc (by simp; omega) _)
  have HT0 := Lib.hid (hbx.1.alloc (.cells #[.int .i64 0, .int .i64 0, .string ⟨#[]⟩, .slice none 0 0, .slice none 0 0] 25))
  have HY0 := Lib.hid (hbx.2.alloc (.cells #[.int .i64 0, .int .i64 0, .string ⟨#[]⟩, .slice none 0 0, .slice none 0 0] 25))
  have HZ0 := Lib.hid hbz
  have HSZ0 := Lib.hid (show (((w.alloc (.cells #[.int .i64 op, .int .i64 n, .string s, .slice na nn nc, .slice (some ⟨b, off, none⟩) ln lc] 25)).alloc (.cells #[.int .i64 bop, .int .i64 bn, .string bs, .slice ma mn mc, .slice ka kn kc] 25)).alloc (.cells #[.int .i64 0, .int .i64 0, .string ⟨#[]⟩, .slice none 0 0, .slice none 0 0] 25)).heap.size = w.heap.size + 3 by simp)
  have a0 := (HB0.out.cell (p := ⟨ab, ao, none⟩) habl).trans hai
  obtain ⟨x0, x1, x2, x3, x4⟩ := box_cells HT0.out
  obtain ⟨y0, y1, y2, y3, y4⟩ := box_cells HY0.out
  obtain ⟨z0, z1, z2, z3, z4⟩ := box_cells HZ0.out
  have t0 := HZ0.out.thaw 0
  have t1 := HZ0.out.thaw 1
  have t2 := HZ0.out.thaw 2
  have t3 := HZ0.out.thaw 3
  have t4 := HZ0.out.thaw 4
  clear hbx hbz hai habl
  have q9 : (((rn : Int) + 1) == 0) = false := beq_eq_false_iff_ne.2 (by omega)
  have q8 : (1 : Int) ≤ (rn : Int) + 1 := by omega
  have q1 : decide ((m : Int) < 0) = false := decide_eq_false (by omega)
  have q2 : decide ((m : Int) ≥ (ln : Int)) = false := decide_eq_false (by omega)
  have q3 : decide ((ln : Int) ≤ (m : Int)) = false := decide_eq_false (by omega)
  have HD0 := Lib.hid (fun p (hp : p < w.heap.size) o => (HB0.out.drew.cell (p := ⟨p, o, none⟩) hp))
  have HHI := Lib.hid HI
  have HHC := Lib.hid HCL
  have HP := Lib.hid hP
  have HQ := Lib.hid hQ
  have HLN := Lib.hid hl
  have ee0 := (HB0.out.cell (p := ⟨b, off + m * 5, none⟩) hbl).trans e0
  have ee1 := (HB0.out.cell (p := ⟨b, off + m * 5 + 1, none⟩) hbl).trans e1
  have ee2 := (HB0.out.cell (p := ⟨b, off + m * 5 + 2, none⟩) hbl).trans e2
  have ee3 := (HB0.out.cell (p := ⟨b, off + m * 5 + 3, none⟩) hbl).trans e3
  have ee4 := (HB0.out.cell (p := ⟨b, off + m * 5 + 4, none⟩) hbl).trans e4
  have HE5 := Lib.hid (And.intro e0 (And.intro e1 (And.intro e2 (And.intro e3 e4))))
  have HBL := Lib.hid hbl
  clear e0 e1 e2 e3 e4 hbl HI HCL hP hQ hl
  go_enter Try.func46, Try.ntmps46
  go_wp2
  generalize hw0 : ((w.alloc (.cells #[.int .i64 op, .int .i64 n, .string s, .slice na nn nc, .slice (some ⟨b, off, none⟩) ln lc] 25)).alloc (.cells #[.int .i64 bop, .int .i64 bn, .string bs, .slice ma mn mc, .slice ka kn kc] 25)).alloc (.cells #[.int .i64 0, .int .i64 0, .string ⟨#[]⟩, .slice none 0 0, .slice none 0 0] 25) = w0 at HB0 HT0 HY0 HZ0 HSZ0 HD0 HHI a0 x0 x1 x2 x3 x4 y0 y1 y2 y3 y4 z0 z1 z2 z3 z4 t0 t1 t2 t3 t4 ee0 ee1 ee2 ee3 ee4 ⊢
  clear hw0
  have HBA := Lib.hid HB0.out.drew
  have HBB := Lib.hid (show Below w.heap.size w (w0.alloc (.cells #[.int .i64 0, .int .i64 0, .string ⟨#[]⟩, .slice none 0 0, .slice none 0 0] 25)).drew from (HB0.out.alloc HB0.out.size _).drew)
  have HPB := Lib.hid (show Blk (w0.alloc (.cells #[.int .i64 0, .int .i64 0, .string ⟨#[]⟩, .slice none 0 0, .slice none 0 0] 25)).drew w0.heap.size 25 #[.int .i64 0, .int .i64 0, .string ⟨#[]⟩, .slice none 0 0, .slice none 0 0] from blk_new w0 _ _)
  have HYB := Lib.hid (show Blk (w0.alloc (.cells #[.int .i64 0, .int .i64 0, .string ⟨#[]⟩, .slice none 0 0, .slice none 0 0] 25)).drew (w.heap.size + 1) 25 #[.int .i64 bop, .int .i64 bn, .string bs, .slice ma mn mc, .slice ka kn kc] from HY0.out.alloc _)
  have HTB := Lib.hid (show Blk (w0.alloc (.cells #[.int .i64 0, .int .i64 0, .string ⟨#[]⟩, .slice none 0 0, .slice none 0 0] 25)).drew w.heap.size 25 #[.int .i64 op, .int .i64 n, .string s, .slice na nn nc, .slice (some ⟨b, off, none⟩) ln lc] from HT0.out.alloc _)
  obtain ⟨by0, by1, by2, by3, by4⟩ := box_cells HYB.out
  obtain ⟨bt0, bt1, bt2, bt3, bt4⟩ := box_cells HTB.out
  have be0 := (HBB.out.cell (p := ⟨b, off + m * 5, none⟩) HBL.out).trans HE5.out.1
  have be1 := (HBB.out.cell (p := ⟨b, off + m * 5 + 1, none⟩) HBL.out).trans HE5.out.2.1
  have be2 := (HBB.out.cell (p := ⟨b, off + m * 5 + 2, none⟩) HBL.out).trans HE5.out.2.2.1
  have be3 := (HBB.out.cell (p := ⟨b, off + m * 5 + 3, none⟩) HBL.out).trans HE5.out.2.2.2.1
  have be4 := (HBB.out.cell (p := ⟨b, off + m * 5 + 4, none⟩) HBL.out).trans HE5.out.2.2.2.2
  go_region_law (first
    | (go_simp; go_at_call 46; with_reducible refine (HHI.out _ HBA.out).mono ?_; rintro e w5 ⟨⟨v', rfl, hv'⟩, hb5⟩; have HW5 := Lib.hid (belowStep hb5 ((Below.refl w0.heap.size w0).drew)); have HB5 := Lib.hid (belowStep hb5 HBA.out); obtain ⟨qna, qnn, qnc, qla, qln, qlc, rfl⟩ := hv'.form; have HV5 := Lib.hid hv'; have HZ5 := Lib.hid (Blk.of_eq HZ0.out (HW5.out.block _ (Blk.lt HZ0.out))); have HT5 := Lib.hid (Blk.of_eq HT0.out (HW5.out.block _ (Blk.lt HT0.out))); clear hb5 hv')
    | (go_simp; go_at_call 46; with_reducible refine (HHI.out _ HBB.out).mono ?_; rintro e w5 ⟨⟨v', rfl, hv'⟩, hb5⟩; have HW5 := Lib.hid (belowStep hb5 (((Below.refl w0.heap.size w0).alloc (Nat.le_refl _) _).drew)); have hpb := Blk.of_eq HPB.out (hb5.block _ (Blk.lt HPB.out)); have HB5 := Lib.hid (belowStep hb5 HBB.out); obtain ⟨p0, p1, p2, p3, p4⟩ := box_cells hpb; have r0 := hpb.thaw 0; have r1 := hpb.thaw 1; have r2 := hpb.thaw 2; have r3 := hpb.thaw 3; have r4 := hpb.thaw 4; obtain ⟨qna, qnn, qnc, qla, qln, qlc, rfl⟩ := hv'.form; have HV5 := Lib.hid hv'; have HZ5 := Lib.hid (Blk.of_eq HZ0.out (HW5.out.block _ (Blk.lt HZ0.out))); have HT5 := Lib.hid (Blk.of_eq HT0.out (HW5.out.block _ (Blk.lt HT0.out))); clear hb5 hv'))
  all_goals
    first
      | (have HF := Lib.hid (show Fin w w5 ((((((w5.setCell ⟨w0.heap.size, 0, none⟩ (.int .i64 y.op)).setCell ⟨w0.heap.size, 1, none⟩ (.int .i64 y.n)).setCell ⟨w0.heap.size, 2, none⟩ (.string y.s)).setCell ⟨w0.heap.size, 3, none⟩ (.slice qna qnn qnc)).setCell ⟨w0.heap.size, 4, none⟩ (.slice qla qln qlc))) w0.heap.size #[.int .i64 y.op, .int .i64 y.n, .string y.s, .slice qna qnn qnc, .slice qla qln qlc] from fin_store (w := w) (w5 := w5) HB5.out hpb (by have := HSZ0.out; omega) (.int .i64 y.op) (.int .i64 y.n) (.string y.s) (.slice qna qnn qnc) (.slice qla qln qlc)); have hpp : w.heap.size + 2 < w0.heap.size := (by have := HSZ0.out; omega); have HS5 := Lib.hid (fun b (hb : (w0.alloc (.cells #[.int .i64 0, .int .i64 0, .string ⟨#[]⟩, .slice none 0 0, .slice none 0 0] 25)).drew.heap.size ≤ b ∧ b < w5.heap.size) => show w0.heap.size < b ∧ b < w5.heap.size ∧ b ≠ w0.heap.size from by have h1 : (w0.alloc (.cells #[.int .i64 0, .int .i64 0, .string ⟨#[]⟩, .slice none 0 0, .slice none 0 0] 25)).drew.heap.size = w0.heap.size + 1 := size_alloc w0 _; omega); generalize hwf : (((((w5.setCell ⟨w0.heap.size, 0, none⟩ (.int .i64 y.op)).setCell ⟨w0.heap.size, 1, none⟩ (.int .i64 y.n)).setCell ⟨w0.heap.size, 2, none⟩ (.string y.s)).setCell ⟨w0.heap.size, 3, none⟩ (.slice qna qnn qnc)).setCell ⟨w0.heap.size, 4, none⟩ (.slice qla qln qlc)) = wF at HF ⊢; generalize hpw : w0.heap.size = pb at HF hpp ⊢)
      | (have HF := Lib.hid (fin_alloc (w := w) (w5 := w5) HB5.out (by have := HW5.out.size; have := HSZ0.out; omega) #[.int .i64 y.op, .int .i64 y.n, .string y.s, .slice qna qnn qnc, .slice qla qln qlc]); have hpp : w.heap.size + 2 < w5.heap.size := (by have := HW5.out.size; have := HSZ0.out; omega); have HS5 := Lib.hid (fun b (hb : w0.drew.heap.size ≤ b ∧ b < w5.heap.size) => show w0.heap.size ≤ b ∧ b < w5.heap.size ∧ b ≠ w5.heap.size from by have h1 : w0.drew.heap.size = w0.heap.size := rfl; omega); generalize hwf : w5.alloc (.cells #[.int .i64 y.op, .int .i64 y.n, .string y.s, .slice qna qnn qnc, .slice qla qln qlc] 25) = wF at HF ⊢; generalize hpw : w5.heap.size = pb at HF hpp ⊢)
    have HVF := Lib.hid ((HV5.out.keep (fun b hb => HF.out.same b (by have h1 := HP.out b; have h2 := HQ.out b; have h3 := HSZ0.out; have h4 := HW5.out.size; rcases hb with hb | hb | hb; have := h1 hb; omega; have := h2 hb; omega; have hb1 := HS5.out b hb; omega) (by have h1 := HP.out b; have h2 := HQ.out b; have h3 := HB5.out.size; rcases hb with hb | hb | hb; have := h1 hb; omega; have := h2 hb; omega; exact hb.2))).mono (Q := fun b => P b ∨ Q b ∨ (w.heap.size + 3 ≤ b ∧ b < wF.heap.size ∧ b ≠ pb)) (fun b hb => by rcases hb with hb | hb | hb; exact .inl hb; exact .inr (.inl hb); exact .inr (.inr (by have hb1 := HS5.out b hb; have h3 := HSZ0.out; have h5 := HF.out.size; omega))))
    clear a0 x0 x1 x2 x3 x4 y0 y1 y2 y3 y4 z0 z1 z2 z3 z4 t0 t1 t2 t3 t4 ee0 ee1 ee2 ee3 ee4 by0 by1 by2 by3 by4 bt0 bt1 bt2 bt3 bt4 be0 be1 be2 be3 be4 q1 q2 q3 q8 q9
    try clear p0 p1 p2 p3 p4 r0 r1 r2 r3 r4 hpb
    have HTF := Lib.hid (Blk.of_eq HT5.out (HF.out.same _ (by omega) (Blk.lt HT5.out)))
    have HZF := Lib.hid (Blk.of_eq HZ5.out (HF.out.same _ (by omega) (Blk.lt HZ5.out)))
    clear hwf hpw
    obtain ⟨tb0, tb1, tb2, tb3, tb4⟩ := box_cells HTF.out
    go_wp2_with fail
    refine (HHC.out _ HF.out.below).mono ?_
    rintro e w6 ⟨⟨ga, gn, gc, rfl, hfr⟩, hb6⟩
    have HFR := Lib.hid hfr
    obtain ⟨ga', gc', hge, hfl, hfm, hfn, hfx⟩ := hfr
    injection hge with hg1 hg2 hg3
    subst hg1 hg3
    rw [HLN.out] at hg2 hfl
    subst hg2
    rcases hfx with h0 | ⟨g, cur, rfl, hgb, hblk, hcs, hkids⟩
    · have := HLN.out; rw [h0] at this; simp at this; omega
    have HB6 := Lib.hid (belowStep hb6 HF.out.below)
    have HT6 := Lib.hid (Blk.of_eq HTF.out (hb6.block _ (Blk.lt HTF.out)))
    have HZ6 := Lib.hid (Blk.of_eq HZF.out (hb6.block _ (Blk.lt HZF.out)))
    have HP6 := Lib.hid (Blk.of_eq HF.out.part (hb6.block _ (Blk.lt HF.out.part)))
    have HV6 := Lib.hid (HVF.out.keep (Same.of_below hb6 (fun b hb => by have h1 := HP.out b; have h2 := HQ.out b; have h3 := HF.out.below.size; rcases hb with hb | hb | hb; have := h1 hb; omega; have := h2 hb; omega; exact hb.2.1)))
    have HG6 := Lib.hid hblk
    have HGB := Lib.hid hgb
    have HPL := Lib.hid (Blk.lt HF.out.part)
    have HZL := Lib.hid (Blk.lt HZF.out)
    have HSF := Lib.hid hb6.size
    have hgn : w.heap.size + 3 ≤ g := by have := HZL.out; omega
    have hgp : g ≠ pb := by have := HPL.out; omega
    have hcl : m * 5 + 4 < cur.size := by rw [HLN.out] at hcs; omega
    clear tb0 tb1 tb2 tb3 tb4 hkids hb6
    obtain ⟨tb0, tb1, tb2, tb3, tb4⟩ := box_cells HT6.out
    obtain ⟨pf0, pf1, pf2, pf3, pf4⟩ := box_cells HP6.out
    obtain ⟨rz0, rz1, rz2, rz3, rz4⟩ := box_cells HZ6.out
    have s4 := HT6.out.thaw 4
    have g0 := HG6.out.cell (m * 5) _ (Array.getElem?_eq_getElem (by omega))
    have g1 := HG6.out.cell (m * 5 + 1) _ (Array.getElem?_eq_getElem (by omega))
    have g2 := HG6.out.cell (m * 5 + 2) _ (Array.getElem?_eq_getElem (by omega))
    have g3 := HG6.out.cell (m * 5 + 3) _ (Array.getElem?_eq_getElem (by omega))
    have g4 := HG6.out.cell (m * 5 + 4) _ (Array.getElem?_eq_getElem (by omega))
    have u0 := HG6.out.thaw (m * 5)
    have u1 := HG6.out.thaw (m * 5 + 1)
    have u2 := HG6.out.thaw (m * 5 + 2)
    have u3 := HG6.out.thaw (m * 5 + 3)
    have u4 := HG6.out.thaw (m * 5 + 4)
    have v0 := HZ6.out.thaw 0
    have v1 := HZ6.out.thaw 1
    have v2 := HZ6.out.thaw 2
    have v3 := HZ6.out.thaw 3
    have v4 := HZ6.out.thaw 4
    have n1 : ¬ g = w.heap.size := by omega
    have n2 : ¬ w.heap.size = g := by omega
    have n3 : ¬ pb = w.heap.size := by omega
    have n4 : ¬ w.heap.size = pb := by omega
    have n5 : ¬ g = pb := hgp
    have n6 : ¬ pb = g := fun e => hgp e.symm
    have n7 : ¬ w.heap.size + 1 + 1 = g := by omega
    have n8 : ¬ g = w.heap.size + 1 + 1 := by omega
    have HPB2 := Lib.hid hpp
    have HGN := Lib.hid hgn
    have HCL := Lib.hid hcl
    generalize cur[m * 5] = cc0 at *
    generalize cur[m * 5 + 1] = cc1 at *
    generalize cur[m * 5 + 2] = cc2 at *
    generalize cur[m * 5 + 3] = cc3 at *
    generalize cur[m * 5 + 4] = cc4 at *
    clear hgn hgp hcl hpp hgb hcs hblk hfl hfm hfn
    go_wp2
    have HEND := rep_end HP.out HQ.out HB6.out HFR.out (by have := HZL.out; have := HPB2.out; have := HPL.out; omega) (by rw [HLN.out]; exact hm) HV6.out (Blk.lt HG6.out) HGB.out HZ6.out (.slice (some ⟨g, 0, none⟩) gn gc) (.int .i64 op) (.int .i64 n) (.string s) (.slice na nn nc) (.slice (some ⟨g, 0, none⟩) gn gc)
    unfold store5 at HEND
    simp only [Nat.zero_add] at HEND
    obtain ⟨e1, e2, e3⟩ := HEND
    obtain ⟨k0, k1, k2, k3, k4⟩ := box_cells e3
    refine bodyPost_ret (v := .tuple #[.agg #[.int .i64 op, .int .i64 n, .string s, .slice na nn nc, .slice (some ⟨g, 0, none⟩) gn gc], .bool true]) (by simp [results, Try.results46, go_sem, k0, k1, k2, k3, k4]) rfl ?_
    exact ⟨⟨_, _, rfl, e1⟩, e2⟩
end Go.Proofs.Ytkhpihacjhhklaa
