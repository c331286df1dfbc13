/-
  Walks of layer 3: a tree with another one at a place.
-/
import Derived.Test.YtkhpihacjhhklaaYc
namespace Go.Proofs.Ytkhpihacjhhklaa
open Go Go.RowKit
open Pl (Syn)
set_option linter.unusedSimpArgs false

def zeroSyn : Value := .agg #[.int .i64 0, .int .i64 0, .string ByteArray.empty, .slice none 0 0, .slice none 0 0]
/-- a place: a slice of numbers -/
def AtSl (w : World) (v : Value) (cs : List Int) : Prop := ∃ a c, v = .slice a cs.length c ∧ cs.length ≤ c ∧ c ≤ maxLen ∧ (cs = [] ∨ ∃ b off, a = some ⟨b, off, none⟩ ∧ b < w.heap.size ∧ IntsAt w b off cs)
theorem AtSl.below {w w' : World} {v : Value} {cs : List Int} (h : AtSl w v cs) (hb : Below w.heap.size w w') : AtSl w' v cs := by
  obtain ⟨a, c, h1, h2, h3, h4⟩ := h
  refine ⟨a, c, h1, h2, h3, ?_⟩
  rcases h4 with h4 | ⟨b, off, h4, h5, h6⟩
  · exact .inl h4
  · exact .inr ⟨b, off, h4, Nat.lt_of_lt_of_le h5 hb.size, fun j hj => (hb.cell (p := ⟨b, off + j, none⟩) h5).trans (h6 j hj)⟩
theorem AtSl.head {w : World} {v : Value} {i : Int} {r : List Int} (h : AtSl w v (i :: r)) : ∃ b off c, v = .slice (some ⟨b, off, none⟩) (r.length + 1) c ∧ r.length + 1 ≤ c ∧ c ≤ maxLen ∧ b < w.heap.size ∧ w.cell? ⟨b, off, none⟩ = some (.int .i64 i) ∧ AtSl w (.slice (some ⟨b, off + 1, none⟩) r.length (c - 1)) r := by
  obtain ⟨a, c, rfl, h1, h2, h3⟩ := h
  rcases h3 with h3 | ⟨b, off, rfl, h4, h5⟩
  · cases h3
  · refine ⟨b, off, c, rfl, h1, h2, h4, by have := h5 0 (Nat.zero_lt_succ _); rw [Nat.add_zero] at this; exact this, _, c - 1, rfl, by simp at h1; omega, by omega, .inr ⟨b, off + 1, rfl, h4, fun j hj => ?_⟩⟩
    have := h5 (j + 1) (by simpa using hj)
    rw [show off + (j + 1) = off + 1 + j from by omega] at this
    simpa using this
/-- an element of a fresh list is another tree -/
theorem FreshSl.put {w : World} {base : Nat} {Q R S : Nat → Prop} {g c m n : Nat} {l : List Syn} {y : Syn} {x0 x1 x2 x3 x4 : Value} (h : FreshSl w base Q (.slice (some ⟨g, 0, none⟩) n c) l) (hm : m < l.length) (hy : SynV w R y (.agg #[x0, x1, x2, x3, x4])) (hQ : ∀ b, Q b → b ≠ g ∧ S b) (hR : ∀ b, R b → b ≠ g ∧ S b) (hS : S g) :
    SynSl (store5 w g (m * 5) x0 x1 x2 x3 x4) S (.slice (some ⟨g, 0, none⟩) n c) (l.set m y) := by
  obtain ⟨a, c', he, h1, h2, h3, h4⟩ := h
  injection he with e1 e2 e3
  subst e1 e2 e3
  rcases h4 with h4 | ⟨g', cur, he, hbg, hblk, hsz, hj⟩
  · rw [h4] at hm; simp at hm
  injection he with he
  injection he with he
  subst he
  refine ⟨_, c, by rw [List.length_set], by rw [List.length_set]; exact h1, h2, h3, .inr ⟨g, 0, rfl, hS, ?_⟩⟩
  rw [kidsAt_iff]
  intro j hj'
  rw [List.length_set] at hj'
  have hb := store5_blk hblk (m * 5) x0 x1 x2 x3 x4
  by_cases hjm : j = m
  · subst hjm
    rw [List.getElem_set_self]
    exact ⟨_, by rw [Nat.zero_add]; exact (put5_in cur (j * 5) x0 x1 x2 x3 x4 (by omega)).at hb, (hy.keep (fun b hb1 => store5_other _ _ _ _ _ _ _ _ b (hR b hb1).1)).mono (fun b hb1 => (hR b hb1).2)⟩
  · rw [List.getElem_set_ne (fun e => hjm e.symm)]
    obtain ⟨x, hx, hs⟩ := hj j hj'
    exact ⟨x, by rw [Nat.zero_add]; exact (put5_other cur (m * 5) x0 x1 x2 x3 x4 (j * 5) x (by omega) hx).at hb, (hs.keep (fun b hb1 => store5_other _ _ _ _ _ _ _ _ b (hQ b hb1).1)).mono (fun b hb1 => (hQ b hb1).2)⟩
def RepPost (P Q : Nat → Prop) (x : Option Syn) (w : World) (e : Ending) (w' : World) : Prop :=
  (match x with
    | some y => ∃ v, e = .returned (.tuple #[v, .bool true]) ∧ SynV w' (fun b => P b ∨ Q b ∨ (w.heap.size ≤ b ∧ b < w'.heap.size)) y v
    | none => e = .returned (.tuple #[zeroSyn, .bool false])) ∧ Below w.heap.size w w'
/-- a cell of the call's own has been laid or written behind a call: what stays -/
structure Fin (w w5 wF : World) (pb : Nat) (cs : Array Value) : Prop where
  below : Below w.heap.size w wF
  part : Blk wF pb 25 cs
  same : ∀ b, b ≠ pb → b < w5.heap.size → wF.heap[b]? = w5.heap[b]?
  size : w5.heap.size ≤ wF.heap.size
  big : w.heap.size + 3 ≤ pb
theorem fin_alloc {w w5 : World} (hb : Below w.heap.size w w5) (hs : w.heap.size + 3 ≤ w5.heap.size) (cs : Array Value) : Fin w w5 (w5.alloc (.cells cs 25)) w5.heap.size cs :=
  ⟨hb.alloc hb.size _, blk_new w5 cs _, fun b _ hlt => Below.heap_alloc _ _ b hlt, by rw [size_alloc]; omega, hs⟩
theorem fin_store {w w5 : World} {pb : Nat} {y0 y1 y2 y3 y4 : Value} (hb : Below w.heap.size w w5) (hp : Blk w5 pb 25 #[y0, y1, y2, y3, y4]) (hs : w.heap.size + 3 ≤ pb) (x0 x1 x2 x3 x4 : Value) : Fin w w5 (store5 w5 pb 0 x0 x1 x2 x3 x4) pb #[x0, x1, x2, x3, x4] :=
  ⟨store5_below hb _ _ _ _ _ _ _ (by omega), by have := store5_blk hp 0 x0 x1 x2 x3 x4; simpa [put5] using this, fun b hne _ => store5_other _ _ _ _ _ _ _ _ b hne, by rw [store5_size]; exact Nat.le_refl _, hs⟩
set_option maxRecDepth 100000 in
set_option maxHeartbeats 4000000 in
theorem replaced_out (op n : Int) (s : ByteArray) (na : Option Addr) (nn nc : Nat) (la : Option Addr) (ln lc : Nat) (bop bn : Int) (bs : ByteArray) (ma : Option Addr) (mn mc : Nat) (ka : Option Addr) (kn kc ab ao rn ac : Nat) (i : Int) (w : World) (habl : ab < w.heap.size) (hai : w.cell? ⟨ab, ao, none⟩ = some (.int .i64 i)) (h : i < 0 ∨ (ln : Int) ≤ i) (hrn : rn < 9223372036854775807) :
    Calls Try.prog 46 #[.agg #[.int .i64 op, .int .i64 n, .string s, .slice na nn nc, .slice la ln lc], .slice (some ⟨ab, ao, none⟩) (rn + 1) ac, .agg #[.int .i64 bop, .int .i64 bn, .string bs, .slice ma mn mc, .slice ka kn kc]] w fun e w' => e = .returned (.tuple #[zeroSyn, .bool false]) ∧ Below w.heap.size w w' := by
  have hbx := boxes_new w #[.int .i64 op, .int .i64 n, .string s, .slice na nn nc, .slice la ln lc] #[.int .i64 bop, .int .i64 bn, .string bs, .slice ma mn mc, .slice ka kn kc]
  have hbz := blk_new ((w.alloc (.cells #[.int .i64 op, .int .i64 n, .string s, .slice na nn nc, .slice la ln lc] 25)).alloc (.cells #[.int .i64 bop, .int .i64 bn, .string bs, .slice ma mn mc, .slice ka kn kc] 25)) #[.int .i64 0, .int .i64 0, .string ⟨#[]⟩, .slice none 0 0, .slice none 0 0] 25
  rw [size_alloc, size_alloc] at hbz
  have HB0 := Lib.hid (show Below w.heap.size w (((w.alloc (.cells #[.int .i64 op, .int .i64 n, .string s, .slice na nn nc, .slice la ln lc] 25)).alloc (.cells #[.int .i64 bop, .int .i64 bn, .string bs, .slice ma mn mc, .slice ka kn kc] 25)).alloc (.cells #[.int .i64 0, .int .i64 0, .string ⟨#[]⟩, .slice none 0 0, .slice none 0 0] 25)) from (below2 w _ _).alloc (by simp; omega) _)
  have HT0 := Lib.hid (hbx.1.alloc (.cells #[.int .i64 0, .int .i64 0, .string ⟨#[]⟩, .slice none 0 0, .slice none 0 0] 25))
  have HY0 := Lib.hid (hbx.2.alloc (.cells #[.int .i64 0, .int .i64 0, .string ⟨#[]⟩, .slice none 0 0, .slice none 0 0] 25))
  have HZ0 := Lib.hid hbz
  have HSZ0 := Lib.hid (show (((w.alloc (.cells #[.int .i64 op, .int .i64 n, .string s, .slice na nn nc, .slice la ln lc] 25)).alloc (.cells #[.int .i64 bop, .int .i64 bn, .string bs, .slice ma mn mc, .slice ka kn kc] 25)).alloc (.cells #[.int .i64 0, .int .i64 0, .string ⟨#[]⟩, .slice none 0 0, .slice none 0 0] 25)).heap.size = w.heap.size + 3 by simp)
  have a0 := (HB0.out.cell (p := ⟨ab, ao, none⟩) habl).trans hai
  obtain ⟨x0, x1, x2, x3, x4⟩ := box_cells HT0.out
  obtain ⟨y0, y1, y2, y3, y4⟩ := box_cells HY0.out
  obtain ⟨z0, z1, z2, z3, z4⟩ := box_cells HZ0.out
  have t0 := HZ0.out.thaw 0
  have t1 := HZ0.out.thaw 1
  have t2 := HZ0.out.thaw 2
  have t3 := HZ0.out.thaw 3
  have t4 := HZ0.out.thaw 4
  clear hbx hbz hai habl
  have q9 : (((rn : Int) + 1) == 0) = false := beq_eq_false_iff_ne.2 (by omega)
  by_cases hneg : i < 0
  · have q1 : decide (i < 0) = true := decide_eq_true hneg
    clear hneg h
    go_enter Try.func46, Try.ntmps46
    go_wp2
    refine bodyPost_ret (v := .tuple #[zeroSyn, .bool false]) (by simp [results, Try.results46, go_sem, z0, z1, z2, z3, z4, zeroSyn]; try rfl) rfl ?_
    exact ⟨rfl, HB0.out⟩
  · have q1 : decide (i < 0) = false := decide_eq_false hneg
    have q2 : decide (i ≥ (ln : Int)) = true := decide_eq_true (by omega)
    have q3 : decide ((ln : Int) ≤ i) = true := decide_eq_true (by omega)
    clear hneg h
    go_enter Try.func46, Try.ntmps46
    go_wp2
    refine bodyPost_ret (v := .tuple #[zeroSyn, .bool false]) (by simp [results, Try.results46, go_sem, z0, z1, z2, z3, z4, zeroSyn]; try rfl) rfl ?_
    exact ⟨rfl, HB0.out⟩
set_option maxRecDepth 100000 in
set_option maxHeartbeats 8000000 in
theorem replaced_none (op n : Int) (s : ByteArray) (na : Option Addr) (nn nc b off ln lc : Nat) (bop bn : Int) (bs : ByteArray) (ma : Option Addr) (mn mc : Nat) (ka : Option Addr) (kn kc ab ao rn ac : Nat) (m : Nat) (hm : m < ln) (xo xn : Int) (xs : ByteArray) (xna : Option Addr) (xnn xnc : Nat) (xla : Option Addr) (xln xlc : Nat) (w : World) (habl : ab < w.heap.size) (hai : w.cell? ⟨ab, ao, none⟩ = some (.int .i64 (m : Int))) (hac1 : ac ≠ 1) (hrn : rn < 9223372036854775807) (hbl : b < w.heap.size)
    (e0 : w.cell? ⟨b, off + m * 5, none⟩ = some (.int .i64 xo)) (e1 : w.cell? ⟨b, off + m * 5 + 1, none⟩ = some (.int .i64 xn)) (e2 : w.cell? ⟨b, off + m * 5 + 2, none⟩ = some (.string xs)) (e3 : w.cell? ⟨b, off + m * 5 + 3, none⟩ = some (.slice xna xnn xnc)) (e4 : w.cell? ⟨b, off + m * 5 + 4, none⟩ = some (.slice xla xln xlc))
    (HI : ∀ W, Below w.heap.size w W → Calls Try.prog 46 #[.agg #[.int .i64 xo, .int .i64 xn, .string xs, .slice xna xnn xnc, .slice xla xln xlc], .slice (some ⟨ab, ao + 1, none⟩) rn (ac - 1), .agg #[.int .i64 bop, .int .i64 bn, .string bs, .slice ma mn mc, .slice ka kn kc]] W fun e w' => e = .returned (.tuple #[.agg #[.int .i64 0, .int .i64 0, .string ⟨#[]⟩, .slice none 0 0, .slice none 0 0], .bool false]) ∧ Below W.heap.size W w') :
    Calls Try.prog 46 #[.agg #[.int .i64 op, .int .i64 n, .string s, .slice na nn nc, .slice (some ⟨b, off, none⟩) ln lc], .slice (some ⟨ab, ao, none⟩) (rn + 1) ac, .agg #[.int .i64 bop, .int .i64 bn, .string bs, .slice ma mn mc, .slice ka kn kc]] w fun e w' => e = .returned (.tuple #[zeroSyn, .bool false]) ∧ Below w.heap.size w w' := by
  have hbx := boxes_new w #[.int .i64 op, .int .i64 n, .string s, .slice na nn nc, .slice (some ⟨b, off, none⟩) ln lc] #[.int .i64 bop, .int .i64 bn, .string bs, .slice ma mn mc, .slice ka kn kc]
  have hbz := blk_new ((w.alloc (.cells #[.int .i64 op, .int .i64 n, .string s, .slice na nn nc, .slice (some ⟨b, off, none⟩) ln lc] 25)).alloc (.cells #[.int .i64 bop, .int .i64 bn, .string bs, .slice ma mn mc, .slice ka kn kc] 25)) #[.int .i64 0, .int .i64 0, .string ⟨#[]⟩, .slice none 0 0, .slice none 0 0] 25
  rw [size_alloc, size_alloc] at hbz
  have HB0 := Lib.hid (show Below w.heap.size w (((w.alloc (.cells #[.int .i64 op, .int .i64 n, .string s, .slice na nn nc, .slice (some ⟨b, off, none⟩) ln lc] 25)).alloc (.cells #[.int .i64 bop, .int .i64 bn, .string bs, .slice ma mn mc, .slice ka kn kc] 25)).alloc (.cells #[.int .i64 0, .int .i64 0, .string ⟨#[]⟩, .slice none 0 0, .slice none 0 0] 25)) from (below2 w _ _).alloc (by simp; omega) _)
  have HT0 := Lib.hid (hbx.1.alloc (.cells #[.int .i64 0, .int .i64 0, .string ⟨#[]⟩, .slice none 0 0, .slice none 0 0] 25))
  have HY0 := Lib.hid (hbx.2.alloc (.cells #[.int .i64 0, .int .i64 0, .string ⟨#[]⟩, .slice none 0 0, .slice none 0 0] 25))
  have HZ0 := Lib.hid hbz
  have HSZ0 := Lib.hid (show (((w.alloc (.cells #[.int .i64 op, .int .i64 n, .string s, .slice na nn nc, .slice (some ⟨b, off, none⟩) ln lc] 25)).alloc (.cells #[.int .i64 bop, .int .i64 bn, .string bs, .slice ma mn mc, .slice ka kn kc] 25)).alloc (.cells #[.int .i64 0, .int .i64 0, .string ⟨#[]⟩, .slice none 0 0, .slice none 0 0] 25)).heap.size = w.heap.size + 3 by simp)
  have a0 := (HB0.out.cell (p := ⟨ab, ao, none⟩) habl).trans hai
  obtain ⟨x0, x1, x2, x3, x4⟩ := box_cells HT0.out
  obtain ⟨y0, y1, y2, y3, y4⟩ := box_cells HY0.out
  obtain ⟨z0, z1, z2, z3, z4⟩ := box_cells HZ0.out
  have t0 := HZ0.out.thaw 0
  have t1 := HZ0.out.thaw 1
  have t2 := HZ0.out.thaw 2
  have t3 := HZ0.out.thaw 3
  have t4 := HZ0.out.thaw 4
  clear hbx hbz hai habl
  have q9 : (((rn : Int) + 1) == 0) = false := beq_eq_false_iff_ne.2 (by omega)
  have q8 : (1 : Int) ≤ (rn : Int) + 1 := by omega
  have q1 : decide ((m : Int) < 0) = false := decide_eq_false (by omega)
  have q2 : decide ((m : Int) ≥ (ln : Int)) = false := decide_eq_false (by omega)
  have q3 : decide ((ln : Int) ≤ (m : Int)) = false := decide_eq_false (by omega)
  have HD0 := Lib.hid (fun p (hp : p < w.heap.size) o => (HB0.out.drew.cell (p := ⟨p, o, none⟩) hp))
  have HHI := Lib.hid HI
  have ee0 := (HB0.out.cell (p := ⟨b, off + m * 5, none⟩) hbl).trans e0
  have ee1 := (HB0.out.cell (p := ⟨b, off + m * 5 + 1, none⟩) hbl).trans e1
  have ee2 := (HB0.out.cell (p := ⟨b, off + m * 5 + 2, none⟩) hbl).trans e2
  have ee3 := (HB0.out.cell (p := ⟨b, off + m * 5 + 3, none⟩) hbl).trans e3
  have ee4 := (HB0.out.cell (p := ⟨b, off + m * 5 + 4, none⟩) hbl).trans e4
  have HE5 := Lib.hid (And.intro e0 (And.intro e1 (And.intro e2 (And.intro e3 e4))))
  have HBL := Lib.hid hbl
  clear e0 e1 e2 e3 e4 hbl HI
  go_enter Try.func46, Try.ntmps46
  go_wp2
  generalize hw0 : ((w.alloc (.cells #[.int .i64 op, .int .i64 n, .string s, .slice na nn nc, .slice (some ⟨b, off, none⟩) ln lc] 25)).alloc (.cells #[.int .i64 bop, .int .i64 bn, .string bs, .slice ma mn mc, .slice ka kn kc] 25)).alloc (.cells #[.int .i64 0, .int .i64 0, .string ⟨#[]⟩, .slice none 0 0, .slice none 0 0] 25) = w0 at HB0 HT0 HY0 HZ0 HSZ0 HD0 HHI a0 x0 x1 x2 x3 x4 y0 y1 y2 y3 y4 z0 z1 z2 z3 z4 t0 t1 t2 t3 t4 ee0 ee1 ee2 ee3 ee4 ⊢
  clear hw0
  have HBA := Lib.hid HB0.out.drew
  have HBB := Lib.hid (show Below w.heap.size w (w0.alloc (.cells #[.int .i64 0, .int .i64 0, .string ⟨#[]⟩, .slice none 0 0, .slice none 0 0] 25)).drew from (HB0.out.alloc HB0.out.size _).drew)
  have HPB := Lib.hid (show Blk (w0.alloc (.cells #[.int .i64 0, .int .i64 0, .string ⟨#[]⟩, .slice none 0 0, .slice none 0 0] 25)).drew w0.heap.size 25 #[.int .i64 0, .int .i64 0, .string ⟨#[]⟩, .slice none 0 0, .slice none 0 0] from blk_new w0 _ _)
  have HYB := Lib.hid (show Blk (w0.alloc (.cells #[.int .i64 0, .int .i64 0, .string ⟨#[]⟩, .slice none 0 0, .slice none 0 0] 25)).drew (w.heap.size + 1) 25 #[.int .i64 bop, .int .i64 bn, .string bs, .slice ma mn mc, .slice ka kn kc] from HY0.out.alloc _)
  have HTB := Lib.hid (show Blk (w0.alloc (.cells #[.int .i64 0, .int .i64 0, .string ⟨#[]⟩, .slice none 0 0, .slice none 0 0] 25)).drew w.heap.size 25 #[.int .i64 op, .int .i64 n, .string s, .slice na nn nc, .slice (some ⟨b, off, none⟩) ln lc] from HT0.out.alloc _)
  obtain ⟨by0, by1, by2, by3, by4⟩ := box_cells HYB.out
  obtain ⟨bt0, bt1, bt2, bt3, bt4⟩ := box_cells HTB.out
  have be0 := (HBB.out.cell (p := ⟨b, off + m * 5, none⟩) HBL.out).trans HE5.out.1
  have be1 := (HBB.out.cell (p := ⟨b, off + m * 5 + 1, none⟩) HBL.out).trans HE5.out.2.1
  have be2 := (HBB.out.cell (p := ⟨b, off + m * 5 + 2, none⟩) HBL.out).trans HE5.out.2.2.1
  have be3 := (HBB.out.cell (p := ⟨b, off + m * 5 + 3, none⟩) HBL.out).trans HE5.out.2.2.2.1
  have be4 := (HBB.out.cell (p := ⟨b, off + m * 5 + 4, none⟩) HBL.out).trans HE5.out.2.2.2.2
  go_region_law (first
    | (go_simp; go_at_call 46; with_reducible refine (HHI.out _ HBA.out).mono ?_; rintro e w5 ⟨rfl, hb5⟩; have HW5 := Lib.hid (belowStep hb5 ((Below.refl w0.heap.size w0).drew)); have HB5 := Lib.hid (belowStep hb5 HBA.out); have HZ5 := Lib.hid (Blk.of_eq HZ0.out (HW5.out.block _ (Blk.lt HZ0.out))); clear hb5)
    | (go_simp; go_at_call 46; with_reducible refine (HHI.out _ HBB.out).mono ?_; rintro e w5 ⟨rfl, hb5⟩; have HW5 := Lib.hid (belowStep hb5 (((Below.refl w0.heap.size w0).alloc (Nat.le_refl _) _).drew)); have hpb := Blk.of_eq HPB.out (hb5.block _ (Blk.lt HPB.out)); have HB5 := Lib.hid (belowStep hb5 HBB.out); obtain ⟨p0, p1, p2, p3, p4⟩ := box_cells hpb; have r0 := hpb.thaw 0; have r1 := hpb.thaw 1; have r2 := hpb.thaw 2; have r3 := hpb.thaw 3; have r4 := hpb.thaw 4; have HZ5 := Lib.hid (Blk.of_eq HZ0.out (HW5.out.block _ (Blk.lt HZ0.out))); clear hb5))
  all_goals
    first
      | (have HF := Lib.hid (show Fin w w5 ((((((w5.setCell ⟨w0.heap.size, 0, none⟩ (.int .i64 0)).setCell ⟨w0.heap.size, 1, none⟩ (.int .i64 0)).setCell ⟨w0.heap.size, 2, none⟩ (.string ⟨#[]⟩)).setCell ⟨w0.heap.size, 3, none⟩ (.slice none 0 0)).setCell ⟨w0.heap.size, 4, none⟩ (.slice none 0 0))) w0.heap.size #[.int .i64 0, .int .i64 0, .string ⟨#[]⟩, .slice none 0 0, .slice none 0 0] from fin_store (w := w) (w5 := w5) HB5.out hpb (by have := HSZ0.out; omega) (.int .i64 0) (.int .i64 0) (.string ⟨#[]⟩) (.slice none 0 0) (.slice none 0 0)); have hpp : w.heap.size + 2 < w0.heap.size := (by have := HSZ0.out; omega); generalize hwf : (((((w5.setCell ⟨w0.heap.size, 0, none⟩ (.int .i64 0)).setCell ⟨w0.heap.size, 1, none⟩ (.int .i64 0)).setCell ⟨w0.heap.size, 2, none⟩ (.string ⟨#[]⟩)).setCell ⟨w0.heap.size, 3, none⟩ (.slice none 0 0)).setCell ⟨w0.heap.size, 4, none⟩ (.slice none 0 0)) = wF at HF ⊢; generalize w0.heap.size = pb at HF hpp ⊢)
      | (have HF := Lib.hid (fin_alloc (w := w) (w5 := w5) HB5.out (by have := HW5.out.size; have := HSZ0.out; omega) #[.int .i64 0, .int .i64 0, .string ⟨#[]⟩, .slice none 0 0, .slice none 0 0]); have hpp : w.heap.size + 2 < w5.heap.size := (by have := HW5.out.size; have := HSZ0.out; omega); generalize hwf : w5.alloc (.cells #[.int .i64 0, .int .i64 0, .string ⟨#[]⟩, .slice none 0 0, .slice none 0 0] 25) = wF at HF ⊢; generalize w5.heap.size = pb at HF hpp ⊢)
    clear hwf
    clear a0 x0 x1 x2 x3 x4 y0 y1 y2 y3 y4 z0 z1 z2 z3 z4 t0 t1 t2 t3 t4 ee0 ee1 ee2 ee3 ee4 by0 by1 by2 by3 by4 bt0 bt1 bt2 bt3 bt4 be0 be1 be2 be3 be4 q1 q2 q3 q8 q9
    try clear p0 p1 p2 p3 p4 r0 r1 r2 r3 r4 hpb
    have HZF := Lib.hid (Blk.of_eq HZ5.out (HF.out.same _ (by omega) (Blk.lt HZ5.out)))
    obtain ⟨f0, f1, f2, f3, f4⟩ := box_cells HZF.out
    have h0 := HZF.out.thaw 0
    have h1 := HZF.out.thaw 1
    have h2 := HZF.out.thaw 2
    have h3 := HZF.out.thaw 3
    have h4 := HZF.out.thaw 4
    go_wp2
    have HEND := (store5_below HF.out.below (w.heap.size + 1 + 1) 0 (.int .i64 0) (.int .i64 0) (.string ⟨#[]⟩) (.slice none 0 0) (.slice none 0 0) (by omega))
    have HENB := (store5_blk HZF.out 0 (.int .i64 0) (.int .i64 0) (.string ⟨#[]⟩) (.slice none 0 0) (.slice none 0 0))
    unfold store5 at HEND HENB
    simp only [Nat.zero_add] at HEND HENB
    obtain ⟨k0, k1, k2, k3, k4⟩ := box_cells (by simpa [put5] using HENB)
    refine bodyPost_ret (v := .tuple #[zeroSyn, .bool false]) (by simp [results, Try.results46, go_sem, k0, k1, k2, k3, k4, zeroSyn]; try rfl) rfl ?_
    exact ⟨rfl, HEND⟩
set_option maxRecDepth 100000 in
set_option maxHeartbeats 8000000 in
theorem replaced_noneB (op n : Int) (s : ByteArray) (na : Option Addr) (nn nc b off ln lc : Nat) (bop bn : Int) (bs : ByteArray) (ma : Option Addr) (mn mc : Nat) (ka : Option Addr) (kn kc ab ao : Nat) (m : Nat) (hm : m < ln) (xo xn : Int) (xs : ByteArray) (xna : Option Addr) (xnn xnc : Nat) (xla : Option Addr) (xln xlc : Nat) (w : World) (habl : ab < w.heap.size) (hai : w.cell? ⟨ab, ao, none⟩ = some (.int .i64 (m : Int))) (hbl : b < w.heap.size)
    (e0 : w.cell? ⟨b, off + m * 5, none⟩ = some (.int .i64 xo)) (e1 : w.cell? ⟨b, off + m * 5 + 1, none⟩ = some (.int .i64 xn)) (e2 : w.cell? ⟨b, off + m * 5 + 2, none⟩ = some (.string xs)) (e3 : w.cell? ⟨b, off + m * 5 + 3, none⟩ = some (.slice xna xnn xnc)) (e4 : w.cell? ⟨b, off + m * 5 + 4, none⟩ = some (.slice xla xln xlc))
    (HI : ∀ W, Below w.heap.size w W → Calls Try.prog 46 #[.agg #[.int .i64 xo, .int .i64 xn, .string xs, .slice xna xnn xnc, .slice xla xln xlc], .slice (some ⟨ab, ao, none⟩) 0 0, .agg #[.int .i64 bop, .int .i64 bn, .string bs, .slice ma mn mc, .slice ka kn kc]] W fun e w' => e = .returned (.tuple #[.agg #[.int .i64 0, .int .i64 0, .string ⟨#[]⟩, .slice none 0 0, .slice none 0 0], .bool false]) ∧ Below W.heap.size W w') :
    Calls Try.prog 46 #[.agg #[.int .i64 op, .int .i64 n, .string s, .slice na nn nc, .slice (some ⟨b, off, none⟩) ln lc], .slice (some ⟨ab, ao, none⟩) 1 1, .agg #[.int .i64 bop, .int .i64 bn, .string bs, .slice ma mn mc, .slice ka kn kc]] w fun e w' => e = .returned (.tuple #[zeroSyn, .bool false]) ∧ Below w.heap.size w w' := by
  have hbx := boxes_new w #[.int .i64 op, .int .i64 n, .string s, .slice na nn nc, .slice (some ⟨b, off, none⟩) ln lc] #[.int .i64 bop, .int .i64 bn, .string bs, .slice ma mn mc, .slice ka kn kc]
  have hbz := blk_new ((w.alloc (.cells #[.int .i64 op, .int .i64 n, .string s, .slice na nn nc, .slice (some ⟨b, off, none⟩) ln lc] 25)).alloc (.cells #[.int .i64 bop, .int .i64 bn, .string bs, .slice ma mn mc, .slice ka kn kc] 25)) #[.int .i64 0, .int .i64 0, .string ⟨#[]⟩, .slice none 0 0, .slice none 0 0] 25
  rw [size_alloc, size_alloc] at hbz
  have HB0 := Lib.hid (show Below w.heap.size w (((w.alloc (.cells #[.int .i64 op, .int .i64 n, .string s, .slice na nn nc, .slice (some ⟨b, off, none⟩) ln lc] 25)).alloc (.cells #[.int .i64 bop, .int .i64 bn, .string bs, .slice ma mn mc, .slice ka kn kc] 25)).alloc (.cells #[.int .i64 0, .int .i64 0, .string ⟨#[]⟩, .slice none 0 0, .slice none 0 0] 25)) from (below2 w _ _).alloc (by simp; omega) _)
  have HT0 := Lib.hid (hbx.1.alloc (.cells #[.int .i64 0, .int .i64 0, .string ⟨#[]⟩, .slice none 0 0, .slice none 0 0] 25))
  have HY0 := Lib.hid (hbx.2.alloc (.cells #[.int .i64 0, .int .i64 0, .string ⟨#[]⟩, .slice none 0 0, .slice none 0 0] 25))
  have HZ0 := Lib.hid hbz
  have HSZ0 := Lib.hid (show (((w.alloc (.cells #[.int .i64 op, .int .i64 n, .string s, .slice na nn nc, .slice (some ⟨b, off, none⟩) ln lc] 25)).alloc (.cells #[.int .i64 bop, .int .i64 bn, .string bs, .slice ma mn mc, .slice ka kn kc] 25)).alloc (.cells #[.int .i64 0, .int .i64 0, .string ⟨#[]⟩, .slice none 0 0, .slice none 0 0] 25)).heap.size = w.heap.size + 3 by simp)
  have a0 := (HB0.out.cell (p := ⟨ab, ao, none⟩) habl).trans hai
  obtain ⟨x0, x1, x2, x3, x4⟩ := box_cells HT0.out
  obtain ⟨y0, y1, y2, y3, y4⟩ := box_cells HY0.out
  obtain ⟨z0, z1, z2, z3, z4⟩ := box_cells HZ0.out
  have t0 := HZ0.out.thaw 0
  have t1 := HZ0.out.thaw 1
  have t2 := HZ0.out.thaw 2
  have t3 := HZ0.out.thaw 3
  have t4 := HZ0.out.thaw 4
  clear hbx hbz hai habl
  have q1 : decide ((m : Int) < 0) = false := decide_eq_false (by omega)
  have q2 : decide ((m : Int) ≥ (ln : Int)) = false := decide_eq_false (by omega)
  have q3 : decide ((ln : Int) ≤ (m : Int)) = false := decide_eq_false (by omega)
  have HD0 := Lib.hid (fun p (hp : p < w.heap.size) o => (HB0.out.drew.cell (p := ⟨p, o, none⟩) hp))
  have HHI := Lib.hid HI
  have ee0 := (HB0.out.cell (p := ⟨b, off + m * 5, none⟩) hbl).trans e0
  have ee1 := (HB0.out.cell (p := ⟨b, off + m * 5 + 1, none⟩) hbl).trans e1
  have ee2 := (HB0.out.cell (p := ⟨b, off + m * 5 + 2, none⟩) hbl).trans e2
  have ee3 := (HB0.out.cell (p := ⟨b, off + m * 5 + 3, none⟩) hbl).trans e3
  have ee4 := (HB0.out.cell (p := ⟨b, off + m * 5 + 4, none⟩) hbl).trans e4
  have HE5 := Lib.hid (And.intro e0 (And.intro e1 (And.intro e2 (And.intro e3 e4))))
  have HBL := Lib.hid hbl
  clear e0 e1 e2 e3 e4 hbl HI
  go_enter Try.func46, Try.ntmps46
  go_wp2
  generalize hw0 : ((w.alloc (.cells #[.int .i64 op, .int .i64 n, .string s, .slice na nn nc, .slice (some ⟨b, off, none⟩) ln lc] 25)).alloc (.cells #[.int .i64 bop, .int .i64 bn, .string bs, .slice ma mn mc, .slice ka kn kc] 25)).alloc (.cells #[.int .i64 0, .int .i64 0, .string ⟨#[]⟩, .slice none 0 0, .slice none 0 0] 25) = w0 at HB0 HT0 HY0 HZ0 HSZ0 HD0 HHI a0 x0 x1 x2 x3 x4 y0 y1 y2 y3 y4 z0 z1 z2 z3 z4 t0 t1 t2 t3 t4 ee0 ee1 ee2 ee3 ee4 ⊢
  clear hw0
  have HBA := Lib.hid HB0.out.drew
  have HBB := Lib.hid (show Below w.heap.size w (w0.alloc (.cells #[.int .i64 0, .int .i64 0, .string ⟨#[]⟩, .slice none 0 0, .slice none 0 0] 25)).drew from (HB0.out.alloc HB0.out.size _).drew)
  have HPB := Lib.hid (show Blk (w0.alloc (.cells #[.int .i64 0, .int .i64 0, .string ⟨#[]⟩, .slice none 0 0, .slice none 0 0] 25)).drew w0.heap.size 25 #[.int .i64 0, .int .i64 0, .string ⟨#[]⟩, .slice none 0 0, .slice none 0 0] from blk_new w0 _ _)
  have HYB := Lib.hid (show Blk (w0.alloc (.cells #[.int .i64 0, .int .i64 0, .string ⟨#[]⟩, .slice none 0 0, .slice none 0 0] 25)).drew (w.heap.size + 1) 25 #[.int .i64 bop, .int .i64 bn, .string bs, .slice ma mn mc, .slice ka kn kc] from HY0.out.alloc _)
  have HTB := Lib.hid (show Blk (w0.alloc (.cells #[.int .i64 0, .int .i64 0, .string ⟨#[]⟩, .slice none 0 0, .slice none 0 0] 25)).drew w.heap.size 25 #[.int .i64 op, .int .i64 n, .string s, .slice na nn nc, .slice (some ⟨b, off, none⟩) ln lc] from HT0.out.alloc _)
  obtain ⟨by0, by1, by2, by3, by4⟩ := box_cells HYB.out
  obtain ⟨bt0, bt1, bt2, bt3, bt4⟩ := box_cells HTB.out
  have be0 := (HBB.out.cell (p := ⟨b, off + m * 5, none⟩) HBL.out).trans HE5.out.1
  have be1 := (HBB.out.cell (p := ⟨b, off + m * 5 + 1, none⟩) HBL.out).trans HE5.out.2.1
  have be2 := (HBB.out.cell (p := ⟨b, off + m * 5 + 2, none⟩) HBL.out).trans HE5.out.2.2.1
  have be3 := (HBB.out.cell (p := ⟨b, off + m * 5 + 3, none⟩) HBL.out).trans HE5.out.2.2.2.1
  have be4 := (HBB.out.cell (p := ⟨b, off + m * 5 + 4, none⟩) HBL.out).trans HE5.out.2.2.2.2
  go_region_law (first
    | (go_simp; go_at_call 46; with_reducible refine (HHI.out _ HBA.out).mono ?_; rintro e w5 ⟨rfl, hb5⟩; have HW5 := Lib.hid (belowStep hb5 ((Below.refl w0.heap.size w0).drew)); have HB5 := Lib.hid (belowStep hb5 HBA.out); have HZ5 := Lib.hid (Blk.of_eq HZ0.out (HW5.out.block _ (Blk.lt HZ0.out))); clear hb5)
    | (go_simp; go_at_call 46; with_reducible refine (HHI.out _ HBB.out).mono ?_; rintro e w5 ⟨rfl, hb5⟩; have HW5 := Lib.hid (belowStep hb5 (((Below.refl w0.heap.size w0).alloc (Nat.le_refl _) _).drew)); have hpb := Blk.of_eq HPB.out (hb5.block _ (Blk.lt HPB.out)); have HB5 := Lib.hid (belowStep hb5 HBB.out); obtain ⟨p0, p1, p2, p3, p4⟩ := box_cells hpb; have r0 := hpb.thaw 0; have r1 := hpb.thaw 1; have r2 := hpb.thaw 2; have r3 := hpb.thaw 3; have r4 := hpb.thaw 4; have HZ5 := Lib.hid (Blk.of_eq HZ0.out (HW5.out.block _ (Blk.lt HZ0.out))); clear hb5))
  all_goals
    first
      | (have HF := Lib.hid (show Fin w w5 ((((((w5.setCell ⟨w0.heap.size, 0, none⟩ (.int .i64 0)).setCell ⟨w0.heap.size, 1, none⟩ (.int .i64 0)).setCell ⟨w0.heap.size, 2, none⟩ (.string ⟨#[]⟩)).setCell ⟨w0.heap.size, 3, none⟩ (.slice none 0 0)).setCell ⟨w0.heap.size, 4, none⟩ (.slice none 0 0))) w0.heap.size #[.int .i64 0, .int .i64 0, .string ⟨#[]⟩, .slice none 0 0, .slice none 0 0] from fin_store (w := w) (w5 := w5) HB5.out hpb (by have := HSZ0.out; omega) (.int .i64 0) (.int .i64 0) (.string ⟨#[]⟩) (.slice none 0 0) (.slice none 0 0)); have hpp : w.heap.size + 2 < w0.heap.size := (by have := HSZ0.out; omega); generalize hwf : (((((w5.setCell ⟨w0.heap.size, 0, none⟩ (.int .i64 0)).setCell ⟨w0.heap.size, 1, none⟩ (.int .i64 0)).setCell ⟨w0.heap.size, 2, none⟩ (.string ⟨#[]⟩)).setCell ⟨w0.heap.size, 3, none⟩ (.slice none 0 0)).setCell ⟨w0.heap.size, 4, none⟩ (.slice none 0 0)) = wF at HF ⊢; generalize w0.heap.size = pb at HF hpp ⊢)
      | (have HF := Lib.hid (fin_alloc (w := w) (w5 := w5) HB5.out (by have := HW5.out.size; have := HSZ0.out; omega) #[.int .i64 0, .int .i64 0, .string ⟨#[]⟩, .slice none 0 0, .slice none 0 0]); have hpp : w.heap.size + 2 < w5.heap.size := (by have := HW5.out.size; have := HSZ0.out; omega); generalize hwf : w5.alloc (.cells #[.int .i64 0, .int .i64 0, .string ⟨#[]⟩, .slice none 0 0, .slice none 0 0] 25) = wF at HF ⊢; generalize w5.heap.size = pb at HF hpp ⊢)
    clear hwf
    clear a0 x0 x1 x2 x3 x4 y0 y1 y2 y3 y4 z0 z1 z2 z3 z4 t0 t1 t2 t3 t4 ee0 ee1 ee2 ee3 ee4 by0 by1 by2 by3 by4 bt0 bt1 bt2 bt3 bt4 be0 be1 be2 be3 be4 q1 q2 q3
    try clear p0 p1 p2 p3 p4 r0 r1 r2 r3 r4 hpb
    have HZF := Lib.hid (Blk.of_eq HZ5.out (HF.out.same _ (by omega) (Blk.lt HZ5.out)))
    obtain ⟨f0, f1, f2, f3, f4⟩ := box_cells HZF.out
    have h0 := HZF.out.thaw 0
    have h1 := HZF.out.thaw 1
    have h2 := HZF.out.thaw 2
    have h3 := HZF.out.thaw 3
    have h4 := HZF.out.thaw 4
    go_wp2
    have HEND := (store5_below HF.out.below (w.heap.size + 1 + 1) 0 (.int .i64 0) (.int .i64 0) (.string ⟨#[]⟩) (.slice none 0 0) (.slice none 0 0) (by omega))
    have HENB := (store5_blk HZF.out 0 (.int .i64 0) (.int .i64 0) (.string ⟨#[]⟩) (.slice none 0 0) (.slice none 0 0))
    unfold store5 at HEND HENB
    simp only [Nat.zero_add] at HEND HENB
    obtain ⟨k0, k1, k2, k3, k4⟩ := box_cells (by simpa [put5] using HENB)
    refine bodyPost_ret (v := .tuple #[zeroSyn, .bool false]) (by simp [results, Try.results46, go_sem, k0, k1, k2, k3, k4, zeroSyn]; try rfl) rfl ?_
    exact ⟨rfl, HEND⟩
end Go.Proofs.Ytkhpihacjhhklaa
