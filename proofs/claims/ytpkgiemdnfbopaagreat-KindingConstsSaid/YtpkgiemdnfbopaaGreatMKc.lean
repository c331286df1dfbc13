/-
  Several texts in one (Rj Rk Rl Rm Rn Ro Rp Rq Rr).
-/
import Derived.Test.YtpkgiemdnfbopaaGreatMKb
import Derived.Deep.RegionLaw
import Derived.RangeFuncNested
import Derived.RangeFuncBound
import Derived.RangeFuncCalls
import Derived.RangeFuncLeaves
import Derived.Shelf.Abstract
import Derived.Shelf.RegionOpen
import Derived.WalkKit
import Derived.OwnWalkIn
import Derived.TacticsInMore
import Derived.LoopNIn
import Derived.LoopIn
import Derived.Test.YtpkgiemdnfbopaaGreatProg
namespace Go.Proofs.YtpkgiemdnfbopaaGreat
open Go Go.RowKit
open Pl (K Con)
set_option linter.unusedSimpArgs false
set_option linter.unusedVariables false

theorem below_of_grown {w w' : World} (h : w.grownBy w' none) : Below w.heap.size w w' := ⟨h.os, h.tape, h.output, h.size, fun i hi => h.block i hi (fun e => by cases e)⟩
/-- six cells are written -/
def put6 (cur : Array Value) (o : Nat) (x0 x1 x2 x3 x4 x5 : Value) : Array Value := (((((cur.setIfInBounds o x0).setIfInBounds (o + 1) x1).setIfInBounds (o + 2) x2).setIfInBounds (o + 3) x3).setIfInBounds (o + 4) x4).setIfInBounds (o + 5) x5
theorem put6_size (cur : Array Value) (o : Nat) (x0 x1 x2 x3 x4 x5 : Value) : (put6 cur o x0 x1 x2 x3 x4 x5).size = cur.size := by unfold put6; simp
theorem put6_in (cur : Array Value) (o : Nat) (x0 x1 x2 x3 x4 x5 : Value) (h : o + 5 < cur.size) : ConIn (put6 cur o x0 x1 x2 x3 x4 x5) o (.agg #[x0, x1, x2, x3, x4, x5]) := by
  refine ⟨x0, x1, x2, x3, x4, x5, rfl, ?_, ?_, ?_, ?_, ?_, ?_⟩ <;> (unfold put6; simp [Array.getElem?_setIfInBounds]; try omega)
theorem put6_other (cur : Array Value) (o : Nat) (x0 x1 x2 x3 x4 x5 : Value) (q : Nat) (v : Value) (hq : q + 5 < o ∨ o + 5 < q) (h : ConIn cur q v) : ConIn (put6 cur o x0 x1 x2 x3 x4 x5) q v := by
  obtain ⟨y0, y1, y2, y3, y4, y5, rfl, h0, h1, h2, h3, h4, h5⟩ := h
  have each : ∀ d y, d < 6 → cur[q + d]? = some y → (put6 cur o x0 x1 x2 x3 x4 x5)[q + d]? = some y := by
    intro d y hd hy
    unfold put6
    rw [Array.getElem?_setIfInBounds_ne (by omega), Array.getElem?_setIfInBounds_ne (by omega), Array.getElem?_setIfInBounds_ne (by omega), Array.getElem?_setIfInBounds_ne (by omega), Array.getElem?_setIfInBounds_ne (by omega), Array.getElem?_setIfInBounds_ne (by omega)]
    exact hy
  exact ⟨y0, y1, y2, y3, y4, y5, rfl, each 0 _ (by omega) h0, each 1 _ (by omega) h1, each 2 _ (by omega) h2, each 3 _ (by omega) h3, each 4 _ (by omega) h4, each 5 _ (by omega) h5⟩
def store6 (w : World) (g o : Nat) (x0 x1 x2 x3 x4 x5 : Value) : World := (((((w.setCell ⟨g, o, none⟩ x0).setCell ⟨g, o + 1, none⟩ x1).setCell ⟨g, o + 2, none⟩ x2).setCell ⟨g, o + 3, none⟩ x3).setCell ⟨g, o + 4, none⟩ x4).setCell ⟨g, o + 5, none⟩ x5
theorem store6_blk {w : World} {g : Nat} {T : TypeId} {cur : Array Value} (h : Blk w g T cur) (o : Nat) (x0 x1 x2 x3 x4 x5 : Value) : Blk (store6 w g o x0 x1 x2 x3 x4 x5) g T (put6 cur o x0 x1 x2 x3 x4 x5) :=
  (((((h.set o x0).set (o + 1) x1).set (o + 2) x2).set (o + 3) x3).set (o + 4) x4).set (o + 5) x5
theorem store6_size (w : World) (g o : Nat) (x0 x1 x2 x3 x4 x5 : Value) : (store6 w g o x0 x1 x2 x3 x4 x5).heap.size = w.heap.size := by
  unfold store6
  rw [size_set, size_set, size_set, size_set, size_set, size_set]
theorem store6_other (w : World) (g o : Nat) (x0 x1 x2 x3 x4 x5 : Value) (b : Nat) (h : b ≠ g) : (store6 w g o x0 x1 x2 x3 x4 x5).heap[b]? = w.heap[b]? := by
  unfold store6
  rw [Below.heap_setCell _ _ _ _ h, Below.heap_setCell _ _ _ _ h, Below.heap_setCell _ _ _ _ h, Below.heap_setCell _ _ _ _ h, Below.heap_setCell _ _ _ _ h, Below.heap_setCell _ _ _ _ h]
theorem store6_only {G : Nat} {a w : World} (h : Only G a w) (g o : Nat) (x0 x1 x2 x3 x4 x5 : Value) (hg : g = G ∨ a.heap.size ≤ g) : Only G a (store6 w g o x0 x1 x2 x3 x4 x5) :=
  (((((h.setCell (p := ⟨g, o, none⟩) hg x0).setCell (p := ⟨g, o + 1, none⟩) hg x1).setCell (p := ⟨g, o + 2, none⟩) hg x2).setCell (p := ⟨g, o + 3, none⟩) hg x3).setCell (p := ⟨g, o + 4, none⟩) hg x4).setCell (p := ⟨g, o + 5, none⟩) hg x5
theorem store6_below {B : Nat} {a w : World} (h : Below B a w) (g o : Nat) (x0 x1 x2 x3 x4 x5 : Value) (hB : B ≤ g) : Below B a (store6 w g o x0 x1 x2 x3 x4 x5) :=
  (((((h.setCell (p := ⟨g, o, none⟩) hB x0).setCell (p := ⟨g, o + 1, none⟩) hB x1).setCell (p := ⟨g, o + 2, none⟩) hB x2).setCell (p := ⟨g, o + 3, none⟩) hB x3).setCell (p := ⟨g, o + 4, none⟩) hB x4).setCell (p := ⟨g, o + 5, none⟩) hB x5
theorem put6_all (y0 y1 y2 y3 y4 y5 x0 x1 x2 x3 x4 x5 : Value) : put6 #[y0, y1, y2, y3, y4, y5] 0 x0 x1 x2 x3 x4 x5 = #[x0, x1, x2, x3, x4, x5] := by simp [put6]
/-- whether a node may be made -/
def nodeOk (t : Con) (L d : Int) : Bool := decide (1 ≤ L) && (decide (d ≤ 400) && decide (t.n ≤ 20000))
/-- the zero constructor's value -/
def zeroV : Value := .agg #[.int .i64 0, .int .i64 0, .string ⟨#[]⟩, .slice none 0 0, .slice none 0 0, .slice none 0 0]
/-- what node leaves behind -/
def NodeP (P : Nat → Prop) (G : Nat) (t : Con) (L d : Int) (w : World) (e : Ending) (w' : World) : Prop :=
  Only G w w' ∧ ((nodeOk t L d = false ∧ e = .returned (.tuple #[zeroV, .bool false]) ∧ Blk w' G 139 #[.int .i64 L]) ∨
    (nodeOk t L d = true ∧ ∃ (B : Nat) (ka : Option Addr) (kc : Nat) (na : Option Addr) (nc : Nat) (la : Option Addr) (lc : Nat), e = .returned (.tuple #[.agg #[.int .i64 t.op, .int .i64 t.n, .string t.s, .slice ka t.kind.l.length kc, .slice na t.names.length nc, .slice la t.l.length lc], .bool true]) ∧ Blk w' G 139 #[.int .i64 (L - 1)] ∧
      w.heap.size + 2 ≤ B ∧ B ≤ w'.heap.size ∧ KidV w' (fun b => w.heap.size + 2 ≤ b ∧ b < B) t.kind (.slice ka t.kind.l.length kc) ∧ StrSl w' (fun b => w.heap.size + 2 ≤ b ∧ b < B) (.slice na t.names.length nc) t.names ∧ FreshC w' B P (.slice la t.l.length lc) t.l))
set_option maxRecDepth 100000 in
set_option maxHeartbeats 4000000 in
theorem node_any (P : Nat → Prop) (G : Nat) (t : Con) (L d : Int) (w : World) (v : Value) (hP : ∀ b, P b → b < w.heap.size ∧ b ≠ G) (hG : Blk w G 139 #[.int .i64 L]) (ht : ConV w P t v) (hk : K.valid t.kind = true) (h0 : 0 ≤ L) (h1 : L ≤ 1000000) (hln : t.names.length ≤ 1000000000) (hll : t.l.length ≤ 1000000000) :
    Calls Tryz.prog 63 #[.pointer (some ⟨G, 0, none⟩), v, .int .i64 d] w (NodeP P G t L d w) := by
  have HT := Lib.hid (fun W (hW : Only G w W) => ht.keep (Same.of_only hW hP))
  obtain ⟨ka, kn, kc, na, nn, nc, la, ln, lc, rfl, hkn, hnn, hlen⟩ := ht.shape
  subst hkn hnn hlen
  have HPARTS := Lib.hid (fun W (hW : Only G w W) => (show KidV W P t.kind (.slice ka t.kind.l.length kc) ∧ StrSl W P (.slice na t.names.length nc) t.names ∧ ConSl W P (.slice la t.l.length lc) t.l from by
    obtain ⟨-, kv', nv', lv', e, hk, hn, hl⟩ := (conV_iff _ _ _ _).1 (HT.out W hW)
    simp only [Value.agg.injEq, Array.mk.injEq, List.cons.injEq, and_true, true_and] at e
    obtain ⟨rfl, rfl, rfl⟩ := e
    exact ⟨hk, hn, hl⟩))
  have HCK := Lib.hid (fun W (hW : Only G w W) => copiedKind_any P t.kind W (.agg #[.slice ka t.kind.l.length kc]) (fun b h => Nat.lt_of_lt_of_le (hP b h).1 hW.size) ⟨_, rfl, (HPARTS.out W hW).1⟩ hk)
  have HP := Lib.hid hP
  have w1 : wrap64 (L - 1) = L - 1 := by rw [wrap64]; omega
  obtain ⟨hbx, hbx2, hb⟩ := twoN_new w 28 28 #[.int .i64 t.op, .int .i64 t.n, .string t.s, .slice ka t.kind.l.length kc, .slice na t.names.length nc, .slice la t.l.length lc] #[.int .i64 0, .int .i64 0, .string ⟨#[]⟩, .slice none 0 0, .slice none 0 0, .slice none 0 0]
  have hsz2 : ((w.alloc (.cells #[.int .i64 t.op, .int .i64 t.n, .string t.s, .slice ka t.kind.l.length kc, .slice na t.names.length nc, .slice la t.l.length lc] 28)).alloc (.cells #[.int .i64 0, .int .i64 0, .string ⟨#[]⟩, .slice none 0 0, .slice none 0 0, .slice none 0 0] 28)).heap.size = w.heap.size + 2 := by simp
  have HG := Lib.hid (hG.of_eq (hb.block _ hG.lt))
  have HGL := Lib.hid hG.lt
  have hgl := hG.lt
  have HBX := Lib.hid hbx
  have HBX2 := Lib.hid hbx2
  have HO := Lib.hid (only_below (N := G) hb)
  have HSZ := Lib.hid hsz2
  have g0 := HG.out.cell 0 (.int .i64 L) rfl
  have gf := HG.out.thaw 0
  have b1 := HBX.out.cell 1 (.int .i64 t.n) rfl
  have b3 := HBX.out.cell 3 (.slice ka t.kind.l.length kc) rfl
  have t0 := HBX2.out.thaw 0
  have t1 := HBX2.out.thaw 1
  have t2 := HBX2.out.thaw 2
  have t3 := HBX2.out.thaw 3
  have t4 := HBX2.out.thaw 4
  have t5 := HBX2.out.thaw 5
  have r0 := HBX2.out.cell 0 (.int .i64 0) rfl
  have r1 := HBX2.out.cell 1 (.int .i64 0) rfl
  have r2 := HBX2.out.cell 2 (.string ⟨#[]⟩) rfl
  have r3 := HBX2.out.cell 3 (.slice none 0 0) rfl
  have r4 := HBX2.out.cell 4 (.slice none 0 0) rfl
  have r5 := HBX2.out.cell 5 (.slice none 0 0) rfl
  clear hbx hbx2 hb hG ht hk hP HT hsz2 hgl
  go_enter Tryz.func63, Tryz.ntmps63
  by_cases hL : L = 0
  · have q1 : (L == 0) = true := by rw [hL]; rfl
    have HF := Lib.hid (show nodeOk t L d = false from by unfold nodeOk; rw [decide_eq_false (by omega : ¬ 1 ≤ L)]; simp)
    go_wp2_with fail
    refine bodyPost_ret (v := .tuple #[zeroV, .bool false]) (by simp [zeroV, results, Tryz.results63, go_sem, r0, r1, r2, r3, r4, r5]) rfl ?_
    exact ⟨HO.out, .inl ⟨HF.out, rfl, HG.out⟩⟩
  have q1 : (L == 0) = false := beq_eq_false_iff_ne.2 hL
  by_cases hD : 400 < d
  · have q2 : decide ((400 : Int) < d) = true := decide_eq_true hD
    have HF := Lib.hid (show nodeOk t L d = false from by unfold nodeOk; rw [decide_eq_false (by omega : ¬ d ≤ 400)]; simp)
    go_wp2_with fail
    refine bodyPost_ret (v := .tuple #[zeroV, .bool false]) (by simp [zeroV, results, Tryz.results63, go_sem, r0, r1, r2, r3, r4, r5]) rfl ?_
    exact ⟨HO.out, .inl ⟨HF.out, rfl, HG.out⟩⟩
  have q2 : decide ((400 : Int) < d) = false := decide_eq_false hD
  by_cases hN : 20000 < t.n
  · have q3 : decide ((20000 : Int) < t.n) = true := decide_eq_true hN
    have HF := Lib.hid (show nodeOk t L d = false from by unfold nodeOk; rw [decide_eq_false (by omega : ¬ t.n ≤ 20000)]; simp)
    go_wp2_with fail
    refine bodyPost_ret (v := .tuple #[zeroV, .bool false]) (by simp [zeroV, results, Tryz.results63, go_sem, r0, r1, r2, r3, r4, r5]) rfl ?_
    exact ⟨HO.out, .inl ⟨HF.out, rfl, HG.out⟩⟩
  have q3 : decide ((20000 : Int) < t.n) = false := decide_eq_false hN
  have HF := Lib.hid (show nodeOk t L d = true from by unfold nodeOk; rw [decide_eq_true (by omega : 1 ≤ L), decide_eq_true (by omega : d ≤ 400), decide_eq_true (by omega : t.n ≤ 20000)]; rfl)
  have n1 : ¬ w.heap.size = G := by have := HGL.out; omega
  have n2 : ¬ G = w.heap.size := by have := HGL.out; omega
  clear hL hD hN
  go_wp2_with fail
  clear q1 q2 q3 g0 gf b1 b3 t0 t1 t2 t3 t4 t5 r0 r1 r2 r3 r4 r5
  generalize ((w.alloc (.cells #[.int .i64 t.op, .int .i64 t.n, .string t.s, .slice ka t.kind.l.length kc, .slice na t.names.length nc, .slice la t.l.length lc] 28)).alloc (.cells #[.int .i64 0, .int .i64 0, .string ⟨#[]⟩, .slice none 0 0, .slice none 0 0, .slice none 0 0] 28)) = wa at *
  have HO3 := Lib.hid (show Only G w (wa.setCell ⟨G, 0, none⟩ (.int .i64 (L - 1))) from HO.out.setCell (p := ⟨G, 0, none⟩) (.inl rfl) _)
  have HG3 := Lib.hid (show Blk (wa.setCell ⟨G, 0, none⟩ (.int .i64 (L - 1))) G 139 #[.int .i64 (L - 1)] from blk_one HG.out)
  have HBX3 := Lib.hid (HBX.out.other ⟨G, 0, none⟩ (.int .i64 (L - 1)) n1)
  have HBY3 := Lib.hid (HBX2.out.other ⟨G, 0, none⟩ (.int .i64 (L - 1)) (show w.heap.size + 1 ≠ G from by have := HGL.out; omega))
  have HS3 := Lib.hid (show (wa.setCell ⟨G, 0, none⟩ (.int .i64 (L - 1))).heap.size = w.heap.size + 2 from by rw [size_set]; exact HSZ.out)
  clear HO HG HBX HBX2 HSZ
  generalize wa.setCell ⟨G, 0, none⟩ (.int .i64 (L - 1)) = w3 at *
  refine (HCK.out _ HO3.out).mono ?_
  rintro e w4 ⟨⟨ra, rc, rfl, hkid⟩, hb4⟩
  have hss4 := hb4.size
  have HO4 := Lib.hid (show Only G w (w4.setCell ⟨w.heap.size, 3, none⟩ (.slice ra t.kind.l.length rc)) from (HO3.out.below hb4 HO3.out.size).setCell (p := ⟨w.heap.size, 3, none⟩) (.inr (Nat.le_refl _)) _)
  have hbx4 := HBX3.out.of_eq (hb4.block _ HBX3.out.lt)
  have c3 := hbx4.cell 3 (.slice ka t.kind.l.length kc) rfl
  have f3 := hbx4.thaw 3
  have c4 := hbx4.cell 4 (.slice na t.names.length nc) rfl
  have HBX4 := Lib.hid (show Blk (w4.setCell ⟨w.heap.size, 3, none⟩ (.slice ra t.kind.l.length rc)) w.heap.size 28 #[.int .i64 t.op, .int .i64 t.n, .string t.s, .slice ra t.kind.l.length rc, .slice na t.names.length nc, .slice la t.l.length lc] from by simpa using hbx4.set 3 (.slice ra t.kind.l.length rc))
  have HBY4 := Lib.hid ((HBY3.out.of_eq (hb4.block _ HBY3.out.lt)).other ⟨w.heap.size, 3, none⟩ (.slice ra t.kind.l.length rc) (show w.heap.size + 1 ≠ w.heap.size from by omega))
  have HG4 := Lib.hid ((HG3.out.of_eq (hb4.block _ HG3.out.lt)).other ⟨w.heap.size, 3, none⟩ (.slice ra t.kind.l.length rc) n2)
  have HS4 := Lib.hid (show w.heap.size + 2 ≤ (w4.setCell ⟨w.heap.size, 3, none⟩ (.slice ra t.kind.l.length rc)).heap.size from by rw [size_set]; have := HS3.out; omega)
  have HK4 := Lib.hid (show KidV (w4.setCell ⟨w.heap.size, 3, none⟩ (.slice ra t.kind.l.length rc)) (fun b => w.heap.size + 2 ≤ b ∧ b < (w4.setCell ⟨w.heap.size, 3, none⟩ (.slice ra t.kind.l.length rc)).heap.size) t.kind (.slice ra t.kind.l.length rc) from by
    refine (hkid.keep (Same.set (w := w4) ⟨w.heap.size, 3, none⟩ (.slice ra t.kind.l.length rc) (fun q h e => by
      have e : q = w.heap.size := e
      have := h.1
      have := HS3.out
      omega))).mono (fun q h => ⟨by have := h.1; have := HS3.out; omega, by rw [size_set]; exact h.2⟩))
  have HNM := Lib.hid (strs_us (HPARTS.out _ HO4.out).2.1)
  obtain ⟨iS, si0, si1, si2, si3⟩ := info_parts infoStr
  clear hkid hb4 hbx4 HBX3 HBY3 HG3 HO3 HCK hss4 HS3
  go_wp2_with (at_builtin; refine append_fresh rfl _ _ 25 rfl (w.heap.size + 2) 9 iS (.string ByteArray.empty) 1 16 Tryz.underlying25 si0 si1 si2 si3 rfl (by decide) rfl na t.names.length nc (t.names.map Value.string) rfl ?n0 ?n1 ?n2 ?n3 ?n4 ?n5 ?n6 ?_)
  case n0 => exact HNM.out.2.2.2.1
  case n1 => exact HNM.out.2.2.2.2.1
  case n2 => exact HNM.out.2.2.2.2.2.1
  case n3 => exact HNM.out.2.2.2.2.2.2.1
  case n4 => unfold maxLen; omega
  case n5 => omega
  case n6 => exact HS4.out
  intro v' w6 hown hgrow
  clear c3 f3 c4
  generalize w4.setCell ⟨w.heap.size, 3, none⟩ (.slice ra t.kind.l.length rc) = w5 at *
  have hb6 := below_of_grown hgrow
  obtain ⟨ma, mc, rfl, hst⟩ := strs_of_row (S := fun b => w.heap.size + 2 ≤ b ∧ b < w6.heap.size) hown rfl HNM.out.2.2.2.2.2.2.2 (fun b h1 h2 => ⟨h1, h2⟩)
  have HO6 := Lib.hid (show Only G w (w6.setCell ⟨w.heap.size, 4, none⟩ (.slice ma t.names.length mc)) from (HO4.out.below hb6 HO4.out.size).setCell (p := ⟨w.heap.size, 4, none⟩) (.inr (Nat.le_refl _)) _)
  have hbx6 := HBX4.out.of_eq (hb6.block _ HBX4.out.lt)
  have c4 := hbx6.cell 4 (.slice na t.names.length nc) rfl
  have f4 := hbx6.thaw 4
  have c5 := hbx6.cell 5 (.slice la t.l.length lc) rfl
  have HBX6 := Lib.hid (show Blk (w6.setCell ⟨w.heap.size, 4, none⟩ (.slice ma t.names.length mc)) w.heap.size 28 #[.int .i64 t.op, .int .i64 t.n, .string t.s, .slice ra t.kind.l.length rc, .slice ma t.names.length mc, .slice la t.l.length lc] from by simpa using hbx6.set 4 (.slice ma t.names.length mc))
  have HBY6 := Lib.hid ((HBY4.out.of_eq (hb6.block _ HBY4.out.lt)).other ⟨w.heap.size, 4, none⟩ (.slice ma t.names.length mc) (show w.heap.size + 1 ≠ w.heap.size from by omega))
  have HG6 := Lib.hid ((HG4.out.of_eq (hb6.block _ HG4.out.lt)).other ⟨w.heap.size, 4, none⟩ (.slice ma t.names.length mc) n2)
  have hs6 := hb6.size
  have HS6 := Lib.hid (show w.heap.size + 2 ≤ (w6.setCell ⟨w.heap.size, 4, none⟩ (.slice ma t.names.length mc)).heap.size from by rw [size_set]; have := HS4.out; omega)
  have HSET := Lib.hid (fun q (h : w.heap.size + 2 ≤ q) => (show (w6.setCell ⟨w.heap.size, 4, none⟩ (.slice ma t.names.length mc)).heap[q]? = w6.heap[q]? from Below.heap_setCell _ _ _ _ (show q ≠ w.heap.size from by omega)))
  have HK6 := Lib.hid (show KidV (w6.setCell ⟨w.heap.size, 4, none⟩ (.slice ma t.names.length mc)) (fun b => w.heap.size + 2 ≤ b ∧ b < (w6.setCell ⟨w.heap.size, 4, none⟩ (.slice ma t.names.length mc)).heap.size) t.kind (.slice ra t.kind.l.length rc) from
    (HK4.out.keep (fun q h => (HSET.out q h.1).trans (hb6.block q h.2))).mono (fun q h => ⟨h.1, by rw [size_set]; exact Nat.lt_of_lt_of_le h.2 hs6⟩))
  have HM6 := Lib.hid (show StrSl (w6.setCell ⟨w.heap.size, 4, none⟩ (.slice ma t.names.length mc)) (fun b => w.heap.size + 2 ≤ b ∧ b < (w6.setCell ⟨w.heap.size, 4, none⟩ (.slice ma t.names.length mc)).heap.size) (.slice ma t.names.length mc) t.names from
    (hst.keep (fun q h => HSET.out q h.1)).mono (fun q h => ⟨h.1, by rw [size_set]; exact h.2⟩))
  obtain ⟨-, hu1, hu2, hu3, us, hu4, hu5, hu6, hu7⟩ := cons_us (HPARTS.out _ HO6.out).2.2
  have HU3 := Lib.hid hu3
  have HU4 := Lib.hid hu4
  have HU5 := Lib.hid hu5
  have HU6 := Lib.hid hu6
  have HU7 := Lib.hid hu7
  obtain ⟨iC, ci0, ci1, ci2, ci3⟩ := info_parts infoCon
  clear hst hown hgrow hb6 hbx6 HBX4 HBY4 HG4 HO4 HK4 HNM HSET hu1 hu2 hu3 hu4 hu5 hu6 hu7 hs6 HS4 si0 si1 si2 si3
  go_wp2_with (at_builtin; refine append_fresh rfl _ _ 26 rfl (w6.setCell ⟨w.heap.size, 4, none⟩ (.slice ma t.names.length mc)).heap.size 28 iC (.agg #[.int .i64 0, .int .i64 0, .string ByteArray.empty, .slice none 0 0, .slice none 0 0, .slice none 0 0]) 6 104 Tryz.underlying26 ci0 ci1 ci2 ci3 rfl (by decide) rfl la t.l.length lc us rfl ?n0 ?n1 ?n2 ?n3 ?n4 ?n5 ?n6 ?_)
  case n0 => exact HU3.out
  case n1 => exact HU4.out
  case n2 => exact HU5.out
  case n3 => exact HU6.out
  case n4 => unfold maxLen; omega
  case n5 => omega
  case n6 => exact Nat.le_refl _
  intro v' w8 hown hgrow
  clear c4 f4 c5
  have HS76 := Lib.hid (size_set w6 ⟨w.heap.size, 4, none⟩ (.slice ma t.names.length mc))
  generalize w6.setCell ⟨w.heap.size, 4, none⟩ (.slice ma t.names.length mc) = w7 at *
  have hb8 := below_of_grown hgrow
  have hfr : FreshC w8 w7.heap.size P v' t.l := by
    rw [HS76.out]
    exact fresh_of_row hown rfl (HU7.out.keep (Same.of_below hb8 (fun q hq => Nat.lt_of_lt_of_le (HP.out q hq).1 HO6.out.size)))
  obtain ⟨qa, qc, rfl⟩ : ∃ qa qc, v' = .slice qa t.l.length qc := by obtain ⟨a, c, e, -⟩ := hfr; exact ⟨a, c, e⟩
  have hbx8 := HBX6.out.of_eq (hb8.block _ HBX6.out.lt)
  have hby8 := HBY6.out.of_eq (hb8.block _ HBY6.out.lt)
  have c5 := hbx8.cell 5 (.slice la t.l.length lc) rfl
  have f5 := hbx8.thaw 5
  have hbx9 : Blk (w8.setCell ⟨w.heap.size, 5, none⟩ (.slice qa t.l.length qc)) w.heap.size 28 #[.int .i64 t.op, .int .i64 t.n, .string t.s, .slice ra t.kind.l.length rc, .slice ma t.names.length mc, .slice qa t.l.length qc] := by simpa using hbx8.set 5 (.slice qa t.l.length qc)
  have hby9 := hby8.other ⟨w.heap.size, 5, none⟩ (.slice qa t.l.length qc) (show w.heap.size + 1 ≠ w.heap.size from by omega)
  have d0 := hbx9.cell 0 (.int .i64 t.op) rfl
  have d1 := hbx9.cell 1 (.int .i64 t.n) rfl
  have d2 := hbx9.cell 2 (.string t.s) rfl
  have d3 := hbx9.cell 3 (.slice ra t.kind.l.length rc) rfl
  have d4 := hbx9.cell 4 (.slice ma t.names.length mc) rfl
  have d5 := hbx9.cell 5 (.slice qa t.l.length qc) rfl
  have t0 := hby9.thaw 0
  have t1 := hby9.thaw 1
  have t2 := hby9.thaw 2
  have t3 := hby9.thaw 3
  have t4 := hby9.thaw 4
  have t5 := hby9.thaw 5
  have r0 := hby9.cell 0 (.int .i64 0) rfl
  have r1 := hby9.cell 1 (.int .i64 0) rfl
  have r2 := hby9.cell 2 (.string ⟨#[]⟩) rfl
  have r3 := hby9.cell 3 (.slice none 0 0) rfl
  have r4 := hby9.cell 4 (.slice none 0 0) rfl
  have r5 := hby9.cell 5 (.slice none 0 0) rfl
  have hz := store6_blk hby9 0 (.int .i64 t.op) (.int .i64 t.n) (.string t.s) (.slice ra t.kind.l.length rc) (.slice ma t.names.length mc) (.slice qa t.l.length qc)
  rw [put6_all] at hz
  have hs8 := hb8.size
  have hs7 := HS6.out
  have hsame : ∀ q, q ≠ w.heap.size → q ≠ w.heap.size + 1 → (store6 (w8.setCell ⟨w.heap.size, 5, none⟩ (.slice qa t.l.length qc)) (w.heap.size + 1) 0 (.int .i64 t.op) (.int .i64 t.n) (.string t.s) (.slice ra t.kind.l.length rc) (.slice ma t.names.length mc) (.slice qa t.l.length qc)).heap[q]? = w8.heap[q]? := fun q h1 h2 => (store6_other _ _ _ _ _ _ _ _ _ q h2).trans (Below.heap_setCell _ _ _ _ (show q ≠ w.heap.size from h1))
  have hsz : (store6 (w8.setCell ⟨w.heap.size, 5, none⟩ (.slice qa t.l.length qc)) (w.heap.size + 1) 0 (.int .i64 t.op) (.int .i64 t.n) (.string t.s) (.slice ra t.kind.l.length rc) (.slice ma t.names.length mc) (.slice qa t.l.length qc)).heap.size = w8.heap.size := by rw [store6_size, size_set]
  have HE := Lib.hid (show NodeP P G t L d w (.returned (.tuple #[.agg #[.int .i64 t.op, .int .i64 t.n, .string t.s, .slice ra t.kind.l.length rc, .slice ma t.names.length mc, .slice qa t.l.length qc], .bool true])) (store6 (w8.setCell ⟨w.heap.size, 5, none⟩ (.slice qa t.l.length qc)) (w.heap.size + 1) 0 (.int .i64 t.op) (.int .i64 t.n) (.string t.s) (.slice ra t.kind.l.length rc) (.slice ma t.names.length mc) (.slice qa t.l.length qc)) from by
    refine ⟨store6_only ((HO6.out.below hb8 HO6.out.size).setCell (p := ⟨w.heap.size, 5, none⟩) (.inr (Nat.le_refl _)) _) _ _ _ _ _ _ _ _ (.inr (Nat.le_succ _)), .inr ⟨HF.out, w7.heap.size, ra, rc, ma, mc, qa, qc, rfl, ?_, hs7, by rw [hsz]; exact hs8, ?_, ?_, ?_⟩⟩
    · exact (HG6.out.of_eq (hb8.block _ HG6.out.lt)).of_eq (hsame G n2 (by have := HGL.out; omega))
    · exact HK6.out.keep (fun q h => (hsame q (by have := h.1; omega) (by have := h.1; omega)).trans (hb8.block q h.2))
    · exact HM6.out.keep (fun q h => (hsame q (by have := h.1; omega) (by have := h.1; omega)).trans (hb8.block q h.2))
    · exact hfr.keep (fun q h1 h2 => hsame q (by have := h1; omega) (by have := h1; omega)) (fun q hq => hsame q (by have := (HP.out q hq).1; omega) (by have := (HP.out q hq).1; omega)))
  unfold store6 at hz HE
  simp only [Nat.zero_add] at hz HE
  have z0 := hz.cell 0 (.int .i64 t.op) rfl
  have z1 := hz.cell 1 (.int .i64 t.n) rfl
  have z2 := hz.cell 2 (.string t.s) rfl
  have z3 := hz.cell 3 (.slice ra t.kind.l.length rc) rfl
  have z4 := hz.cell 4 (.slice ma t.names.length mc) rfl
  have z5 := hz.cell 5 (.slice qa t.l.length qc) rfl
  clear hown hgrow hb8 hfr hbx8 hby8 hbx9 hby9 hz hs8 hs7 hsame hsz HBX6 HBY6 HG6 HO6 HK6 HM6 HU3 HU4 HU5 HU6 HU7 HS6 HS76 ci0 ci1 ci2 ci3
  go_wp2
  refine bodyPost_ret (v := .tuple #[.agg #[.int .i64 t.op, .int .i64 t.n, .string t.s, .slice ra t.kind.l.length rc, .slice ma t.names.length mc, .slice qa t.l.length qc], .bool true]) (by simp [results, Tryz.results63, go_sem, z0, z1, z2, z3, z4, z5]) rfl ?_
  exact HE.out
end Go.Proofs.YtpkgiemdnfbopaaGreat
namespace Go.Proofs.YtpkgiemdnfbopaaGreat
open Go Go.RowKit
open Pl (K Con)
set_option linter.unusedSimpArgs false
set_option linter.unusedVariables false

theorem node_facts (t : Con) (h : Con.nodeB t = true) : K.valid t.kind = true ∧ t.names.length ≤ 1000 ∧ t.l.length ≤ 1000 := by
  unfold Con.nodeB at h
  simp only [Bool.and_eq_true] at h
  obtain ⟨-, hs, -, -, hk⟩ := h
  refine ⟨?_, ?_⟩
  · unfold Con.kindB at hk
    split at hk
    · exact hk
    · rw [decide_eq_true_eq] at hk
      rw [kind_none hk]
      decide +kernel
  · unfold Con.shapeB at hs
    split at hs
    · rw [Bool.and_eq_true, decide_eq_true_eq, decide_eq_true_eq] at hs
      have hp : Con.partsOf t.op ≤ 2 := by
        unfold Con.partsOf
        split
        · omega
        · split
          · omega
          · split <;> omega
      omega
    · rw [Bool.and_eq_true, decide_eq_true_eq] at hs
      have h2 := hs.2
      unfold Con.labelsOk at h2
      simp only [Bool.and_eq_true, decide_eq_true_eq] at h2
      omega
/-- where what is made lies: it is new, or (where it did not fit) it was there -/
def Reg (b : Bool) (N n0 : Nat) (w : World) (q : Nat) : Prop := (b = false ∧ q < N) ∨ (n0 ≤ q ∧ q < w.heap.size)
/-- what is rebuilt: within the limits, and then this, or not -/
def RebP (N G : Nat) (want : Con) (L d : Int) (w : World) (e : Ending) (w' : World) : Prop :=
  Only G w w' ∧ ∃ (y : Value) (u : Con) (c : Int), e = .returned (.tuple #[y, .bool (fitB want L d)]) ∧ ConV w' (Reg (fitB want L d) N w.heap.size w') u y ∧ Blk w' G 139 #[.int .i64 c] ∧ 0 ≤ c ∧ c ≤ L ∧ (fitB want L d = true → u = want ∧ c = L - want.size)
/-- the contract of a change -/
structure ChangeOk (N G : Nat) (k : Nat) (cap : Array Value) (F : Con → Int → Con) (w0 : World) : Prop where
  enter : ∀ (W : World) (args : Array Value), Sem.run Tryz.prog (callFunc k args) W = .ok (.enter k args) W
  calls : ∀ (W : World) (t : Con) (v : Value) (b d L : Int), Only G w0 W → Blk W G 139 #[.int .i64 L] → 0 ≤ L → L ≤ 20000 → 0 ≤ b → b ≤ d → 1 ≤ d → d ≤ 401 → Con.leafy t b → Con.nodeB t = true → ConV W (· < N) t v → Calls Tryz.prog k (#[v, .int .i64 b, .int .i64 d] ++ cap) W (RebP N G (F t b) L d W)
/-- what rebuilt holds while it goes on: the first k parts are done -/
structure CR (N G Bn BR : Nat) (t : Con) (m : List Con) (L d : Int) (V : Array Value) (ka : Option Addr) (kc : Nat) (na : Option Addr) (nc : Nat) (qa : Option Addr) (qc : Nat) (w wr : World) (k : Nat) (ok : Bool) (c : Int) : Prop where
  only : Only G w wr
  bld : Blk wr G 139 #[.int .i64 c]
  box : Blk wr w.heap.size 28 V
  res : Blk wr (w.heap.size + 1) 28 #[.int .i64 0, .int .i64 0, .string ⟨#[]⟩, .slice none 0 0, .slice none 0 0, .slice none 0 0]
  rbx : Blk wr BR 28 #[.int .i64 t.op, .int .i64 t.n, .string t.s, .slice ka t.kind.l.length kc, .slice na t.names.length nc, .slice qa t.l.length qc]
  big : w.heap.size + 2 ≤ Bn ∧ Bn ≤ BR
  kid : KidV wr (fun q => w.heap.size + 2 ≤ q ∧ q < Bn) t.kind (.slice ka t.kind.l.length kc)
  nms : StrSl wr (fun q => w.heap.size + 2 ≤ q ∧ q < Bn) (.slice na t.names.length nc) t.names
  len : t.l.length ≤ qc ∧ qc ≤ maxLen ∧ (qa = none → qc = 0)
  row : t.l = [] ∨ ∃ g cur, qa = some ⟨g, 0, none⟩ ∧ Bn ≤ g ∧ g < BR ∧ Blk wr g 28 cur ∧ t.l.length * 6 ≤ cur.size ∧
    (∀ j (h : j < t.l.length), j < k → ∃ x u, ConIn cur (j * 6) x ∧ ConV wr (Reg ok N (BR + 1) wr) u x ∧ (ok = true → m[j]? = some u)) ∧ (∀ j (h : j < t.l.length), k ≤ j → ∃ x, ConIn cur (j * 6) x ∧ ConV wr (· < N) t.l[j] x)
  fit : ok = fitsB (m.take k) (L - 1) (d + 1)
  left : 0 ≤ c ∧ c ≤ L ∧ (ok = true → c = L - 1 - (Con.sizes (m.take k) : Int))
theorem Only.heap {G : Nat} {w w' : World} (h : Only G w w') {q : Nat} (hq : q < w.heap.size) (hn : q ≠ G) : w'.heap[q]? = w.heap[q]? := World.grownBy.block h q hq (fun e => by injection e with e; exact hn e)
set_option maxHeartbeats 2000000 in
theorem CR.push {N G Bn BR : Nat} {t z : Con} {m : List Con} {L d : Int} {V : Array Value} {ka : Option Addr} {kc : Nat} {na : Option Addr} {nc g qc : Nat} {w wr w5 : World} {k : Nat} {c c' : Int} {u : Con} {x0 x1 x2 x3 x4 x5 : Value}
    (h : CR N G Bn BR t m L d V ka kc na nc (some ⟨g, 0, none⟩) qc w wr k true c) (hNG : N ≤ G) (hG : G < w.heap.size) (hk : k < t.l.length) (hz : m[k]? = some z) (ho : Only G wr w5)
    (hv : ConV w5 (Reg (fitB z c (d + 1)) N wr.heap.size w5) u (.agg #[x0, x1, x2, x3, x4, x5])) (hb : Blk w5 G 139 #[.int .i64 c']) (h0 : 0 ≤ c') (h1 : c' ≤ c) (hf : fitB z c (d + 1) = true → u = z ∧ c' = c - z.size) :
    CR N G Bn BR t m L d V ka kc na nc (some ⟨g, 0, none⟩) qc w (store6 w5 g (k * 6) x0 x1 x2 x3 x4 x5) (k + 1) (fitB z c (d + 1)) c' := by
  obtain ⟨hkm, rfl⟩ := List.getElem?_eq_some_iff.1 hz
  rcases h.row with hr | ⟨g', cur, he, hgb, hgr, hblk, hsz, hdone, htodo⟩
  · rw [hr] at hk; simp at hk
  injection he with he
  injection he with he
  subst he
  have hbig := h.big
  have hgl := hblk.lt
  have hrl := h.rbx.lt
  have hws := h.only.size
  have hss := ho.size
  have hsame : ∀ q, q < wr.heap.size → q ≠ G → q ≠ g → (store6 w5 g (k * 6) x0 x1 x2 x3 x4 x5).heap[q]? = wr.heap[q]? := fun q h1 h2 h3 => (store6_other w5 g (k * 6) x0 x1 x2 x3 x4 x5 q h3).trans (ho.heap h1 h2)
  have hfit := h.fit
  have hleft := h.left
  refine ⟨store6_only (h.only.trans ho) g (k * 6) x0 x1 x2 x3 x4 x5 (.inr (by omega)), hb.of_eq (store6_other w5 g (k * 6) x0 x1 x2 x3 x4 x5 G (by omega)), h.box.of_eq (hsame _ h.box.lt (by omega) (by omega)), h.res.of_eq (hsame _ h.res.lt (by omega) (by omega)), h.rbx.of_eq (hsame _ h.rbx.lt (by omega) (by omega)), hbig, ?_, ?_, h.len, .inr ⟨g, _, rfl, hgb, hgr, store6_blk (hblk.of_eq (ho.heap hgl (by omega))) (k * 6) x0 x1 x2 x3 x4 x5, by rw [put6_size]; exact hsz, fun j hj hjk => ?_, fun j hj hjk => ?_⟩, ?_, ?_⟩
  · exact h.kid.keep (fun q hq => hsame q (by have := hq.2; omega) (by have := hq.1; omega) (by have := hq.2; omega))
  · exact h.nms.keep (fun q hq => hsame q (by have := hq.2; omega) (by have := hq.1; omega) (by have := hq.2; omega))
  · by_cases hjk2 : j = k
    · subst hjk2
      refine ⟨_, u, put6_in cur (j * 6) x0 x1 x2 x3 x4 x5 (by omega), (hv.keep (fun q hq => store6_other w5 g (j * 6) x0 x1 x2 x3 x4 x5 q (by rcases hq with hq | hq <;> omega))).mono (fun q hq => ?_), fun hok => ?_⟩
      · rcases hq with hq | hq
        · exact .inl hq
        · exact .inr ⟨by omega, by rw [store6_size]; exact hq.2⟩
      · rw [List.getElem?_eq_getElem hkm, (hf hok).1]
    · obtain ⟨x, u', hx, hs, hu⟩ := hdone j hj (by omega)
      refine ⟨x, u', put6_other cur (k * 6) x0 x1 x2 x3 x4 x5 (j * 6) x (by omega) hx, (hs.keep (fun q hq => hsame q (by rcases hq with hq | hq <;> omega) (by rcases hq with hq | hq <;> omega) (by rcases hq with hq | hq <;> omega))).mono (fun q hq => ?_), fun _ => hu rfl⟩
      rcases hq with hq | hq
      · exact absurd hq.1 (by simp)
      · exact .inr ⟨hq.1, by rw [store6_size]; omega⟩
  · obtain ⟨x, hx, hs⟩ := htodo j hj (by omega)
    exact ⟨x, put6_other cur (k * 6) x0 x1 x2 x3 x4 x5 (j * 6) x (by omega) hx, hs.keep (fun q hq => hsame q (by have : q < N := hq; omega) (by have : q < N := hq; omega) (by have : q < N := hq; omega))⟩
  · rw [fitsB_take m k hkm, ← hfit, Bool.true_and, (hleft.2.2 rfl)]
  · refine ⟨h0, by omega, fun hok => ?_⟩
    rw [(hf hok).2, hleft.2.2 rfl, Con.sizes_take m k hkm]
    omega
/-- all parts are done, or it stopped: what lies there is a constructor -/
theorem CR.done {N G Bn BR : Nat} {t : Con} {m : List Con} {L d : Int} {V : Array Value} {ka : Option Addr} {kc : Nat} {na : Option Addr} {nc : Nat} {qa : Option Addr} {qc : Nat} {w wr w' : World} {k : Nat} {ok : Bool} {c : Int}
    (h : CR N G Bn BR t m L d V ka kc na nc qa qc w wr k ok c) (hN : N ≤ w.heap.size) (hs : t.s.size ≤ maxLen) (hm : m.length = t.l.length) (hk : ok = true → t.l.length ≤ k) (hsame : ∀ q, q ≠ w.heap.size + 1 → w'.heap[q]? = wr.heap[q]?) (hsz : wr.heap.size ≤ w'.heap.size) :
    ∃ u, ConV w' (Reg ok N w.heap.size w') u (.agg #[.int .i64 t.op, .int .i64 t.n, .string t.s, .slice ka t.kind.l.length kc, .slice na t.names.length nc, .slice qa t.l.length qc]) ∧ (ok = true → u = Con.inside t m) := by
  have hbig := h.big
  have hrl := h.rbx.lt
  have key : ∃ l : List Con, l.length = t.l.length ∧ (ok = true → l = m) ∧ ConSl w' (Reg ok N w.heap.size w') (.slice qa t.l.length qc) l := by
    rcases h.row with hr | ⟨g, cur, rfl, hgb, hgr, hblk, hcs, hdone, htodo⟩
    · refine ⟨[], by rw [hr], fun _ => (List.eq_nil_of_length_eq_zero (by rw [hm, hr]; rfl)).symm, qa, qc, by rw [hr], by rw [List.length_nil]; exact Nat.zero_le _, h.len.2.1, h.len.2.2, .inl rfl⟩
    · have hgl := hblk.lt
      have each : ∀ j, j < t.l.length → ∃ u : Con, ∃ x, ConIn cur (j * 6) x ∧ ConV w' (Reg ok N w.heap.size w') u x ∧ (ok = true → m[j]? = some u) := by
        intro j hj
        by_cases hjk : j < k
        · obtain ⟨x, u, hx, hv, hu⟩ := hdone j hj hjk
          refine ⟨u, x, hx, (hv.keep (fun q hq => hsame q (by rcases hq with hq | hq <;> omega))).mono (fun q hq => ?_), hu⟩
          rcases hq with hq | hq
          · exact .inl hq
          · exact .inr ⟨by omega, by omega⟩
        · obtain ⟨x, hx, hv⟩ := htodo j hj (by omega)
          refine ⟨t.l[j], x, hx, (hv.keep (fun q hq => hsame q (by have : q < N := hq; omega))).mono (fun q hq => .inl ⟨by
            cases hb : ok
            · rfl
            · have := hk hb; omega, hq⟩), fun hok => ?_⟩
          have := hk hok
          omega
      obtain ⟨U, hU⟩ := Go.Deep.choose_lt each
      refine ⟨(List.range t.l.length).map U, by simp, fun hok => ?_, _, qc, by simp, by simpa using h.len.1, h.len.2.1, h.len.2.2, .inr ⟨g, 0, rfl, .inr ⟨by omega, by omega⟩, ?_⟩⟩
      · refine List.ext_getElem (by simp [hm]) (fun j h1 h2 => ?_)
        have hj : j < t.l.length := by simpa using h1
        obtain ⟨x, -, -, hu⟩ := hU j hj
        have := hu hok
        rw [List.getElem?_eq_getElem (by omega)] at this
        injection this with this
        rw [List.getElem_map, List.getElem_range]
        exact this.symm
      · rw [consAt_iff]
        intro j hj
        have hj' : j < t.l.length := by simpa using hj
        obtain ⟨x, hx, hv, -⟩ := hU j hj'
        refine ⟨x, by rw [Nat.zero_add]; exact hx.at (hblk.of_eq (hsame g (by omega))), ?_⟩
        rw [List.getElem_map, List.getElem_range]
        exact hv
  obtain ⟨l, hl1, hl2, hl3⟩ := key
  refine ⟨Con.inside t l, (conV_iff _ _ _ _).2 ⟨hs, _, _, _, rfl, ?_, ?_, hl3⟩, fun hok => by rw [hl2 hok]⟩
  · exact (h.kid.keep (fun q hq => hsame q (by have := hq.1; omega))).mono (fun q hq => .inr ⟨by have := hq.1; omega, by have := hq.2; omega⟩)
  · exact (h.nms.keep (fun q hq => hsame q (by have := hq.1; omega))).mono (fun q hq => .inr ⟨by have := hq.1; omega, by have := hq.2; omega⟩)
end Go.Proofs.YtpkgiemdnfbopaaGreat
namespace Go.Proofs.YtpkgiemdnfbopaaGreat
open Go Go.RowKit
open Pl (K Con)
set_option linter.unusedSimpArgs false
set_option linter.unusedVariables false

theorem fit_node_false (t : Con) (L d : Int) (m : List Con) (h : nodeOk t L d = false) : fitB (Con.inside t m) L d = false := by
  rw [fitB_node]
  have e : (decide (1 ≤ L) && (decide (d ≤ 400) && decide ((Con.inside t m).n ≤ 20000))) = nodeOk t L d := rfl
  rw [e, h, Bool.false_and]
theorem fit_node_true (t : Con) (L d : Int) (m : List Con) (h : nodeOk t L d = true) : fitB (Con.inside t m) L d = fitsB m (L - 1) (d + 1) := by
  rw [fitB_node]
  have e : (decide (1 ≤ L) && (decide (d ≤ 400) && decide ((Con.inside t m).n ≤ 20000))) = nodeOk t L d := rfl
  rw [e, h, Bool.true_and]
  rfl
theorem nodeOk_iff (t : Con) (L d : Int) : nodeOk t L d = true → 1 ≤ L ∧ d ≤ 400 := by
  unfold nodeOk
  rw [Bool.and_eq_true, Bool.and_eq_true, decide_eq_true_eq, decide_eq_true_eq]
  exact fun h => ⟨h.1, h.2.1⟩
theorem leaf_not (t : Con) (b : Int) (h1 : (t.op == 2) = false) (h2 : (t.op == 1) = false ∨ decide (b ≤ t.n) = false) : ¬ Con.leafy t b := by
  rintro (h | ⟨h, h3⟩)
  · rw [h] at h1; cases h1
  · rcases h2 with h2 | h2
    · rw [h] at h2; cases h2
    · rw [decide_eq_true h3] at h2; cases h2
set_option maxRecDepth 100000 in
set_option maxHeartbeats 4000000 in
theorem rebuilt_leaf (N G k : Nat) (cap : Array Value) (F : Con → Int → Con) (w0 : World) (HC : ChangeOk N G k cap F w0) (t : Con) (L d b : Int) (w : World) (v : Value) (hN : N ≤ G) (hw : Only G w0 w) (hG : Blk w G 139 #[.int .i64 L]) (ht : ConV w (· < N) t v) (ha : Con.nodeB t = true) (hlf : Con.leafy t b) (h0 : 0 ≤ L) (h1 : L ≤ 20000) (hb0 : 0 ≤ b) (hb1 : b ≤ d) (hd0 : 1 ≤ d) (hd1 : d ≤ 401) :
    Calls Tryz.prog 103 #[.pointer (some ⟨G, 0, none⟩), v, .int .i64 b, .int .i64 d, .func (.func k) #[] cap] w (RebP N G (F t b) L d w) := by
  have hen := HC.enter
  have hNs : N ≤ w.heap.size := Nat.le_of_lt (Nat.lt_of_le_of_lt hN hG.lt)
  have HCALL := Lib.hid (fun W (hW : Only G w W) (hg : Blk W G 139 #[.int .i64 L]) => HC.calls W t v b d L (hw.trans hW) hg h0 h1 hb0 hb1 hd0 hd1 hlf ha (ht.keep (Same.of_only hW (fun q hq => ⟨Nat.lt_of_lt_of_le hq hNs, by have : q < N := hq; omega⟩))))
  obtain ⟨ka, kn, kc, na, nn, nc, la, ln, lc, rfl, hkn, hnn, hlen⟩ := ht.shape
  subst hkn hnn hlen
  obtain ⟨hbx, hbx2, hb⟩ := twoN_new w 28 28 #[.int .i64 t.op, .int .i64 t.n, .string t.s, .slice ka t.kind.l.length kc, .slice na t.names.length nc, .slice la t.l.length lc] #[.int .i64 0, .int .i64 0, .string ⟨#[]⟩, .slice none 0 0, .slice none 0 0, .slice none 0 0]
  have hsz2 : ((w.alloc (.cells #[.int .i64 t.op, .int .i64 t.n, .string t.s, .slice ka t.kind.l.length kc, .slice na t.names.length nc, .slice la t.l.length lc] 28)).alloc (.cells #[.int .i64 0, .int .i64 0, .string ⟨#[]⟩, .slice none 0 0, .slice none 0 0, .slice none 0 0] 28)).heap.size = w.heap.size + 2 := by simp
  have HG := Lib.hid (hG.of_eq (hb.block _ hG.lt))
  have hgl := hG.lt
  have HGL := Lib.hid hgl
  have HBX2 := Lib.hid hbx2
  have HO := Lib.hid (only_below (N := G) hb)
  have HSZ := Lib.hid hsz2
  have c0 := hbx.cell 0 (.int .i64 t.op) rfl
  have c1 := hbx.cell 1 (.int .i64 t.n) rfl
  have c2 := hbx.cell 2 (.string t.s) rfl
  have c3 := hbx.cell 3 (.slice ka t.kind.l.length kc) rfl
  have c4 := hbx.cell 4 (.slice na t.names.length nc) rfl
  have c5 := hbx.cell 5 (.slice la t.l.length lc) rfl
  clear hbx hbx2 hb hG ht HC hw hsz2 hgl ha
  have hlf2 := hlf
  go_enter Tryz.func103, Tryz.ntmps103
  rcases hlf2 with h2 | ⟨h2, h3⟩
  · have q1 : (t.op == 2) = true := by rw [h2]; rfl
    clear h2 hlf
    go_wp2_with fail
    clear c0 c1 c2 c3 c4 c5
    generalize ((w.alloc (.cells #[.int .i64 t.op, .int .i64 t.n, .string t.s, .slice ka t.kind.l.length kc, .slice na t.names.length nc, .slice la t.l.length lc] 28)).alloc (.cells #[.int .i64 0, .int .i64 0, .string ⟨#[]⟩, .slice none 0 0, .slice none 0 0, .slice none 0 0] 28)) = wa at *
    refine (HCALL.out _ HO.out HG.out).mono ?_
    rintro e w3 ⟨ho3, y, u, c, rfl, hy, hg3, hc0, hc1, hfit⟩
    have hsz := HSZ.out
    have hss := ho3.size
    obtain ⟨ua, un, uc, va, vn, vc, xa, xn, xc, rfl, -, -, -⟩ := hy.shape
    have hby := ho3.blk HBX2.out (show w.heap.size + 1 ≠ G from by have := HGL.out; omega)
    have t0 := hby.thaw 0
    have t1 := hby.thaw 1
    have t2 := hby.thaw 2
    have t3 := hby.thaw 3
    have t4 := hby.thaw 4
    have t5 := hby.thaw 5
    have r0 := hby.cell 0 (.int .i64 0) rfl
    have r1 := hby.cell 1 (.int .i64 0) rfl
    have r2 := hby.cell 2 (.string ⟨#[]⟩) rfl
    have r3 := hby.cell 3 (.slice none 0 0) rfl
    have r4 := hby.cell 4 (.slice none 0 0) rfl
    have r5 := hby.cell 5 (.slice none 0 0) rfl
    have hz := store6_blk hby 0 (.int .i64 u.op) (.int .i64 u.n) (.string u.s) (.slice ua un uc) (.slice va vn vc) (.slice xa xn xc)
    rw [put6_all] at hz
    have HE := Lib.hid (show RebP N G (F t b) L d w (.returned (.tuple #[.agg #[.int .i64 u.op, .int .i64 u.n, .string u.s, .slice ua un uc, .slice va vn vc, .slice xa xn xc], .bool (fitB (F t b) L d)])) (store6 w3 (w.heap.size + 1) 0 (.int .i64 u.op) (.int .i64 u.n) (.string u.s) (.slice ua un uc) (.slice va vn vc) (.slice xa xn xc)) from by
      refine ⟨store6_only (HO.out.trans ho3) _ _ _ _ _ _ _ _ (.inr (Nat.le_succ _)), _, u, c, rfl, ?_, hg3.of_eq (store6_other _ _ _ _ _ _ _ _ _ G (by have := HGL.out; omega)), hc0, hc1, hfit⟩
      refine (hy.keep (fun q hq => store6_other _ _ _ _ _ _ _ _ _ q (by rcases hq with hq | hq <;> omega))).mono (fun q hq => ?_)
      rcases hq with hq | hq
      · exact .inl hq
      · exact .inr ⟨by omega, by rw [store6_size]; exact hq.2⟩)
    unfold store6 at hz HE
    simp only [Nat.zero_add] at hz HE
    have z0 := hz.cell 0 (.int .i64 u.op) rfl
    have z1 := hz.cell 1 (.int .i64 u.n) rfl
    have z2 := hz.cell 2 (.string u.s) rfl
    have z3 := hz.cell 3 (.slice ua un uc) rfl
    have z4 := hz.cell 4 (.slice va vn vc) rfl
    have z5 := hz.cell 5 (.slice xa xn xc) rfl
    clear hy hg3 hfit hby hz ho3 hsz hss HCALL HO HG HBX2 HSZ
    generalize fitB (F t b) L d = r at *
    go_wp2
    refine bodyPost_ret (v := .tuple #[.agg #[.int .i64 u.op, .int .i64 u.n, .string u.s, .slice ua un uc, .slice va vn vc, .slice xa xn xc], .bool r]) (by simp [results, Tryz.results103, go_sem, z0, z1, z2, z3, z4, z5]) rfl ?_
    exact HE.out
  · have q1 : (t.op == 2) = false := by rw [h2]; rfl
    have q2 : (t.op == 1) = true := by rw [h2]; rfl
    have q3 : decide (b ≤ t.n) = true := decide_eq_true h3
    clear h2 h3 hlf
    go_wp2_with fail
    clear c0 c1 c2 c3 c4 c5
    generalize ((w.alloc (.cells #[.int .i64 t.op, .int .i64 t.n, .string t.s, .slice ka t.kind.l.length kc, .slice na t.names.length nc, .slice la t.l.length lc] 28)).alloc (.cells #[.int .i64 0, .int .i64 0, .string ⟨#[]⟩, .slice none 0 0, .slice none 0 0, .slice none 0 0] 28)) = wa at *
    refine (HCALL.out _ HO.out HG.out).mono ?_
    rintro e w3 ⟨ho3, y, u, c, rfl, hy, hg3, hc0, hc1, hfit⟩
    have hsz := HSZ.out
    have hss := ho3.size
    obtain ⟨ua, un, uc, va, vn, vc, xa, xn, xc, rfl, -, -, -⟩ := hy.shape
    have hby := ho3.blk HBX2.out (show w.heap.size + 1 ≠ G from by have := HGL.out; omega)
    have t0 := hby.thaw 0
    have t1 := hby.thaw 1
    have t2 := hby.thaw 2
    have t3 := hby.thaw 3
    have t4 := hby.thaw 4
    have t5 := hby.thaw 5
    have r0 := hby.cell 0 (.int .i64 0) rfl
    have r1 := hby.cell 1 (.int .i64 0) rfl
    have r2 := hby.cell 2 (.string ⟨#[]⟩) rfl
    have r3 := hby.cell 3 (.slice none 0 0) rfl
    have r4 := hby.cell 4 (.slice none 0 0) rfl
    have r5 := hby.cell 5 (.slice none 0 0) rfl
    have hz := store6_blk hby 0 (.int .i64 u.op) (.int .i64 u.n) (.string u.s) (.slice ua un uc) (.slice va vn vc) (.slice xa xn xc)
    rw [put6_all] at hz
    have HE := Lib.hid (show RebP N G (F t b) L d w (.returned (.tuple #[.agg #[.int .i64 u.op, .int .i64 u.n, .string u.s, .slice ua un uc, .slice va vn vc, .slice xa xn xc], .bool (fitB (F t b) L d)])) (store6 w3 (w.heap.size + 1) 0 (.int .i64 u.op) (.int .i64 u.n) (.string u.s) (.slice ua un uc) (.slice va vn vc) (.slice xa xn xc)) from by
      refine ⟨store6_only (HO.out.trans ho3) _ _ _ _ _ _ _ _ (.inr (Nat.le_succ _)), _, u, c, rfl, ?_, hg3.of_eq (store6_other _ _ _ _ _ _ _ _ _ G (by have := HGL.out; omega)), hc0, hc1, hfit⟩
      refine (hy.keep (fun q hq => store6_other _ _ _ _ _ _ _ _ _ q (by rcases hq with hq | hq <;> omega))).mono (fun q hq => ?_)
      rcases hq with hq | hq
      · exact .inl hq
      · exact .inr ⟨by omega, by rw [store6_size]; exact hq.2⟩)
    unfold store6 at hz HE
    simp only [Nat.zero_add] at hz HE
    have z0 := hz.cell 0 (.int .i64 u.op) rfl
    have z1 := hz.cell 1 (.int .i64 u.n) rfl
    have z2 := hz.cell 2 (.string u.s) rfl
    have z3 := hz.cell 3 (.slice ua un uc) rfl
    have z4 := hz.cell 4 (.slice va vn vc) rfl
    have z5 := hz.cell 5 (.slice xa xn xc) rfl
    clear hy hg3 hfit hby hz ho3 hsz hss HCALL HO HG HBX2 HSZ
    generalize fitB (F t b) L d = r at *
    go_wp2
    refine bodyPost_ret (v := .tuple #[.agg #[.int .i64 u.op, .int .i64 u.n, .string u.s, .slice ua un uc, .slice va vn vc, .slice xa xn xc], .bool r]) (by simp [results, Tryz.results103, go_sem, z0, z1, z2, z3, z4, z5]) rfl ?_
    exact HE.out
end Go.Proofs.YtpkgiemdnfbopaaGreat
namespace Go.Proofs.YtpkgiemdnfbopaaGreat
open Go Go.RowKit
open Pl (K Con)
set_option linter.unusedSimpArgs false
set_option linter.unusedVariables false

/-- the end of rebuilt at a node -/
theorem CR.end {N G Bn BR : Nat} {t want : Con} {m : List Con} {L d : Int} {V : Array Value} {ka2 : Option Addr} {kc2 : Nat} {na2 : Option Addr} {nc2 : Nat} {qa : Option Addr} {qc : Nat} {w wr : World} {k : Nat} {ok : Bool} {c : Int}
    (h : CR N G Bn BR t m L d V ka2 kc2 na2 nc2 qa qc w wr k ok c) (hNG : N ≤ G) (hG : G < w.heap.size) (hs : t.s.size ≤ maxLen) (hm : m.length = t.l.length) (hk : ok = true → t.l.length ≤ k) (hok : nodeOk t L d = true) (hw : want = Con.inside t m) :
    fitB want L d = ok ∧ RebP N G want L d w (.returned (.tuple #[.agg #[.int .i64 t.op, .int .i64 t.n, .string t.s, .slice ka2 t.kind.l.length kc2, .slice na2 t.names.length nc2, .slice qa t.l.length qc], .bool ok])) (store6 wr (w.heap.size + 1) 0 (.int .i64 t.op) (.int .i64 t.n) (.string t.s) (.slice ka2 t.kind.l.length kc2) (.slice na2 t.names.length nc2) (.slice qa t.l.length qc)) := by
  have hfo : fitB want L d = ok := by
    rw [hw, fit_node_true t L d m hok]
    have hf := h.fit
    cases ok
    · exact fitsB_le m k _ _ hf.symm
    · rw [List.take_of_length_le (by have := hk rfl; omega)] at hf
      exact hf.symm
  refine ⟨hfo, store6_only h.only _ _ _ _ _ _ _ _ (.inr (Nat.le_succ _)), ?_⟩
  obtain ⟨u, hu, hu2⟩ := h.done (w' := store6 wr (w.heap.size + 1) 0 (.int .i64 t.op) (.int .i64 t.n) (.string t.s) (.slice ka2 t.kind.l.length kc2) (.slice na2 t.names.length nc2) (.slice qa t.l.length qc)) (by omega) hs hm hk (fun q hq => store6_other _ _ _ _ _ _ _ _ _ q hq) (by rw [store6_size]; exact Nat.le_refl _)
  refine ⟨_, u, c, by rw [hfo], by rw [hfo]; exact hu, h.bld.of_eq (store6_other _ _ _ _ _ _ _ _ _ G (by omega)), h.left.1, h.left.2.1, fun hf => ?_⟩
  rw [hfo] at hf
  refine ⟨by rw [hu2 hf, hw], ?_⟩
  have h1 := h.left.2.2 hf
  rw [List.take_of_length_le (by have := hk hf; omega)] at h1
  rw [h1, hw, Con.size_eq]
  show L - 1 - (Con.sizes m : Int) = L - ((1 + Con.sizes m : Nat) : Int)
  omega
set_option maxRecDepth 100000 in
set_option maxHeartbeats 8000000 in
theorem rebuilt_node (N G k : Nat) (cap : Array Value) (F : Con → Int → Con) (w0 : World) (t : Con)
    (hIH : ∀ x ∈ t.l, ∀ (L d b : Int) (w : World) (v : Value), Only G w0 w → Blk w G 139 #[.int .i64 L] → ConV w (· < N) x v → 0 ≤ L → L ≤ 20000 → 0 ≤ b → b ≤ d → 1 ≤ d → d ≤ 401 → Calls Tryz.prog 103 #[.pointer (some ⟨G, 0, none⟩), v, .int .i64 b, .int .i64 d, .func (.func k) #[] cap] w (RebP N G (Con.reb F x b) L d w))
    (L d b : Int) (w : World) (v : Value) (hN : N ≤ G) (hw : Only G w0 w) (hG : Blk w G 139 #[.int .i64 L]) (ht : ConV w (· < N) t v) (ha : Con.nodeB t = true) (hlf : ¬ Con.leafy t b) (h0 : 0 ≤ L) (h1 : L ≤ 20000) (hb0 : 0 ≤ b) (hb1 : b ≤ d) (hd0 : 1 ≤ d) (hd1 : d ≤ 401) :
    Calls Tryz.prog 103 #[.pointer (some ⟨G, 0, none⟩), v, .int .i64 b, .int .i64 d, .func (.func k) #[] cap] w (RebP N G (Con.reb F t b) L d w) := by
  obtain ⟨hkv, hnl, hll⟩ := node_facts t ha
  have hgl := hG.lt
  have HGL := Lib.hid hgl
  have HNG := Lib.hid hN
  have HW0 := Lib.hid hw
  have HS := Lib.hid ((conV_iff _ _ _ _).1 ht).1
  have HP := Lib.hid (fun W (hW : Only G w W) => (show ∀ q, q < N → q < W.heap.size ∧ q ≠ G from fun q hq => ⟨Nat.lt_of_lt_of_le hq (Nat.le_trans (Nat.le_of_lt (Nat.lt_of_le_of_lt hN hgl)) hW.size), by omega⟩))
  have HT := Lib.hid (fun W (hW : Only G w W) => ht.keep (Same.of_only hW (HP.out w (Only.refl _ _))))
  have HNODE := Lib.hid (fun W (hW : Only G w W) (hg : Blk W G 139 #[.int .i64 L]) => node_any (· < N) G t L d W v (HP.out W hW) hg (HT.out W hW) hkv h0 (by omega) (by omega) (by omega))
  have HB := Lib.hid (fun W => cbinder_any t.op W)
  have HIH := Lib.hid hIH
  obtain ⟨m, hm⟩ : ∃ m, m = t.l.map (fun x => Con.reb F x (Con.deep t.op b)) := ⟨_, rfl⟩
  have HM := Lib.hid (show m.length = t.l.length from by rw [hm]; simp)
  have HMK := Lib.hid (show ∀ j x, t.l[j]? = some x → m[j]? = some (Con.reb F x (Con.deep t.op b)) from fun j x h => by rw [hm, List.getElem?_map, h]; rfl)
  have HWANT := Lib.hid (show Con.reb F t b = Con.inside t m from by rw [reb_node _ _ _ hlf, hm])
  have HDP := Lib.hid (show Con.deep t.op b = if Con.binder t.op = true then b + 1 else b from rfl)
  obtain ⟨want, hwant⟩ : ∃ x, x = Con.reb F t b := ⟨_, rfl⟩
  rw [← hwant] at HWANT ⊢
  obtain ⟨ka, kn, kc, na, nn, nc, la, ln, lc, rfl, hkn, hnn, hlen⟩ := ht.shape
  subst hkn hnn hlen
  have HSL := Lib.hid (fun W (hW : Only G w W) => (show ConSl W (· < N) (.slice la t.l.length lc) t.l from by
    obtain ⟨-, kv', nv', lv', e, hk, hn, hl⟩ := (conV_iff _ _ _ _).1 (HT.out W hW)
    simp only [Value.agg.injEq, Array.mk.injEq, List.cons.injEq, and_true, true_and] at e
    obtain ⟨rfl, rfl, rfl⟩ := e
    exact hl))
  obtain ⟨hbx, hbx2, hb⟩ := twoN_new w 28 28 #[.int .i64 t.op, .int .i64 t.n, .string t.s, .slice ka t.kind.l.length kc, .slice na t.names.length nc, .slice la t.l.length lc] #[.int .i64 0, .int .i64 0, .string ⟨#[]⟩, .slice none 0 0, .slice none 0 0, .slice none 0 0]
  have hsz2 : ((w.alloc (.cells #[.int .i64 t.op, .int .i64 t.n, .string t.s, .slice ka t.kind.l.length kc, .slice na t.names.length nc, .slice la t.l.length lc] 28)).alloc (.cells #[.int .i64 0, .int .i64 0, .string ⟨#[]⟩, .slice none 0 0, .slice none 0 0, .slice none 0 0] 28)).heap.size = w.heap.size + 2 := by simp
  have HG := Lib.hid (hG.of_eq (hb.block _ hG.lt))
  have HBX := Lib.hid hbx
  have HBX2 := Lib.hid hbx2
  have HO := Lib.hid (only_below (N := G) hb)
  have HSZ := Lib.hid hsz2
  have c0 := hbx.cell 0 (.int .i64 t.op) rfl
  have c1 := hbx.cell 1 (.int .i64 t.n) rfl
  have c2 := hbx.cell 2 (.string t.s) rfl
  have c3 := hbx.cell 3 (.slice ka t.kind.l.length kc) rfl
  have c4 := hbx.cell 4 (.slice na t.names.length nc) rfl
  have c5 := hbx.cell 5 (.slice la t.l.length lc) rfl
  have q1 : (t.op == 2) = false := by
    cases h : (t.op == 2)
    · rfl
    · exact absurd (.inl (by simpa using h)) hlf
  have hq : (t.op == 1) = false ∨ decide (b ≤ t.n) = false := by
    cases h : (t.op == 1)
    · exact .inl rfl
    · right
      have h1 : t.op = 1 := by simpa using h
      rw [decide_eq_false_iff_not]
      exact fun h2 => hlf (.inr ⟨h1, h2⟩)
  have w1 : wrap64 (b + 1) = b + 1 := by rw [wrap64]; omega
  have w2 : wrap64 (d + 1) = d + 1 := by rw [wrap64]; omega
  have w4' : IntKind.i64.wrap (d + 1) = d + 1 := by rw [IntKind.wrap_i64]; omega
  clear hbx hbx2 hb hG ht hw hsz2 hgl ha hlf hm hwant hIH hkv hN hnl
  generalize hln : t.l.length = ln at *
  have HLN := Lib.hid hln
  clear hln
  go_enter Tryz.func103, Tryz.ntmps103
  rcases hq with q2 | q3
  rotate_left
  cases q2 : (t.op == 1)
  all_goals
    go_wp2_with fail
    clear c0 c1 c2 c3 c4 c5
    try clear q3
    clear q1 q2
    generalize ((w.alloc (.cells #[.int .i64 t.op, .int .i64 t.n, .string t.s, .slice ka t.kind.l.length kc, .slice na t.names.length nc, .slice la ln lc] 28)).alloc (.cells #[.int .i64 0, .int .i64 0, .string ⟨#[]⟩, .slice none 0 0, .slice none 0 0, .slice none 0 0] 28)) = wa at *
    refine (HNODE.out _ HO.out HG.out).mono ?_
    rintro e w3 ⟨ho3, ⟨hok, rfl, hg3⟩ | ⟨hok, Bn, ka2, kc2, na2, nc2, qa, qc, he, hg3, hB1, hB2, hkid, hnms, hfr⟩⟩
    · have HF := Lib.hid (show fitB want L d = false from by rw [HWANT.out]; exact fit_node_false t L d m hok)
      have hx4 := (ho3.blk HBX.out (show w.heap.size ≠ G from by have := HGL.out; omega)).alloc (.cells #[.int .i64 0, .int .i64 0, .string ⟨#[]⟩, .slice none 0 0, .slice none 0 0, .slice none 0 0] 28)
      have HBY4 := Lib.hid ((ho3.blk HBX2.out (show w.heap.size + 1 ≠ G from by have := HGL.out; omega)).alloc (.cells #[.int .i64 0, .int .i64 0, .string ⟨#[]⟩, .slice none 0 0, .slice none 0 0, .slice none 0 0] 28))
      have HO4 := Lib.hid ((HO.out.trans ho3).alloc (.cells #[.int .i64 0, .int .i64 0, .string ⟨#[]⟩, .slice none 0 0, .slice none 0 0, .slice none 0 0] 28))
      have HG4 := Lib.hid (hg3.alloc (.cells #[.int .i64 0, .int .i64 0, .string ⟨#[]⟩, .slice none 0 0, .slice none 0 0, .slice none 0 0] 28))
      have HRB := Lib.hid (blk_new w3 #[.int .i64 0, .int .i64 0, .string ⟨#[]⟩, .slice none 0 0, .slice none 0 0, .slice none 0 0] 28)
      have c0 := hx4.cell 0 (.int .i64 t.op) rfl
      clear hx4 hok hg3 ho3 HBX HBX2 HO HG HSZ HNODE HT HSL HIH HMK
      unfold zeroV
      go_wp2_with fail
      clear c0
      generalize (w3.alloc (.cells #[.int .i64 0, .int .i64 0, .string ⟨#[]⟩, .slice none 0 0, .slice none 0 0, .slice none 0 0] 28)) = w4 at *
      refine (HB.out _).mono ?_
      rintro e w' ⟨rfl, rfl⟩
      cases hbn : Con.binder t.op
      all_goals
        go_wp2_with fail
        go_loopg [13, 14] 1 (fun g okv iv wr => g = 1 ∧ okv = .bool false ∧ w4 = wr)
        case atStart => exact ⟨rfl, rfl, rfl⟩
        case round =>
          obtain ⟨rfl, rfl, rfl⟩ := hrel
          have p0 := HRB.out.cell 0 (.int .i64 0) rfl
          have p1 := HRB.out.cell 1 (.int .i64 0) rfl
          have p2 := HRB.out.cell 2 (.string ⟨#[]⟩) rfl
          have p3 := HRB.out.cell 3 (.slice none 0 0) rfl
          have p4 := HRB.out.cell 4 (.slice none 0 0) rfl
          have p5 := HRB.out.cell 5 (.slice none 0 0) rfl
          have r0 := HBY4.out.cell 0 (.int .i64 0) rfl
          have r1 := HBY4.out.cell 1 (.int .i64 0) rfl
          have r2 := HBY4.out.cell 2 (.string ⟨#[]⟩) rfl
          have r3 := HBY4.out.cell 3 (.slice none 0 0) rfl
          have r4 := HBY4.out.cell 4 (.slice none 0 0) rfl
          have r5 := HBY4.out.cell 5 (.slice none 0 0) rfl
          have t0 := HBY4.out.thaw 0
          have t1 := HBY4.out.thaw 1
          have t2 := HBY4.out.thaw 2
          have t3 := HBY4.out.thaw 3
          have t4 := HBY4.out.thaw 4
          have t5 := HBY4.out.thaw 5
          have hz := store6_blk HBY4.out 0 (.int .i64 0) (.int .i64 0) (.string ⟨#[]⟩) (.slice none 0 0) (.slice none 0 0) (.slice none 0 0)
          rw [put6_all] at hz
          have HE := Lib.hid (show RebP N G want L d w (.returned (.tuple #[.agg #[.int .i64 0, .int .i64 0, .string ⟨#[]⟩, .slice none 0 0, .slice none 0 0, .slice none 0 0], .bool false])) (store6 w4 (w.heap.size + 1) 0 (.int .i64 0) (.int .i64 0) (.string ⟨#[]⟩) (.slice none 0 0) (.slice none 0 0) (.slice none 0 0)) from ⟨store6_only HO4.out _ _ _ _ _ _ _ _ (.inr (Nat.le_succ _)), _, Con.none0, L, by (first | (rw [HF.out]; done) | (rw [HF.out]; rfl)), conV_none _ _, HG4.out.of_eq (store6_other _ _ _ _ _ _ _ _ _ G (by have := HGL.out; omega)), h0, Int.le_refl _, fun h => by rw [HF.out] at h; cases h⟩)
          unfold store6 at hz HE
          simp only [Nat.zero_add] at hz HE
          have z0 := hz.cell 0 (.int .i64 0) rfl
          have z1 := hz.cell 1 (.int .i64 0) rfl
          have z2 := hz.cell 2 (.string ⟨#[]⟩) rfl
          have z3 := hz.cell 3 (.slice none 0 0) rfl
          have z4 := hz.cell 4 (.slice none 0 0) rfl
          have z5 := hz.cell 5 (.slice none 0 0) rfl
          clear hz
          go_wp2
          refine bodyPost_ret (v := .tuple #[.agg #[.int .i64 0, .int .i64 0, .string ⟨#[]⟩, .slice none 0 0, .slice none 0 0, .slice none 0 0], .bool false]) (by simp [results, Tryz.results103, go_sem, z0, z1, z2, z3, z4, z5]) rfl ?_
          exact HE.out
    · rw [HLN.out] at he
      subst he
      obtain ⟨hL1, hd4⟩ := nodeOk_iff t L d hok
      have HOK := Lib.hid hok
      have hsz := HSZ.out
      have hss := ho3.size
      have hgl := HGL.out
      have HCR := Lib.hid (show CR N G Bn w3.heap.size t m L d #[.int .i64 t.op, .int .i64 t.n, .string t.s, .slice ka t.kind.l.length kc, .slice na t.names.length nc, .slice la ln lc] ka2 kc2 na2 nc2 qa qc w (w3.alloc (.cells #[.int .i64 t.op, .int .i64 t.n, .string t.s, .slice ka2 t.kind.l.length kc2, .slice na2 t.names.length nc2, .slice qa ln qc] 28)) 0 true (L - 1) from by
        obtain ⟨a', c', e, f1, f2, f3, f4⟩ := hfr
        injection e with e1 e2 e3
        clear e2
        subst e1 e3
        have hw4 : ∀ q, q < w3.heap.size → (w3.alloc (.cells #[.int .i64 t.op, .int .i64 t.n, .string t.s, .slice ka2 t.kind.l.length kc2, .slice na2 t.names.length nc2, .slice qa ln qc] 28)).heap[q]? = w3.heap[q]? := fun q hq => Below.heap_alloc w3 _ q hq
        refine ⟨(HO.out.trans ho3).alloc _, hg3.alloc _, (ho3.blk HBX.out (show w.heap.size ≠ G from by omega)).alloc _, (ho3.blk HBX2.out (show w.heap.size + 1 ≠ G from by omega)).alloc _, by rw [HLN.out]; exact blk_new w3 _ _, ⟨by omega, hB2⟩, ?_, ?_, ⟨f1, f2, f3⟩, ?_, ?_, ?_⟩
        · exact (hkid.keep (fun q hq => hw4 q (by have := hq.2; omega))).mono (fun q hq => ⟨by have := hq.1; omega, hq.2⟩)
        · exact (hnms.keep (fun q hq => hw4 q (by have := hq.2; omega))).mono (fun q hq => ⟨by have := hq.1; omega, hq.2⟩)
        · rcases f4 with f4 | ⟨g, cur, rfl, f5, f6, f7, f8⟩
          · exact .inl f4
          · refine .inr ⟨g, cur, rfl, f5, f6.lt, f6.alloc _, f7, fun j hj h => absurd h (Nat.not_lt_zero _), fun j hj _ => ?_⟩
            obtain ⟨x, hx, hv⟩ := f8 j hj
            exact ⟨x, hx, hv.keep (fun q hq => hw4 q (by have : q < N := hq; have := HNG.out; omega))⟩
        · rw [List.take_zero, fitsB_nil, decide_eq_true (by omega : 0 ≤ L - 1), decide_eq_true (by omega : d + 1 ≤ 401)]; rfl
        · exact ⟨by omega, by omega, fun _ => by rw [List.take_zero, Con.sizes_nil]; simp⟩)
      have c0 := HCR.out.box.cell 0 (.int .i64 t.op) rfl
      clear hok hg3 ho3 HBX HBX2 HO HG HSZ HNODE hkid hnms hfr hsz hss hgl hB1 hB2
      go_wp2_with fail
      clear c0
      generalize (w3.alloc (.cells #[.int .i64 t.op, .int .i64 t.n, .string t.s, .slice ka2 t.kind.l.length kc2, .slice na2 t.names.length nc2, .slice qa ln qc] 28)) = w4 at *
      refine (HB.out _).mono ?_
      rintro e w' ⟨rfl, rfl⟩
      cases hbn : Con.binder t.op
      · skip
        have HDB := Lib.hid (show Con.deep t.op b = b from by rw [HDP.out, hbn]; rfl)
        clear hbn
        go_wp2_with fail
        go_loopg [13, 14] (ln + 1) (fun g okv iv wr => ∃ (kk : Nat) (ok : Bool) (c : Int), kk ≤ ln ∧ okv = .bool ok ∧ iv = .int .i64 kk ∧ g = ln + 1 - kk ∧ CR N G Bn w3.heap.size t m L d #[.int .i64 t.op, .int .i64 t.n, .string t.s, .slice ka t.kind.l.length kc, .slice na t.names.length nc, .slice la ln lc] ka2 kc2 na2 nc2 qa qc w wr kk ok c)
        case atStart => exact ⟨0, true, L - 1, Nat.zero_le _, rfl, rfl, by omega, HCR.out⟩
        case round =>
          obtain ⟨kk, ok, c, hkk, rfl, rfl, hg, hcr⟩ := hrel
          have HCK := Lib.hid hcr
          have hrb := hcr.rbx
          rw [HLN.out] at hrb
          have r5 := hrb.cell 5 (.slice qa ln qc) rfl
          cases ok
          · have hres := hcr.res
            have p0 := hrb.cell 0 (.int .i64 t.op) rfl
            have p1 := hrb.cell 1 (.int .i64 t.n) rfl
            have p2 := hrb.cell 2 (.string t.s) rfl
            have p3 := hrb.cell 3 (.slice ka2 t.kind.l.length kc2) rfl
            have p4 := hrb.cell 4 (.slice na2 t.names.length nc2) rfl
            have p5 := hrb.cell 5 (.slice qa ln qc) rfl
            have s0 := hres.cell 0 (.int .i64 0) rfl
            have s1 := hres.cell 1 (.int .i64 0) rfl
            have s2 := hres.cell 2 (.string ⟨#[]⟩) rfl
            have s3 := hres.cell 3 (.slice none 0 0) rfl
            have s4 := hres.cell 4 (.slice none 0 0) rfl
            have s5 := hres.cell 5 (.slice none 0 0) rfl
            have t0 := hres.thaw 0
            have t1 := hres.thaw 1
            have t2 := hres.thaw 2
            have t3 := hres.thaw 3
            have t4 := hres.thaw 4
            have t5 := hres.thaw 5
            obtain ⟨-, hend⟩ := CR.end hcr HNG.out HGL.out HS.out (by rw [HLN.out]; exact HM.out) (fun h => by cases h) HOK.out HWANT.out
            rw [HLN.out] at hend
            have hz := store6_blk hres 0 (.int .i64 t.op) (.int .i64 t.n) (.string t.s) (.slice ka2 t.kind.l.length kc2) (.slice na2 t.names.length nc2) (.slice qa ln qc)
            rw [put6_all] at hz
            have HE := Lib.hid hend
            unfold store6 at hz HE
            simp only [Nat.zero_add] at hz HE
            have z0 := hz.cell 0 (.int .i64 t.op) rfl
            have z1 := hz.cell 1 (.int .i64 t.n) rfl
            have z2 := hz.cell 2 (.string t.s) rfl
            have z3 := hz.cell 3 (.slice ka2 t.kind.l.length kc2) rfl
            have z4 := hz.cell 4 (.slice na2 t.names.length nc2) rfl
            have z5 := hz.cell 5 (.slice qa ln qc) rfl
            clear hz hend hres hrb hcr HCK r5
            go_wp2
            refine bodyPost_ret (v := .tuple #[.agg #[.int .i64 t.op, .int .i64 t.n, .string t.s, .slice ka2 t.kind.l.length kc2, .slice na2 t.names.length nc2, .slice qa ln qc], .bool false]) (by simp [results, Tryz.results103, go_sem, z0, z1, z2, z3, z4, z5]) rfl ?_
            exact HE.out
          by_cases hlt : kk < ln
          rotate_left
          · have q5 : decide ((kk : Int) < (ln : Int)) = false := decide_eq_false (by omega)
            have hres := hcr.res
            have p0 := hrb.cell 0 (.int .i64 t.op) rfl
            have p1 := hrb.cell 1 (.int .i64 t.n) rfl
            have p2 := hrb.cell 2 (.string t.s) rfl
            have p3 := hrb.cell 3 (.slice ka2 t.kind.l.length kc2) rfl
            have p4 := hrb.cell 4 (.slice na2 t.names.length nc2) rfl
            have p5 := hrb.cell 5 (.slice qa ln qc) rfl
            have s0 := hres.cell 0 (.int .i64 0) rfl
            have s1 := hres.cell 1 (.int .i64 0) rfl
            have s2 := hres.cell 2 (.string ⟨#[]⟩) rfl
            have s3 := hres.cell 3 (.slice none 0 0) rfl
            have s4 := hres.cell 4 (.slice none 0 0) rfl
            have s5 := hres.cell 5 (.slice none 0 0) rfl
            have t0 := hres.thaw 0
            have t1 := hres.thaw 1
            have t2 := hres.thaw 2
            have t3 := hres.thaw 3
            have t4 := hres.thaw 4
            have t5 := hres.thaw 5
            obtain ⟨-, hend⟩ := CR.end hcr HNG.out HGL.out HS.out (by rw [HLN.out]; exact HM.out) (fun _ => by rw [HLN.out]; omega) HOK.out HWANT.out
            rw [HLN.out] at hend
            have hz := store6_blk hres 0 (.int .i64 t.op) (.int .i64 t.n) (.string t.s) (.slice ka2 t.kind.l.length kc2) (.slice na2 t.names.length nc2) (.slice qa ln qc)
            rw [put6_all] at hz
            have HE := Lib.hid hend
            unfold store6 at hz HE
            simp only [Nat.zero_add] at hz HE
            have z0 := hz.cell 0 (.int .i64 t.op) rfl
            have z1 := hz.cell 1 (.int .i64 t.n) rfl
            have z2 := hz.cell 2 (.string t.s) rfl
            have z3 := hz.cell 3 (.slice ka2 t.kind.l.length kc2) rfl
            have z4 := hz.cell 4 (.slice na2 t.names.length nc2) rfl
            have z5 := hz.cell 5 (.slice qa ln qc) rfl
            clear hz hend hres hrb hcr HCK r5
            go_wp2
            refine bodyPost_ret (v := .tuple #[.agg #[.int .i64 t.op, .int .i64 t.n, .string t.s, .slice ka2 t.kind.l.length kc2, .slice na2 t.names.length nc2, .slice qa ln qc], .bool true]) (by simp [results, Tryz.results103, go_sem, z0, z1, z2, z3, z4, z5]) rfl ?_
            exact HE.out
          · have q5 : decide ((kk : Int) < (ln : Int)) = true := decide_eq_true (by omega)
            have hkl : kk < t.l.length := by rw [HLN.out]; exact hlt
            obtain ⟨bb, off, c', xa, xn, xc, ya, yn, yc, za, zn, zc, e, hPb, f0, f1, f2, f3, f4, f5, hx⟩ := (HSL.out wr hcr.only).part kk hkl
            injection e with e1 e2 e3
            clear e2
            subst e1 e3
            rcases hcr.row with hr | ⟨g, cur, rfl, hgb, hgr, hblk, hcs, hdone, htodo⟩
            · rw [hr] at hkl; simp at hkl
            obtain ⟨x, ⟨y0, y1, y2, y3, y4, y5, rfl, k0, k1, k2, k3, k4, k5⟩, hvx⟩ := htodo kk hkl (Nat.le_refl _)
            have hmk := HMK.out kk t.l[kk] (List.getElem?_eq_getElem hkl)
            rw [HDB.out] at hmk
            have hbig := hcr.big
            have hgl := HGL.out
            have e0 := hblk.cell _ _ k0
            have e1 := hblk.cell _ _ k1
            have e2 := hblk.cell _ _ k2
            have e3 := hblk.cell _ _ k3
            have e4 := hblk.cell _ _ k4
            have e5 := hblk.cell _ _ k5
            have g0 := hblk.thaw (kk * 6)
            have g1 := hblk.thaw (kk * 6 + 1)
            have g2 := hblk.thaw (kk * 6 + 2)
            have g3 := hblk.thaw (kk * 6 + 3)
            have g4 := hblk.thaw (kk * 6 + 4)
            have g5 := hblk.thaw (kk * 6 + 5)
            have v5 := hcr.box.cell 5 (.slice (some ⟨bb, off, none⟩) ln lc) rfl
            have HI := Lib.hid (HIH.out t.l[kk] (List.getElem_mem hkl) c (d + 1) (b) wr.drew _ (HW0.out.trans hcr.only.drew) hcr.bld (hx.keep (w' := wr.drew) (show Same (· < N) wr wr.drew from fun _ _ => rfl)) hcr.left.1 (by have := hcr.left.2.1; omega) (by omega) (by omega) (by omega) (by omega))
            have HROW := Lib.hid hblk
            have HRBX := Lib.hid hrb
            have HMKK := Lib.hid hmk
            have HKL := Lib.hid hkl
            have HKS := Lib.hid (And.intro k0 (And.intro k1 (And.intro k2 (And.intro k3 (And.intro k4 k5)))))
            have hn1 : w3.heap.size ≠ G := by omega
            have hn2 : g ≠ G := by omega
            have HN1 := Lib.hid hn1
            have HN2 := Lib.hid hn2
            generalize Con.reb F t.l[kk] (b) = z at *
            generalize t.l[kk].op = po at *
            generalize t.l[kk].n = pn at *
            generalize t.l[kk].s = ps at *
            clear hdone htodo hcr hblk hrb hmk hkl hx hvx k0 k1 k2 k3 k4 k5 hbig hgl hPb hcs hgb hgr hn1 hn2
            go_wp2
            go_region_law (go_simp; go_at_call 103; refine HI.out.mono ?_; rintro e w5 ⟨ho5, yv, u, c2, rfl, hy, hg5, hc0, hc1, hfit⟩; obtain ⟨ua, un, uc, va, vn, vc, ta, tn, tc, rfl, -, -, -⟩ := hy.shape; have HO5 := Lib.hid ((Only.refl G wr).drew.trans ho5); have HV5 := Lib.hid hy; have HG5 := Lib.hid hg5; have HF5 := Lib.hid hfit; have u5 := (HO5.out.blk HRBX.out HN1.out).cell 5 (.slice (some ⟨g, 0, none⟩) ln qc) rfl; have HR5 := Lib.hid (HO5.out.blk HROW.out HN2.out); have s0 := HR5.out.cell _ _ HKS.out.1; have s1 := HR5.out.cell _ _ HKS.out.2.1; have s2 := HR5.out.cell _ _ HKS.out.2.2.1; have s3 := HR5.out.cell _ _ HKS.out.2.2.2.1; have s4 := HR5.out.cell _ _ HKS.out.2.2.2.2.1; have s5 := HR5.out.cell _ _ HKS.out.2.2.2.2.2; have t0 := HR5.out.thaw (kk * 6); have t1 := HR5.out.thaw (kk * 6 + 1); have t2 := HR5.out.thaw (kk * 6 + 2); have t3 := HR5.out.thaw (kk * 6 + 3); have t4 := HR5.out.thaw (kk * 6 + 4); have t5 := HR5.out.thaw (kk * 6 + 5); clear hy hg5 hfit ho5)
            all_goals
              have HNX := Lib.hid (CR.push HCK.out HNG.out HGL.out HKL.out HMKK.out HO5.out HV5.out HG5.out hc0 hc1 HF5.out)
              unfold store6 at HNX
              go_wp2
              go_roundg (gk - 1)
              case measure => omega
              case rel => exact ⟨kk + 1, _, _, by omega, rfl, by go_num, by omega, HNX.out⟩
      · skip
        have HDB := Lib.hid (show Con.deep t.op b = b + 1 from by rw [HDP.out, hbn]; rfl)
        clear hbn
        go_wp2_with fail
        go_loopg [13, 14] (ln + 1) (fun g okv iv wr => ∃ (kk : Nat) (ok : Bool) (c : Int), kk ≤ ln ∧ okv = .bool ok ∧ iv = .int .i64 kk ∧ g = ln + 1 - kk ∧ CR N G Bn w3.heap.size t m L d #[.int .i64 t.op, .int .i64 t.n, .string t.s, .slice ka t.kind.l.length kc, .slice na t.names.length nc, .slice la ln lc] ka2 kc2 na2 nc2 qa qc w wr kk ok c)
        case atStart => exact ⟨0, true, L - 1, Nat.zero_le _, rfl, rfl, by omega, HCR.out⟩
        case round =>
          obtain ⟨kk, ok, c, hkk, rfl, rfl, hg, hcr⟩ := hrel
          have HCK := Lib.hid hcr
          have hrb := hcr.rbx
          rw [HLN.out] at hrb
          have r5 := hrb.cell 5 (.slice qa ln qc) rfl
          cases ok
          · have hres := hcr.res
            have p0 := hrb.cell 0 (.int .i64 t.op) rfl
            have p1 := hrb.cell 1 (.int .i64 t.n) rfl
            have p2 := hrb.cell 2 (.string t.s) rfl
            have p3 := hrb.cell 3 (.slice ka2 t.kind.l.length kc2) rfl
            have p4 := hrb.cell 4 (.slice na2 t.names.length nc2) rfl
            have p5 := hrb.cell 5 (.slice qa ln qc) rfl
            have s0 := hres.cell 0 (.int .i64 0) rfl
            have s1 := hres.cell 1 (.int .i64 0) rfl
            have s2 := hres.cell 2 (.string ⟨#[]⟩) rfl
            have s3 := hres.cell 3 (.slice none 0 0) rfl
            have s4 := hres.cell 4 (.slice none 0 0) rfl
            have s5 := hres.cell 5 (.slice none 0 0) rfl
            have t0 := hres.thaw 0
            have t1 := hres.thaw 1
            have t2 := hres.thaw 2
            have t3 := hres.thaw 3
            have t4 := hres.thaw 4
            have t5 := hres.thaw 5
            obtain ⟨-, hend⟩ := CR.end hcr HNG.out HGL.out HS.out (by rw [HLN.out]; exact HM.out) (fun h => by cases h) HOK.out HWANT.out
            rw [HLN.out] at hend
            have hz := store6_blk hres 0 (.int .i64 t.op) (.int .i64 t.n) (.string t.s) (.slice ka2 t.kind.l.length kc2) (.slice na2 t.names.length nc2) (.slice qa ln qc)
            rw [put6_all] at hz
            have HE := Lib.hid hend
            unfold store6 at hz HE
            simp only [Nat.zero_add] at hz HE
            have z0 := hz.cell 0 (.int .i64 t.op) rfl
            have z1 := hz.cell 1 (.int .i64 t.n) rfl
            have z2 := hz.cell 2 (.string t.s) rfl
            have z3 := hz.cell 3 (.slice ka2 t.kind.l.length kc2) rfl
            have z4 := hz.cell 4 (.slice na2 t.names.length nc2) rfl
            have z5 := hz.cell 5 (.slice qa ln qc) rfl
            clear hz hend hres hrb hcr HCK r5
            go_wp2
            refine bodyPost_ret (v := .tuple #[.agg #[.int .i64 t.op, .int .i64 t.n, .string t.s, .slice ka2 t.kind.l.length kc2, .slice na2 t.names.length nc2, .slice qa ln qc], .bool false]) (by simp [results, Tryz.results103, go_sem, z0, z1, z2, z3, z4, z5]) rfl ?_
            exact HE.out
          by_cases hlt : kk < ln
          rotate_left
          · have q5 : decide ((kk : Int) < (ln : Int)) = false := decide_eq_false (by omega)
            have hres := hcr.res
            have p0 := hrb.cell 0 (.int .i64 t.op) rfl
            have p1 := hrb.cell 1 (.int .i64 t.n) rfl
            have p2 := hrb.cell 2 (.string t.s) rfl
            have p3 := hrb.cell 3 (.slice ka2 t.kind.l.length kc2) rfl
            have p4 := hrb.cell 4 (.slice na2 t.names.length nc2) rfl
            have p5 := hrb.cell 5 (.slice qa ln qc) rfl
            have s0 := hres.cell 0 (.int .i64 0) rfl
            have s1 := hres.cell 1 (.int .i64 0) rfl
            have s2 := hres.cell 2 (.string ⟨#[]⟩) rfl
            have s3 := hres.cell 3 (.slice none 0 0) rfl
            have s4 := hres.cell 4 (.slice none 0 0) rfl
            have s5 := hres.cell 5 (.slice none 0 0) rfl
            have t0 := hres.thaw 0
            have t1 := hres.thaw 1
            have t2 := hres.thaw 2
            have t3 := hres.thaw 3
            have t4 := hres.thaw 4
            have t5 := hres.thaw 5
            obtain ⟨-, hend⟩ := CR.end hcr HNG.out HGL.out HS.out (by rw [HLN.out]; exact HM.out) (fun _ => by rw [HLN.out]; omega) HOK.out HWANT.out
            rw [HLN.out] at hend
            have hz := store6_blk hres 0 (.int .i64 t.op) (.int .i64 t.n) (.string t.s) (.slice ka2 t.kind.l.length kc2) (.slice na2 t.names.length nc2) (.slice qa ln qc)
            rw [put6_all] at hz
            have HE := Lib.hid hend
            unfold store6 at hz HE
            simp only [Nat.zero_add] at hz HE
            have z0 := hz.cell 0 (.int .i64 t.op) rfl
            have z1 := hz.cell 1 (.int .i64 t.n) rfl
            have z2 := hz.cell 2 (.string t.s) rfl
            have z3 := hz.cell 3 (.slice ka2 t.kind.l.length kc2) rfl
            have z4 := hz.cell 4 (.slice na2 t.names.length nc2) rfl
            have z5 := hz.cell 5 (.slice qa ln qc) rfl
            clear hz hend hres hrb hcr HCK r5
            go_wp2
            refine bodyPost_ret (v := .tuple #[.agg #[.int .i64 t.op, .int .i64 t.n, .string t.s, .slice ka2 t.kind.l.length kc2, .slice na2 t.names.length nc2, .slice qa ln qc], .bool true]) (by simp [results, Tryz.results103, go_sem, z0, z1, z2, z3, z4, z5]) rfl ?_
            exact HE.out
          · have q5 : decide ((kk : Int) < (ln : Int)) = true := decide_eq_true (by omega)
            have hkl : kk < t.l.length := by rw [HLN.out]; exact hlt
            obtain ⟨bb, off, c', xa, xn, xc, ya, yn, yc, za, zn, zc, e, hPb, f0, f1, f2, f3, f4, f5, hx⟩ := (HSL.out wr hcr.only).part kk hkl
            injection e with e1 e2 e3
            clear e2
            subst e1 e3
            rcases hcr.row with hr | ⟨g, cur, rfl, hgb, hgr, hblk, hcs, hdone, htodo⟩
            · rw [hr] at hkl; simp at hkl
            obtain ⟨x, ⟨y0, y1, y2, y3, y4, y5, rfl, k0, k1, k2, k3, k4, k5⟩, hvx⟩ := htodo kk hkl (Nat.le_refl _)
            have hmk := HMK.out kk t.l[kk] (List.getElem?_eq_getElem hkl)
            rw [HDB.out] at hmk
            have hbig := hcr.big
            have hgl := HGL.out
            have e0 := hblk.cell _ _ k0
            have e1 := hblk.cell _ _ k1
            have e2 := hblk.cell _ _ k2
            have e3 := hblk.cell _ _ k3
            have e4 := hblk.cell _ _ k4
            have e5 := hblk.cell _ _ k5
            have g0 := hblk.thaw (kk * 6)
            have g1 := hblk.thaw (kk * 6 + 1)
            have g2 := hblk.thaw (kk * 6 + 2)
            have g3 := hblk.thaw (kk * 6 + 3)
            have g4 := hblk.thaw (kk * 6 + 4)
            have g5 := hblk.thaw (kk * 6 + 5)
            have v5 := hcr.box.cell 5 (.slice (some ⟨bb, off, none⟩) ln lc) rfl
            have HI := Lib.hid (HIH.out t.l[kk] (List.getElem_mem hkl) c (d + 1) (b + 1) wr.drew _ (HW0.out.trans hcr.only.drew) hcr.bld (hx.keep (w' := wr.drew) (show Same (· < N) wr wr.drew from fun _ _ => rfl)) hcr.left.1 (by have := hcr.left.2.1; omega) (by omega) (by omega) (by omega) (by omega))
            have HROW := Lib.hid hblk
            have HRBX := Lib.hid hrb
            have HMKK := Lib.hid hmk
            have HKL := Lib.hid hkl
            have HKS := Lib.hid (And.intro k0 (And.intro k1 (And.intro k2 (And.intro k3 (And.intro k4 k5)))))
            have hn1 : w3.heap.size ≠ G := by omega
            have hn2 : g ≠ G := by omega
            have HN1 := Lib.hid hn1
            have HN2 := Lib.hid hn2
            generalize Con.reb F t.l[kk] (b + 1) = z at *
            generalize t.l[kk].op = po at *
            generalize t.l[kk].n = pn at *
            generalize t.l[kk].s = ps at *
            clear hdone htodo hcr hblk hrb hmk hkl hx hvx k0 k1 k2 k3 k4 k5 hbig hgl hPb hcs hgb hgr hn1 hn2
            go_wp2
            go_region_law (go_simp; go_at_call 103; refine HI.out.mono ?_; rintro e w5 ⟨ho5, yv, u, c2, rfl, hy, hg5, hc0, hc1, hfit⟩; obtain ⟨ua, un, uc, va, vn, vc, ta, tn, tc, rfl, -, -, -⟩ := hy.shape; have HO5 := Lib.hid ((Only.refl G wr).drew.trans ho5); have HV5 := Lib.hid hy; have HG5 := Lib.hid hg5; have HF5 := Lib.hid hfit; have u5 := (HO5.out.blk HRBX.out HN1.out).cell 5 (.slice (some ⟨g, 0, none⟩) ln qc) rfl; have HR5 := Lib.hid (HO5.out.blk HROW.out HN2.out); have s0 := HR5.out.cell _ _ HKS.out.1; have s1 := HR5.out.cell _ _ HKS.out.2.1; have s2 := HR5.out.cell _ _ HKS.out.2.2.1; have s3 := HR5.out.cell _ _ HKS.out.2.2.2.1; have s4 := HR5.out.cell _ _ HKS.out.2.2.2.2.1; have s5 := HR5.out.cell _ _ HKS.out.2.2.2.2.2; have t0 := HR5.out.thaw (kk * 6); have t1 := HR5.out.thaw (kk * 6 + 1); have t2 := HR5.out.thaw (kk * 6 + 2); have t3 := HR5.out.thaw (kk * 6 + 3); have t4 := HR5.out.thaw (kk * 6 + 4); have t5 := HR5.out.thaw (kk * 6 + 5); clear hy hg5 hfit ho5)
            all_goals
              have HNX := Lib.hid (CR.push HCK.out HNG.out HGL.out HKL.out HMKK.out HO5.out HV5.out HG5.out hc0 hc1 HF5.out)
              unfold store6 at HNX
              go_wp2
              go_roundg (gk - 1)
              case measure => omega
              case rel => exact ⟨kk + 1, _, _, by omega, rfl, by go_num, by omega, HNX.out⟩
end Go.Proofs.YtpkgiemdnfbopaaGreat
namespace Go.Proofs.YtpkgiemdnfbopaaGreat
open Go Go.RowKit
open Pl (K Con)
set_option linter.unusedSimpArgs false
set_option linter.unusedVariables false

theorem rebuilt_any (N G k : Nat) (cap : Array Value) (F : Con → Int → Con) (w0 : World) (HC : ChangeOk N G k cap F w0) (hN : N ≤ G) (t : Con) : Con.allB t = true → ∀ (L d b : Int) (w : World) (v : Value), Only G w0 w → Blk w G 139 #[.int .i64 L] → ConV w (· < N) t v → 0 ≤ L → L ≤ 20000 → 0 ≤ b → b ≤ d → 1 ≤ d → d ≤ 401 →
    Calls Tryz.prog 103 #[.pointer (some ⟨G, 0, none⟩), v, .int .i64 b, .int .i64 d, .func (.func k) #[] cap] w (RebP N G (Con.reb F t b) L d w) := by
  induction t using Con.ind with
  | h t ih =>
  intro ha L d b w v hw hG ht h0 h1 hb0 hb1 hd0 hd1
  have ha' := ha
  rw [allB_eq, Bool.and_eq_true, List.all_eq_true] at ha'
  by_cases hlf : Con.leafy t b
  · rw [reb_leaf _ _ _ hlf]
    exact rebuilt_leaf N G k cap F w0 HC t L d b w v hN hw hG ht ha'.1 hlf h0 h1 hb0 hb1 hd0 hd1
  · exact rebuilt_node N G k cap F w0 t (fun x hx L d b w v hw hG hx2 h0 h1 hb0 hb1 hd0 hd1 => ih x hx (ha'.2 x hx) L d b w v hw hG hx2 h0 h1 hb0 hb1 hd0 hd1) L d b w v hN hw hG ht ha'.1 hlf h0 h1 hb0 hb1 hd0 hd1
theorem size_of_leaf (t : Con) (h : t.l = []) : t.size = 1 := by rw [Con.size_eq, h, Con.sizes_nil]
/-- node makes a leaf -/
theorem node_leaf (N G : Nat) (t : Con) (L d : Int) (w : World) (v : Value) (hN : N ≤ G) (hG : Blk w G 139 #[.int .i64 L]) (ht : ConV w (· < N) t v) (hk : K.valid t.kind = true) (hl : t.l = []) (hn : t.names.length ≤ 1000) (h0 : 0 ≤ L) (h1 : L ≤ 20000) :
    Calls Tryz.prog 63 #[.pointer (some ⟨G, 0, none⟩), v, .int .i64 d] w (RebP N G t L d w) := by
  have hgl := hG.lt
  refine (node_any (· < N) G t L d w v (fun q hq => ⟨by have : q < N := hq; omega, by have : q < N := hq; omega⟩) hG ht hk h0 (by omega) (by omega) (by rw [hl]; simp)).mono ?_
  have hs := ((conV_iff _ _ _ _).1 ht).1
  have hfit : fitB t L d = nodeOk t L d := by
    rw [fitB_node, hl, fitsB_nil]
    unfold nodeOk
    rw [Bool.eq_iff_iff]
    simp only [Bool.and_eq_true, decide_eq_true_eq]
    constructor
    · rintro ⟨h, -⟩; exact h
    · rintro ⟨h2, h3, h4⟩; exact ⟨⟨h2, h3, h4⟩, by omega, by omega⟩
  rintro e w' ⟨ho, ⟨hok, rfl, hg⟩ | ⟨hok, Bn, ka, kc, na, nc, la, lc, rfl, hg, hB1, hB2, hkid, hnms, hfr⟩⟩
  · refine ⟨ho, zeroV, Con.none0, L, by rw [hfit, hok], conV_none _ _, hg, h0, Int.le_refl _, fun h => ?_⟩
    rw [hfit, hok] at h; cases h
  · have hLd := hok
    unfold nodeOk at hLd
    simp only [Bool.and_eq_true, decide_eq_true_eq] at hLd
    refine ⟨ho, _, t, L - 1, by rw [hfit, hok], ?_, hg, by omega, by omega, fun _ => ⟨rfl, by rw [size_of_leaf t hl]; rfl⟩⟩
    refine (conV_iff _ _ _ _).2 ⟨hs, _, _, _, rfl, hkid.mono (fun q hq => .inr ⟨by omega, by omega⟩), hnms.mono (fun q hq => .inr ⟨by have := hq.1; omega, by have := hq.2; omega⟩), (by
      have hc : ConSl w' (fun _ => True) _ t.l := hfr.cons (fun _ _ => trivial) (fun _ _ _ => trivial)
      obtain ⟨a, c, e1, e2, e3, e4, -⟩ := hc
      exact ⟨a, c, e1, e2, e3, e4, .inl hl⟩)⟩
/-- the boxes of a shift -/
structure ShiftBoxes (w : World) (g1 g2 g3 G : Nat) (by' from' : Int) : Prop where
  frm : Blk w g1 3 #[.int .i64 from']
  bys : Blk w g2 3 #[.int .i64 by']
  bld : Blk w g3 93 #[.pointer (some ⟨G, 0, none⟩)]
set_option maxRecDepth 100000 in
set_option maxHeartbeats 2000000 in
theorem shiftF_any (N G g1 g2 g3 : Nat) (b1 f1 : Int) (t : Con) (b d L : Int) (w : World) (v : Value) (hN : N ≤ G) (hs : ShiftBoxes w g1 g2 g3 G b1 f1) (hG : Blk w G 139 #[.int .i64 L]) (ht : ConV w (· < N) t v) (ha : Con.nodeB t = true) (hlf : Con.leafy t b) (hb1 : -1000000 ≤ b1 ∧ b1 ≤ 1000000) (hf1 : -9223372036854775808 ≤ f1 ∧ f1 ≤ 9223372036854775807) (h0 : 0 ≤ L) (h1 : L ≤ 20000) (hb0 : 0 ≤ b) (hbd : b ≤ 1000000) (hd : d ≤ 401) :
    Calls Tryz.prog 136 #[v, .int .i64 b, .int .i64 d, .pointer (some ⟨g1, 0, none⟩), .pointer (some ⟨g2, 0, none⟩), .pointer (some ⟨g3, 0, none⟩)] w (RebP N G (shF b1 f1 t b) L d w) := by
  obtain ⟨hkv, hnl, hll⟩ := node_facts t ha
  have hnn := nodeB_n t ha
  have hgl := hG.lt
  have hl0 : t.l = [] := leaf_none t ha (by rcases hlf with h | h; exact .inr h; exact .inl h.1)
  have htt := (conV_iff _ _ _ _).1 ht
  obtain ⟨ka, kn, kc, na, nn, nc, la, ln, lc, rfl, -, -, -⟩ := ht.shape
  have HPRT := Lib.hid (show t.s.size ≤ maxLen ∧ KidV w (· < N) t.kind (.slice ka kn kc) ∧ StrSl w (· < N) (.slice na nn nc) t.names ∧ ConSl w (· < N) (.slice la ln lc) t.l from by
    obtain ⟨hs, kv', nv', lv', e, hk, hn, hl⟩ := htt
    simp only [Value.agg.injEq, Array.mk.injEq, List.cons.injEq, and_true, true_and] at e
    obtain ⟨rfl, rfl, rfl⟩ := e
    exact ⟨hs, hk, hn, hl⟩)
  clear htt
  obtain ⟨hbx, hbx2, hb⟩ := twoN_new w 28 28 #[.int .i64 t.op, .int .i64 t.n, .string t.s, .slice ka kn kc, .slice na nn nc, .slice la ln lc] #[.int .i64 0, .int .i64 0, .string ⟨#[]⟩, .slice none 0 0, .slice none 0 0, .slice none 0 0]
  have HGL := Lib.hid hgl
  have hsb := (⟨hs.frm.of_eq (hb.block _ hs.frm.lt), hs.bys.of_eq (hb.block _ hs.bys.lt), hs.bld.of_eq (hb.block _ hs.bld.lt)⟩ : ShiftBoxes _ g1 g2 g3 G b1 f1)
  have x1 := hsb.frm.cell 0 (.int .i64 f1) rfl
  have x2 := hsb.bys.cell 0 (.int .i64 b1) rfl
  have x3 := hsb.bld.cell 0 (.pointer (some ⟨G, 0, none⟩)) rfl
  have c0 := hbx.cell 0 (.int .i64 t.op) rfl
  have c1 := hbx.cell 1 (.int .i64 t.n) rfl
  have c2 := hbx.cell 2 (.string t.s) rfl
  have c3 := hbx.cell 3 (.slice ka kn kc) rfl
  have c4 := hbx.cell 4 (.slice na nn nc) rfl
  have c5 := hbx.cell 5 (.slice la ln lc) rfl
  have fz := hbx.thaw 1
  have w1 : wrap64 (t.n - b) = t.n - b := by rw [wrap64]; omega
  have w2 : wrap64 (t.n + b1) = t.n + b1 := by rw [wrap64]; omega
  clear hbx hbx2 hb
  by_cases h2 : t.op = 1 ∧ f1 ≤ t.n - b
  · have q1 : (t.op == 1) = true := by rw [h2.1]; rfl
    have q2 : decide (f1 ≤ t.n - b) = true := decide_eq_true h2.2
    have HW := Lib.hid (show shF b1 f1 t b = (⟨t.op, t.n + b1, t.s, t.kind, t.names, t.l⟩ : Con) from if_pos h2)
    rw [HW.out]
    obtain ⟨hbx9, hby9, hb9⟩ := twoN_new w 28 28 #[.int .i64 t.op, .int .i64 (t.n + b1), .string t.s, .slice ka kn kc, .slice na nn nc, .slice la ln lc] #[.int .i64 0, .int .i64 0, .string ⟨#[]⟩, .slice none 0 0, .slice none 0 0, .slice none 0 0]
    have HSZ := Lib.hid (show ((w.alloc (.cells #[.int .i64 t.op, .int .i64 (t.n + b1), .string t.s, .slice ka kn kc, .slice na nn nc, .slice la ln lc] 28)).alloc (.cells #[.int .i64 0, .int .i64 0, .string ⟨#[]⟩, .slice none 0 0, .slice none 0 0, .slice none 0 0] 28)).heap.size = w.heap.size + 2 by simp)
    have hgg := hG.of_eq (hb9.block _ hG.lt)
    have HBY := Lib.hid hby9
    have HOW := Lib.hid (only_below (N := G) hb9)
    have HNODE := Lib.hid (node_leaf N G (⟨t.op, t.n + b1, t.s, t.kind, t.names, t.l⟩ : Con) L d ((w.alloc (.cells #[.int .i64 t.op, .int .i64 (t.n + b1), .string t.s, .slice ka kn kc, .slice na nn nc, .slice la ln lc] 28)).alloc (.cells #[.int .i64 0, .int .i64 0, .string ⟨#[]⟩, .slice none 0 0, .slice none 0 0, .slice none 0 0] 28)) (.agg #[.int .i64 t.op, .int .i64 (t.n + b1), .string t.s, .slice ka kn kc, .slice na nn nc, .slice la ln lc]) hN hgg ((conV_iff _ _ _ _).2 (show t.s.size ≤ maxLen ∧ ∃ kv nv lv, (.agg #[.int .i64 t.op, .int .i64 (t.n + b1), .string t.s, .slice ka kn kc, .slice na nn nc, .slice la ln lc] : Value) = .agg #[.int .i64 t.op, .int .i64 (t.n + b1), .string t.s, kv, nv, lv] ∧ KidV _ _ t.kind kv ∧ StrSl _ _ nv t.names ∧ ConSl _ _ lv t.l from ⟨HPRT.out.1, _, _, _, rfl, HPRT.out.2.1.keep (Same.of_below hb9 (fun q (hq : q < N) => by omega)), HPRT.out.2.2.1.keep (Same.of_below hb9 (fun q (hq : q < N) => by omega)), HPRT.out.2.2.2.keep (Same.of_below hb9 (fun q (hq : q < N) => by omega))⟩)) hkv hl0 hnl h0 h1)
    have d0 := hbx9.cell 0 (.int .i64 t.op) rfl
    have d1 := hbx9.cell 1 (.int .i64 (t.n + b1)) rfl
    have d2 := hbx9.cell 2 (.string t.s) rfl
    have d3 := hbx9.cell 3 (.slice ka kn kc) rfl
    have d4 := hbx9.cell 4 (.slice na nn nc) rfl
    have d5 := hbx9.cell 5 (.slice la ln lc) rfl
    obtain ⟨hby1, hby2, hby3⟩ : (((w.alloc (.cells #[.int .i64 t.op, .int .i64 (t.n + b1), .string t.s, .slice ka kn kc, .slice na nn nc, .slice la ln lc] 28)).alloc (.cells #[.int .i64 0, .int .i64 0, .string ⟨#[]⟩, .slice none 0 0, .slice none 0 0, .slice none 0 0] 28))).cell? ⟨g1, 0, none⟩ = some (.int .i64 f1) ∧ (((w.alloc (.cells #[.int .i64 t.op, .int .i64 (t.n + b1), .string t.s, .slice ka kn kc, .slice na nn nc, .slice la ln lc] 28)).alloc (.cells #[.int .i64 0, .int .i64 0, .string ⟨#[]⟩, .slice none 0 0, .slice none 0 0, .slice none 0 0] 28))).cell? ⟨g2, 0, none⟩ = some (.int .i64 b1) ∧ (((w.alloc (.cells #[.int .i64 t.op, .int .i64 (t.n + b1), .string t.s, .slice ka kn kc, .slice na nn nc, .slice la ln lc] 28)).alloc (.cells #[.int .i64 0, .int .i64 0, .string ⟨#[]⟩, .slice none 0 0, .slice none 0 0, .slice none 0 0] 28))).cell? ⟨g3, 0, none⟩ = some (.pointer (some ⟨G, 0, none⟩)) := ⟨(hs.frm.of_eq (hb9.block _ hs.frm.lt)).cell 0 _ rfl, (hs.bys.of_eq (hb9.block _ hs.bys.lt)).cell 0 _ rfl, (hs.bld.of_eq (hb9.block _ hs.bld.lt)).cell 0 _ rfl⟩
    clear hG ht ha hs hsb hgl hlf h2 HPRT hbx9 hby9 hb9 hgg HW
    go_enter Tryz.func136, Tryz.ntmps136
    go_wp2_with fail
    clear c0 c1 c2 c3 c4 c5 d0 d1 d2 d3 d4 d5 x1 x2 x3 hby1 hby2 hby3 q1 q2 fz
    generalize ((w.alloc (.cells #[.int .i64 t.op, .int .i64 (t.n + b1), .string t.s, .slice ka kn kc, .slice na nn nc, .slice la ln lc] 28)).alloc (.cells #[.int .i64 0, .int .i64 0, .string ⟨#[]⟩, .slice none 0 0, .slice none 0 0, .slice none 0 0] 28)) = wa at *
    refine HNODE.out.mono ?_
    rintro e w3 ⟨ho3, y, u, c, rfl, hy, hg3, hc0, hc1, hfit⟩
    have hsz := HSZ.out
    have hss := ho3.size
    have hgl2 := HGL.out
    obtain ⟨ua, un, uc, va, vn, vc, xa, xn, xc, rfl, -, -, -⟩ := hy.shape
    have hby := ho3.blk HBY.out (show w.heap.size + 1 ≠ G from by have := HGL.out; omega)
    have t0 := hby.thaw 0
    have t1 := hby.thaw 1
    have t2 := hby.thaw 2
    have t3 := hby.thaw 3
    have t4 := hby.thaw 4
    have t5 := hby.thaw 5
    have r0 := hby.cell 0 (.int .i64 0) rfl
    have r1 := hby.cell 1 (.int .i64 0) rfl
    have r2 := hby.cell 2 (.string ⟨#[]⟩) rfl
    have r3 := hby.cell 3 (.slice none 0 0) rfl
    have r4 := hby.cell 4 (.slice none 0 0) rfl
    have r5 := hby.cell 5 (.slice none 0 0) rfl
    have hz := store6_blk hby 0 (.int .i64 u.op) (.int .i64 u.n) (.string u.s) (.slice ua un uc) (.slice va vn vc) (.slice xa xn xc)
    rw [put6_all] at hz
    have HE := Lib.hid (show RebP N G (⟨t.op, t.n + b1, t.s, t.kind, t.names, t.l⟩ : Con) L d w (.returned (.tuple #[.agg #[.int .i64 u.op, .int .i64 u.n, .string u.s, .slice ua un uc, .slice va vn vc, .slice xa xn xc], .bool (fitB (⟨t.op, t.n + b1, t.s, t.kind, t.names, t.l⟩ : Con) L d)])) (store6 w3 (w.heap.size + 1) 0 (.int .i64 u.op) (.int .i64 u.n) (.string u.s) (.slice ua un uc) (.slice va vn vc) (.slice xa xn xc)) from by
      refine ⟨store6_only (HOW.out.trans ho3) _ _ _ _ _ _ _ _ (.inr (Nat.le_succ _)), _, u, c, rfl, ?_, hg3.of_eq (store6_other _ _ _ _ _ _ _ _ _ G (by have := HGL.out; omega)), hc0, hc1, hfit⟩
      refine (hy.keep (fun q hq => store6_other _ _ _ _ _ _ _ _ _ q (by rcases hq with hq | hq <;> omega))).mono (fun q hq => ?_)
      rcases hq with hq | hq
      · exact .inl hq
      · exact .inr ⟨by omega, by rw [store6_size]; exact hq.2⟩)
    unfold store6 at hz HE
    simp only [Nat.zero_add] at hz HE
    have z0 := hz.cell 0 (.int .i64 u.op) rfl
    have z1 := hz.cell 1 (.int .i64 u.n) rfl
    have z2 := hz.cell 2 (.string u.s) rfl
    have z3 := hz.cell 3 (.slice ua un uc) rfl
    have z4 := hz.cell 4 (.slice va vn vc) rfl
    have z5 := hz.cell 5 (.slice xa xn xc) rfl
    clear hy hg3 hfit hby hz ho3 hsz hss hgl2 HNODE HOW HBY HSZ
    generalize fitB (⟨t.op, t.n + b1, t.s, t.kind, t.names, t.l⟩ : Con) L d = r at *
    go_wp2
    refine bodyPost_ret (v := .tuple #[.agg #[.int .i64 u.op, .int .i64 u.n, .string u.s, .slice ua un uc, .slice va vn vc, .slice xa xn xc], .bool r]) (by simp [results, Tryz.results136, go_sem, z0, z1, z2, z3, z4, z5]) rfl ?_
    exact HE.out
  · have HW := Lib.hid (show shF b1 f1 t b = t from (show shF b1 f1 t b = t from if_neg h2))
    rw [HW.out]
    obtain ⟨hbx9, hby9, hb9⟩ := twoN_new w 28 28 #[.int .i64 t.op, .int .i64 (t.n), .string t.s, .slice ka kn kc, .slice na nn nc, .slice la ln lc] #[.int .i64 0, .int .i64 0, .string ⟨#[]⟩, .slice none 0 0, .slice none 0 0, .slice none 0 0]
    have HSZ := Lib.hid (show ((w.alloc (.cells #[.int .i64 t.op, .int .i64 (t.n), .string t.s, .slice ka kn kc, .slice na nn nc, .slice la ln lc] 28)).alloc (.cells #[.int .i64 0, .int .i64 0, .string ⟨#[]⟩, .slice none 0 0, .slice none 0 0, .slice none 0 0] 28)).heap.size = w.heap.size + 2 by simp)
    have hgg := hG.of_eq (hb9.block _ hG.lt)
    have HBY := Lib.hid hby9
    have HOW := Lib.hid (only_below (N := G) hb9)
    have HNODE := Lib.hid (node_leaf N G t L d ((w.alloc (.cells #[.int .i64 t.op, .int .i64 (t.n), .string t.s, .slice ka kn kc, .slice na nn nc, .slice la ln lc] 28)).alloc (.cells #[.int .i64 0, .int .i64 0, .string ⟨#[]⟩, .slice none 0 0, .slice none 0 0, .slice none 0 0] 28)) (.agg #[.int .i64 t.op, .int .i64 (t.n), .string t.s, .slice ka kn kc, .slice na nn nc, .slice la ln lc]) hN hgg ((conV_iff _ _ _ _).2 (show t.s.size ≤ maxLen ∧ ∃ kv nv lv, (.agg #[.int .i64 t.op, .int .i64 (t.n), .string t.s, .slice ka kn kc, .slice na nn nc, .slice la ln lc] : Value) = .agg #[.int .i64 t.op, .int .i64 (t.n), .string t.s, kv, nv, lv] ∧ KidV _ _ t.kind kv ∧ StrSl _ _ nv t.names ∧ ConSl _ _ lv t.l from ⟨HPRT.out.1, _, _, _, rfl, HPRT.out.2.1.keep (Same.of_below hb9 (fun q (hq : q < N) => by omega)), HPRT.out.2.2.1.keep (Same.of_below hb9 (fun q (hq : q < N) => by omega)), HPRT.out.2.2.2.keep (Same.of_below hb9 (fun q (hq : q < N) => by omega))⟩)) hkv hl0 hnl h0 h1)
    have d0 := hbx9.cell 0 (.int .i64 t.op) rfl
    have d1 := hbx9.cell 1 (.int .i64 (t.n)) rfl
    have d2 := hbx9.cell 2 (.string t.s) rfl
    have d3 := hbx9.cell 3 (.slice ka kn kc) rfl
    have d4 := hbx9.cell 4 (.slice na nn nc) rfl
    have d5 := hbx9.cell 5 (.slice la ln lc) rfl
    have hq : (t.op == 1) = false ∨ decide (f1 ≤ t.n - b) = false := by
      cases h : (t.op == 1)
      · exact .inl rfl
      · right
        rw [decide_eq_false_iff_not]
        exact fun h3 => h2 ⟨by simpa using h, h3⟩
    clear hG ht ha hs hsb hgl hlf h2 HPRT hbx9 hby9 hb9 hgg HW
    go_enter Tryz.func136, Tryz.ntmps136
    rcases hq with q1 | q2
    rotate_left
    cases q1 : (t.op == 1)
    all_goals
      go_wp2_with fail
      clear c0 c1 c2 c3 c4 c5 d0 d1 d2 d3 d4 d5 x1 x2 x3 q1 fz
      try clear q2
      generalize ((w.alloc (.cells #[.int .i64 t.op, .int .i64 t.n, .string t.s, .slice ka kn kc, .slice na nn nc, .slice la ln lc] 28)).alloc (.cells #[.int .i64 0, .int .i64 0, .string ⟨#[]⟩, .slice none 0 0, .slice none 0 0, .slice none 0 0] 28)) = wa at *
      refine HNODE.out.mono ?_
      rintro e w3 ⟨ho3, y, u, c, rfl, hy, hg3, hc0, hc1, hfit⟩
      have hsz := HSZ.out
      have hss := ho3.size
      have hgl2 := HGL.out
      obtain ⟨ua, un, uc, va, vn, vc, xa, xn, xc, rfl, -, -, -⟩ := hy.shape
      have hby := ho3.blk HBY.out (show w.heap.size + 1 ≠ G from by have := HGL.out; omega)
      have t0 := hby.thaw 0
      have t1 := hby.thaw 1
      have t2 := hby.thaw 2
      have t3 := hby.thaw 3
      have t4 := hby.thaw 4
      have t5 := hby.thaw 5
      have r0 := hby.cell 0 (.int .i64 0) rfl
      have r1 := hby.cell 1 (.int .i64 0) rfl
      have r2 := hby.cell 2 (.string ⟨#[]⟩) rfl
      have r3 := hby.cell 3 (.slice none 0 0) rfl
      have r4 := hby.cell 4 (.slice none 0 0) rfl
      have r5 := hby.cell 5 (.slice none 0 0) rfl
      have hz := store6_blk hby 0 (.int .i64 u.op) (.int .i64 u.n) (.string u.s) (.slice ua un uc) (.slice va vn vc) (.slice xa xn xc)
      rw [put6_all] at hz
      have HE := Lib.hid (show RebP N G t L d w (.returned (.tuple #[.agg #[.int .i64 u.op, .int .i64 u.n, .string u.s, .slice ua un uc, .slice va vn vc, .slice xa xn xc], .bool (fitB t L d)])) (store6 w3 (w.heap.size + 1) 0 (.int .i64 u.op) (.int .i64 u.n) (.string u.s) (.slice ua un uc) (.slice va vn vc) (.slice xa xn xc)) from by
        refine ⟨store6_only (HOW.out.trans ho3) _ _ _ _ _ _ _ _ (.inr (Nat.le_succ _)), _, u, c, rfl, ?_, hg3.of_eq (store6_other _ _ _ _ _ _ _ _ _ G (by have := HGL.out; omega)), hc0, hc1, hfit⟩
        refine (hy.keep (fun q hq => store6_other _ _ _ _ _ _ _ _ _ q (by rcases hq with hq | hq <;> omega))).mono (fun q hq => ?_)
        rcases hq with hq | hq
        · exact .inl hq
        · exact .inr ⟨by omega, by rw [store6_size]; exact hq.2⟩)
      unfold store6 at hz HE
      simp only [Nat.zero_add] at hz HE
      have z0 := hz.cell 0 (.int .i64 u.op) rfl
      have z1 := hz.cell 1 (.int .i64 u.n) rfl
      have z2 := hz.cell 2 (.string u.s) rfl
      have z3 := hz.cell 3 (.slice ua un uc) rfl
      have z4 := hz.cell 4 (.slice va vn vc) rfl
      have z5 := hz.cell 5 (.slice xa xn xc) rfl
      clear hy hg3 hfit hby hz ho3 hsz hss hgl2 HNODE HOW HBY HSZ
      generalize fitB t L d = r at *
      go_wp2
      refine bodyPost_ret (v := .tuple #[.agg #[.int .i64 u.op, .int .i64 u.n, .string u.s, .slice ua un uc, .slice va vn vc, .slice xa xn xc], .bool r]) (by simp [results, Tryz.results136, go_sem, z0, z1, z2, z3, z4, z5]) rfl ?_
      exact HE.out
end Go.Proofs.YtpkgiemdnfbopaaGreat
namespace Go.Proofs.YtpkgiemdnfbopaaGreat
open Go Go.RowKit
open Pl (K Con)
set_option linter.unusedSimpArgs false
set_option linter.unusedVariables false

/-- what is made, or nothing, with an error -/
def fitOut (x : Con) : Con × Int := if fitB x 20000 1 = true then (x, 0) else (Con.none0, 6)
def ResP (N G : Nat) (x : Con) (w : World) (e : Ending) (w' : World) : Prop :=
  Only G w w' ∧ ∃ y, e = .returned (.tuple #[y, .int .i64 (fitOut x).2]) ∧ ConV w' (fun q => w.heap.size ≤ q ∧ q < w'.heap.size) (fitOut x).1 y
set_option maxRecDepth 100000 in
set_option maxHeartbeats 2000000 in
theorem result_any (N G k : Nat) (cap : Array Value) (F : Con → Int → Con) (w : World) (HC : ChangeOk N G k cap F w) (hN : N ≤ G) (t : Con) (v : Value) (ha : Con.allB t = true) (hG : Blk w G 139 #[.int .i64 20000]) (ht : ConV w (· < N) t v) :
    Calls Tryz.prog 61 #[.pointer (some ⟨G, 0, none⟩), v, .func (.func k) #[] cap] w (ResP N G (Con.reb F t 0) w) := by
  have hgl := hG.lt
  have HGL := Lib.hid hgl
  have HREB := Lib.hid (fun W (hW : Only G w W) (hg : Blk W G 139 #[.int .i64 20000]) => rebuilt_any N G k cap F w HC hN t ha 20000 1 0 W v hW hg (ht.keep (Same.of_only hW (fun q (hq : q < N) => ⟨by omega, by omega⟩))) (by omega) (by omega) (by omega) (by omega) (by omega) (by omega))
  obtain ⟨ka, kn, kc, na, nn, nc, la, ln, lc, rfl, -, -, -⟩ := ht.shape
  obtain ⟨hbx, hbx2, hb⟩ := twoN_new w 28 28 #[.int .i64 t.op, .int .i64 t.n, .string t.s, .slice ka kn kc, .slice na nn nc, .slice la ln lc] #[.int .i64 0, .int .i64 0, .string ⟨#[]⟩, .slice none 0 0, .slice none 0 0, .slice none 0 0]
  have HSZ := Lib.hid (show ((w.alloc (.cells #[.int .i64 t.op, .int .i64 t.n, .string t.s, .slice ka kn kc, .slice na nn nc, .slice la ln lc] 28)).alloc (.cells #[.int .i64 0, .int .i64 0, .string ⟨#[]⟩, .slice none 0 0, .slice none 0 0, .slice none 0 0] 28)).heap.size = w.heap.size + 2 by simp)
  have HG := Lib.hid (hG.of_eq (hb.block _ hG.lt))
  have HBX2 := Lib.hid hbx2
  have HO := Lib.hid (only_below (N := G) hb)
  have c0 := hbx.cell 0 (.int .i64 t.op) rfl
  have c1 := hbx.cell 1 (.int .i64 t.n) rfl
  have c2 := hbx.cell 2 (.string t.s) rfl
  have c3 := hbx.cell 3 (.slice ka kn kc) rfl
  have c4 := hbx.cell 4 (.slice na nn nc) rfl
  have c5 := hbx.cell 5 (.slice la ln lc) rfl
  have HOUT := Lib.hid (show fitOut (Con.reb F t 0) = if fitB (Con.reb F t 0) 20000 1 = true then (Con.reb F t 0, 0) else (Con.none0, 6) from rfl)
  generalize Con.reb F t 0 = want at *
  clear hbx hbx2 hb hG ht HC hgl
  go_enter Tryz.func61, Tryz.ntmps61
  go_wp2_with fail
  clear c0 c1 c2 c3 c4 c5
  generalize ((w.alloc (.cells #[.int .i64 t.op, .int .i64 t.n, .string t.s, .slice ka kn kc, .slice na nn nc, .slice la ln lc] 28)).alloc (.cells #[.int .i64 0, .int .i64 0, .string ⟨#[]⟩, .slice none 0 0, .slice none 0 0, .slice none 0 0] 28)) = wa at *
  refine (HREB.out _ HO.out HG.out).mono ?_
  rintro e w3 ⟨ho3, y, u, c, rfl, hy, -, hc0, hc1, hfit⟩
  have hsz := HSZ.out
  have hss := ho3.size
  obtain ⟨ua, un, uc, va, vn, vc, xa, xn, xc, rfl, -, -, -⟩ := hy.shape
  have hby := (ho3.blk HBX2.out (show w.heap.size + 1 ≠ G from by have := HGL.out; omega)).alloc (.cells #[.int .i64 u.op, .int .i64 u.n, .string u.s, .slice ua un uc, .slice va vn vc, .slice xa xn xc] 28)
  have hbr := blk_new w3 #[.int .i64 u.op, .int .i64 u.n, .string u.s, .slice ua un uc, .slice va vn vc, .slice xa xn xc] 28
  have ho4 := (HO.out.trans ho3).alloc (.cells #[.int .i64 u.op, .int .i64 u.n, .string u.s, .slice ua un uc, .slice va vn vc, .slice xa xn xc] 28)
  have hsz4 : w3.heap.size + 1 = (w3.alloc (.cells #[.int .i64 u.op, .int .i64 u.n, .string u.s, .slice ua un uc, .slice va vn vc, .slice xa xn xc] 28)).heap.size := by simp
  have p0 := hbr.cell 0 (.int .i64 u.op) rfl
  have p1 := hbr.cell 1 (.int .i64 u.n) rfl
  have p2 := hbr.cell 2 (.string u.s) rfl
  have p3 := hbr.cell 3 (.slice ua un uc) rfl
  have p4 := hbr.cell 4 (.slice va vn vc) rfl
  have p5 := hbr.cell 5 (.slice xa xn xc) rfl
  have t0 := hby.thaw 0
  have t1 := hby.thaw 1
  have t2 := hby.thaw 2
  have t3 := hby.thaw 3
  have t4 := hby.thaw 4
  have t5 := hby.thaw 5
  have r0 := hby.cell 0 (.int .i64 0) rfl
  have r1 := hby.cell 1 (.int .i64 0) rfl
  have r2 := hby.cell 2 (.string ⟨#[]⟩) rfl
  have r3 := hby.cell 3 (.slice none 0 0) rfl
  have r4 := hby.cell 4 (.slice none 0 0) rfl
  have r5 := hby.cell 5 (.slice none 0 0) rfl
  generalize hr : fitB want 20000 1 = r at *
  cases r
  · have HO2 := Lib.hid (show fitOut want = (Con.none0, 6) from by rw [HOUT.out]; rfl)
    have hz := store6_blk hby 0 (.int .i64 0) (.int .i64 0) (.string ⟨#[]⟩) (.slice none 0 0) (.slice none 0 0) (.slice none 0 0)
    rw [put6_all] at hz
    have HE := Lib.hid (show ResP N G want w (.returned (.tuple #[.agg #[.int .i64 0, .int .i64 0, .string ⟨#[]⟩, .slice none 0 0, .slice none 0 0, .slice none 0 0], .int .i64 6])) (store6 (w3.alloc (.cells #[.int .i64 u.op, .int .i64 u.n, .string u.s, .slice ua un uc, .slice va vn vc, .slice xa xn xc] 28)) (w.heap.size + 1) 0 (.int .i64 0) (.int .i64 0) (.string ⟨#[]⟩) (.slice none 0 0) (.slice none 0 0) (.slice none 0 0)) from ⟨store6_only ho4 _ _ _ _ _ _ _ _ (.inr (Nat.le_succ _)), _, by rw [HO2.out], by rw [HO2.out]; exact conV_none _ _⟩)
    unfold store6 at hz HE
    simp only [Nat.zero_add] at hz HE
    have z0 := hz.cell 0 (.int .i64 0) rfl
    have z1 := hz.cell 1 (.int .i64 0) rfl
    have z2 := hz.cell 2 (.string ⟨#[]⟩) rfl
    have z3 := hz.cell 3 (.slice none 0 0) rfl
    have z4 := hz.cell 4 (.slice none 0 0) rfl
    have z5 := hz.cell 5 (.slice none 0 0) rfl
    clear hy hfit hby hbr ho3 hsz hss hz ho4 hsz4 HREB HO HG HBX2 HSZ
    go_wp2
    refine bodyPost_ret (v := .tuple #[.agg #[.int .i64 0, .int .i64 0, .string ⟨#[]⟩, .slice none 0 0, .slice none 0 0, .slice none 0 0], .int .i64 6]) (by simp [results, Tryz.results61, go_sem, z0, z1, z2, z3, z4, z5]) rfl ?_
    exact HE.out
  · have HO2 := Lib.hid (show fitOut want = (want, 0) from by rw [HOUT.out]; rfl)
    have hu : u = want := (hfit rfl).1
    have hz := store6_blk hby 0 (.int .i64 u.op) (.int .i64 u.n) (.string u.s) (.slice ua un uc) (.slice va vn vc) (.slice xa xn xc)
    rw [put6_all] at hz
    have HE := Lib.hid (show ResP N G want w (.returned (.tuple #[.agg #[.int .i64 u.op, .int .i64 u.n, .string u.s, .slice ua un uc, .slice va vn vc, .slice xa xn xc], .int .i64 0])) (store6 (w3.alloc (.cells #[.int .i64 u.op, .int .i64 u.n, .string u.s, .slice ua un uc, .slice va vn vc, .slice xa xn xc] 28)) (w.heap.size + 1) 0 (.int .i64 u.op) (.int .i64 u.n) (.string u.s) (.slice ua un uc) (.slice va vn vc) (.slice xa xn xc)) from by
      refine ⟨store6_only ho4 _ _ _ _ _ _ _ _ (.inr (Nat.le_succ _)), _, by rw [HO2.out], ?_⟩
      rw [HO2.out]
      show ConV _ _ want _
      rw [← hu]
      have hby2 := HBX2.out.lt
      refine (hy.keep (fun q hq => ?_)).mono (fun q hq => ?_)
      · rw [store6_other _ _ _ _ _ _ _ _ _ q (by rcases hq with hq | hq <;> have := HGL.out <;> omega)]
        exact Below.heap_alloc w3 _ q (by rcases hq with hq | hq <;> have := HGL.out <;> omega)
      · rcases hq with hq | hq
        · exact absurd hq.1 (by simp)
        · exact ⟨by omega, by rw [store6_size, ← hsz4]; have := hq.2; omega⟩)
    unfold store6 at hz HE
    simp only [Nat.zero_add] at hz HE
    have z0 := hz.cell 0 (.int .i64 u.op) rfl
    have z1 := hz.cell 1 (.int .i64 u.n) rfl
    have z2 := hz.cell 2 (.string u.s) rfl
    have z3 := hz.cell 3 (.slice ua un uc) rfl
    have z4 := hz.cell 4 (.slice va vn vc) rfl
    have z5 := hz.cell 5 (.slice xa xn xc) rfl
    clear hy hfit hby hbr ho3 hsz hss hz ho4 hsz4 hu HREB HO HG HBX2 HSZ
    go_wp2
    refine bodyPost_ret (v := .tuple #[.agg #[.int .i64 u.op, .int .i64 u.n, .string u.s, .slice ua un uc, .slice va vn vc, .slice xa xn xc], .int .i64 0]) (by simp [results, Tryz.results61, go_sem, z0, z1, z2, z3, z4, z5]) rfl ?_
    exact HE.out
theorem newBuilder_any (w : World) : Calls Tryz.prog 60 #[] w fun e w' => e = .returned (.pointer (some ⟨w.heap.size, 0, none⟩)) ∧ w' = w.alloc (.cells #[.int .i64 20000] 139) := by
  go_enter Tryz.func60, Tryz.ntmps60
  go_wp2
  go_ret
  exact ⟨rfl, rfl⟩
/-- the closure of a shift -/
def shiftV (g1 g2 g3 : Nat) : Array Value := #[.pointer (some ⟨g1, 0, none⟩), .pointer (some ⟨g2, 0, none⟩), .pointer (some ⟨g3, 0, none⟩)]
theorem shifting_any (G : Nat) (b f : Int) (w : World) :
    Calls Tryz.prog 101 #[.pointer (some ⟨G, 0, none⟩), .int .i64 b, .int .i64 f] w fun e w' => (∃ g1 g2 g3, e = .returned (.func (.func 136) #[] #[.pointer (some ⟨g1, 0, none⟩), .pointer (some ⟨g2, 0, none⟩), .pointer (some ⟨g3, 0, none⟩)]) ∧ ShiftBoxes w' g1 g2 g3 G b f ∧ w.heap.size ≤ g1 ∧ w.heap.size ≤ g2 ∧ w.heap.size ≤ g3) ∧ Below w.heap.size w w' := by
  obtain ⟨h1, hb1⟩ := boxN_new w 93 #[.pointer (some ⟨G, 0, none⟩)]
  obtain ⟨h2, hb2⟩ := boxN_new (w.alloc (.cells #[.pointer (some ⟨G, 0, none⟩)] 93)) 3 #[.int .i64 b]
  obtain ⟨h3, hb3⟩ := boxN_new ((w.alloc (.cells #[.pointer (some ⟨G, 0, none⟩)] 93)).alloc (.cells #[.int .i64 b] 3)) 3 #[.int .i64 f]
  have k1 := (h1.alloc (.cells #[.int .i64 b] 3)).alloc (.cells #[.int .i64 f] 3)
  have k2 := h2.alloc (.cells #[.int .i64 f] 3)
  have hbb := belowStep hb3 (belowStep hb2 hb1)
  rw [size_alloc] at k2
  rw [size_alloc, size_alloc] at h3
  have HE := Lib.hid (show ShiftBoxes (((w.alloc (.cells #[.pointer (some ⟨G, 0, none⟩)] 93)).alloc (.cells #[.int .i64 b] 3)).alloc (.cells #[.int .i64 f] 3)) (w.heap.size + 1 + 1) (w.heap.size + 1) w.heap.size G b f from ⟨h3, k2, k1⟩)
  have HB := Lib.hid hbb
  clear h1 h2 h3 hb1 hb2 hb3 k1 k2 hbb
  go_enter Tryz.func101, Tryz.ntmps101
  go_wp2
  go_ret
  exact ⟨⟨_, _, _, rfl, HE.out, by omega, by omega, Nat.le_refl _⟩, HB.out⟩
/-- a shift is a change -/
theorem shift_change (N G g1 g2 g3 : Nat) (b f : Int) (w : World) (hN : N ≤ G) (hs : ShiftBoxes w g1 g2 g3 G b f) (h1 : g1 ≠ G) (h2 : g2 ≠ G) (h3 : g3 ≠ G) (hb1 : -1000000 ≤ b ∧ b ≤ 1000000) (hf1 : -9223372036854775808 ≤ f ∧ f ≤ 9223372036854775807) :
    ChangeOk N G 136 #[.pointer (some ⟨g1, 0, none⟩), .pointer (some ⟨g2, 0, none⟩), .pointer (some ⟨g3, 0, none⟩)] (shF b f) w :=
  ⟨fun _ _ => by kernel_rfl, fun W t v b2 d L hW hg h0 h1' hb0 hbd hd0 hd1 hlf ha ht => shiftF_any N G g1 g2 g3 b f t b2 d L W v hN ⟨hW.blk hs.frm h1, hW.blk hs.bys h2, hW.blk hs.bld h3⟩ hg ht ha hlf hb1 hf1 h0 h1' hb0 (by omega) hd1⟩
end Go.Proofs.YtpkgiemdnfbopaaGreat
namespace Go.Proofs.YtpkgiemdnfbopaaGreat
open Go Go.RowKit

/-- what an iterator promises whose own steps may turn any block that is no cells and lies beyond the start -/
def SeqO {α : Type} (F : Fence) (n : Nat) (P : Program) (g : Nat) (lb : Array Value) (encs : α → Array Value) (Kp : World → World → Prop) (S Sp : List α → Prop) (N : Nat) (w : World) (B0 : Nat) : Prop :=
  ∀ (l : Nat) (J Jx : List α → World → Prop) (W : World), Below w.heap.size w W → B0 ≤ W.heap.size → OwnFrom W.heap.size J → OwnFrom W.heap.size Jx →
    (∀ pre x W1, J pre W1 → pre.length < N → YieldAt F (n - 1) P l (encs x) W1 fun e W' => (e = .returned (.bool true) ∧ J (pre ++ [x]) W' ∧ Kp W1 W') ∨ (e = .returned (.bool false) ∧ Jx (pre ++ [x]) W' ∧ Kp W1 W')) →
    J [] W → CallsIn F n P g (#[.func (.yield l) #[] #[]] ++ lb) W fun e W' => (∃ v, e = .returned v) ∧ ((∃ xs, S xs ∧ J xs W') ∨ (∃ pre, Sp pre ∧ Jx pre W'))
/-- the ways out of a round's body: it goes on, or the function returns -/
def turnPost {α : Type} (B : Nat) (Kp : World → World → Prop) (I Ix : List α → World → Prop) (xs : List α) (W : World) : Exit → Act → World → Prop
  | .normal, _, W' => KeepsFrom B W W' ∧ Kp W W' ∧ I xs W'
  | .ret, _, W' => KeepsFrom B W W' ∧ Kp W W' ∧ Ix xs W'
  | _, _, _ => False
section
variable {F : Fence} {n : Nat} {P : Program}
theorem ownFrom_le {β : Type} {B C : Nat} {I : β → World → Prop} (h : OwnFrom B I) (hBC : B ≤ C) : OwnFrom C I := fun s A D row hs hg hr => h s A D row hs hg (fun r e => ⟨Nat.le_trans hBC (hr r e).1, (hr r e).2⟩)
/-- a block below stays through a step beyond -/
theorem grown_same {A D : World} {row : Option Nat} {B k : Nat} {o : Obj} (hg : A.grownBy D row) (hr : ∀ r, row = some r → B ≤ r ∧ ∃ o : Obj, A.heap[r]? = some o ∧ o.isCells = false) (hk : k < B) (ho : A.heap[k]? = some o) : D.heap[k]? = some o :=
  (hg.block k (Array.getElem?_eq_some_iff.1 ho).1 (fun e => by have := (hr k e.symm).1; omega)).trans ho
/-- the loop's record, and the block of the rounds' deferred calls -/
structure Books (B : Nat) (fn : Nat) (tmps : Array Value) (ps : Array Tmp) (assign body : Code) (st : LoopState) (pe : Option Code) (W : World) : Prop where
  lp : W.heap[B + 1]? = some (.loop { state := st, pending := pe, fn := fn, tmps := tmps, params := ps, assign := assign, body := body, defers := B })
  dfr : W.heap[B]? = some (.deferred (some []))
theorem Books.step {B fn : Nat} {tmps : Array Value} {ps : Array Tmp} {assign body : Code} {st : LoopState} {pe : Option Code} {A D : World} {row : Option Nat} (h : Books B fn tmps ps assign body st pe A) (hg : A.grownBy D row) (hr : ∀ r, row = some r → B + 2 ≤ r ∧ ∃ o : Obj, A.heap[r]? = some o ∧ o.isCells = false) : Books B fn tmps ps assign body st pe D :=
  ⟨grown_same hg hr (by omega) h.lp, grown_same hg hr (by omega) h.dfr⟩
theorem Books.keep {B fn : Nat} {tmps : Array Value} {ps : Array Tmp} {assign body : Code} {st : LoopState} {pe : Option Code} {A D : World} (h : Books B fn tmps ps assign body st pe A) (hk : KeepsFrom B A D) : Books B fn tmps ps assign body st pe D :=
  ⟨hk.same _ _ (by omega) h.lp rfl, hk.same _ _ (Nat.le_refl _) h.dfr rfl⟩
theorem Books.put {B fn : Nat} {tmps : Array Value} {ps : Array Tmp} {assign body : Code} {st : LoopState} {pe : Option Code} {A : World} (h : Books B fn tmps ps assign body st pe A) (st' : LoopState) (pe' : Option Code) : Books B fn tmps ps assign body st' pe' (A.putObj (B + 1) (.loop { state := st', pending := pe', fn := fn, tmps := tmps, params := ps, assign := assign, body := body, defers := B })) :=
  ⟨World.putObj_heap_same (Array.getElem?_eq_some_iff.1 h.lp).1, (World.putObj_heap_other (by omega)).trans h.dfr⟩
/-- how a round ends -/
theorem Books.ends {α : Type} {B fn : Nat} {tmps : Array Value} {ps : Array Tmp} {assign body : Code} {Kp : World → World → Prop} {I Ix : List α → World → Prop} {xs : List α} {W0 W : World}
    (hKt : ∀ {A B C : World}, Kp A B → Kp B C → Kp A C) (hKb : ∀ (W : World) (o o' : Obj), W.heap[B + 1]? = some o → o.isCells = false → o.isWalk = false → Kp W (W.putObj (B + 1) o')) (hI : OwnFrom B I) (hIx : OwnFrom B Ix)
    (hW0 : Kp W0 W) (hb : Books B fn tmps ps assign body .busy none W) {e : Exit} {a3 : Act} {W3 : World} (hp : turnPost B Kp I Ix xs W e a3 W3) :
    roundPost P (B + 1) (fun e W' => (e = .returned (.bool true) ∧ (I xs W' ∧ Books B fn tmps ps assign body .ready none W') ∧ Kp W0 W') ∨ (e = .returned (.bool false) ∧ (Ix xs W' ∧ Books B fn tmps ps assign body .done (some .ret) W') ∧ Kp W0 W')) e a3 W3 := by
  cases e with
  | normal =>
    obtain ⟨hk, hkp, hi⟩ := hp
    have hb3 := hb.keep hk
    exact ⟨_, _, run_endRound (P := P) none hb3.lp, .inl ⟨rfl, ⟨hI.putObj _ hi (by omega) hb3.lp rfl, hb3.put .ready none⟩, hKt hW0 (hKt hkp (hKb _ _ _ hb3.lp rfl rfl))⟩⟩
  | ret =>
    obtain ⟨hk, hkp, hi⟩ := hp
    have hb3 := hb.keep hk
    exact ⟨_, _, run_endRound (P := P) (some .ret) hb3.lp, .inr ⟨rfl, ⟨hIx.putObj _ hi (by omega) hb3.lp rfl, hb3.put .done (some .ret)⟩, hKt hW0 (hKt hkp (hKb _ _ _ hb3.lp rfl rfl))⟩⟩
  | exit id => exact hp.elim
  | goto t => exact hp.elim
  | panic ch => exact hp.elim
  | outgrown => exact hp.elim
/-- the loop -/
theorem rangeO {α : Type} {g : Operand} {ps : Array Tmp} {assign body : Code} {Q : Exit → Act → World → Prop} {a : Act} {w : World}
    (hro : F.round = none) (h1 : 1 ≤ n) {gf : Nat} {lb : Array Value} (hg : a.eval g = .func (.func gf) #[] lb) (hFg : F.fn gf) (eg : ∀ args w, (callFunc gf args).run P w = .ok (.enter gf args) w)
    {encs : α → Array Value} {Kp : World → World → Prop} {S Sp : List α → Prop} {N : Nat} {w0 : World} {B0 : Nat} (hseq : SeqO F (n - 1) P gf lb encs Kp S Sp N w0 B0) (hB0 : B0 ≤ w.heap.size + 2)
    (hKt : ∀ {A B C : World}, Kp A B → Kp B C → Kp A C) (hKb : ∀ (W : World) (o o' : Obj), W.heap[w.heap.size + 1]? = some o → o.isCells = false → o.isWalk = false → Kp W (W.putObj (w.heap.size + 1) o')) (hb0 : Below w0.heap.size w0 w) (hps : ∀ x, ps.size = (encs x).size)
    (I Ix : List α → World → Prop) (hI : OwnFrom w.heap.size I) (hIx : OwnFrom w.heap.size Ix) (h0 : I [] w) (a₁ : α → Act)
    (hassign : ∀ (l : Nat) (x : α) (W : World) (K : Act → World → Prop), K (a₁ x) W →
      assign.wpIn (F.inRound l) (n - 1 - 1) P (Exit.then K (fun _ _ _ => False)) { tmps := (ps.zip (encs x)).foldl (fun t (p, v) => t.setIfInBounds p v) a.tmps, defers := [] } W)
    (hbody : ∀ (l : Nat) (pre : List α) (x : α) (W : World), I pre W → pre.length < N → body.wpIn (F.inRound l) (n - 1 - 1) P (turnPost w.heap.size Kp I Ix (pre ++ [x]) W) (a₁ x) W)
    (hdone : ∀ (D : Nat) (xs : List α) (W : World), w.heap.size ≤ D → S xs → I xs W → W.heap[D]? = some (.deferred (some [])) → Q .normal { a with defers := { target := .collected D, args := #[] } :: a.defers } W)
    (hstop : ∀ (D : Nat) (pre : List α) (W : World), w.heap.size ≤ D → Sp pre → Ix pre W → W.heap[D]? = some (.deferred (some [])) → Code.ret.wpIn F n P Q { a with defers := { target := .collected D, args := #[] } :: a.defers } W) :
    (Code.rangeFunc g ps assign body).wpIn F n P Q a w := by
  refine wpIn_rangeFunc (fun fn hfn => ?_)
  rw [hro]
  have hsz : ((w.alloc (.deferred (some []))).alloc (.loop { state := .ready, pending := none, fn := fn, tmps := a.tmps, params := ps, assign := assign, body := body, defers := w.heap.size })).heap.size = w.heap.size + 2 := by simp
  have hbk : Books w.heap.size fn a.tmps ps assign body .ready none ((w.alloc (.deferred (some []))).alloc (.loop { state := .ready, pending := none, fn := fn, tmps := a.tmps, params := ps, assign := assign, body := body, defers := w.heap.size })) := by
    constructor
    · have := World.alloc_heap_new (w.alloc (.deferred (some []))) (.loop { state := .ready, pending := none, fn := fn, tmps := a.tmps, params := ps, assign := assign, body := body, defers := w.heap.size })
      rwa [World.size_alloc] at this
    · exact (Below.heap_alloc _ _ _ (by simp)).trans (World.alloc_heap_new w _)
  have hstart : I [] ((w.alloc (.deferred (some []))).alloc (.loop { state := .ready, pending := none, fn := fn, tmps := a.tmps, params := ps, assign := assign, body := body, defers := w.heap.size })) := hI.alloc _ (hI.alloc _ h0)
  have hbel : Below w0.heap.size w0 ((w.alloc (.deferred (some []))).alloc (.loop { state := .ready, pending := none, fn := fn, tmps := a.tmps, params := ps, assign := assign, body := body, defers := w.heap.size })) := hb0.trans ((((Below.refl _ w).alloc (Nat.le_refl _) _).alloc (by simp) _).mono hb0.size)
  obtain ⟨W1, hW1⟩ : ∃ W1, ((w.alloc (.deferred (some []))).alloc (.loop { state := .ready, pending := none, fn := fn, tmps := a.tmps, params := ps, assign := assign, body := body, defers := w.heap.size })) = W1 := ⟨_, rfl⟩
  rw [hW1] at hsz hbk hstart hbel
  refine ⟨w.heap.size + 1, [{ target := .collected w.heap.size, args := #[] }], W1, { target := .fn (.func gf) lb, args := #[.func (.yield (w.heap.size + 1)) #[] #[]] }, W1, gf, #[.func (.yield (w.heap.size + 1)) #[] #[]] ++ lb, W1, by rw [← hW1]; exact run_enterLoop_outer _ _ _ _ _, ?_, ?_, ?_, fun _ => h1, ?_⟩
  · simp only [resolve, hg]
    simp [go_sem]
  · intro f' hf'
    simp [Target.leads] at hf'
    subst hf'
    exact hFg
  · simp [invoke, go_sem, eg]
  have hle : ∀ {A : World} {row : Option Nat}, (∀ r, row = some r → W1.heap.size ≤ r ∧ ∃ o : Obj, A.heap[r]? = some o ∧ o.isCells = false) → ∀ r, row = some r → w.heap.size + 2 ≤ r ∧ ∃ o : Obj, A.heap[r]? = some o ∧ o.isCells = false := fun hr r e => ⟨by have := (hr r e).1; omega, (hr r e).2⟩
  refine (hseq (w.heap.size + 1) (fun pre W => I pre W ∧ Books w.heap.size fn a.tmps ps assign body .ready none W) (fun pre W => Ix pre W ∧ Books w.heap.size fn a.tmps ps assign body .done (some .ret) W) _ hbel (by omega) ?_ ?_ ?_ ⟨hstart, hbk⟩).mono ?_
  · exact fun s A D row hs hg hr => ⟨hI s A D row hs.1 hg (fun r e => ⟨by have := (hle hr r e).1; omega, (hr r e).2⟩), hs.2.step hg (hle hr)⟩
  · exact fun s A D row hs hg hr => ⟨hIx s A D row hs.1 hg (fun r e => ⟨by have := (hle hr r e).1; omega, (hr r e).2⟩), hs.2.step hg (hle hr)⟩
  · rintro pre x W ⟨hi, hb⟩ hlen
    refine ⟨fn, _, assign, body, run_yield (P := P) (args := encs x) hb.lp (hps x).symm, roundIn_of_wpIn hfn (hassign _ x W _ ?_)⟩
    refine ⟨_, run_beginRound hb.lp rfl, ?_⟩
    have hb2 := hb.put .busy none
    exact wpIn_mono (hbody _ pre x _ (hI.putObj _ hi (by omega) hb.lp rfl) hlen) (fun e a3 W3 hp => Books.ends (Kp := Kp) (W0 := W) (I := I) (Ix := Ix) hKt hKb hI hIx (hKb W _ _ hb.lp rfl rfl) hb2 hp)
  · rintro e W2 ⟨⟨v, rfl⟩, ⟨xs, hS, hi, hb⟩ | ⟨pre, hSp, hi, hb⟩⟩
    · exact ⟨none, _, run_endLoop (P := P) hb.lp (by simp), hdone _ xs _ (Nat.le_refl _) hS (hI.putObj _ hi (by omega) hb.lp rfl) ((World.putObj_heap_other (by omega)).trans hb.dfr)⟩
    · exact ⟨some .ret, _, run_endLoop (P := P) hb.lp (by simp), hstop _ pre _ (Nat.le_refl _) hSp (hIx.putObj _ hi (by omega) hb.lp rfl) ((World.putObj_heap_other (by omega)).trans hb.dfr)⟩
end
end Go.Proofs.YtpkgiemdnfbopaaGreat
namespace Go.Proofs.YtpkgiemdnfbopaaGreat
open Go Go.RowKit
open Pl (K Con)
set_option linter.unusedSimpArgs false
set_option linter.unusedVariables false
attribute [local go_sem] Oper.semAt_some

/-- what a visit hands over: a node, as its cells, and the binders around it -/
structure Leaf where
  op : Int
  n : Int
  s : ByteArray
  ka : Option Addr
  kn : Nat
  kc : Nat
  na : Option Addr
  nn : Nat
  nc : Nat
  la : Option Addr
  ln : Nat
  lc : Nat
  b : Int
  hn : 0 ≤ n ∧ n ≤ 20000
  hb : 0 ≤ b ∧ b ≤ 1000
def Leaf.proj (x : Leaf) : Int × Int × Int := (x.op, x.n, x.b)
def encL (x : Leaf) : Array Value := #[.agg #[.int .i64 x.op, .int .i64 x.n, .string x.s, .slice x.ka x.kn x.kc, .slice x.na x.nn x.nc, .slice x.la x.ln x.lc], .int .i64 x.b]
mutual
/-- the leaves of a constructor, with the binders around them -/
def Con.leavesOf : Con → Int → List (Int × Int × Int)
  | ⟨op, n, _, _, _, l⟩, d => if l.length = 0 then [(op, n, d)] else Con.leavesOfs l (Con.deep op d)
def Con.leavesOfs : List Con → Int → List (Int × Int × Int)
  | [], _ => []
  | t :: r, d => Con.leavesOf t d ++ Con.leavesOfs r d
end
theorem leavesOfs_map (d : Int) (l : List Con) : Con.leavesOfs l d = l.flatMap (fun t => Con.leavesOf t d) := by
  induction l with
  | nil => rw [Con.leavesOfs]; rfl
  | cons t r ih => rw [Con.leavesOfs, ih]; rfl
theorem leavesOf_none (t : Con) (d : Int) (h : t.l.length = 0) : Con.leavesOf t d = [(t.op, t.n, d)] := by
  obtain ⟨op, n, s, k, names, l⟩ := t
  have h : l.length = 0 := h
  rw [Con.leavesOf, if_pos h]
theorem leavesOf_node (t : Con) (d : Int) (h : t.l.length ≠ 0) : Con.leavesOf t d = t.l.flatMap (fun x => Con.leavesOf x (Con.deep t.op d)) := by
  obtain ⟨op, n, s, k, names, l⟩ := t
  have h : l.length ≠ 0 := h
  rw [Con.leavesOf, if_neg h, leavesOfs_map]
theorem leavesOf_size (t : Con) : ∀ d, (Con.leavesOf t d).length ≤ t.size := by
  induction t using Con.ind with
  | h t ih =>
  intro d
  by_cases h : t.l.length = 0
  · rw [leavesOf_none t d h, Con.size_eq]; simp
  · rw [leavesOf_node t d h, Con.size_eq]
    have : ∀ (l : List Con) (d : Int), (∀ x ∈ l, ∀ d, (Con.leavesOf x d).length ≤ x.size) → (l.flatMap (fun x => Con.leavesOf x d)).length ≤ Con.sizes l := by
      intro l d
      induction l with
      | nil => intro _; simp
      | cons x r ihr =>
        intro h
        rw [List.flatMap_cons, List.length_append, Con.sizes_cons]
        have := h x List.mem_cons_self d
        have := ihr (fun y hy => h y (List.mem_cons_of_mem _ hy))
        omega
    have := this t.l (Con.deep t.op d) ih
    omega
theorem leaves_sizes (l : List Con) (d : Int) : (l.flatMap (fun x => Con.leavesOf x d)).length ≤ Con.sizes l := by
  induction l with
  | nil => simp
  | cons x r ihr =>
    rw [List.flatMap_cons, List.length_append, Con.sizes_cons]
    have := leavesOf_size x d
    omega
theorem flatMap_take {α β : Type} (f : α → List β) (l : List α) (k : Nat) (h : k < l.length) : (l.take (k + 1)).flatMap f = (l.take k).flatMap f ++ f l[k] := by
  rw [List.take_succ_eq_append_getElem h, List.flatMap_append]
  simp
theorem flatMap_prefix {α β : Type} (f : α → List β) (l : List α) (k : Nat) : (l.take k).flatMap f <+: l.flatMap f := by
  conv => rhs; rw [← List.take_append_drop k l, List.flatMap_append]
  exact List.prefix_append _ _
/-- the free index of a leaf -/
def freeL (x : Int × Int × Int) : Option Int := if x.1 = 1 ∧ x.2.2 ≤ x.2.1 then some (x.2.1 - x.2.2) else none
theorem frees_leaves (t : Con) : ∀ d, Con.allB t = true → Con.frees t d = (Con.leavesOf t d).filterMap freeL := by
  induction t using Con.ind with
  | h t ih =>
  intro d ha
  rw [allB_eq, Bool.and_eq_true, List.all_eq_true] at ha
  by_cases h1 : t.op = 1
  · have hl : t.l.length = 0 := by rw [leaf_none t ha.1 (.inl h1)]; rfl
    rw [frees_var t d h1, leavesOf_none t d hl, h1]
    by_cases h2 : d ≤ t.n
    · rw [if_pos h2]; simp [freeL, h2]
    · rw [if_neg h2]; simp [freeL, h2]
  · rw [frees_node t d h1]
    by_cases hl : t.l.length = 0
    · rw [leavesOf_none t d hl, List.eq_nil_of_length_eq_zero hl]
      simp [freeL, h1]
    · rw [leavesOf_node t d hl, List.filterMap_flatMap]
      have : ∀ l : List Con, (∀ x ∈ l, Con.frees x (Con.deep t.op d) = (Con.leavesOf x (Con.deep t.op d)).filterMap freeL) → l.flatMap (fun x => Con.frees x (Con.deep t.op d)) = l.flatMap (fun a => (Con.leavesOf a (Con.deep t.op d)).filterMap freeL) := by
        intro l
        induction l with
        | nil => intro _; rfl
        | cons x r ihr =>
          intro h
          rw [List.flatMap_cons, List.flatMap_cons, h x List.mem_cons_self, ihr (fun y hy => h y (List.mem_cons_of_mem _ hy))]
      exact this t.l (fun x hx => ih x hx _ (ha.2 x hx))
theorem depth_part {t x : Con} (h : x ∈ t.l) : x.depth + 1 ≤ t.depth := by
  rw [Con.depth_eq t]
  have := Con.mem_depth h
  omega
theorem room_of_no {F : Fence} (hd : F.depth = none) (m : Nat) : F.room m := fun d h => by rw [hd] at h; cases h
theorem yield_anyDepth {F : Fence} (hd : F.depth = none) {m : Nat} (m' : Nat) {P : Program} {l : Nat} {args : Array Value} {W : World} {R : Ending → World → Prop} (h : YieldAt F m P l args W R) : YieldAt F m' P l args W R := by
  obtain ⟨fn, tmps, assign, body, hy, h1, h2⟩ := h
  exact ⟨fn, tmps, assign, body, hy, h1, fun c cs _ => h2 c cs (room_of_no hd _)⟩
theorem toF {F : Fence} (HF : Hid (F = Fence.wide)) (n : Nat) {P : Program} {f : FuncId} {args : Array Value} {w : World} {R : Ending → World → Prop} (h : Calls P f args w R) : CallsIn F n P f args w R := by
  have := HF.out
  subst this
  exact callsIn_wide.2 h
set_option maxRecDepth 100000 in
set_option maxHeartbeats 2000000 in
theorem visit_in (F : Fence) (HF : Hid (F = Fence.wide)) (l n₀ N B0 : Nat) (J Jx : List Leaf → World → Prop) (hJ : AbidesFrom B0 J)
    (hY : ∀ m pre x W, J pre W → pre.length < N → YieldAt F m Tryz.prog l (encL x) W fun e W' => (e = .returned (.bool true) ∧ J (pre ++ [x]) W' ∧ Below n₀ W W') ∨ (e = .returned (.bool false) ∧ Jx (pre ++ [x]) W')) (t : Con) :
    Con.allB t = true → ∀ (n : Nat) (b : Int) (pre : List Leaf) (W : World) (v : Value), ConV W (· < n₀) t v → n₀ ≤ W.heap.size → 0 ≤ b → b + t.depth ≤ 1000 → J pre W → pre.length + t.size ≤ N →
      CallsIn F n Tryz.prog 108 #[v, .int .i64 b, .func (.yield l) #[] #[]] W fun e W' =>
        (e = .returned (.bool true) ∧ ∃ ls : List Leaf, ls.map Leaf.proj = Con.leavesOf t b ∧ J (pre ++ ls) W' ∧ Below n₀ W W') ∨ (e = .returned (.bool false) ∧ ∃ ls : List Leaf, ls.map Leaf.proj <+: Con.leavesOf t b ∧ Jx (pre ++ ls) W') := by
  have hd : F.depth = none := by rw [HF.out]; rfl
  have hro : F.round = none := by rw [HF.out]; rfl
  have hvf : F.fn 108 := by rw [HF.out]; trivial
  have hbf : F.fn 137 := by rw [HF.out]; trivial
  induction t using Con.ind with
  | h t ih =>
  intro ha n b pre W v ht hn0 hb0 hbd hj hN
  have ha' := ha
  rw [allB_eq, Bool.and_eq_true, List.all_eq_true] at ha'
  have hnn := nodeB_n t ha'.1
  have hdp := Con.depth_pos t
  obtain ⟨ka, kn, kc, na, nn, nc, la, ln, lc, rfl, -, -, hln⟩ := ht.shape
  have HT := Lib.hid (fun W' (hW : Below n₀ W W') => ht.keep (Same.of_below hW (fun q hq => hq)))
  have HSL := Lib.hid (fun W' (hW : Below n₀ W W') => (show ConSl W' (· < n₀) (.slice la ln lc) t.l from by
    obtain ⟨-, kv', nv', lv', e, hk, hn, hl⟩ := (conV_iff _ _ _ _).1 (HT.out W' hW)
    simp only [Value.agg.injEq, Array.mk.injEq, List.cons.injEq, and_true, true_and] at e
    obtain ⟨rfl, rfl, rfl⟩ := e
    exact hl))
  obtain ⟨hbx, hb⟩ := boxN_new W 28 #[.int .i64 t.op, .int .i64 t.n, .string t.s, .slice ka kn kc, .slice na nn nc, .slice la ln lc]
  have hj1 : J pre (W.alloc (.cells #[.int .i64 t.op, .int .i64 t.n, .string t.s, .slice ka kn kc, .slice na nn nc, .slice la ln lc] 28)) := hJ _ _ _ none hj (World.grownBy_alloc W _ none) (fun r e => by cases e)
  have c0 := hbx.cell 0 (.int .i64 t.op) rfl
  have c1 := hbx.cell 1 (.int .i64 t.n) rfl
  have c2 := hbx.cell 2 (.string t.s) rfl
  have c3 := hbx.cell 3 (.slice ka kn kc) rfl
  have c4 := hbx.cell 4 (.slice na nn nc) rfl
  have c5 := hbx.cell 5 (.slice la ln lc) rfl
  have HB := Lib.hid (show Below n₀ W (W.alloc (.cells #[.int .i64 t.op, .int .i64 t.n, .string t.s, .slice ka kn kc, .slice na nn nc, .slice la ln lc] 28)) from hb.mono hn0)
  have hdd : ∀ k : Nat, (F.depth.isSome = true → 1 ≤ k) := fun k h => by rw [hd] at h; cases h
  by_cases h0 : ln = 0
  · subst h0
    have hl0 : t.l.length = 0 := hln.symm
    have hbb : 0 ≤ b ∧ b ≤ 1000 := ⟨hb0, by omega⟩
    obtain ⟨fn, tmps, assign, body, hy, hR⟩ := hY (n - 1) pre ⟨t.op, t.n, t.s, ka, kn, kc, na, nn, nc, la, 0, lc, b, hnn, hbb⟩ _ hj1 (by have := Con.size_pos t; omega)
    have HE := Lib.hid (leavesOf_none t b hl0)
    unfold encL at hy
    dsimp only at hy
    clear hbx hb ht ih hY hJ hj hj1 hln hl0 hN hbd hdp ha ha' HSL HT hn0
    refine callsIn_of_wp Tryz.func108 rfl hvf ?_ hro
    simp only [Tryz.ntmps108, List.size_toArray, List.length_cons, List.length_nil, Nat.reduceAdd, Nat.reduceSub, Array.replicate_succ, Array.replicate_zero, List.push_toArray, List.append_toArray, List.nil_append, List.cons_append]
    gi_wp2
    refine hR.mono ?_
    rintro e W2 (⟨rfl, hJ2, hb2⟩ | ⟨rfl, hx2⟩)
    · have HJ2 := Lib.hid hJ2
      have HB2 := Lib.hid (HB.out.trans hb2)
      clear hJ2 hb2 hR hy
      gi_wp2
      go_ret
      exact .inl ⟨rfl, [⟨t.op, t.n, t.s, ka, kn, kc, na, nn, nc, la, 0, lc, b, hnn, hbb⟩], by rw [HE.out]; rfl, HJ2.out, HB2.out⟩
    · have HX2 := Lib.hid hx2
      clear hx2 hR hy
      gi_wp2
      go_ret
      exact .inr ⟨rfl, _, by rw [HE.out]; exact List.prefix_refl _, HX2.out⟩
  · have hl0 : t.l.length ≠ 0 := by omega
    have hn63 : ln ≤ 9223372036854775807 := by
      have := Con.length_le_sizes t.l
      have := Con.size_eq t
      have h3 := (node_facts t ha'.1).2.2
      omega
    have HLN := Lib.hid hln
    have HE := Lib.hid (leavesOf_node t b hl0)
    have HIH := Lib.hid ih
    have HALL := Lib.hid ha'.2
    have HBN := Lib.hid (cbinder_any t.op)
    have HDP := Lib.hid (fun x (hx : x ∈ t.l) => depth_part hx)
    have HSZ := Lib.hid (Con.size_eq t)
    have hq0 : ((ln : Int) == 0) = false := beq_eq_false_iff_ne.2 (by omega)
    obtain ⟨b2, hb2⟩ : ∃ b2, b2 = Con.deep t.op b := ⟨_, rfl⟩
    have hble := Con.deep_le t.op b
    have HDEEP := Lib.hid (show b2 = if Con.binder t.op = true then b + 1 else b from hb2)
    rw [← hb2] at HE hble
    have hbb : 0 ≤ b2 ∧ b2 ≤ b + 1 := by omega
    have w1 : wrap64 (b + 1) = b + 1 := by rw [wrap64]; omega
    have HJ := Lib.hid hJ
    have HJ1 := Lib.hid hj1
    clear hbx hb ht ih hY hJ hj hj1 hln hl0 hdp ha ha' HT hb2 h0
    refine callsIn_of_wp Tryz.func108 rfl hvf ?_ hro
    simp only [Tryz.ntmps108, List.size_toArray, List.length_cons, List.length_nil, Nat.reduceAdd, Nat.reduceSub, Array.replicate_succ, Array.replicate_zero, List.push_toArray, List.append_toArray, List.nil_append, List.cons_append]
    gi_wp2_with fail
    refine (toF HF _ (HBN.out _)).mono ?_
    rintro e w' ⟨rfl, rfl⟩
    generalize W.alloc (.cells #[.int .i64 t.op, .int .i64 t.n, .string t.s, .slice ka kn kc, .slice na nn nc, .slice la ln lc] 28) = w2 at *
    cases hbn : Con.binder t.op
    · rw [hbn] at HDEEP
      have hb2 : b2 = b := HDEEP.out
      subst hb2
      clear HDEEP hbn w1
      all_goals
        gi_wp2_with fail
        clear c0 c1 c2 c3 c4 c5
        gi_loopw [25] (fun i wr => ∃ (k : Nat) (ls : List Leaf), k ≤ ln ∧ i = .int .i64 k ∧ ls.map Leaf.proj = (t.l.take k).flatMap (fun x => Con.leavesOf x b2) ∧ J (pre ++ ls) wr ∧ Below n₀ W wr) (fun i _ => ln - (intOf i).toNat)
        case atStart => exact ⟨0, [], Nat.zero_le _, rfl, rfl, by rw [List.append_nil]; exact HJ1.out, HB.out⟩
        case round =>
          obtain ⟨k, ls, hk, rfl, hls, hj, hbw⟩ := hrel
          have HLS := Lib.hid hls
          have HJK := Lib.hid hj
          have HBW := Lib.hid hbw
          by_cases hlt : k < ln
          · have q5 : decide ((k : Int) < (ln : Int)) = true := decide_eq_true (by omega)
            have hkl : k < t.l.length := by have := HLN.out; omega
            obtain ⟨bb, off, c', xa, xn, xc, ya, yn, yc, za, zn, zc, e, hPb, f0, f1, f2, f3, f4, f5, hx⟩ := (HSL.out wr hbw).part k hkl
            injection e with e1 e2 e3
            clear e2
            subst e1 e3
            have hbx := (boxN_new wr 28 #[.int .i64 t.l[k].op, .int .i64 t.l[k].n, .string t.l[k].s, .slice xa xn xc, .slice ya yn yc, .slice za zn zc]).1
            have hb1 : Below n₀ wr (wr.alloc (.cells #[.int .i64 t.l[k].op, .int .i64 t.l[k].n, .string t.l[k].s, .slice xa xn xc, .slice ya yn yc, .slice za zn zc] 28)) := (boxN_new wr 28 _).2.mono (Nat.le_trans hn0 hbw.size)
            have hln2 : ls.length ≤ Con.sizes (t.l.take k) := by
              have h1 := congrArg List.length hls
              rw [List.length_map] at h1
              rw [h1]
              exact leaves_sizes _ _
            have hst := Con.sizes_take t.l k hkl
            have hsl := Con.sizes_le t.l (k + 1)
            have hsz := HSZ.out
            have hdp := HDP.out t.l[k] (List.getElem_mem hkl)
            have hc := HIH.out t.l[k] (List.getElem_mem hkl) (HALL.out _ (List.getElem_mem hkl)) (n - 1) _ (pre ++ ls) _ _ (hx.keep (Same.of_below hb1 (fun q hq => hq))) (Nat.le_trans (Nat.le_trans hn0 hbw.size) (by rw [size_alloc]; omega)) hbb.1 (by omega) (HJ.out _ _ _ none hj (World.grownBy_alloc wr _ none) (fun r e => by cases e)) (by rw [List.length_append]; omega)
            have HT := Lib.hid (flatMap_take (fun x => Con.leavesOf x b2) t.l k hkl)
            have HC := Lib.hid hc
            have HB1 := Lib.hid (hbw.trans hb1)
            have d0 := hbx.cell 0 (.int .i64 t.l[k].op) rfl
            have d1 := hbx.cell 1 (.int .i64 t.l[k].n) rfl
            have d2 := hbx.cell 2 (.string t.l[k].s) rfl
            have d3 := hbx.cell 3 (.slice xa xn xc) rfl
            have d4 := hbx.cell 4 (.slice ya yn yc) rfl
            have d5 := hbx.cell 5 (.slice za zn zc) rfl
            generalize t.l[k] = z at *
            clear hbx hb1 hln2 hst hsl hsz hdp hc hls hj hbw hx hPb
            gi_wp2_with fail
            refine HC.out.mono ?_
            rintro e W3 (⟨rfl, ls2, hls2, hj3, hb3⟩ | ⟨rfl, ls2, hpf, hx3⟩)
            · have HLS2 := Lib.hid hls2
              have HJ3 := Lib.hid hj3
              have HB3 := Lib.hid (HB1.out.trans hb3)
              clear hls2 hj3 hb3 f0 f1 f2 f3 f4 f5 d0 d1 d2 d3 d4 d5
              gi_wp2
              go_roundw
              case rel =>
                refine ⟨k + 1, ls ++ ls2, by omega, by go_num, ?_, by rw [← List.append_assoc]; exact HJ3.out, HB3.out⟩
                rw [List.map_append, HLS.out, HLS2.out, HT.out]
              case measure => first | (simp [intOf]; done) | (simp [intOf]; omega)
            · have HPF := Lib.hid (show (ls ++ ls2).map Leaf.proj <+: Con.leavesOf t b2 from by
                rw [List.map_append, HLS.out, HE.out]
                refine ((List.prefix_append_right_inj _).2 hpf).trans ?_
                rw [← HT.out]
                exact flatMap_prefix _ _ _)
              clear hpf
              have HX3 := Lib.hid hx3
              clear hx3 f0 f1 f2 f3 f4 f5 d0 d1 d2 d3 d4 d5
              gi_wp2
              go_ret
              exact .inr ⟨rfl, ls ++ ls2, HPF.out, by rw [← List.append_assoc]; exact HX3.out⟩
          · have q5 : decide ((k : Int) < (ln : Int)) = false := decide_eq_false (by omega)
            have HF := Lib.hid (show ls.map Leaf.proj = Con.leavesOf t b2 from by
              rw [HE.out, ← List.take_of_length_le (l := t.l) (i := k) (by have := HLN.out; omega)]
              exact HLS.out)
            clear hls hj hbw
            gi_wp2
            go_ret
            exact .inl ⟨rfl, ls, HF.out, HJK.out, HBW.out⟩
    · rw [hbn] at HDEEP
      have hb2 : b2 = b + 1 := HDEEP.out
      subst hb2
      clear HDEEP hbn
      all_goals
        gi_wp2_with fail
        clear c0 c1 c2 c3 c4 c5
        gi_loopw [25] (fun i wr => ∃ (k : Nat) (ls : List Leaf), k ≤ ln ∧ i = .int .i64 k ∧ ls.map Leaf.proj = (t.l.take k).flatMap (fun x => Con.leavesOf x (b + 1)) ∧ J (pre ++ ls) wr ∧ Below n₀ W wr) (fun i _ => ln - (intOf i).toNat)
        case atStart => exact ⟨0, [], Nat.zero_le _, rfl, rfl, by rw [List.append_nil]; exact HJ1.out, HB.out⟩
        case round =>
          obtain ⟨k, ls, hk, rfl, hls, hj, hbw⟩ := hrel
          have HLS := Lib.hid hls
          have HJK := Lib.hid hj
          have HBW := Lib.hid hbw
          by_cases hlt : k < ln
          · have q5 : decide ((k : Int) < (ln : Int)) = true := decide_eq_true (by omega)
            have hkl : k < t.l.length := by have := HLN.out; omega
            obtain ⟨bb, off, c', xa, xn, xc, ya, yn, yc, za, zn, zc, e, hPb, f0, f1, f2, f3, f4, f5, hx⟩ := (HSL.out wr hbw).part k hkl
            injection e with e1 e2 e3
            clear e2
            subst e1 e3
            have hbx := (boxN_new wr 28 #[.int .i64 t.l[k].op, .int .i64 t.l[k].n, .string t.l[k].s, .slice xa xn xc, .slice ya yn yc, .slice za zn zc]).1
            have hb1 : Below n₀ wr (wr.alloc (.cells #[.int .i64 t.l[k].op, .int .i64 t.l[k].n, .string t.l[k].s, .slice xa xn xc, .slice ya yn yc, .slice za zn zc] 28)) := (boxN_new wr 28 _).2.mono (Nat.le_trans hn0 hbw.size)
            have hln2 : ls.length ≤ Con.sizes (t.l.take k) := by
              have h1 := congrArg List.length hls
              rw [List.length_map] at h1
              rw [h1]
              exact leaves_sizes _ _
            have hst := Con.sizes_take t.l k hkl
            have hsl := Con.sizes_le t.l (k + 1)
            have hsz := HSZ.out
            have hdp := HDP.out t.l[k] (List.getElem_mem hkl)
            have hc := HIH.out t.l[k] (List.getElem_mem hkl) (HALL.out _ (List.getElem_mem hkl)) (n - 1) _ (pre ++ ls) _ _ (hx.keep (Same.of_below hb1 (fun q hq => hq))) (Nat.le_trans (Nat.le_trans hn0 hbw.size) (by rw [size_alloc]; omega)) hbb.1 (by omega) (HJ.out _ _ _ none hj (World.grownBy_alloc wr _ none) (fun r e => by cases e)) (by rw [List.length_append]; omega)
            have HT := Lib.hid (flatMap_take (fun x => Con.leavesOf x (b + 1)) t.l k hkl)
            have HC := Lib.hid hc
            have HB1 := Lib.hid (hbw.trans hb1)
            have d0 := hbx.cell 0 (.int .i64 t.l[k].op) rfl
            have d1 := hbx.cell 1 (.int .i64 t.l[k].n) rfl
            have d2 := hbx.cell 2 (.string t.l[k].s) rfl
            have d3 := hbx.cell 3 (.slice xa xn xc) rfl
            have d4 := hbx.cell 4 (.slice ya yn yc) rfl
            have d5 := hbx.cell 5 (.slice za zn zc) rfl
            generalize t.l[k] = z at *
            clear hbx hb1 hln2 hst hsl hsz hdp hc hls hj hbw hx hPb
            gi_wp2_with fail
            refine HC.out.mono ?_
            rintro e W3 (⟨rfl, ls2, hls2, hj3, hb3⟩ | ⟨rfl, ls2, hpf, hx3⟩)
            · have HLS2 := Lib.hid hls2
              have HJ3 := Lib.hid hj3
              have HB3 := Lib.hid (HB1.out.trans hb3)
              clear hls2 hj3 hb3 f0 f1 f2 f3 f4 f5 d0 d1 d2 d3 d4 d5
              gi_wp2
              go_roundw
              case rel =>
                refine ⟨k + 1, ls ++ ls2, by omega, by go_num, ?_, by rw [← List.append_assoc]; exact HJ3.out, HB3.out⟩
                rw [List.map_append, HLS.out, HLS2.out, HT.out]
              case measure => first | (simp [intOf]; done) | (simp [intOf]; omega)
            · have HPF := Lib.hid (show (ls ++ ls2).map Leaf.proj <+: Con.leavesOf t b from by
                rw [List.map_append, HLS.out, HE.out]
                refine ((List.prefix_append_right_inj _).2 hpf).trans ?_
                rw [← HT.out]
                exact flatMap_prefix _ _ _)
              clear hpf
              have HX3 := Lib.hid hx3
              clear hx3 f0 f1 f2 f3 f4 f5 d0 d1 d2 d3 d4 d5
              gi_wp2
              go_ret
              exact .inr ⟨rfl, ls ++ ls2, HPF.out, by rw [← List.append_assoc]; exact HX3.out⟩
          · have q5 : decide ((k : Int) < (ln : Int)) = false := decide_eq_false (by omega)
            have HF := Lib.hid (show ls.map Leaf.proj = Con.leavesOf t b from by
              rw [HE.out, ← List.take_of_length_le (l := t.l) (i := k) (by have := HLN.out; omega)]
              exact HLS.out)
            clear hls hj hbw
            gi_wp2
            go_ret
            exact .inl ⟨rfl, ls, HF.out, HJK.out, HBW.out⟩
end Go.Proofs.YtpkgiemdnfbopaaGreat
namespace Go.Proofs.YtpkgiemdnfbopaaGreat
open Go Go.RowKit
open Pl (K Con)
set_option linter.unusedSimpArgs false
set_option linter.unusedVariables false
attribute [local go_sem] Oper.semAt_some

theorem leaves_any (w : World) (op n : Int) (s : ByteArray) (ka na la : Option Addr) (kn kc nn nc ln lc : Nat) :
    Calls Tryz.prog 53 #[.agg #[.int .i64 op, .int .i64 n, .string s, .slice ka kn kc, .slice na nn nc, .slice la ln lc]] w fun e w' => e = .returned (.func (.func 107) #[] #[.pointer (some ⟨w.heap.size, 0, none⟩)]) ∧ w' = w.alloc (.cells #[.int .i64 op, .int .i64 n, .string s, .slice ka kn kc, .slice na nn nc, .slice la ln lc] 28) := by
  go_enter Tryz.func53, Tryz.ntmps53
  go_wp2
  go_ret
  exact ⟨rfl, rfl⟩
theorem freeIndices_any (w : World) (op n : Int) (s : ByteArray) (ka na la : Option Addr) (kn kc nn nc ln lc : Nat) :
    Calls Tryz.prog 97 #[.agg #[.int .i64 op, .int .i64 n, .string s, .slice ka kn kc, .slice na nn nc, .slice la ln lc]] w fun e w' => e = .returned (.func (.func 134) #[] #[.pointer (some ⟨w.heap.size, 0, none⟩)]) ∧ w' = w.alloc (.cells #[.int .i64 op, .int .i64 n, .string s, .slice ka kn kc, .slice na nn nc, .slice la ln lc] 28) := by
  go_enter Tryz.func97, Tryz.ntmps97
  go_wp2
  go_ret
  exact ⟨rfl, rfl⟩
set_option maxRecDepth 100000 in
set_option maxHeartbeats 2000000 in
theorem leaves_stops (F : Fence) (HF : Hid (F = Fence.wide)) (n Bs n₀ : Nat) (t : Con) (ka na la : Option Addr) (kn kc nn nc ln lc : Nat) (w : World) (hn0 : n₀ ≤ w.heap.size) (hB : Bs < w.heap.size) (ha : Con.allB t = true) (hd9 : t.depth ≤ 1000)
    (hbx : ∀ W, Below w.heap.size w W → Blk W Bs 28 #[.int .i64 t.op, .int .i64 t.n, .string t.s, .slice ka kn kc, .slice na nn nc, .slice la ln lc]) (ht : ConV w (· < n₀) t (.agg #[.int .i64 t.op, .int .i64 t.n, .string t.s, .slice ka kn kc, .slice na nn nc, .slice la ln lc])) :
    SeqStopsK F n Tryz.prog 107 #[.pointer (some ⟨Bs, 0, none⟩)] encL (Below n₀) (fun ys => ys.map Leaf.proj = Con.leavesOf t 0) (fun ys => ys.map Leaf.proj <+: Con.leavesOf t 0) t.size w := by
  intro l J Jx W hW hJ hJx hY h0
  have hd : F.depth = none := by rw [HF.out]; rfl
  have hro : F.round = none := by rw [HF.out]; rfl
  have hlf : F.fn 107 := by rw [HF.out]; trivial
  have hvf : F.fn 108 := by rw [HF.out]; trivial
  have hdd : ∀ k : Nat, (F.depth.isSome = true → 1 ≤ k) := fun k h => by rw [hd] at h; cases h
  have HV := Lib.hid (visit_in F HF l n₀ t.size W.heap.size J Jx hJ (fun m pre x W1 hj hl => yield_anyDepth hd m (hY pre x W1 hj hl)) t ha (n - 1) 0 [] W _ (ht.keep (Same.of_below (hW.mono hn0) (fun q hq => hq))) (Nat.le_trans hn0 hW.size) (Int.le_refl _) (by omega) h0 (by simp))
  have hb := hbx W hW
  have c0 := hb.cell 0 (.int .i64 t.op) rfl
  have c1 := hb.cell 1 (.int .i64 t.n) rfl
  have c2 := hb.cell 2 (.string t.s) rfl
  have c3 := hb.cell 3 (.slice ka kn kc) rfl
  have c4 := hb.cell 4 (.slice na nn nc) rfl
  have c5 := hb.cell 5 (.slice la ln lc) rfl
  clear hY hb ht hbx
  refine callsIn_of_wp Tryz.func107 rfl hlf ?_ hro
  simp only [Tryz.ntmps107, List.size_toArray, List.length_cons, List.length_nil, Nat.reduceAdd, Nat.reduceSub, Array.replicate_succ, Array.replicate_zero, List.push_toArray, List.append_toArray, List.nil_append, List.cons_append]
  gi_wp2_with fail
  refine HV.out.mono ?_
  rintro e W1 (⟨rfl, ls, hls, hj, -⟩ | ⟨rfl, ls, hpf, hx⟩)
  · gi_wp2
    go_end0
    exact ⟨⟨_, rfl⟩, .inl ⟨ls, hls, by simpa using hj⟩⟩
  · gi_wp2
    go_end0
    exact ⟨⟨_, rfl⟩, .inr ⟨ls, hpf, by simpa using hx⟩⟩
/-- a free index -/
abbrev Idx := { i : Int // 0 ≤ i ∧ i ≤ 20000 }
def encI (i : Idx) : Array Value := #[.int .i64 i.1]
/-- what a round over free indices keeps: what lay ahead of the loop, and beyond its own books what is no cells, and the boxes of functions -/
structure KpF (n₀ B : Nat) (W W' : World) : Prop where
  below : Below n₀ W W'
  same : ∀ k o, B + 2 ≤ k → W.heap[k]? = some o → (o.isCells = false ∨ ∃ cs, o = .cells cs 153 (0, 0)) → W'.heap[k]? = some o
theorem KpF.trans {n₀ B : Nat} {X Y Z : World} (h : KpF n₀ B X Y) (k : KpF n₀ B Y Z) : KpF n₀ B X Z := ⟨h.below.trans k.below, fun i o hi ho hc => k.same i o hi (h.same i o hi ho hc) hc⟩
theorem KpF.refl (n₀ B : Nat) (W : World) : KpF n₀ B W W := ⟨Below.refl _ _, fun _ _ _ h _ => h⟩
theorem KpF.keepsFrom {n₀ B C : Nat} {W W' : World} (h : KpF n₀ B W W') (hC : B + 2 ≤ C) : KeepsFrom C W W' := ⟨h.below.size, fun k o hk ho hc => h.same k o (by omega) ho (.inl hc)⟩
theorem KpF.put {n₀ B : Nat} (hn : n₀ ≤ B) (W : World) (o o' : Obj) (h : W.heap[B + 1]? = some o) (h1 : o.isCells = false) (h2 : o.isWalk = false) : KpF n₀ B W (W.putObj (B + 1) o') :=
  ⟨⟨rfl, rfl, rfl, by simp, fun k hk => World.putObj_heap_other (by omega)⟩, fun k o hk ho _ => (World.putObj_heap_other (by omega)).trans ho⟩
/-- the free indices among leaves -/
def frs (ls : List Leaf) : List Idx := ls.filterMap (fun x => if h : x.op = 1 ∧ x.b ≤ x.n then some ⟨x.n - x.b, by have := x.hn; have := x.hb; omega, by have := x.hn; have := x.hb; omega⟩ else none)
theorem frs_proj (ls : List Leaf) : (frs ls).map Subtype.val = (ls.map Leaf.proj).filterMap freeL := by
  induction ls with
  | nil => rfl
  | cons x r ih =>
    unfold frs at ih ⊢
    rw [List.map_cons, List.filterMap_cons, List.filterMap_cons]
    by_cases h : x.op = 1 ∧ x.b ≤ x.n
    · have e : freeL x.proj = some (x.n - x.b) := by unfold freeL Leaf.proj; rw [if_pos h]
      rw [dif_pos h, e]
      simp only [List.map_cons]
      rw [ih]
    · have e : freeL x.proj = none := by unfold freeL Leaf.proj; rw [if_neg h]
      rw [dif_neg h, e]
      simp only
      rw [ih]
theorem frs_app (a b : List Leaf) : frs (a ++ b) = frs a ++ frs b := by unfold frs; rw [List.filterMap_append]
theorem blk_own {β : Type} {B g : Nat} {T : TypeId} {cs : Array Value} : OwnFrom B (fun (_ : β) W => Blk W g T cs) := fun s A D row h hg hr =>
  (hg.block g (Blk.lt h) (fun e => by
    obtain ⟨-, o, ho, hc⟩ := hr g e.symm
    have h' : A.heap[g]? = some (.cells cs T (0, 0)) := h
    rw [h'] at ho
    injection ho with ho
    rw [← ho] at hc
    cases hc)).trans h
theorem round_in {F : Fence} (hd : F.depth = none) (lp : Nat) {m m' : Nat} {P : Program} {l : Nat} {f : FuncId} {tmps : Array Value} {assign body : Code} {w : World} {R : Ending → World → Prop} (h : RoundIn F m P l f tmps assign body w R) : RoundIn (F.inRound lp) m' P l f tmps assign body w R :=
  ⟨h.1, fun c cs _ => h.2 c cs (room_of_no hd _)⟩
set_option maxRecDepth 100000 in
set_option maxHeartbeats 2000000 in
theorem freeIdx_seq (F : Fence) (HF : Hid (F = Fence.wide)) (n Bc n₀ B : Nat) (t : Con) (ka na la : Option Addr) (kn kc nn nc ln lc : Nat) (w : World) (hn : 6 ≤ n) (hn0 : n₀ ≤ w.heap.size) (hnB : n₀ ≤ B) (hB : Bc < w.heap.size) (ha : Con.allB t = true) (hd9 : t.depth ≤ 1000)
    (hbx : Blk w Bc 28 #[.int .i64 t.op, .int .i64 t.n, .string t.s, .slice ka kn kc, .slice na nn nc, .slice la ln lc]) (ht : ConV w (· < n₀) t (.agg #[.int .i64 t.op, .int .i64 t.n, .string t.s, .slice ka kn kc, .slice na nn nc, .slice la ln lc])) :
    SeqO F n Tryz.prog 134 #[.pointer (some ⟨Bc, 0, none⟩)] encI (KpF n₀ B) (fun ys => ys.map Subtype.val = Con.frees t 0) (fun ys => ys.map Subtype.val <+: Con.frees t 0) t.size w (B + 2) := by
  intro l J Jx W hW hBW hJ hJx hY h0
  have hd : F.depth = none := by rw [HF.out]; rfl
  have hro : F.round = none := by rw [HF.out]; rfl
  have hff : F.fn 134 := by rw [HF.out]; trivial
  have hlf : F.fn 107 := by rw [HF.out]; trivial
  have hl2 : F.fn 53 := by rw [HF.out]; trivial
  have hdd : ∀ k : Nat, (F.depth.isSome = true → 1 ≤ k) := fun k h => by rw [hd] at h; cases h
  have HLV := Lib.hid (fun W => leaves_any W t.op t.n t.s ka na la kn kc nn nc ln lc)
  obtain ⟨hby, hb1⟩ := boxN_new W 153 #[.func (.yield l) #[] #[]]
  have hbc := (hbx.of_eq (hW.block _ hB)).alloc (.cells #[.func (.yield l) #[] #[]] 153)
  have c0 := hbc.cell 0 (.int .i64 t.op) rfl
  have c1 := hbc.cell 1 (.int .i64 t.n) rfl
  have c2 := hbc.cell 2 (.string t.s) rfl
  have c3 := hbc.cell 3 (.slice ka kn kc) rfl
  have c4 := hbc.cell 4 (.slice na nn nc) rfl
  have c5 := hbc.cell 5 (.slice la ln lc) rfl
  have hj1 : J [] (W.alloc (.cells #[.func (.yield l) #[] #[]] 153)) := hJ.alloc _ h0
  have hsz1 : (W.alloc (.cells #[.func (.yield l) #[] #[]] 153)).heap.size = W.heap.size + 1 := size_alloc _ _
  refine callsIn_of_wp_marks Tryz.func134 rfl hff ?_ hro
  simp only [Tryz.ntmps134, List.size_toArray, List.length_cons, List.length_nil, Nat.reduceAdd, Nat.reduceSub, Array.replicate_succ, Array.replicate_zero, List.push_toArray, List.append_toArray, List.nil_append, List.cons_append]
  gi_wp2_with fail
  clear c0 c1 c2 c3 c4 c5
  generalize W.alloc (.cells #[.func (.yield l) #[] #[]] 153) = w1 at *
  have HSZ1 := Lib.hid hsz1
  clear hsz1
  refine (toF HF _ (HLV.out _)).mono ?_
  rintro e w2 ⟨rfl, rfl⟩
  obtain ⟨hbs, hb2⟩ := boxN_new w1 28 #[.int .i64 t.op, .int .i64 t.n, .string t.s, .slice ka kn kc, .slice na nn nc, .slice la ln lc]
  have hby2 := hby.alloc (.cells #[.int .i64 t.op, .int .i64 t.n, .string t.s, .slice ka kn kc, .slice na nn nc, .slice la ln lc] 28)
  have hsz2 : (w1.alloc (.cells #[.int .i64 t.op, .int .i64 t.n, .string t.s, .slice ka kn kc, .slice na nn nc, .slice la ln lc] 28)).heap.size = w1.heap.size + 1 := size_alloc _ _
  have hj2 : J [] (w1.alloc (.cells #[.int .i64 t.op, .int .i64 t.n, .string t.s, .slice ka kn kc, .slice na nn nc, .slice la ln lc] 28)) := hJ.alloc _ hj1
  have htw : ConV (w1.alloc (.cells #[.int .i64 t.op, .int .i64 t.n, .string t.s, .slice ka kn kc, .slice na nn nc, .slice la ln lc] 28)) (· < n₀) t (.agg #[.int .i64 t.op, .int .i64 t.n, .string t.s, .slice ka kn kc, .slice na nn nc, .slice la ln lc]) := by
    have hws := hW.size
    refine ((ht.keep (Same.of_below (hW.mono hn0) (fun q hq => hq))).keep (Same.of_below hb1 (fun q (hq : q < n₀) => by omega))).keep (Same.of_below hb2 (fun q (hq : q < n₀) => by have := hb1.size; omega))
  generalize w1.alloc (.cells #[.int .i64 t.op, .int .i64 t.n, .string t.s, .slice ka kn kc, .slice na nn nc, .slice la ln lc] 28) = w3 at *
  have hwz := hW.size
  have hsz1 := HSZ1.out
  have hz3 : W.heap.size + 2 ≤ w3.heap.size := by omega
  have hz4 : W.heap.size + 1 ≤ w1.heap.size := by omega
  have hz5 : w1.heap.size < w3.heap.size := by omega
  clear hsz1 hsz2
  have hfl : ∀ ls : List Leaf, (frs ls).length ≤ ls.length := fun ls => List.length_filterMap_le _ _
  gi_wp2_with fail
  refine wpIn_rangeFunc_ownH hro (by omega) (gf := 107) (lb := #[.pointer (some ⟨w1.heap.size, 0, none⟩)]) rfl hlf (enters_of Tryz.func107 (by kernel_rfl) rfl)
    (leaves_stops F HF (n - 1) w1.heap.size n₀ t ka na la kn kc nn nc ln lc w3 (by omega) (by omega) ha hd9 (fun W' hW' => hbs.of_eq (hW'.block _ hbs.lt)) htw) belowK_t (belowK_b (by omega)) (Below.refl _ _) (fun _ => rfl)
    (fun pre W' => J (frs pre) W' ∧ Blk W' W.heap.size 153 #[.func (.yield l) #[] #[]])
    (fun c pre W' => c = .ret ∧ Jx (frs pre) W')
    (fun s A D row hs hg hr => ⟨ownFrom_le hJ (by omega) (frs s) A D row hs.1 hg hr, blk_own (β := List Leaf) s A D row hs.2 hg hr⟩)
    (fun c s A D row hs hg hr => ⟨hs.1, ownFrom_le hJx (by omega) (frs s) A D row hs.2 hg hr⟩)
    ⟨hj2, hby2⟩
    (fun x a' W' => ∃ Bx, Blk W' Bx 28 #[.int .i64 x.op, .int .i64 x.n, .string x.s, .slice x.ka x.kn x.kc, .slice x.na x.nn x.nc, .slice x.la x.ln x.lc] ∧ a' = { tmps := #[.func (.yield l) #[] #[], .pointer (some ⟨Bc, 0, none⟩), .pointer (some ⟨W.heap.size, 0, none⟩), .pointer (some ⟨Bx, 0, none⟩), .int .i64 x.b, undef, .agg #[.int .i64 t.op, .int .i64 t.n, .string t.s, .slice ka kn kc, .slice na nn nc, .slice la ln lc], .func (.func 107) #[] #[.pointer (some ⟨w1.heap.size, 0, none⟩)], .agg #[.int .i64 x.op, .int .i64 x.n, .string x.s, .slice x.ka x.kn x.kc, .slice x.na x.nn x.nc, .slice x.la x.ln x.lc], .int .i64 x.b, undef, undef, undef, undef, undef, undef, undef, undef, undef, undef, undef, undef, undef, undef, undef, undef, undef], defers := [] })
    (fun x a' _ A D row hs hg hr => by obtain ⟨Bx, h1, h2⟩ := hs; exact ⟨Bx, blk_own (β := Unit) () A D row h1 hg hr, h2⟩)
    ?assign ?body ?done ?stop
  case assign =>
    rintro lp pre x W' K ⟨h1, h2⟩ hK
    have hlt2 := h2.lt
    unfold encL
    gi_wp2
    exact hK _ _ ((KeepsOthers.alloc _ _).from _) ((Below.refl n₀ W').alloc (by omega) _) ⟨hJ.alloc _ h1, h2.alloc _⟩ ⟨W'.heap.size, blk_new W' _ _, rfl⟩
  case body =>
    rintro lp pre x a' W' hlp ⟨r, hr⟩ ⟨h1, h2⟩ ⟨Bx, hBx, rfl⟩ hlt
    have e0 := hBx.cell 0 (.int .i64 x.op) rfl
    have e1 := hBx.cell 1 (.int .i64 x.n) rfl
    have y0 := h2.cell 0 (.func (.yield l) #[] #[]) rfl
    have hxn := x.hn
    have hxb := x.hb
    have wx : wrap64 (x.n - x.b) = x.n - x.b := by rw [wrap64]; omega
    have hfp := hfl pre
    have H1 := Lib.hid h1
    have H2 := Lib.hid h2
    by_cases hop : x.op = 1 ∧ x.b ≤ x.n
    · have q1 : (x.op == 1) = true := by rw [hop.1]; rfl
      have q2 : decide (x.b ≤ x.n) = true := decide_eq_true hop.2
      have q2' : decide (0 ≤ x.n - x.b) = true := decide_eq_true (by omega)
      obtain ⟨ix, hix⟩ : ∃ ix : Idx, ix.1 = x.n - x.b := ⟨⟨x.n - x.b, by omega, by omega⟩, rfl⟩
      have HFR := Lib.hid (show frs (pre ++ [x]) = frs pre ++ [ix] from by
        have e : frs [x] = [ix] := by
          unfold frs
          rw [List.filterMap_cons, dif_pos hop, List.filterMap_nil]
          exact congrArg (fun z => [z]) (Subtype.ext hix.symm)
        rw [frs_app, e])
      obtain ⟨fn, tmps, assign, bdy, hy, hR⟩ := hY (frs pre) ix W' h1 (by omega)
      unfold encI at hy
      rw [hix] at hy
      clear hop h1 h2 hix
      gi_wp2_with fail
      refine (round_in hd lp hR).mono ?_
      rintro e W3 (⟨rfl, hj3, hk3⟩ | ⟨rfl, hx3, hk3⟩)
      · have HE := Lib.hid (show KeepsFrom w3.heap.size W' W3 ∧ Below n₀ W' W3 ∧ J (frs (pre ++ [x])) W3 ∧ Blk W3 W.heap.size 153 #[.func (.yield l) #[] #[]] from ⟨hk3.keepsFrom (by omega), hk3.below, by rw [HFR.out]; exact hj3, hk3.same W.heap.size _ hBW H2.out (.inr ⟨_, rfl⟩)⟩)
        clear hj3 hk3 hR hy
        gi_wp2
        exact HE.out
      · have HX3 := Lib.hid hx3
        have HKF := Lib.hid (hk3.keepsFrom (C := w3.heap.size) (by omega))
        clear hx3 hk3 hR hy
        gi_wp2
        exact ⟨HKF.out, rfl, by rw [HFR.out]; exact HX3.out⟩
    · have HFR := Lib.hid (show frs (pre ++ [x]) = frs pre from by
        have e : frs [x] = [] := by
          unfold frs
          rw [List.filterMap_cons, dif_neg hop, List.filterMap_nil]
        rw [frs_app, e, List.append_nil])
      have HE := Lib.hid (show KeepsFrom w3.heap.size W' W' ∧ Below n₀ W' W' ∧ J (frs (pre ++ [x])) W' ∧ Blk W' W.heap.size 153 #[.func (.yield l) #[] #[]] from ⟨KeepsFrom.refl _ _, Below.refl _ _, by rw [HFR.out]; exact h1, h2⟩)
      cases q1 : (x.op == 1)
      · clear hop h1 h2
        gi_wp2
        refine ⟨fun _ h => (by cases h), ?_⟩
        gi_wp2
        exact HE.out
      · have hop1 : x.op = 1 := by simpa using q1
        have q2 : decide (x.b ≤ x.n) = false := decide_eq_false (fun h => hop ⟨hop1, h⟩)
        have q2' : decide (0 ≤ x.n - x.b) = false := decide_eq_false (fun h => hop ⟨hop1, by omega⟩)
        clear hop h1 h2 hop1
        gi_wp2
        refine ⟨fun _ h => (by cases h), ?_⟩
        gi_wp2
        exact HE.out
  case done =>
    rintro D ys W' hD hS ⟨h1, h2⟩ hK
    have HE := Lib.hid (show (frs ys).map Subtype.val = Con.frees t 0 ∧ J (frs ys) (W'.putObj D (.deferred none)) from ⟨by rw [frs_proj, hS, frees_leaves t 0 ha], (ownFrom_le hJ (by omega)).putObj _ h1 hD hK rfl⟩)
    gi_wp2
    refine ⟨by simp, .inl ⟨_, _, rfl, run_takeDeferred hK, ?_⟩⟩
    exact ⟨_, results_none rfl _ _ _, ⟨_, rfl⟩, .inl ⟨_, HE.out.1, HE.out.2⟩⟩
  case stop =>
    rintro D c pre W' hD hpf ⟨rfl, hq⟩ hK
    have HE := Lib.hid (show (frs pre).map Subtype.val <+: Con.frees t 0 ∧ Jx (frs pre) (W'.putObj D (.deferred none)) from ⟨by rw [frs_proj, frees_leaves t 0 ha]; exact hpf.filterMap _, (ownFrom_le hJx (by omega)).putObj _ hq hD hK rfl⟩)
    gi_wp2
    refine ⟨by simp, .inl ⟨_, _, rfl, run_takeDeferred hK, ?_⟩⟩
    exact ⟨_, results_none rfl _ _ _, ⟨_, rfl⟩, .inr ⟨_, HE.out.1, HE.out.2⟩⟩
end Go.Proofs.YtpkgiemdnfbopaaGreat
