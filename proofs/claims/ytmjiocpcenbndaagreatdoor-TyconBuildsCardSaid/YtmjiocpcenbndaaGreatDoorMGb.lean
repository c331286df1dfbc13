/-
  Several texts in one (Rj Qz Rk Rl Rm Rn Ro).
-/
import Derived.Test.YtmjiocpcenbndaaGreatDoorMGa
import Derived.Deep.RegionLaw
namespace Go.Proofs.YtmjiocpcenbndaaGreatDoor
open Go Go.RowKit
open Pl (K Con)
set_option linter.unusedSimpArgs false
set_option linter.unusedVariables false

theorem below_of_grown {w w' : World} (h : w.grownBy w' none) : Below w.heap.size w w' := ⟨h.os, h.tape, h.output, h.size, fun i hi => h.block i hi (fun e => by cases e)⟩
/-- six cells are written -/
def put6 (cur : Array Value) (o : Nat) (x0 x1 x2 x3 x4 x5 : Value) : Array Value := (((((cur.setIfInBounds o x0).setIfInBounds (o + 1) x1).setIfInBounds (o + 2) x2).setIfInBounds (o + 3) x3).setIfInBounds (o + 4) x4).setIfInBounds (o + 5) x5
theorem put6_size (cur : Array Value) (o : Nat) (x0 x1 x2 x3 x4 x5 : Value) : (put6 cur o x0 x1 x2 x3 x4 x5).size = cur.size := by unfold put6; simp
theorem put6_in (cur : Array Value) (o : Nat) (x0 x1 x2 x3 x4 x5 : Value) (h : o + 5 < cur.size) : ConIn (put6 cur o x0 x1 x2 x3 x4 x5) o (.agg #[x0, x1, x2, x3, x4, x5]) := by
  refine ⟨x0, x1, x2, x3, x4, x5, rfl, ?_, ?_, ?_, ?_, ?_, ?_⟩ <;> (unfold put6; simp [Array.getElem?_setIfInBounds]; try omega)
theorem put6_other (cur : Array Value) (o : Nat) (x0 x1 x2 x3 x4 x5 : Value) (q : Nat) (v : Value) (hq : q + 5 < o ∨ o + 5 < q) (h : ConIn cur q v) : ConIn (put6 cur o x0 x1 x2 x3 x4 x5) q v := by
  obtain ⟨y0, y1, y2, y3, y4, y5, rfl, h0, h1, h2, h3, h4, h5⟩ := h
  have each : ∀ d y, d < 6 → cur[q + d]? = some y → (put6 cur o x0 x1 x2 x3 x4 x5)[q + d]? = some y := by
    intro d y hd hy
    unfold put6
    rw [Array.getElem?_setIfInBounds_ne (by omega), Array.getElem?_setIfInBounds_ne (by omega), Array.getElem?_setIfInBounds_ne (by omega), Array.getElem?_setIfInBounds_ne (by omega), Array.getElem?_setIfInBounds_ne (by omega), Array.getElem?_setIfInBounds_ne (by omega)]
    exact hy
  exact ⟨y0, y1, y2, y3, y4, y5, rfl, each 0 _ (by omega) h0, each 1 _ (by omega) h1, each 2 _ (by omega) h2, each 3 _ (by omega) h3, each 4 _ (by omega) h4, each 5 _ (by omega) h5⟩
def store6 (w : World) (g o : Nat) (x0 x1 x2 x3 x4 x5 : Value) : World := (((((w.setCell ⟨g, o, none⟩ x0).setCell ⟨g, o + 1, none⟩ x1).setCell ⟨g, o + 2, none⟩ x2).setCell ⟨g, o + 3, none⟩ x3).setCell ⟨g, o + 4, none⟩ x4).setCell ⟨g, o + 5, none⟩ x5
theorem store6_blk {w : World} {g : Nat} {T : TypeId} {cur : Array Value} (h : Blk w g T cur) (o : Nat) (x0 x1 x2 x3 x4 x5 : Value) : Blk (store6 w g o x0 x1 x2 x3 x4 x5) g T (put6 cur o x0 x1 x2 x3 x4 x5) :=
  (((((h.set o x0).set (o + 1) x1).set (o + 2) x2).set (o + 3) x3).set (o + 4) x4).set (o + 5) x5
theorem store6_size (w : World) (g o : Nat) (x0 x1 x2 x3 x4 x5 : Value) : (store6 w g o x0 x1 x2 x3 x4 x5).heap.size = w.heap.size := by
  unfold store6
  rw [size_set, size_set, size_set, size_set, size_set, size_set]
theorem store6_other (w : World) (g o : Nat) (x0 x1 x2 x3 x4 x5 : Value) (b : Nat) (h : b ≠ g) : (store6 w g o x0 x1 x2 x3 x4 x5).heap[b]? = w.heap[b]? := by
  unfold store6
  rw [Below.heap_setCell _ _ _ _ h, Below.heap_setCell _ _ _ _ h, Below.heap_setCell _ _ _ _ h, Below.heap_setCell _ _ _ _ h, Below.heap_setCell _ _ _ _ h, Below.heap_setCell _ _ _ _ h]
theorem store6_only {G : Nat} {a w : World} (h : Only G a w) (g o : Nat) (x0 x1 x2 x3 x4 x5 : Value) (hg : g = G ∨ a.heap.size ≤ g) : Only G a (store6 w g o x0 x1 x2 x3 x4 x5) :=
  (((((h.setCell (p := ⟨g, o, none⟩) hg x0).setCell (p := ⟨g, o + 1, none⟩) hg x1).setCell (p := ⟨g, o + 2, none⟩) hg x2).setCell (p := ⟨g, o + 3, none⟩) hg x3).setCell (p := ⟨g, o + 4, none⟩) hg x4).setCell (p := ⟨g, o + 5, none⟩) hg x5
theorem store6_below {B : Nat} {a w : World} (h : Below B a w) (g o : Nat) (x0 x1 x2 x3 x4 x5 : Value) (hB : B ≤ g) : Below B a (store6 w g o x0 x1 x2 x3 x4 x5) :=
  (((((h.setCell (p := ⟨g, o, none⟩) hB x0).setCell (p := ⟨g, o + 1, none⟩) hB x1).setCell (p := ⟨g, o + 2, none⟩) hB x2).setCell (p := ⟨g, o + 3, none⟩) hB x3).setCell (p := ⟨g, o + 4, none⟩) hB x4).setCell (p := ⟨g, o + 5, none⟩) hB x5
theorem put6_all (y0 y1 y2 y3 y4 y5 x0 x1 x2 x3 x4 x5 : Value) : put6 #[y0, y1, y2, y3, y4, y5] 0 x0 x1 x2 x3 x4 x5 = #[x0, x1, x2, x3, x4, x5] := by simp [put6]
/-- whether a node may be made -/
def nodeOk (t : Con) (L d : Int) : Bool := decide (1 ≤ L) && (decide (d ≤ 400) && decide (t.n ≤ 20000))
/-- the zero constructor's value -/
def zeroV : Value := .agg #[.int .i64 0, .int .i64 0, .string ⟨#[]⟩, .slice none 0 0, .slice none 0 0, .slice none 0 0]
/-- what node leaves behind -/
def NodeP (P : Nat → Prop) (G : Nat) (t : Con) (L d : Int) (w : World) (e : Ending) (w' : World) : Prop :=
  Only G w w' ∧ ((nodeOk t L d = false ∧ e = .returned (.tuple #[zeroV, .bool false]) ∧ Blk w' G 94 #[.int .i64 L]) ∨
    (nodeOk t L d = true ∧ ∃ (B : Nat) (ka : Option Addr) (kc : Nat) (na : Option Addr) (nc : Nat) (la : Option Addr) (lc : Nat), e = .returned (.tuple #[.agg #[.int .i64 t.op, .int .i64 t.n, .string t.s, .slice ka t.kind.l.length kc, .slice na t.names.length nc, .slice la t.l.length lc], .bool true]) ∧ Blk w' G 94 #[.int .i64 (L - 1)] ∧
      w.heap.size + 2 ≤ B ∧ B ≤ w'.heap.size ∧ KidV w' (fun b => w.heap.size + 2 ≤ b ∧ b < B) t.kind (.slice ka t.kind.l.length kc) ∧ StrSl w' (fun b => w.heap.size + 2 ≤ b ∧ b < B) (.slice na t.names.length nc) t.names ∧ FreshC w' B P (.slice la t.l.length lc) t.l))
set_option maxRecDepth 100000 in
set_option maxHeartbeats 4000000 in
theorem node_any (P : Nat → Prop) (G : Nat) (t : Con) (L d : Int) (w : World) (v : Value) (hP : ∀ b, P b → b < w.heap.size ∧ b ≠ G) (hG : Blk w G 94 #[.int .i64 L]) (ht : ConV w P t v) (hk : K.valid t.kind = true) (h0 : 0 ≤ L) (h1 : L ≤ 1000000) (hln : t.names.length ≤ 1000000000) (hll : t.l.length ≤ 1000000000) :
    Calls Tryz.prog 51 #[.pointer (some ⟨G, 0, none⟩), v, .int .i64 d] w (NodeP P G t L d w) := by
  have HT := Lib.hid (fun W (hW : Only G w W) => ht.keep (Same.of_only hW hP))
  obtain ⟨ka, kn, kc, na, nn, nc, la, ln, lc, rfl, hkn, hnn, hlen⟩ := ht.shape
  subst hkn hnn hlen
  have HPARTS := Lib.hid (fun W (hW : Only G w W) => (show KidV W P t.kind (.slice ka t.kind.l.length kc) ∧ StrSl W P (.slice na t.names.length nc) t.names ∧ ConSl W P (.slice la t.l.length lc) t.l from by
    obtain ⟨-, kv', nv', lv', e, hk, hn, hl⟩ := (conV_iff _ _ _ _).1 (HT.out W hW)
    simp only [Value.agg.injEq, Array.mk.injEq, List.cons.injEq, and_true, true_and] at e
    obtain ⟨rfl, rfl, rfl⟩ := e
    exact ⟨hk, hn, hl⟩))
  have HCK := Lib.hid (fun W (hW : Only G w W) => copiedKind_any P t.kind W (.agg #[.slice ka t.kind.l.length kc]) (fun b h => Nat.lt_of_lt_of_le (hP b h).1 hW.size) ⟨_, rfl, (HPARTS.out W hW).1⟩ hk)
  have HP := Lib.hid hP
  have w1 : wrap64 (L - 1) = L - 1 := by rw [wrap64]; omega
  obtain ⟨hbx, hbx2, hb⟩ := twoN_new w 28 28 #[.int .i64 t.op, .int .i64 t.n, .string t.s, .slice ka t.kind.l.length kc, .slice na t.names.length nc, .slice la t.l.length lc] #[.int .i64 0, .int .i64 0, .string ⟨#[]⟩, .slice none 0 0, .slice none 0 0, .slice none 0 0]
  have hsz2 : ((w.alloc (.cells #[.int .i64 t.op, .int .i64 t.n, .string t.s, .slice ka t.kind.l.length kc, .slice na t.names.length nc, .slice la t.l.length lc] 28)).alloc (.cells #[.int .i64 0, .int .i64 0, .string ⟨#[]⟩, .slice none 0 0, .slice none 0 0, .slice none 0 0] 28)).heap.size = w.heap.size + 2 := by simp
  have HG := Lib.hid (hG.of_eq (hb.block _ hG.lt))
  have HGL := Lib.hid hG.lt
  have hgl := hG.lt
  have HBX := Lib.hid hbx
  have HBX2 := Lib.hid hbx2
  have HO := Lib.hid (only_below (N := G) hb)
  have HSZ := Lib.hid hsz2
  have g0 := HG.out.cell 0 (.int .i64 L) rfl
  have gf := HG.out.thaw 0
  have b1 := HBX.out.cell 1 (.int .i64 t.n) rfl
  have b3 := HBX.out.cell 3 (.slice ka t.kind.l.length kc) rfl
  have t0 := HBX2.out.thaw 0
  have t1 := HBX2.out.thaw 1
  have t2 := HBX2.out.thaw 2
  have t3 := HBX2.out.thaw 3
  have t4 := HBX2.out.thaw 4
  have t5 := HBX2.out.thaw 5
  have r0 := HBX2.out.cell 0 (.int .i64 0) rfl
  have r1 := HBX2.out.cell 1 (.int .i64 0) rfl
  have r2 := HBX2.out.cell 2 (.string ⟨#[]⟩) rfl
  have r3 := HBX2.out.cell 3 (.slice none 0 0) rfl
  have r4 := HBX2.out.cell 4 (.slice none 0 0) rfl
  have r5 := HBX2.out.cell 5 (.slice none 0 0) rfl
  clear hbx hbx2 hb hG ht hk hP HT hsz2 hgl
  go_enter Tryz.func51, Tryz.ntmps51
  by_cases hL : L = 0
  · have q1 : (L == 0) = true := by rw [hL]; rfl
    have HF := Lib.hid (show nodeOk t L d = false from by unfold nodeOk; rw [decide_eq_false (by omega : ¬ 1 ≤ L)]; simp)
    go_wp2_with fail
    refine bodyPost_ret (v := .tuple #[zeroV, .bool false]) (by simp [zeroV, results, Tryz.results51, go_sem, r0, r1, r2, r3, r4, r5]) rfl ?_
    exact ⟨HO.out, .inl ⟨HF.out, rfl, HG.out⟩⟩
  have q1 : (L == 0) = false := beq_eq_false_iff_ne.2 hL
  by_cases hD : 400 < d
  · have q2 : decide ((400 : Int) < d) = true := decide_eq_true hD
    have HF := Lib.hid (show nodeOk t L d = false from by unfold nodeOk; rw [decide_eq_false (by omega : ¬ d ≤ 400)]; simp)
    go_wp2_with fail
    refine bodyPost_ret (v := .tuple #[zeroV, .bool false]) (by simp [zeroV, results, Tryz.results51, go_sem, r0, r1, r2, r3, r4, r5]) rfl ?_
    exact ⟨HO.out, .inl ⟨HF.out, rfl, HG.out⟩⟩
  have q2 : decide ((400 : Int) < d) = false := decide_eq_false hD
  by_cases hN : 20000 < t.n
  · have q3 : decide ((20000 : Int) < t.n) = true := decide_eq_true hN
    have HF := Lib.hid (show nodeOk t L d = false from by unfold nodeOk; rw [decide_eq_false (by omega : ¬ t.n ≤ 20000)]; simp)
    go_wp2_with fail
    refine bodyPost_ret (v := .tuple #[zeroV, .bool false]) (by simp [zeroV, results, Tryz.results51, go_sem, r0, r1, r2, r3, r4, r5]) rfl ?_
    exact ⟨HO.out, .inl ⟨HF.out, rfl, HG.out⟩⟩
  have q3 : decide ((20000 : Int) < t.n) = false := decide_eq_false hN
  have HF := Lib.hid (show nodeOk t L d = true from by unfold nodeOk; rw [decide_eq_true (by omega : 1 ≤ L), decide_eq_true (by omega : d ≤ 400), decide_eq_true (by omega : t.n ≤ 20000)]; rfl)
  have n1 : ¬ w.heap.size = G := by have := HGL.out; omega
  have n2 : ¬ G = w.heap.size := by have := HGL.out; omega
  clear hL hD hN
  go_wp2_with fail
  clear q1 q2 q3 g0 gf b1 b3 t0 t1 t2 t3 t4 t5 r0 r1 r2 r3 r4 r5
  generalize ((w.alloc (.cells #[.int .i64 t.op, .int .i64 t.n, .string t.s, .slice ka t.kind.l.length kc, .slice na t.names.length nc, .slice la t.l.length lc] 28)).alloc (.cells #[.int .i64 0, .int .i64 0, .string ⟨#[]⟩, .slice none 0 0, .slice none 0 0, .slice none 0 0] 28)) = wa at *
  have HO3 := Lib.hid (show Only G w (wa.setCell ⟨G, 0, none⟩ (.int .i64 (L - 1))) from HO.out.setCell (p := ⟨G, 0, none⟩) (.inl rfl) _)
  have HG3 := Lib.hid (show Blk (wa.setCell ⟨G, 0, none⟩ (.int .i64 (L - 1))) G 94 #[.int .i64 (L - 1)] from blk_one HG.out)
  have HBX3 := Lib.hid (HBX.out.other ⟨G, 0, none⟩ (.int .i64 (L - 1)) n1)
  have HBY3 := Lib.hid (HBX2.out.other ⟨G, 0, none⟩ (.int .i64 (L - 1)) (show w.heap.size + 1 ≠ G from by have := HGL.out; omega))
  have HS3 := Lib.hid (show (wa.setCell ⟨G, 0, none⟩ (.int .i64 (L - 1))).heap.size = w.heap.size + 2 from by rw [size_set]; exact HSZ.out)
  clear HO HG HBX HBX2 HSZ
  generalize wa.setCell ⟨G, 0, none⟩ (.int .i64 (L - 1)) = w3 at *
  refine (HCK.out _ HO3.out).mono ?_
  rintro e w4 ⟨⟨ra, rc, rfl, hkid⟩, hb4⟩
  have hss4 := hb4.size
  have HO4 := Lib.hid (show Only G w (w4.setCell ⟨w.heap.size, 3, none⟩ (.slice ra t.kind.l.length rc)) from (HO3.out.below hb4 HO3.out.size).setCell (p := ⟨w.heap.size, 3, none⟩) (.inr (Nat.le_refl _)) _)
  have hbx4 := HBX3.out.of_eq (hb4.block _ HBX3.out.lt)
  have c3 := hbx4.cell 3 (.slice ka t.kind.l.length kc) rfl
  have f3 := hbx4.thaw 3
  have c4 := hbx4.cell 4 (.slice na t.names.length nc) rfl
  have HBX4 := Lib.hid (show Blk (w4.setCell ⟨w.heap.size, 3, none⟩ (.slice ra t.kind.l.length rc)) w.heap.size 28 #[.int .i64 t.op, .int .i64 t.n, .string t.s, .slice ra t.kind.l.length rc, .slice na t.names.length nc, .slice la t.l.length lc] from by simpa using hbx4.set 3 (.slice ra t.kind.l.length rc))
  have HBY4 := Lib.hid ((HBY3.out.of_eq (hb4.block _ HBY3.out.lt)).other ⟨w.heap.size, 3, none⟩ (.slice ra t.kind.l.length rc) (show w.heap.size + 1 ≠ w.heap.size from by omega))
  have HG4 := Lib.hid ((HG3.out.of_eq (hb4.block _ HG3.out.lt)).other ⟨w.heap.size, 3, none⟩ (.slice ra t.kind.l.length rc) n2)
  have HS4 := Lib.hid (show w.heap.size + 2 ≤ (w4.setCell ⟨w.heap.size, 3, none⟩ (.slice ra t.kind.l.length rc)).heap.size from by rw [size_set]; have := HS3.out; omega)
  have HK4 := Lib.hid (show KidV (w4.setCell ⟨w.heap.size, 3, none⟩ (.slice ra t.kind.l.length rc)) (fun b => w.heap.size + 2 ≤ b ∧ b < (w4.setCell ⟨w.heap.size, 3, none⟩ (.slice ra t.kind.l.length rc)).heap.size) t.kind (.slice ra t.kind.l.length rc) from by
    refine (hkid.keep (Same.set (w := w4) ⟨w.heap.size, 3, none⟩ (.slice ra t.kind.l.length rc) (fun q h e => by
      have e : q = w.heap.size := e
      have := h.1
      have := HS3.out
      omega))).mono (fun q h => ⟨by have := h.1; have := HS3.out; omega, by rw [size_set]; exact h.2⟩))
  have HNM := Lib.hid (strs_us (HPARTS.out _ HO4.out).2.1)
  obtain ⟨iS, si0, si1, si2, si3⟩ := info_parts infoStr
  clear hkid hb4 hbx4 HBX3 HBY3 HG3 HO3 HCK hss4 HS3
  go_wp2_with (at_builtin; refine append_fresh rfl _ _ 25 rfl (w.heap.size + 2) 9 iS (.string ByteArray.empty) 1 16 Tryz.underlying25 si0 si1 si2 si3 rfl (by decide) rfl na t.names.length nc (t.names.map Value.string) rfl ?n0 ?n1 ?n2 ?n3 ?n4 ?n5 ?n6 ?_)
  case n0 => exact HNM.out.2.2.2.1
  case n1 => exact HNM.out.2.2.2.2.1
  case n2 => exact HNM.out.2.2.2.2.2.1
  case n3 => exact HNM.out.2.2.2.2.2.2.1
  case n4 => unfold maxLen; omega
  case n5 => omega
  case n6 => exact HS4.out
  intro v' w6 hown hgrow
  clear c3 f3 c4
  generalize w4.setCell ⟨w.heap.size, 3, none⟩ (.slice ra t.kind.l.length rc) = w5 at *
  have hb6 := below_of_grown hgrow
  obtain ⟨ma, mc, rfl, hst⟩ := strs_of_row (S := fun b => w.heap.size + 2 ≤ b ∧ b < w6.heap.size) hown rfl HNM.out.2.2.2.2.2.2.2 (fun b h1 h2 => ⟨h1, h2⟩)
  have HO6 := Lib.hid (show Only G w (w6.setCell ⟨w.heap.size, 4, none⟩ (.slice ma t.names.length mc)) from (HO4.out.below hb6 HO4.out.size).setCell (p := ⟨w.heap.size, 4, none⟩) (.inr (Nat.le_refl _)) _)
  have hbx6 := HBX4.out.of_eq (hb6.block _ HBX4.out.lt)
  have c4 := hbx6.cell 4 (.slice na t.names.length nc) rfl
  have f4 := hbx6.thaw 4
  have c5 := hbx6.cell 5 (.slice la t.l.length lc) rfl
  have HBX6 := Lib.hid (show Blk (w6.setCell ⟨w.heap.size, 4, none⟩ (.slice ma t.names.length mc)) w.heap.size 28 #[.int .i64 t.op, .int .i64 t.n, .string t.s, .slice ra t.kind.l.length rc, .slice ma t.names.length mc, .slice la t.l.length lc] from by simpa using hbx6.set 4 (.slice ma t.names.length mc))
  have HBY6 := Lib.hid ((HBY4.out.of_eq (hb6.block _ HBY4.out.lt)).other ⟨w.heap.size, 4, none⟩ (.slice ma t.names.length mc) (show w.heap.size + 1 ≠ w.heap.size from by omega))
  have HG6 := Lib.hid ((HG4.out.of_eq (hb6.block _ HG4.out.lt)).other ⟨w.heap.size, 4, none⟩ (.slice ma t.names.length mc) n2)
  have hs6 := hb6.size
  have HS6 := Lib.hid (show w.heap.size + 2 ≤ (w6.setCell ⟨w.heap.size, 4, none⟩ (.slice ma t.names.length mc)).heap.size from by rw [size_set]; have := HS4.out; omega)
  have HSET := Lib.hid (fun q (h : w.heap.size + 2 ≤ q) => (show (w6.setCell ⟨w.heap.size, 4, none⟩ (.slice ma t.names.length mc)).heap[q]? = w6.heap[q]? from Below.heap_setCell _ _ _ _ (show q ≠ w.heap.size from by omega)))
  have HK6 := Lib.hid (show KidV (w6.setCell ⟨w.heap.size, 4, none⟩ (.slice ma t.names.length mc)) (fun b => w.heap.size + 2 ≤ b ∧ b < (w6.setCell ⟨w.heap.size, 4, none⟩ (.slice ma t.names.length mc)).heap.size) t.kind (.slice ra t.kind.l.length rc) from
    (HK4.out.keep (fun q h => (HSET.out q h.1).trans (hb6.block q h.2))).mono (fun q h => ⟨h.1, by rw [size_set]; exact Nat.lt_of_lt_of_le h.2 hs6⟩))
  have HM6 := Lib.hid (show StrSl (w6.setCell ⟨w.heap.size, 4, none⟩ (.slice ma t.names.length mc)) (fun b => w.heap.size + 2 ≤ b ∧ b < (w6.setCell ⟨w.heap.size, 4, none⟩ (.slice ma t.names.length mc)).heap.size) (.slice ma t.names.length mc) t.names from
    (hst.keep (fun q h => HSET.out q h.1)).mono (fun q h => ⟨h.1, by rw [size_set]; exact h.2⟩))
  obtain ⟨-, hu1, hu2, hu3, us, hu4, hu5, hu6, hu7⟩ := cons_us (HPARTS.out _ HO6.out).2.2
  have HU3 := Lib.hid hu3
  have HU4 := Lib.hid hu4
  have HU5 := Lib.hid hu5
  have HU6 := Lib.hid hu6
  have HU7 := Lib.hid hu7
  obtain ⟨iC, ci0, ci1, ci2, ci3⟩ := info_parts infoCon
  clear hst hown hgrow hb6 hbx6 HBX4 HBY4 HG4 HO4 HK4 HNM HSET hu1 hu2 hu3 hu4 hu5 hu6 hu7 hs6 HS4 si0 si1 si2 si3
  go_wp2_with (at_builtin; refine append_fresh rfl _ _ 26 rfl (w6.setCell ⟨w.heap.size, 4, none⟩ (.slice ma t.names.length mc)).heap.size 28 iC (.agg #[.int .i64 0, .int .i64 0, .string ByteArray.empty, .slice none 0 0, .slice none 0 0, .slice none 0 0]) 6 104 Tryz.underlying26 ci0 ci1 ci2 ci3 rfl (by decide) rfl la t.l.length lc us rfl ?n0 ?n1 ?n2 ?n3 ?n4 ?n5 ?n6 ?_)
  case n0 => exact HU3.out
  case n1 => exact HU4.out
  case n2 => exact HU5.out
  case n3 => exact HU6.out
  case n4 => unfold maxLen; omega
  case n5 => omega
  case n6 => exact Nat.le_refl _
  intro v' w8 hown hgrow
  clear c4 f4 c5
  have HS76 := Lib.hid (size_set w6 ⟨w.heap.size, 4, none⟩ (.slice ma t.names.length mc))
  generalize w6.setCell ⟨w.heap.size, 4, none⟩ (.slice ma t.names.length mc) = w7 at *
  have hb8 := below_of_grown hgrow
  have hfr : FreshC w8 w7.heap.size P v' t.l := by
    rw [HS76.out]
    exact fresh_of_row hown rfl (HU7.out.keep (Same.of_below hb8 (fun q hq => Nat.lt_of_lt_of_le (HP.out q hq).1 HO6.out.size)))
  obtain ⟨qa, qc, rfl⟩ : ∃ qa qc, v' = .slice qa t.l.length qc := by obtain ⟨a, c, e, -⟩ := hfr; exact ⟨a, c, e⟩
  have hbx8 := HBX6.out.of_eq (hb8.block _ HBX6.out.lt)
  have hby8 := HBY6.out.of_eq (hb8.block _ HBY6.out.lt)
  have c5 := hbx8.cell 5 (.slice la t.l.length lc) rfl
  have f5 := hbx8.thaw 5
  have hbx9 : Blk (w8.setCell ⟨w.heap.size, 5, none⟩ (.slice qa t.l.length qc)) w.heap.size 28 #[.int .i64 t.op, .int .i64 t.n, .string t.s, .slice ra t.kind.l.length rc, .slice ma t.names.length mc, .slice qa t.l.length qc] := by simpa using hbx8.set 5 (.slice qa t.l.length qc)
  have hby9 := hby8.other ⟨w.heap.size, 5, none⟩ (.slice qa t.l.length qc) (show w.heap.size + 1 ≠ w.heap.size from by omega)
  have d0 := hbx9.cell 0 (.int .i64 t.op) rfl
  have d1 := hbx9.cell 1 (.int .i64 t.n) rfl
  have d2 := hbx9.cell 2 (.string t.s) rfl
  have d3 := hbx9.cell 3 (.slice ra t.kind.l.length rc) rfl
  have d4 := hbx9.cell 4 (.slice ma t.names.length mc) rfl
  have d5 := hbx9.cell 5 (.slice qa t.l.length qc) rfl
  have t0 := hby9.thaw 0
  have t1 := hby9.thaw 1
  have t2 := hby9.thaw 2
  have t3 := hby9.thaw 3
  have t4 := hby9.thaw 4
  have t5 := hby9.thaw 5
  have r0 := hby9.cell 0 (.int .i64 0) rfl
  have r1 := hby9.cell 1 (.int .i64 0) rfl
  have r2 := hby9.cell 2 (.string ⟨#[]⟩) rfl
  have r3 := hby9.cell 3 (.slice none 0 0) rfl
  have r4 := hby9.cell 4 (.slice none 0 0) rfl
  have r5 := hby9.cell 5 (.slice none 0 0) rfl
  have hz := store6_blk hby9 0 (.int .i64 t.op) (.int .i64 t.n) (.string t.s) (.slice ra t.kind.l.length rc) (.slice ma t.names.length mc) (.slice qa t.l.length qc)
  rw [put6_all] at hz
  have hs8 := hb8.size
  have hs7 := HS6.out
  have hsame : ∀ q, q ≠ w.heap.size → q ≠ w.heap.size + 1 → (store6 (w8.setCell ⟨w.heap.size, 5, none⟩ (.slice qa t.l.length qc)) (w.heap.size + 1) 0 (.int .i64 t.op) (.int .i64 t.n) (.string t.s) (.slice ra t.kind.l.length rc) (.slice ma t.names.length mc) (.slice qa t.l.length qc)).heap[q]? = w8.heap[q]? := fun q h1 h2 => (store6_other _ _ _ _ _ _ _ _ _ q h2).trans (Below.heap_setCell _ _ _ _ (show q ≠ w.heap.size from h1))
  have hsz : (store6 (w8.setCell ⟨w.heap.size, 5, none⟩ (.slice qa t.l.length qc)) (w.heap.size + 1) 0 (.int .i64 t.op) (.int .i64 t.n) (.string t.s) (.slice ra t.kind.l.length rc) (.slice ma t.names.length mc) (.slice qa t.l.length qc)).heap.size = w8.heap.size := by rw [store6_size, size_set]
  have HE := Lib.hid (show NodeP P G t L d w (.returned (.tuple #[.agg #[.int .i64 t.op, .int .i64 t.n, .string t.s, .slice ra t.kind.l.length rc, .slice ma t.names.length mc, .slice qa t.l.length qc], .bool true])) (store6 (w8.setCell ⟨w.heap.size, 5, none⟩ (.slice qa t.l.length qc)) (w.heap.size + 1) 0 (.int .i64 t.op) (.int .i64 t.n) (.string t.s) (.slice ra t.kind.l.length rc) (.slice ma t.names.length mc) (.slice qa t.l.length qc)) from by
    refine ⟨store6_only ((HO6.out.below hb8 HO6.out.size).setCell (p := ⟨w.heap.size, 5, none⟩) (.inr (Nat.le_refl _)) _) _ _ _ _ _ _ _ _ (.inr (Nat.le_succ _)), .inr ⟨HF.out, w7.heap.size, ra, rc, ma, mc, qa, qc, rfl, ?_, hs7, by rw [hsz]; exact hs8, ?_, ?_, ?_⟩⟩
    · exact (HG6.out.of_eq (hb8.block _ HG6.out.lt)).of_eq (hsame G n2 (by have := HGL.out; omega))
    · exact HK6.out.keep (fun q h => (hsame q (by have := h.1; omega) (by have := h.1; omega)).trans (hb8.block q h.2))
    · exact HM6.out.keep (fun q h => (hsame q (by have := h.1; omega) (by have := h.1; omega)).trans (hb8.block q h.2))
    · exact hfr.keep (fun q h1 h2 => hsame q (by have := h1; omega) (by have := h1; omega)) (fun q hq => hsame q (by have := (HP.out q hq).1; omega) (by have := (HP.out q hq).1; omega)))
  unfold store6 at hz HE
  simp only [Nat.zero_add] at hz HE
  have z0 := hz.cell 0 (.int .i64 t.op) rfl
  have z1 := hz.cell 1 (.int .i64 t.n) rfl
  have z2 := hz.cell 2 (.string t.s) rfl
  have z3 := hz.cell 3 (.slice ra t.kind.l.length rc) rfl
  have z4 := hz.cell 4 (.slice ma t.names.length mc) rfl
  have z5 := hz.cell 5 (.slice qa t.l.length qc) rfl
  clear hown hgrow hb8 hfr hbx8 hby8 hbx9 hby9 hz hs8 hs7 hsame hsz HBX6 HBY6 HG6 HO6 HK6 HM6 HU3 HU4 HU5 HU6 HU7 HS6 HS76 ci0 ci1 ci2 ci3
  go_wp2
  refine bodyPost_ret (v := .tuple #[.agg #[.int .i64 t.op, .int .i64 t.n, .string t.s, .slice ra t.kind.l.length rc, .slice ma t.names.length mc, .slice qa t.l.length qc], .bool true]) (by simp [results, Tryz.results51, go_sem, z0, z1, z2, z3, z4, z5]) rfl ?_
  exact HE.out
end Go.Proofs.YtmjiocpcenbndaaGreatDoor
namespace Go.Proofs.YtmjiocpcenbndaaGreatDoor
open Go Go.RowKit
open Pl (K Con)
set_option linter.unusedSimpArgs false
set_option linter.unusedVariables false

mutual
/-- a value is a tree, in the blocks S, each of which serves one node -/
def OwnC (w : World) : Con → (Nat → Prop) → Value → Prop
  | ⟨op, n, s, k, names, l⟩, S, v => s.size ≤ maxLen ∧ ∃ (Q : Nat → Prop) (kv nv : Value) (a : Option Addr) (c : Nat), v = .agg #[.int .i64 op, .int .i64 n, .string s, kv, nv, .slice a l.length c] ∧ (∀ q, Q q → S q) ∧ KidV w Q k kv ∧ StrSl w Q nv names ∧
      l.length ≤ c ∧ c ≤ maxLen ∧ (a = none → c = 0) ∧ (l = [] ∨ ∃ b cur, a = some ⟨b, 0, none⟩ ∧ S b ∧ ¬ Q b ∧ Blk w b 28 cur ∧ l.length * 6 ≤ cur.size ∧ OwnCs w l (fun q => S q ∧ q ≠ b ∧ ¬ Q q) cur 0)
def OwnCs (w : World) : List Con → (Nat → Prop) → Array Value → Nat → Prop
  | [], _, _, _ => True
  | t :: r, S, cur, j => ∃ (S1 : Nat → Prop) (x : Value), (∀ q, S1 q → S q) ∧ ConIn cur (j * 6) x ∧ OwnC w t S1 x ∧ OwnCs w r (fun q => S q ∧ ¬ S1 q) cur (j + 1)
end
/-- the parts of a row, each in blocks of its own -/
def OwnAll (w : World) (l : List Con) (S : Nat → Prop) (cur : Array Value) (o : Nat) (F : Nat → Nat → Prop) : Prop :=
  (∀ j q, F j q → S q) ∧ (∀ i j q, i ≠ j → F i q → ¬ F j q) ∧ ∀ j (h : j < l.length), ∃ x, ConIn cur ((o + j) * 6) x ∧ OwnC w l[j] (F j) x
theorem ownCs_iff (w : World) (cur : Array Value) (l : List Con) : ∀ (S : Nat → Prop) (o : Nat), OwnCs w l S cur o ↔ ∃ F, OwnAll w l S cur o F := by
  induction l with
  | nil =>
    intro S o
    rw [OwnCs]
    exact ⟨fun _ => ⟨fun _ _ => False, fun _ _ h => h.elim, fun _ _ _ _ h => h.elim, fun j h => absurd h (Nat.not_lt_zero _)⟩, fun _ => trivial⟩
  | cons t r ih =>
    intro S o
    rw [OwnCs]
    constructor
    · rintro ⟨S1, x, h1, h2, h3, h4⟩
      obtain ⟨F, f1, f2, f3⟩ := (ih _ _).1 h4
      refine ⟨fun j q => match j with | 0 => S1 q | j + 1 => F j q, fun j q h => ?_, fun i j q hij h h' => ?_, fun j hj => ?_⟩
      · cases j with
        | zero => exact h1 q h
        | succ j => exact (f1 j q h).1
      · cases i with
        | zero =>
          cases j with
          | zero => exact hij rfl
          | succ j => exact (f1 j q h').2 h
        | succ i =>
          cases j with
          | zero => exact (f1 i q h).2 h'
          | succ j => exact f2 i j q (fun e => hij (by rw [e])) h h'
      · cases j with
        | zero => exact ⟨x, h2, h3⟩
        | succ j =>
          obtain ⟨y, g1, g2⟩ := f3 j (by simpa using hj)
          exact ⟨y, by rw [show o + (j + 1) = o + 1 + j from by omega]; exact g1, g2⟩
    · rintro ⟨F, f1, f2, f3⟩
      obtain ⟨x, g1, g2⟩ := f3 0 (by simp)
      refine ⟨F 0, x, fun q h => f1 0 q h, g1, g2, (ih _ _).2 ⟨fun j q => F (j + 1) q, fun j q h => ⟨f1 _ q h, fun h0 => f2 0 (j + 1) q (by omega) h0 h⟩, fun i j q hij => f2 (i + 1) (j + 1) q (by omega), fun j hj => ?_⟩⟩
      obtain ⟨y, g1, g2⟩ := f3 (j + 1) (by simpa using hj)
      exact ⟨y, by rw [show o + 1 + j = o + (j + 1) from by omega]; exact g1, g2⟩
theorem ownC_iff (w : World) (S : Nat → Prop) (t : Con) (v : Value) : OwnC w t S v ↔ t.s.size ≤ maxLen ∧ ∃ (Q : Nat → Prop) (kv nv : Value) (a : Option Addr) (c : Nat), v = .agg #[.int .i64 t.op, .int .i64 t.n, .string t.s, kv, nv, .slice a t.l.length c] ∧ (∀ q, Q q → S q) ∧ KidV w Q t.kind kv ∧ StrSl w Q nv t.names ∧
      t.l.length ≤ c ∧ c ≤ maxLen ∧ (a = none → c = 0) ∧ (t.l = [] ∨ ∃ b cur F, a = some ⟨b, 0, none⟩ ∧ S b ∧ ¬ Q b ∧ Blk w b 28 cur ∧ t.l.length * 6 ≤ cur.size ∧ OwnAll w t.l (fun q => S q ∧ q ≠ b ∧ ¬ Q q) cur 0 F) := by
  obtain ⟨op, n, s, k, names, l⟩ := t
  rw [OwnC]
  constructor
  · rintro ⟨h0, Q, kv, nv, a, c, rfl, h1, h2, h3, h4, h5, h6, h7⟩
    refine ⟨h0, Q, kv, nv, a, c, rfl, h1, h2, h3, h4, h5, h6, ?_⟩
    rcases h7 with h7 | ⟨b, cur, g1, g2, g3, g4, g5, g6⟩
    · exact .inl h7
    · obtain ⟨F, hF⟩ := (ownCs_iff _ _ _ _ _).1 g6
      exact .inr ⟨b, cur, F, g1, g2, g3, g4, g5, hF⟩
  · rintro ⟨h0, Q, kv, nv, a, c, rfl, h1, h2, h3, h4, h5, h6, h7⟩
    refine ⟨h0, Q, kv, nv, a, c, rfl, h1, h2, h3, h4, h5, h6, ?_⟩
    rcases h7 with h7 | ⟨b, cur, F, g1, g2, g3, g4, g5, g6⟩
    · exact .inl h7
    · exact .inr ⟨b, cur, g1, g2, g3, g4, g5, (ownCs_iff _ _ _ _ _).2 ⟨F, g6⟩⟩
theorem Blk.keepS {w w' : World} {P : Nat → Prop} {b : Nat} {T : TypeId} {cs : Array Value} (h : Blk w b T cs) (hs : Same P w w') (hb : P b) : Blk w' b T cs := h.of_eq (hs b hb)
theorem OwnC.keep0 {w w' : World} (t : Con) : ∀ (S : Nat → Prop) (v : Value), Same S w w' → OwnC w t S v → OwnC w' t S v := by
  induction t using Con.ind with
  | h t ih =>
  intro S v hs h
  rw [ownC_iff] at h ⊢
  obtain ⟨h0, Q, kv, nv, a, c, h1, hK, h2, h3, h4, h5, h6, h7⟩ := h
  have hsK : Same Q w w' := fun q hq => hs q (hK q hq)
  refine ⟨h0, Q, kv, nv, a, c, h1, hK, h2.keep hsK, h3.keep hsK, h4, h5, h6, ?_⟩
  rcases h7 with h7 | ⟨b, cur, F, g1, g2, g3, g4, g5, f1, f2, f3⟩
  · exact .inl h7
  · refine .inr ⟨b, cur, F, g1, g2, g3, g4.keepS hs g2, g5, f1, f2, fun j hj => ?_⟩
    obtain ⟨x, e1, e2⟩ := f3 j hj
    exact ⟨x, e1, ih _ (List.getElem_mem hj) _ _ (fun q hq => hs q (f1 j q hq).1) e2⟩
theorem OwnC.mono0 {w : World} (t : Con) : ∀ (S T : Nat → Prop) (v : Value), (∀ q, S q → T q) → OwnC w t S v → OwnC w t T v := by
  intro S T v hq h
  rw [ownC_iff] at h ⊢
  obtain ⟨h0, Q, kv, nv, a, c, h1, hK, h2, h3, h4, h5, h6, h7⟩ := h
  refine ⟨h0, Q, kv, nv, a, c, h1, fun q h => hq q (hK q h), h2, h3, h4, h5, h6, ?_⟩
  rcases h7 with h7 | ⟨b, cur, F, g1, g2, g3, g4, g5, f1, f2, f3⟩
  · exact .inl h7
  · exact .inr ⟨b, cur, F, g1, hq b g2, g3, g4, g5, fun j q h => ⟨hq q (f1 j q h).1, (f1 j q h).2⟩, f2, f3⟩
theorem OwnC.con0 {w : World} (t : Con) : ∀ (S : Nat → Prop) (v : Value), OwnC w t S v → ConV w S t v := by
  induction t using Con.ind with
  | h t ih =>
  intro S v h
  rw [ownC_iff] at h
  rw [conV_iff]
  obtain ⟨h0, Q, kv, nv, a, c, h1, hK, h2, h3, h4, h5, h6, h7⟩ := h
  refine ⟨h0, kv, nv, _, h1, h2.mono hK, h3.mono hK, a, c, rfl, h4, h5, h6, ?_⟩
  rcases h7 with h7 | ⟨b, cur, F, g1, g2, g3, g4, g5, f1, f2, f3⟩
  · exact .inl h7
  · refine .inr ⟨b, 0, g1, g2, (consAt_iff _ _ _ _ _).2 (fun j hj => ?_)⟩
    obtain ⟨x, ⟨x0, x1, x2, x3, x4, x5, rfl, c0, c1, c2, c3, c4, c5⟩, e2⟩ := f3 j hj
    rw [Nat.zero_add] at c0 c1 c2 c3 c4 c5
    refine ⟨_, ⟨x0, x1, x2, x3, x4, x5, rfl, ?_, ?_, ?_, ?_, ?_, ?_⟩, (ih _ (List.getElem_mem hj) _ _ e2).mono (fun q hq => (f1 j q hq).1)⟩
    all_goals rw [Nat.zero_add]; exact g4.cell _ _ (by assumption)
/-- a node without parts is its own -/
theorem ownC_leaf {w : World} {S : Nat → Prop} {t : Con} {v : Value} (h : ConV w S t v) (hl : t.l = []) : OwnC w t S v := by
  rw [conV_iff] at h
  rw [ownC_iff]
  obtain ⟨h0, kv, nv, lv, h1, h2, h3, a, c, rfl, h4, h5, h6, h7⟩ := h
  exact ⟨h0, S, kv, nv, a, c, h1, fun _ h => h, h2, h3, h4, h5, h6, .inl hl⟩
theorem OwnC.keep {w w' : World} {t : Con} {S : Nat → Prop} {v : Value} (h : OwnC w t S v) (hs : Same S w w') : OwnC w' t S v := OwnC.keep0 t S v hs h
theorem OwnC.mono {w : World} {t : Con} {S T : Nat → Prop} {v : Value} (h : OwnC w t S v) (hq : ∀ q, S q → T q) : OwnC w t T v := OwnC.mono0 t S T v hq h
theorem OwnC.con {w : World} {t : Con} {S : Nat → Prop} {v : Value} (h : OwnC w t S v) : ConV w S t v := OwnC.con0 t S v h
theorem OwnC.shape {w : World} {t : Con} {S : Nat → Prop} {v : Value} (h : OwnC w t S v) : ∃ ka kn kc na nn nc la ln lc, v = .agg #[.int .i64 t.op, .int .i64 t.n, .string t.s, .slice ka kn kc, .slice na nn nc, .slice la ln lc] ∧ kn = t.kind.l.length ∧ nn = t.names.length ∧ ln = t.l.length := h.con.shape
theorem ownC_none (w : World) (S : Nat → Prop) : OwnC w Pl.Con.none0 S (.agg #[.int .i64 0, .int .i64 0, .string ByteArray.empty, .slice none 0 0, .slice none 0 0, .slice none 0 0]) := ownC_leaf (conV_none w S) rfl
end Go.Proofs.YtmjiocpcenbndaaGreatDoor
namespace Go.Proofs.YtmjiocpcenbndaaGreatDoor
open Go Go.RowKit
open Pl (K Con)
set_option linter.unusedSimpArgs false
set_option linter.unusedVariables false

theorem node_facts (t : Con) (h : Con.nodeB t = true) : K.valid t.kind = true ∧ t.names.length ≤ 1000 ∧ t.l.length ≤ 1000 := by
  unfold Con.nodeB at h
  simp only [Bool.and_eq_true] at h
  obtain ⟨-, hs, -, -, hk⟩ := h
  refine ⟨?_, ?_⟩
  · unfold Con.kindB at hk
    split at hk
    · exact hk
    · rw [decide_eq_true_eq] at hk
      rw [kind_none hk]
      decide +kernel
  · unfold Con.shapeB at hs
    split at hs
    · rw [Bool.and_eq_true, decide_eq_true_eq, decide_eq_true_eq] at hs
      have hp : Con.partsOf t.op ≤ 2 := by
        unfold Con.partsOf
        split
        · omega
        · split
          · omega
          · split <;> omega
      omega
    · rw [Bool.and_eq_true, decide_eq_true_eq] at hs
      have h2 := hs.2
      unfold Con.labelsOk at h2
      simp only [Bool.and_eq_true, decide_eq_true_eq] at h2
      omega
/-- where what is made lies: it is new, or (where it did not fit) it was there -/
def Reg (b : Bool) (N n0 : Nat) (w : World) (q : Nat) : Prop := (b = false ∧ q < N) ∨ (n0 ≤ q ∧ q < w.heap.size)
/-- what is rebuilt: within the limits, and then this, or not -/
def RebP (N G : Nat) (want : Con) (L d : Int) (w : World) (e : Ending) (w' : World) : Prop :=
  Only G w w' ∧ ∃ (y : Value) (u : Con) (c : Int), e = .returned (.tuple #[y, .bool (fitB want L d)]) ∧ ConV w' (Reg (fitB want L d) N w.heap.size w') u y ∧ Blk w' G 94 #[.int .i64 c] ∧ 0 ≤ c ∧ c ≤ L ∧ (fitB want L d = true → u = want ∧ c = L - want.size ∧ OwnC w' want (fun q => w.heap.size ≤ q ∧ q < w'.heap.size) y)
/-- the contract of a change -/
structure ChangeOk (N G : Nat) (k : Nat) (cap : Array Value) (F : Con → Int → Con) (w0 : World) : Prop where
  enter : ∀ (W : World) (args : Array Value), Sem.run Tryz.prog (callFunc k args) W = .ok (.enter k args) W
  calls : ∀ (W : World) (t : Con) (v : Value) (b d L : Int), Only G w0 W → Blk W G 94 #[.int .i64 L] → 0 ≤ L → L ≤ 20000 → 0 ≤ b → b ≤ d → 1 ≤ d → d ≤ 401 → Con.leafy t b → Con.nodeB t = true → ConV W (· < N) t v → Calls Tryz.prog k (#[v, .int .i64 b, .int .i64 d] ++ cap) W (RebP N G (F t b) L d W)
/-- what is stored elsewhere leaves a tree of its own as it is -/
theorem own_store {w3 : World} {t : Con} {v : Value} {lo lo' g : Nat} (h : OwnC w3 t (fun q => lo ≤ q ∧ q < w3.heap.size) v) (hlo : lo' ≤ lo) (hg : g < lo) (o : Nat) (x0 x1 x2 x3 x4 x5 : Value) : OwnC (store6 w3 g o x0 x1 x2 x3 x4 x5) t (fun q => lo' ≤ q ∧ q < (store6 w3 g o x0 x1 x2 x3 x4 x5).heap.size) v := by
  refine OwnC.mono0 t _ _ v (fun q hq => ⟨Nat.le_trans hlo hq.1, by rw [store6_size]; exact hq.2⟩) (OwnC.keep0 (w := w3) t (fun q => lo ≤ q ∧ q < w3.heap.size) v (fun q hq => store6_other _ _ _ _ _ _ _ _ _ q (by have := hq.1; omega)) h)
/-- the parts that are done, each in blocks of its own -/
def OwnK (ok : Bool) (wr : World) (qa : Option Addr) (BR k : Nat) (m : List Con) : Prop := ok = true → (m = [] ∨ ∃ (g : Nat) (cur : Array Value) (F : Nat → Nat → Prop), qa = some ⟨g, 0, none⟩ ∧ Blk wr g 28 cur ∧ m.length * 6 ≤ cur.size ∧ (∀ j q, F j q → BR + 1 ≤ q ∧ q < wr.heap.size) ∧ (∀ i j q, i ≠ j → F i q → ¬ F j q) ∧ ∀ j (h : j < m.length), j < k → ∃ x, ConIn cur (j * 6) x ∧ OwnC wr m[j] (F j) x)
/-- what rebuilt holds while it goes on: the first k parts are done -/
structure CR (N G Bn BR : Nat) (t : Con) (m : List Con) (L d : Int) (V : Array Value) (ka : Option Addr) (kc : Nat) (na : Option Addr) (nc : Nat) (qa : Option Addr) (qc : Nat) (w wr : World) (k : Nat) (ok : Bool) (c : Int) : Prop where
  only : Only G w wr
  bld : Blk wr G 94 #[.int .i64 c]
  box : Blk wr w.heap.size 28 V
  res : Blk wr (w.heap.size + 1) 28 #[.int .i64 0, .int .i64 0, .string ⟨#[]⟩, .slice none 0 0, .slice none 0 0, .slice none 0 0]
  rbx : Blk wr BR 28 #[.int .i64 t.op, .int .i64 t.n, .string t.s, .slice ka t.kind.l.length kc, .slice na t.names.length nc, .slice qa t.l.length qc]
  big : w.heap.size + 2 ≤ Bn ∧ Bn ≤ BR
  kid : KidV wr (fun q => w.heap.size + 2 ≤ q ∧ q < Bn) t.kind (.slice ka t.kind.l.length kc)
  nms : StrSl wr (fun q => w.heap.size + 2 ≤ q ∧ q < Bn) (.slice na t.names.length nc) t.names
  len : t.l.length ≤ qc ∧ qc ≤ maxLen ∧ (qa = none → qc = 0)
  row : t.l = [] ∨ ∃ g cur, qa = some ⟨g, 0, none⟩ ∧ Bn ≤ g ∧ g < BR ∧ Blk wr g 28 cur ∧ t.l.length * 6 ≤ cur.size ∧
    (∀ j (h : j < t.l.length), j < k → ∃ x u, ConIn cur (j * 6) x ∧ ConV wr (Reg ok N (BR + 1) wr) u x ∧ (ok = true → m[j]? = some u)) ∧ (∀ j (h : j < t.l.length), k ≤ j → ∃ x, ConIn cur (j * 6) x ∧ ConV wr (· < N) t.l[j] x)
  fit : ok = fitsB (m.take k) (L - 1) (d + 1)
  left : 0 ≤ c ∧ c ≤ L ∧ (ok = true → c = L - 1 - (Con.sizes (m.take k) : Int))
  own : OwnK ok wr qa BR k m
theorem Only.heap {G : Nat} {w w' : World} (h : Only G w w') {q : Nat} (hq : q < w.heap.size) (hn : q ≠ G) : w'.heap[q]? = w.heap[q]? := World.grownBy.block h q hq (fun e => by injection e with e; exact hn e)
set_option maxHeartbeats 2000000 in
theorem CR.push {N G Bn BR : Nat} {t z : Con} {m : List Con} {L d : Int} {V : Array Value} {ka : Option Addr} {kc : Nat} {na : Option Addr} {nc g qc : Nat} {w wr w5 : World} {k : Nat} {c c' : Int} {u : Con} {x0 x1 x2 x3 x4 x5 : Value}
    (h : CR N G Bn BR t m L d V ka kc na nc (some ⟨g, 0, none⟩) qc w wr k true c) (hNG : N ≤ G) (hG : G < w.heap.size) (hk : k < t.l.length) (hz : m[k]? = some z) (ho : Only G wr w5)
    (hv : ConV w5 (Reg (fitB z c (d + 1)) N wr.heap.size w5) u (.agg #[x0, x1, x2, x3, x4, x5])) (hb : Blk w5 G 94 #[.int .i64 c']) (h0 : 0 ≤ c') (h1 : c' ≤ c) (hf : fitB z c (d + 1) = true → u = z ∧ c' = c - z.size ∧ OwnC w5 z (fun q => wr.heap.size ≤ q ∧ q < w5.heap.size) (.agg #[x0, x1, x2, x3, x4, x5])) :
    CR N G Bn BR t m L d V ka kc na nc (some ⟨g, 0, none⟩) qc w (store6 w5 g (k * 6) x0 x1 x2 x3 x4 x5) (k + 1) (fitB z c (d + 1)) c' := by
  obtain ⟨hkm, rfl⟩ := List.getElem?_eq_some_iff.1 hz
  rcases h.row with hr | ⟨g', cur, he, hgb, hgr, hblk, hsz, hdone, htodo⟩
  · rw [hr] at hk; simp at hk
  injection he with he
  injection he with he
  subst he
  have hbig := h.big
  have hgl := hblk.lt
  have hrl := h.rbx.lt
  have hws := h.only.size
  have hss := ho.size
  have hsame : ∀ q, q < wr.heap.size → q ≠ G → q ≠ g → (store6 w5 g (k * 6) x0 x1 x2 x3 x4 x5).heap[q]? = wr.heap[q]? := fun q h1 h2 h3 => (store6_other w5 g (k * 6) x0 x1 x2 x3 x4 x5 q h3).trans (ho.heap h1 h2)
  have hfit := h.fit
  have hleft := h.left
  refine ⟨store6_only (h.only.trans ho) g (k * 6) x0 x1 x2 x3 x4 x5 (.inr (by omega)), hb.of_eq (store6_other w5 g (k * 6) x0 x1 x2 x3 x4 x5 G (by omega)), h.box.of_eq (hsame _ h.box.lt (by omega) (by omega)), h.res.of_eq (hsame _ h.res.lt (by omega) (by omega)), h.rbx.of_eq (hsame _ h.rbx.lt (by omega) (by omega)), hbig, ?_, ?_, h.len, .inr ⟨g, _, rfl, hgb, hgr, store6_blk (hblk.of_eq (ho.heap hgl (by omega))) (k * 6) x0 x1 x2 x3 x4 x5, by rw [put6_size]; exact hsz, fun j hj hjk => ?_, fun j hj hjk => ?_⟩, ?_, ?_, ?_⟩
  · exact h.kid.keep (fun q hq => hsame q (by have := hq.2; omega) (by have := hq.1; omega) (by have := hq.2; omega))
  · exact h.nms.keep (fun q hq => hsame q (by have := hq.2; omega) (by have := hq.1; omega) (by have := hq.2; omega))
  · by_cases hjk2 : j = k
    · subst hjk2
      refine ⟨_, u, put6_in cur (j * 6) x0 x1 x2 x3 x4 x5 (by omega), (hv.keep (fun q hq => store6_other w5 g (j * 6) x0 x1 x2 x3 x4 x5 q (by rcases hq with hq | hq <;> omega))).mono (fun q hq => ?_), fun hok => ?_⟩
      · rcases hq with hq | hq
        · exact .inl hq
        · exact .inr ⟨by omega, by rw [store6_size]; exact hq.2⟩
      · rw [List.getElem?_eq_getElem hkm, (hf hok).1]
    · obtain ⟨x, u', hx, hs, hu⟩ := hdone j hj (by omega)
      refine ⟨x, u', put6_other cur (k * 6) x0 x1 x2 x3 x4 x5 (j * 6) x (by omega) hx, (hs.keep (fun q hq => hsame q (by rcases hq with hq | hq <;> omega) (by rcases hq with hq | hq <;> omega) (by rcases hq with hq | hq <;> omega))).mono (fun q hq => ?_), fun _ => hu rfl⟩
      rcases hq with hq | hq
      · exact absurd hq.1 (by simp)
      · exact .inr ⟨hq.1, by rw [store6_size]; omega⟩
  · obtain ⟨x, hx, hs⟩ := htodo j hj (by omega)
    exact ⟨x, put6_other cur (k * 6) x0 x1 x2 x3 x4 x5 (j * 6) x (by omega) hx, hs.keep (fun q hq => hsame q (by have : q < N := hq; omega) (by have : q < N := hq; omega) (by have : q < N := hq; omega))⟩
  · rw [fitsB_take m k hkm, ← hfit, Bool.true_and, (hleft.2.2 rfl)]
  · refine ⟨h0, by omega, fun hok => ?_⟩
    rw [(hf hok).2.1, hleft.2.2 rfl, Con.sizes_take m k hkm]
    omega
  · intro hok
    rcases h.own rfl with hm0 | ⟨g2, cur2, F, he2, hb2, hs2, f1, f2, f3⟩
    · rw [hm0] at hkm; exact absurd hkm (Nat.not_lt_zero _)
    · injection he2 with he2
      injection he2 with he2
      subst he2
      refine .inr ⟨g, _, fun j q => (j < k ∧ F j q) ∨ (j = k ∧ wr.heap.size ≤ q ∧ q < w5.heap.size), rfl, store6_blk (hb2.of_eq (ho.heap hb2.lt (by omega))) (k * 6) x0 x1 x2 x3 x4 x5, by rw [put6_size]; exact hs2, fun j q hq => ?_, fun i j q hij hi hj => ?_, fun j hj hjk => ?_⟩
      · rw [store6_size]
        rcases hq with ⟨h1, h2⟩ | ⟨h1, h2, h3⟩
        · have := f1 j q h2; omega
        · omega
      · rcases hi with ⟨h1, h2⟩ | ⟨h1, h2, h3⟩
        · rcases hj with ⟨g1, g2⟩ | ⟨g1, g2, g3⟩
          · exact f2 i j q hij h2 g2
          · have := f1 i q h2; omega
        · rcases hj with ⟨g1, g2⟩ | ⟨g1, g2, g3⟩
          · have := f1 j q g2; omega
          · omega
      · by_cases hjk2 : j = k
        · subst hjk2
          refine ⟨_, put6_in cur2 (j * 6) x0 x1 x2 x3 x4 x5 (by omega), ?_⟩
          exact OwnC.mono0 _ _ _ _ (fun q hq => .inr ⟨rfl, hq.1, hq.2⟩) (OwnC.keep0 (w := w5) _ (fun q => wr.heap.size ≤ q ∧ q < w5.heap.size) _ (fun q hq => store6_other w5 g (j * 6) x0 x1 x2 x3 x4 x5 q (by have := hq.1; omega)) (hf hok).2.2)
        · obtain ⟨x, hx, hv2⟩ := f3 j hj (by omega)
          refine ⟨x, put6_other cur2 (k * 6) x0 x1 x2 x3 x4 x5 (j * 6) x (by omega) hx, ?_⟩
          exact OwnC.mono0 _ _ _ _ (fun q hq => .inl ⟨by omega, hq⟩) (OwnC.keep0 (w := wr) _ (F j) _ (fun q hq => hsame q (by have := f1 j q hq; omega) (by have := f1 j q hq; omega) (by have := f1 j q hq; omega)) hv2)
/-- all parts are done, or it stopped: what lies there is a constructor -/
theorem CR.done {N G Bn BR : Nat} {t : Con} {m : List Con} {L d : Int} {V : Array Value} {ka : Option Addr} {kc : Nat} {na : Option Addr} {nc : Nat} {qa : Option Addr} {qc : Nat} {w wr w' : World} {k : Nat} {ok : Bool} {c : Int}
    (h : CR N G Bn BR t m L d V ka kc na nc qa qc w wr k ok c) (hN : N ≤ w.heap.size) (hs : t.s.size ≤ maxLen) (hm : m.length = t.l.length) (hk : ok = true → t.l.length ≤ k) (hsame : ∀ q, q ≠ w.heap.size + 1 → w'.heap[q]? = wr.heap[q]?) (hsz : wr.heap.size ≤ w'.heap.size) :
    ∃ u, ConV w' (Reg ok N w.heap.size w') u (.agg #[.int .i64 t.op, .int .i64 t.n, .string t.s, .slice ka t.kind.l.length kc, .slice na t.names.length nc, .slice qa t.l.length qc]) ∧ (ok = true → u = Con.inside t m) := by
  have hbig := h.big
  have hrl := h.rbx.lt
  have key : ∃ l : List Con, l.length = t.l.length ∧ (ok = true → l = m) ∧ ConSl w' (Reg ok N w.heap.size w') (.slice qa t.l.length qc) l := by
    rcases h.row with hr | ⟨g, cur, rfl, hgb, hgr, hblk, hcs, hdone, htodo⟩
    · refine ⟨[], by rw [hr], fun _ => (List.eq_nil_of_length_eq_zero (by rw [hm, hr]; rfl)).symm, qa, qc, by rw [hr], by rw [List.length_nil]; exact Nat.zero_le _, h.len.2.1, h.len.2.2, .inl rfl⟩
    · have hgl := hblk.lt
      have each : ∀ j, j < t.l.length → ∃ u : Con, ∃ x, ConIn cur (j * 6) x ∧ ConV w' (Reg ok N w.heap.size w') u x ∧ (ok = true → m[j]? = some u) := by
        intro j hj
        by_cases hjk : j < k
        · obtain ⟨x, u, hx, hv, hu⟩ := hdone j hj hjk
          refine ⟨u, x, hx, (hv.keep (fun q hq => hsame q (by rcases hq with hq | hq <;> omega))).mono (fun q hq => ?_), hu⟩
          rcases hq with hq | hq
          · exact .inl hq
          · exact .inr ⟨by omega, by omega⟩
        · obtain ⟨x, hx, hv⟩ := htodo j hj (by omega)
          refine ⟨t.l[j], x, hx, (hv.keep (fun q hq => hsame q (by have : q < N := hq; omega))).mono (fun q hq => .inl ⟨by
            cases hb : ok
            · rfl
            · have := hk hb; omega, hq⟩), fun hok => ?_⟩
          have := hk hok
          omega
      obtain ⟨U, hU⟩ := Go.Deep.choose_lt each
      refine ⟨(List.range t.l.length).map U, by simp, fun hok => ?_, _, qc, by simp, by simpa using h.len.1, h.len.2.1, h.len.2.2, .inr ⟨g, 0, rfl, .inr ⟨by omega, by omega⟩, ?_⟩⟩
      · refine List.ext_getElem (by simp [hm]) (fun j h1 h2 => ?_)
        have hj : j < t.l.length := by simpa using h1
        obtain ⟨x, -, -, hu⟩ := hU j hj
        have := hu hok
        rw [List.getElem?_eq_getElem (by omega)] at this
        injection this with this
        rw [List.getElem_map, List.getElem_range]
        exact this.symm
      · rw [consAt_iff]
        intro j hj
        have hj' : j < t.l.length := by simpa using hj
        obtain ⟨x, hx, hv, -⟩ := hU j hj'
        refine ⟨x, by rw [Nat.zero_add]; exact hx.at (hblk.of_eq (hsame g (by omega))), ?_⟩
        rw [List.getElem_map, List.getElem_range]
        exact hv
  obtain ⟨l, hl1, hl2, hl3⟩ := key
  refine ⟨Con.inside t l, (conV_iff _ _ _ _).2 ⟨hs, _, _, _, rfl, ?_, ?_, hl3⟩, fun hok => by rw [hl2 hok]⟩
  · exact (h.kid.keep (fun q hq => hsame q (by have := hq.1; omega))).mono (fun q hq => .inr ⟨by have := hq.1; omega, by have := hq.2; omega⟩)
  · exact (h.nms.keep (fun q hq => hsame q (by have := hq.1; omega))).mono (fun q hq => .inr ⟨by have := hq.1; omega, by have := hq.2; omega⟩)
/-- and it is a tree of its own -/
theorem CR.doneOwn {N G Bn BR : Nat} {t : Con} {m : List Con} {L d : Int} {V : Array Value} {ka : Option Addr} {kc : Nat} {na : Option Addr} {nc : Nat} {qa : Option Addr} {qc : Nat} {w wr w' : World} {k : Nat} {c : Int}
    (h : CR N G Bn BR t m L d V ka kc na nc qa qc w wr k true c) (hs : t.s.size ≤ maxLen) (hm : m.length = t.l.length) (hk : t.l.length ≤ k) (hsame : ∀ q, q ≠ w.heap.size + 1 → w'.heap[q]? = wr.heap[q]?) (hsz : wr.heap.size ≤ w'.heap.size) :
    OwnC w' (Con.inside t m) (fun q => w.heap.size ≤ q ∧ q < w'.heap.size) (.agg #[.int .i64 t.op, .int .i64 t.n, .string t.s, .slice ka t.kind.l.length kc, .slice na t.names.length nc, .slice qa t.l.length qc]) := by
  have hbig := h.big
  have hrl := h.rbx.lt
  rw [ownC_iff]
  refine ⟨hs, (fun q => w.heap.size + 2 ≤ q ∧ q < Bn), _, _, qa, qc, by rw [← hm]; rfl, fun q hq => by have := hq.1; have := hq.2; omega, h.kid.keep (fun q hq => hsame q (by have := hq.1; omega)), h.nms.keep (fun q hq => hsame q (by have := hq.1; omega)), by rw [show (Con.inside t m).l = m from rfl, hm]; exact h.len.1, h.len.2.1, h.len.2.2, ?_⟩
  rcases h.own rfl with hm0 | ⟨g, cur, F, he, hb, hs2, f1, f2, f3⟩
  · exact .inl hm0
  · rcases h.row with hr | ⟨g', cur', he', hgb, hgr, -⟩
    · exact .inl (List.eq_nil_of_length_eq_zero (by rw [show (Con.inside t m).l = m from rfl, hm, hr]; rfl))
    · rw [he] at he'
      injection he' with he'
      injection he' with he'
      subst he'
      refine .inr ⟨g, cur, F, he, ⟨by omega, by omega⟩, fun hq => by have := hq.2; omega, hb.of_eq (hsame g (by omega)), hs2, fun j q hq => ?_, f2, fun j hj => ?_⟩
      · have := f1 j q hq
        exact ⟨⟨by omega, by omega⟩, by omega, fun hq2 => by have := hq2.2; omega⟩
      · have hj' : j < m.length := hj
        obtain ⟨x, hx, hv⟩ := f3 j hj' (by omega)
        exact ⟨x, by rw [Nat.zero_add]; exact hx, OwnC.keep0 (w := wr) _ (F j) _ (fun q hq => hsame q (by have := f1 j q hq; omega)) hv⟩
end Go.Proofs.YtmjiocpcenbndaaGreatDoor
namespace Go.Proofs.YtmjiocpcenbndaaGreatDoor
open Go Go.RowKit
open Pl (K Con)
set_option linter.unusedSimpArgs false
set_option linter.unusedVariables false

theorem fit_node_false (t : Con) (L d : Int) (m : List Con) (h : nodeOk t L d = false) : fitB (Con.inside t m) L d = false := by
  rw [fitB_node]
  have e : (decide (1 ≤ L) && (decide (d ≤ 400) && decide ((Con.inside t m).n ≤ 20000))) = nodeOk t L d := rfl
  rw [e, h, Bool.false_and]
theorem fit_node_true (t : Con) (L d : Int) (m : List Con) (h : nodeOk t L d = true) : fitB (Con.inside t m) L d = fitsB m (L - 1) (d + 1) := by
  rw [fitB_node]
  have e : (decide (1 ≤ L) && (decide (d ≤ 400) && decide ((Con.inside t m).n ≤ 20000))) = nodeOk t L d := rfl
  rw [e, h, Bool.true_and]
  rfl
theorem nodeOk_iff (t : Con) (L d : Int) : nodeOk t L d = true → 1 ≤ L ∧ d ≤ 400 := by
  unfold nodeOk
  rw [Bool.and_eq_true, Bool.and_eq_true, decide_eq_true_eq, decide_eq_true_eq]
  exact fun h => ⟨h.1, h.2.1⟩
theorem leaf_not (t : Con) (b : Int) (h1 : (t.op == 2) = false) (h2 : (t.op == 1) = false ∨ decide (b ≤ t.n) = false) : ¬ Con.leafy t b := by
  rintro (h | ⟨h, h3⟩)
  · rw [h] at h1; cases h1
  · rcases h2 with h2 | h2
    · rw [h] at h2; cases h2
    · rw [decide_eq_true h3] at h2; cases h2
set_option maxRecDepth 100000 in
set_option maxHeartbeats 4000000 in
theorem rebuilt_leaf (N G k : Nat) (cap : Array Value) (F : Con → Int → Con) (w0 : World) (HC : ChangeOk N G k cap F w0) (t : Con) (L d b : Int) (w : World) (v : Value) (hN : N ≤ G) (hw : Only G w0 w) (hG : Blk w G 94 #[.int .i64 L]) (ht : ConV w (· < N) t v) (ha : Con.nodeB t = true) (hlf : Con.leafy t b) (h0 : 0 ≤ L) (h1 : L ≤ 20000) (hb0 : 0 ≤ b) (hb1 : b ≤ d) (hd0 : 1 ≤ d) (hd1 : d ≤ 401) :
    Calls Tryz.prog 50 #[.pointer (some ⟨G, 0, none⟩), v, .int .i64 b, .int .i64 d, .func (.func k) #[] cap] w (RebP N G (F t b) L d w) := by
  have hen := HC.enter
  have hNs : N ≤ w.heap.size := Nat.le_of_lt (Nat.lt_of_le_of_lt hN hG.lt)
  have HCALL := Lib.hid (fun W (hW : Only G w W) (hg : Blk W G 94 #[.int .i64 L]) => HC.calls W t v b d L (hw.trans hW) hg h0 h1 hb0 hb1 hd0 hd1 hlf ha (ht.keep (Same.of_only hW (fun q hq => ⟨Nat.lt_of_lt_of_le hq hNs, by have : q < N := hq; omega⟩))))
  obtain ⟨ka, kn, kc, na, nn, nc, la, ln, lc, rfl, hkn, hnn, hlen⟩ := ht.shape
  subst hkn hnn hlen
  obtain ⟨hbx, hbx2, hb⟩ := twoN_new w 28 28 #[.int .i64 t.op, .int .i64 t.n, .string t.s, .slice ka t.kind.l.length kc, .slice na t.names.length nc, .slice la t.l.length lc] #[.int .i64 0, .int .i64 0, .string ⟨#[]⟩, .slice none 0 0, .slice none 0 0, .slice none 0 0]
  have hsz2 : ((w.alloc (.cells #[.int .i64 t.op, .int .i64 t.n, .string t.s, .slice ka t.kind.l.length kc, .slice na t.names.length nc, .slice la t.l.length lc] 28)).alloc (.cells #[.int .i64 0, .int .i64 0, .string ⟨#[]⟩, .slice none 0 0, .slice none 0 0, .slice none 0 0] 28)).heap.size = w.heap.size + 2 := by simp
  have HG := Lib.hid (hG.of_eq (hb.block _ hG.lt))
  have hgl := hG.lt
  have HGL := Lib.hid hgl
  have HBX2 := Lib.hid hbx2
  have HO := Lib.hid (only_below (N := G) hb)
  have HSZ := Lib.hid hsz2
  have c0 := hbx.cell 0 (.int .i64 t.op) rfl
  have c1 := hbx.cell 1 (.int .i64 t.n) rfl
  have c2 := hbx.cell 2 (.string t.s) rfl
  have c3 := hbx.cell 3 (.slice ka t.kind.l.length kc) rfl
  have c4 := hbx.cell 4 (.slice na t.names.length nc) rfl
  have c5 := hbx.cell 5 (.slice la t.l.length lc) rfl
  clear hbx hbx2 hb hG ht HC hw hsz2 hgl ha
  have hlf2 := hlf
  go_enter Tryz.func50, Tryz.ntmps50
  rcases hlf2 with h2 | ⟨h2, h3⟩
  · have q1 : (t.op == 2) = true := by rw [h2]; rfl
    clear h2 hlf
    go_wp2_with fail
    clear c0 c1 c2 c3 c4 c5
    generalize ((w.alloc (.cells #[.int .i64 t.op, .int .i64 t.n, .string t.s, .slice ka t.kind.l.length kc, .slice na t.names.length nc, .slice la t.l.length lc] 28)).alloc (.cells #[.int .i64 0, .int .i64 0, .string ⟨#[]⟩, .slice none 0 0, .slice none 0 0, .slice none 0 0] 28)) = wa at *
    refine (HCALL.out _ HO.out HG.out).mono ?_
    rintro e w3 ⟨ho3, y, u, c, rfl, hy, hg3, hc0, hc1, hfit⟩
    have hsz := HSZ.out
    have hss := ho3.size
    obtain ⟨ua, un, uc, va, vn, vc, xa, xn, xc, rfl, -, -, -⟩ := hy.shape
    have hby := ho3.blk HBX2.out (show w.heap.size + 1 ≠ G from by have := HGL.out; omega)
    have t0 := hby.thaw 0
    have t1 := hby.thaw 1
    have t2 := hby.thaw 2
    have t3 := hby.thaw 3
    have t4 := hby.thaw 4
    have t5 := hby.thaw 5
    have r0 := hby.cell 0 (.int .i64 0) rfl
    have r1 := hby.cell 1 (.int .i64 0) rfl
    have r2 := hby.cell 2 (.string ⟨#[]⟩) rfl
    have r3 := hby.cell 3 (.slice none 0 0) rfl
    have r4 := hby.cell 4 (.slice none 0 0) rfl
    have r5 := hby.cell 5 (.slice none 0 0) rfl
    have hz := store6_blk hby 0 (.int .i64 u.op) (.int .i64 u.n) (.string u.s) (.slice ua un uc) (.slice va vn vc) (.slice xa xn xc)
    rw [put6_all] at hz
    have HE := Lib.hid (show RebP N G (F t b) L d w (.returned (.tuple #[.agg #[.int .i64 u.op, .int .i64 u.n, .string u.s, .slice ua un uc, .slice va vn vc, .slice xa xn xc], .bool (fitB (F t b) L d)])) (store6 w3 (w.heap.size + 1) 0 (.int .i64 u.op) (.int .i64 u.n) (.string u.s) (.slice ua un uc) (.slice va vn vc) (.slice xa xn xc)) from by
      refine ⟨store6_only (HO.out.trans ho3) _ _ _ _ _ _ _ _ (.inr (Nat.le_succ _)), _, u, c, rfl, ?_, hg3.of_eq (store6_other _ _ _ _ _ _ _ _ _ G (by have := HGL.out; omega)), hc0, hc1, fun h => ⟨(hfit h).1, (hfit h).2.1, own_store (hfit h).2.2 (by omega) (by omega) _ _ _ _ _ _ _⟩⟩
      refine (hy.keep (fun q hq => store6_other _ _ _ _ _ _ _ _ _ q (by rcases hq with hq | hq <;> omega))).mono (fun q hq => ?_)
      rcases hq with hq | hq
      · exact .inl hq
      · exact .inr ⟨by omega, by rw [store6_size]; exact hq.2⟩)
    unfold store6 at hz HE
    simp only [Nat.zero_add] at hz HE
    have z0 := hz.cell 0 (.int .i64 u.op) rfl
    have z1 := hz.cell 1 (.int .i64 u.n) rfl
    have z2 := hz.cell 2 (.string u.s) rfl
    have z3 := hz.cell 3 (.slice ua un uc) rfl
    have z4 := hz.cell 4 (.slice va vn vc) rfl
    have z5 := hz.cell 5 (.slice xa xn xc) rfl
    clear hy hg3 hfit hby hz ho3 hsz hss HCALL HO HG HBX2 HSZ
    generalize fitB (F t b) L d = r at *
    go_wp2
    refine bodyPost_ret (v := .tuple #[.agg #[.int .i64 u.op, .int .i64 u.n, .string u.s, .slice ua un uc, .slice va vn vc, .slice xa xn xc], .bool r]) (by simp [results, Tryz.results50, go_sem, z0, z1, z2, z3, z4, z5]) rfl ?_
    exact HE.out
  · have q1 : (t.op == 2) = false := by rw [h2]; rfl
    have q2 : (t.op == 1) = true := by rw [h2]; rfl
    have q3 : decide (b ≤ t.n) = true := decide_eq_true h3
    clear h2 h3 hlf
    go_wp2_with fail
    clear c0 c1 c2 c3 c4 c5
    generalize ((w.alloc (.cells #[.int .i64 t.op, .int .i64 t.n, .string t.s, .slice ka t.kind.l.length kc, .slice na t.names.length nc, .slice la t.l.length lc] 28)).alloc (.cells #[.int .i64 0, .int .i64 0, .string ⟨#[]⟩, .slice none 0 0, .slice none 0 0, .slice none 0 0] 28)) = wa at *
    refine (HCALL.out _ HO.out HG.out).mono ?_
    rintro e w3 ⟨ho3, y, u, c, rfl, hy, hg3, hc0, hc1, hfit⟩
    have hsz := HSZ.out
    have hss := ho3.size
    obtain ⟨ua, un, uc, va, vn, vc, xa, xn, xc, rfl, -, -, -⟩ := hy.shape
    have hby := ho3.blk HBX2.out (show w.heap.size + 1 ≠ G from by have := HGL.out; omega)
    have t0 := hby.thaw 0
    have t1 := hby.thaw 1
    have t2 := hby.thaw 2
    have t3 := hby.thaw 3
    have t4 := hby.thaw 4
    have t5 := hby.thaw 5
    have r0 := hby.cell 0 (.int .i64 0) rfl
    have r1 := hby.cell 1 (.int .i64 0) rfl
    have r2 := hby.cell 2 (.string ⟨#[]⟩) rfl
    have r3 := hby.cell 3 (.slice none 0 0) rfl
    have r4 := hby.cell 4 (.slice none 0 0) rfl
    have r5 := hby.cell 5 (.slice none 0 0) rfl
    have hz := store6_blk hby 0 (.int .i64 u.op) (.int .i64 u.n) (.string u.s) (.slice ua un uc) (.slice va vn vc) (.slice xa xn xc)
    rw [put6_all] at hz
    have HE := Lib.hid (show RebP N G (F t b) L d w (.returned (.tuple #[.agg #[.int .i64 u.op, .int .i64 u.n, .string u.s, .slice ua un uc, .slice va vn vc, .slice xa xn xc], .bool (fitB (F t b) L d)])) (store6 w3 (w.heap.size + 1) 0 (.int .i64 u.op) (.int .i64 u.n) (.string u.s) (.slice ua un uc) (.slice va vn vc) (.slice xa xn xc)) from by
      refine ⟨store6_only (HO.out.trans ho3) _ _ _ _ _ _ _ _ (.inr (Nat.le_succ _)), _, u, c, rfl, ?_, hg3.of_eq (store6_other _ _ _ _ _ _ _ _ _ G (by have := HGL.out; omega)), hc0, hc1, fun h => ⟨(hfit h).1, (hfit h).2.1, own_store (hfit h).2.2 (by omega) (by omega) _ _ _ _ _ _ _⟩⟩
      refine (hy.keep (fun q hq => store6_other _ _ _ _ _ _ _ _ _ q (by rcases hq with hq | hq <;> omega))).mono (fun q hq => ?_)
      rcases hq with hq | hq
      · exact .inl hq
      · exact .inr ⟨by omega, by rw [store6_size]; exact hq.2⟩)
    unfold store6 at hz HE
    simp only [Nat.zero_add] at hz HE
    have z0 := hz.cell 0 (.int .i64 u.op) rfl
    have z1 := hz.cell 1 (.int .i64 u.n) rfl
    have z2 := hz.cell 2 (.string u.s) rfl
    have z3 := hz.cell 3 (.slice ua un uc) rfl
    have z4 := hz.cell 4 (.slice va vn vc) rfl
    have z5 := hz.cell 5 (.slice xa xn xc) rfl
    clear hy hg3 hfit hby hz ho3 hsz hss HCALL HO HG HBX2 HSZ
    generalize fitB (F t b) L d = r at *
    go_wp2
    refine bodyPost_ret (v := .tuple #[.agg #[.int .i64 u.op, .int .i64 u.n, .string u.s, .slice ua un uc, .slice va vn vc, .slice xa xn xc], .bool r]) (by simp [results, Tryz.results50, go_sem, z0, z1, z2, z3, z4, z5]) rfl ?_
    exact HE.out
end Go.Proofs.YtmjiocpcenbndaaGreatDoor
namespace Go.Proofs.YtmjiocpcenbndaaGreatDoor
open Go Go.RowKit
open Pl (K Con)
set_option linter.unusedSimpArgs false
set_option linter.unusedVariables false

/-- the end of rebuilt at a node -/
theorem CR.end {N G Bn BR : Nat} {t want : Con} {m : List Con} {L d : Int} {V : Array Value} {ka2 : Option Addr} {kc2 : Nat} {na2 : Option Addr} {nc2 : Nat} {qa : Option Addr} {qc : Nat} {w wr : World} {k : Nat} {ok : Bool} {c : Int}
    (h : CR N G Bn BR t m L d V ka2 kc2 na2 nc2 qa qc w wr k ok c) (hNG : N ≤ G) (hG : G < w.heap.size) (hs : t.s.size ≤ maxLen) (hm : m.length = t.l.length) (hk : ok = true → t.l.length ≤ k) (hok : nodeOk t L d = true) (hw : want = Con.inside t m) :
    fitB want L d = ok ∧ RebP N G want L d w (.returned (.tuple #[.agg #[.int .i64 t.op, .int .i64 t.n, .string t.s, .slice ka2 t.kind.l.length kc2, .slice na2 t.names.length nc2, .slice qa t.l.length qc], .bool ok])) (store6 wr (w.heap.size + 1) 0 (.int .i64 t.op) (.int .i64 t.n) (.string t.s) (.slice ka2 t.kind.l.length kc2) (.slice na2 t.names.length nc2) (.slice qa t.l.length qc)) := by
  have hfo : fitB want L d = ok := by
    rw [hw, fit_node_true t L d m hok]
    have hf := h.fit
    cases ok
    · exact fitsB_le m k _ _ hf.symm
    · rw [List.take_of_length_le (by have := hk rfl; omega)] at hf
      exact hf.symm
  refine ⟨hfo, store6_only h.only _ _ _ _ _ _ _ _ (.inr (Nat.le_succ _)), ?_⟩
  obtain ⟨u, hu, hu2⟩ := h.done (w' := store6 wr (w.heap.size + 1) 0 (.int .i64 t.op) (.int .i64 t.n) (.string t.s) (.slice ka2 t.kind.l.length kc2) (.slice na2 t.names.length nc2) (.slice qa t.l.length qc)) (by omega) hs hm hk (fun q hq => store6_other _ _ _ _ _ _ _ _ _ q hq) (by rw [store6_size]; exact Nat.le_refl _)
  refine ⟨_, u, c, by rw [hfo], by rw [hfo]; exact hu, h.bld.of_eq (store6_other _ _ _ _ _ _ _ _ _ G (by omega)), h.left.1, h.left.2.1, fun hf => ?_⟩
  rw [hfo] at hf
  refine ⟨by rw [hu2 hf, hw], ?_, ?_⟩
  rotate_left
  · subst hf
    rw [hw]
    exact h.doneOwn (w' := store6 wr (w.heap.size + 1) 0 (.int .i64 t.op) (.int .i64 t.n) (.string t.s) (.slice ka2 t.kind.l.length kc2) (.slice na2 t.names.length nc2) (.slice qa t.l.length qc)) hs hm (hk rfl) (fun q hq => store6_other _ _ _ _ _ _ _ _ _ q hq) (by rw [store6_size]; exact Nat.le_refl _)
  have h1 := h.left.2.2 hf
  rw [List.take_of_length_le (by have := hk hf; omega)] at h1
  rw [h1, hw, Con.size_eq]
  show L - 1 - (Con.sizes m : Int) = L - ((1 + Con.sizes m : Nat) : Int)
  omega
set_option maxRecDepth 100000 in
set_option maxHeartbeats 8000000 in
theorem rebuilt_node (N G k : Nat) (cap : Array Value) (F : Con → Int → Con) (w0 : World) (t : Con)
    (hIH : ∀ x ∈ t.l, ∀ (L d b : Int) (w : World) (v : Value), Only G w0 w → Blk w G 94 #[.int .i64 L] → ConV w (· < N) x v → 0 ≤ L → L ≤ 20000 → 0 ≤ b → b ≤ d → 1 ≤ d → d ≤ 401 → Calls Tryz.prog 50 #[.pointer (some ⟨G, 0, none⟩), v, .int .i64 b, .int .i64 d, .func (.func k) #[] cap] w (RebP N G (Con.reb F x b) L d w))
    (L d b : Int) (w : World) (v : Value) (hN : N ≤ G) (hw : Only G w0 w) (hG : Blk w G 94 #[.int .i64 L]) (ht : ConV w (· < N) t v) (ha : Con.nodeB t = true) (hlf : ¬ Con.leafy t b) (h0 : 0 ≤ L) (h1 : L ≤ 20000) (hb0 : 0 ≤ b) (hb1 : b ≤ d) (hd0 : 1 ≤ d) (hd1 : d ≤ 401) :
    Calls Tryz.prog 50 #[.pointer (some ⟨G, 0, none⟩), v, .int .i64 b, .int .i64 d, .func (.func k) #[] cap] w (RebP N G (Con.reb F t b) L d w) := by
  obtain ⟨hkv, hnl, hll⟩ := node_facts t ha
  have hgl := hG.lt
  have HGL := Lib.hid hgl
  have HNG := Lib.hid hN
  have HW0 := Lib.hid hw
  have HS := Lib.hid ((conV_iff _ _ _ _).1 ht).1
  have HP := Lib.hid (fun W (hW : Only G w W) => (show ∀ q, q < N → q < W.heap.size ∧ q ≠ G from fun q hq => ⟨Nat.lt_of_lt_of_le hq (Nat.le_trans (Nat.le_of_lt (Nat.lt_of_le_of_lt hN hgl)) hW.size), by omega⟩))
  have HT := Lib.hid (fun W (hW : Only G w W) => ht.keep (Same.of_only hW (HP.out w (Only.refl _ _))))
  have HNODE := Lib.hid (fun W (hW : Only G w W) (hg : Blk W G 94 #[.int .i64 L]) => node_any (· < N) G t L d W v (HP.out W hW) hg (HT.out W hW) hkv h0 (by omega) (by omega) (by omega))
  have HB := Lib.hid (fun W => cbinder_any t.op W)
  have HIH := Lib.hid hIH
  obtain ⟨m, hm⟩ : ∃ m, m = t.l.map (fun x => Con.reb F x (Con.deep t.op b)) := ⟨_, rfl⟩
  have HM := Lib.hid (show m.length = t.l.length from by rw [hm]; simp)
  have HMK := Lib.hid (show ∀ j x, t.l[j]? = some x → m[j]? = some (Con.reb F x (Con.deep t.op b)) from fun j x h => by rw [hm, List.getElem?_map, h]; rfl)
  have HWANT := Lib.hid (show Con.reb F t b = Con.inside t m from by rw [reb_node _ _ _ hlf, hm])
  have HDP := Lib.hid (show Con.deep t.op b = if Con.binder t.op = true then b + 1 else b from rfl)
  obtain ⟨want, hwant⟩ : ∃ x, x = Con.reb F t b := ⟨_, rfl⟩
  rw [← hwant] at HWANT ⊢
  obtain ⟨ka, kn, kc, na, nn, nc, la, ln, lc, rfl, hkn, hnn, hlen⟩ := ht.shape
  subst hkn hnn hlen
  have HSL := Lib.hid (fun W (hW : Only G w W) => (show ConSl W (· < N) (.slice la t.l.length lc) t.l from by
    obtain ⟨-, kv', nv', lv', e, hk, hn, hl⟩ := (conV_iff _ _ _ _).1 (HT.out W hW)
    simp only [Value.agg.injEq, Array.mk.injEq, List.cons.injEq, and_true, true_and] at e
    obtain ⟨rfl, rfl, rfl⟩ := e
    exact hl))
  obtain ⟨hbx, hbx2, hb⟩ := twoN_new w 28 28 #[.int .i64 t.op, .int .i64 t.n, .string t.s, .slice ka t.kind.l.length kc, .slice na t.names.length nc, .slice la t.l.length lc] #[.int .i64 0, .int .i64 0, .string ⟨#[]⟩, .slice none 0 0, .slice none 0 0, .slice none 0 0]
  have hsz2 : ((w.alloc (.cells #[.int .i64 t.op, .int .i64 t.n, .string t.s, .slice ka t.kind.l.length kc, .slice na t.names.length nc, .slice la t.l.length lc] 28)).alloc (.cells #[.int .i64 0, .int .i64 0, .string ⟨#[]⟩, .slice none 0 0, .slice none 0 0, .slice none 0 0] 28)).heap.size = w.heap.size + 2 := by simp
  have HG := Lib.hid (hG.of_eq (hb.block _ hG.lt))
  have HBX := Lib.hid hbx
  have HBX2 := Lib.hid hbx2
  have HO := Lib.hid (only_below (N := G) hb)
  have HSZ := Lib.hid hsz2
  have c0 := hbx.cell 0 (.int .i64 t.op) rfl
  have c1 := hbx.cell 1 (.int .i64 t.n) rfl
  have c2 := hbx.cell 2 (.string t.s) rfl
  have c3 := hbx.cell 3 (.slice ka t.kind.l.length kc) rfl
  have c4 := hbx.cell 4 (.slice na t.names.length nc) rfl
  have c5 := hbx.cell 5 (.slice la t.l.length lc) rfl
  have q1 : (t.op == 2) = false := by
    cases h : (t.op == 2)
    · rfl
    · exact absurd (.inl (by simpa using h)) hlf
  have hq : (t.op == 1) = false ∨ decide (b ≤ t.n) = false := by
    cases h : (t.op == 1)
    · exact .inl rfl
    · right
      have h1 : t.op = 1 := by simpa using h
      rw [decide_eq_false_iff_not]
      exact fun h2 => hlf (.inr ⟨h1, h2⟩)
  have w1 : wrap64 (b + 1) = b + 1 := by rw [wrap64]; omega
  have w2 : wrap64 (d + 1) = d + 1 := by rw [wrap64]; omega
  have w4' : IntKind.i64.wrap (d + 1) = d + 1 := by rw [IntKind.wrap_i64]; omega
  clear hbx hbx2 hb hG ht hw hsz2 hgl ha hlf hm hwant hIH hkv hN hnl
  generalize hln : t.l.length = ln at *
  have HLN := Lib.hid hln
  clear hln
  go_enter Tryz.func50, Tryz.ntmps50
  rcases hq with q2 | q3
  rotate_left
  cases q2 : (t.op == 1)
  all_goals
    go_wp2_with fail
    clear c0 c1 c2 c3 c4 c5
    try clear q3
    clear q1 q2
    generalize ((w.alloc (.cells #[.int .i64 t.op, .int .i64 t.n, .string t.s, .slice ka t.kind.l.length kc, .slice na t.names.length nc, .slice la ln lc] 28)).alloc (.cells #[.int .i64 0, .int .i64 0, .string ⟨#[]⟩, .slice none 0 0, .slice none 0 0, .slice none 0 0] 28)) = wa at *
    refine (HNODE.out _ HO.out HG.out).mono ?_
    rintro e w3 ⟨ho3, ⟨hok, rfl, hg3⟩ | ⟨hok, Bn, ka2, kc2, na2, nc2, qa, qc, he, hg3, hB1, hB2, hkid, hnms, hfr⟩⟩
    · have HF := Lib.hid (show fitB want L d = false from by rw [HWANT.out]; exact fit_node_false t L d m hok)
      have hx4 := (ho3.blk HBX.out (show w.heap.size ≠ G from by have := HGL.out; omega)).alloc (.cells #[.int .i64 0, .int .i64 0, .string ⟨#[]⟩, .slice none 0 0, .slice none 0 0, .slice none 0 0] 28)
      have HBY4 := Lib.hid ((ho3.blk HBX2.out (show w.heap.size + 1 ≠ G from by have := HGL.out; omega)).alloc (.cells #[.int .i64 0, .int .i64 0, .string ⟨#[]⟩, .slice none 0 0, .slice none 0 0, .slice none 0 0] 28))
      have HO4 := Lib.hid ((HO.out.trans ho3).alloc (.cells #[.int .i64 0, .int .i64 0, .string ⟨#[]⟩, .slice none 0 0, .slice none 0 0, .slice none 0 0] 28))
      have HG4 := Lib.hid (hg3.alloc (.cells #[.int .i64 0, .int .i64 0, .string ⟨#[]⟩, .slice none 0 0, .slice none 0 0, .slice none 0 0] 28))
      have HRB := Lib.hid (blk_new w3 #[.int .i64 0, .int .i64 0, .string ⟨#[]⟩, .slice none 0 0, .slice none 0 0, .slice none 0 0] 28)
      have c0 := hx4.cell 0 (.int .i64 t.op) rfl
      clear hx4 hok hg3 ho3 HBX HBX2 HO HG HSZ HNODE HT HSL HIH HMK
      unfold zeroV
      go_wp2_with fail
      clear c0
      generalize (w3.alloc (.cells #[.int .i64 0, .int .i64 0, .string ⟨#[]⟩, .slice none 0 0, .slice none 0 0, .slice none 0 0] 28)) = w4 at *
      refine (HB.out _).mono ?_
      rintro e w' ⟨rfl, rfl⟩
      cases hbn : Con.binder t.op
      all_goals
        go_wp2_with fail
        go_loopg [13, 14] 1 (fun g okv iv wr => g = 1 ∧ okv = .bool false ∧ w4 = wr)
        case atStart => exact ⟨rfl, rfl, rfl⟩
        case round =>
          obtain ⟨rfl, rfl, rfl⟩ := hrel
          have p0 := HRB.out.cell 0 (.int .i64 0) rfl
          have p1 := HRB.out.cell 1 (.int .i64 0) rfl
          have p2 := HRB.out.cell 2 (.string ⟨#[]⟩) rfl
          have p3 := HRB.out.cell 3 (.slice none 0 0) rfl
          have p4 := HRB.out.cell 4 (.slice none 0 0) rfl
          have p5 := HRB.out.cell 5 (.slice none 0 0) rfl
          have r0 := HBY4.out.cell 0 (.int .i64 0) rfl
          have r1 := HBY4.out.cell 1 (.int .i64 0) rfl
          have r2 := HBY4.out.cell 2 (.string ⟨#[]⟩) rfl
          have r3 := HBY4.out.cell 3 (.slice none 0 0) rfl
          have r4 := HBY4.out.cell 4 (.slice none 0 0) rfl
          have r5 := HBY4.out.cell 5 (.slice none 0 0) rfl
          have t0 := HBY4.out.thaw 0
          have t1 := HBY4.out.thaw 1
          have t2 := HBY4.out.thaw 2
          have t3 := HBY4.out.thaw 3
          have t4 := HBY4.out.thaw 4
          have t5 := HBY4.out.thaw 5
          have hz := store6_blk HBY4.out 0 (.int .i64 0) (.int .i64 0) (.string ⟨#[]⟩) (.slice none 0 0) (.slice none 0 0) (.slice none 0 0)
          rw [put6_all] at hz
          have HE := Lib.hid (show RebP N G want L d w (.returned (.tuple #[.agg #[.int .i64 0, .int .i64 0, .string ⟨#[]⟩, .slice none 0 0, .slice none 0 0, .slice none 0 0], .bool false])) (store6 w4 (w.heap.size + 1) 0 (.int .i64 0) (.int .i64 0) (.string ⟨#[]⟩) (.slice none 0 0) (.slice none 0 0) (.slice none 0 0)) from ⟨store6_only HO4.out _ _ _ _ _ _ _ _ (.inr (Nat.le_succ _)), _, Con.none0, L, by (first | (rw [HF.out]; done) | (rw [HF.out]; rfl)), conV_none _ _, HG4.out.of_eq (store6_other _ _ _ _ _ _ _ _ _ G (by have := HGL.out; omega)), h0, Int.le_refl _, fun h => by rw [HF.out] at h; cases h⟩)
          unfold store6 at hz HE
          simp only [Nat.zero_add] at hz HE
          have z0 := hz.cell 0 (.int .i64 0) rfl
          have z1 := hz.cell 1 (.int .i64 0) rfl
          have z2 := hz.cell 2 (.string ⟨#[]⟩) rfl
          have z3 := hz.cell 3 (.slice none 0 0) rfl
          have z4 := hz.cell 4 (.slice none 0 0) rfl
          have z5 := hz.cell 5 (.slice none 0 0) rfl
          clear hz
          go_wp2
          refine bodyPost_ret (v := .tuple #[.agg #[.int .i64 0, .int .i64 0, .string ⟨#[]⟩, .slice none 0 0, .slice none 0 0, .slice none 0 0], .bool false]) (by simp [results, Tryz.results50, go_sem, z0, z1, z2, z3, z4, z5]) rfl ?_
          exact HE.out
    · rw [HLN.out] at he
      subst he
      obtain ⟨hL1, hd4⟩ := nodeOk_iff t L d hok
      have HOK := Lib.hid hok
      have hsz := HSZ.out
      have hss := ho3.size
      have hgl := HGL.out
      have HCR := Lib.hid (show CR N G Bn w3.heap.size t m L d #[.int .i64 t.op, .int .i64 t.n, .string t.s, .slice ka t.kind.l.length kc, .slice na t.names.length nc, .slice la ln lc] ka2 kc2 na2 nc2 qa qc w (w3.alloc (.cells #[.int .i64 t.op, .int .i64 t.n, .string t.s, .slice ka2 t.kind.l.length kc2, .slice na2 t.names.length nc2, .slice qa ln qc] 28)) 0 true (L - 1) from by
        obtain ⟨a', c', e, f1, f2, f3, f4⟩ := hfr
        injection e with e1 e2 e3
        clear e2
        subst e1 e3
        have hw4 : ∀ q, q < w3.heap.size → (w3.alloc (.cells #[.int .i64 t.op, .int .i64 t.n, .string t.s, .slice ka2 t.kind.l.length kc2, .slice na2 t.names.length nc2, .slice qa ln qc] 28)).heap[q]? = w3.heap[q]? := fun q hq => Below.heap_alloc w3 _ q hq
        refine ⟨(HO.out.trans ho3).alloc _, hg3.alloc _, (ho3.blk HBX.out (show w.heap.size ≠ G from by omega)).alloc _, (ho3.blk HBX2.out (show w.heap.size + 1 ≠ G from by omega)).alloc _, by rw [HLN.out]; exact blk_new w3 _ _, ⟨by omega, hB2⟩, ?_, ?_, ⟨f1, f2, f3⟩, ?_, ?_, ?_, ?_⟩
        · exact (hkid.keep (fun q hq => hw4 q (by have := hq.2; omega))).mono (fun q hq => ⟨by have := hq.1; omega, hq.2⟩)
        · exact (hnms.keep (fun q hq => hw4 q (by have := hq.2; omega))).mono (fun q hq => ⟨by have := hq.1; omega, hq.2⟩)
        · rcases f4 with f4 | ⟨g, cur, rfl, f5, f6, f7, f8⟩
          · exact .inl f4
          · refine .inr ⟨g, cur, rfl, f5, f6.lt, f6.alloc _, f7, fun j hj h => absurd h (Nat.not_lt_zero _), fun j hj _ => ?_⟩
            obtain ⟨x, hx, hv⟩ := f8 j hj
            exact ⟨x, hx, hv.keep (fun q hq => hw4 q (by have : q < N := hq; have := HNG.out; omega))⟩
        · rw [List.take_zero, fitsB_nil, decide_eq_true (by omega : 0 ≤ L - 1), decide_eq_true (by omega : d + 1 ≤ 401)]; rfl
        · exact ⟨by omega, by omega, fun _ => by rw [List.take_zero, Con.sizes_nil]; simp⟩
        · intro _
          rcases f4 with f4 | ⟨g, cur, e9, f5, f6, f7, f8⟩
          · have h3 : t.l.length = 0 := by rw [f4]; rfl
            exact .inl (List.eq_nil_of_length_eq_zero (by have h1 := HM.out; have h2 := HLN.out; omega))
          · exact .inr ⟨g, cur, fun _ _ => False, e9, f6.alloc _, by have h1 := HM.out; have h2 := HLN.out; omega, fun _ _ h => h.elim, fun _ _ _ _ h => h.elim, fun j hj h => absurd h (Nat.not_lt_zero _)⟩)
      have c0 := HCR.out.box.cell 0 (.int .i64 t.op) rfl
      clear hok hg3 ho3 HBX HBX2 HO HG HSZ HNODE hkid hnms hfr hsz hss hgl hB1 hB2
      go_wp2_with fail
      clear c0
      generalize (w3.alloc (.cells #[.int .i64 t.op, .int .i64 t.n, .string t.s, .slice ka2 t.kind.l.length kc2, .slice na2 t.names.length nc2, .slice qa ln qc] 28)) = w4 at *
      refine (HB.out _).mono ?_
      rintro e w' ⟨rfl, rfl⟩
      cases hbn : Con.binder t.op
      · skip
        have HDB := Lib.hid (show Con.deep t.op b = b from by rw [HDP.out, hbn]; rfl)
        clear hbn
        go_wp2_with fail
        go_loopg [13, 14] (ln + 1) (fun g okv iv wr => ∃ (kk : Nat) (ok : Bool) (c : Int), kk ≤ ln ∧ okv = .bool ok ∧ iv = .int .i64 kk ∧ g = ln + 1 - kk ∧ CR N G Bn w3.heap.size t m L d #[.int .i64 t.op, .int .i64 t.n, .string t.s, .slice ka t.kind.l.length kc, .slice na t.names.length nc, .slice la ln lc] ka2 kc2 na2 nc2 qa qc w wr kk ok c)
        case atStart => exact ⟨0, true, L - 1, Nat.zero_le _, rfl, rfl, by omega, HCR.out⟩
        case round =>
          obtain ⟨kk, ok, c, hkk, rfl, rfl, hg, hcr⟩ := hrel
          have HCK := Lib.hid hcr
          have hrb := hcr.rbx
          rw [HLN.out] at hrb
          have r5 := hrb.cell 5 (.slice qa ln qc) rfl
          cases ok
          · have hres := hcr.res
            have p0 := hrb.cell 0 (.int .i64 t.op) rfl
            have p1 := hrb.cell 1 (.int .i64 t.n) rfl
            have p2 := hrb.cell 2 (.string t.s) rfl
            have p3 := hrb.cell 3 (.slice ka2 t.kind.l.length kc2) rfl
            have p4 := hrb.cell 4 (.slice na2 t.names.length nc2) rfl
            have p5 := hrb.cell 5 (.slice qa ln qc) rfl
            have s0 := hres.cell 0 (.int .i64 0) rfl
            have s1 := hres.cell 1 (.int .i64 0) rfl
            have s2 := hres.cell 2 (.string ⟨#[]⟩) rfl
            have s3 := hres.cell 3 (.slice none 0 0) rfl
            have s4 := hres.cell 4 (.slice none 0 0) rfl
            have s5 := hres.cell 5 (.slice none 0 0) rfl
            have t0 := hres.thaw 0
            have t1 := hres.thaw 1
            have t2 := hres.thaw 2
            have t3 := hres.thaw 3
            have t4 := hres.thaw 4
            have t5 := hres.thaw 5
            obtain ⟨-, hend⟩ := CR.end hcr HNG.out HGL.out HS.out (by rw [HLN.out]; exact HM.out) (fun h => by cases h) HOK.out HWANT.out
            rw [HLN.out] at hend
            have hz := store6_blk hres 0 (.int .i64 t.op) (.int .i64 t.n) (.string t.s) (.slice ka2 t.kind.l.length kc2) (.slice na2 t.names.length nc2) (.slice qa ln qc)
            rw [put6_all] at hz
            have HE := Lib.hid hend
            unfold store6 at hz HE
            simp only [Nat.zero_add] at hz HE
            have z0 := hz.cell 0 (.int .i64 t.op) rfl
            have z1 := hz.cell 1 (.int .i64 t.n) rfl
            have z2 := hz.cell 2 (.string t.s) rfl
            have z3 := hz.cell 3 (.slice ka2 t.kind.l.length kc2) rfl
            have z4 := hz.cell 4 (.slice na2 t.names.length nc2) rfl
            have z5 := hz.cell 5 (.slice qa ln qc) rfl
            clear hz hend hres hrb hcr HCK r5
            go_wp2
            refine bodyPost_ret (v := .tuple #[.agg #[.int .i64 t.op, .int .i64 t.n, .string t.s, .slice ka2 t.kind.l.length kc2, .slice na2 t.names.length nc2, .slice qa ln qc], .bool false]) (by simp [results, Tryz.results50, go_sem, z0, z1, z2, z3, z4, z5]) rfl ?_
            exact HE.out
          by_cases hlt : kk < ln
          rotate_left
          · have q5 : decide ((kk : Int) < (ln : Int)) = false := decide_eq_false (by omega)
            have hres := hcr.res
            have p0 := hrb.cell 0 (.int .i64 t.op) rfl
            have p1 := hrb.cell 1 (.int .i64 t.n) rfl
            have p2 := hrb.cell 2 (.string t.s) rfl
            have p3 := hrb.cell 3 (.slice ka2 t.kind.l.length kc2) rfl
            have p4 := hrb.cell 4 (.slice na2 t.names.length nc2) rfl
            have p5 := hrb.cell 5 (.slice qa ln qc) rfl
            have s0 := hres.cell 0 (.int .i64 0) rfl
            have s1 := hres.cell 1 (.int .i64 0) rfl
            have s2 := hres.cell 2 (.string ⟨#[]⟩) rfl
            have s3 := hres.cell 3 (.slice none 0 0) rfl
            have s4 := hres.cell 4 (.slice none 0 0) rfl
            have s5 := hres.cell 5 (.slice none 0 0) rfl
            have t0 := hres.thaw 0
            have t1 := hres.thaw 1
            have t2 := hres.thaw 2
            have t3 := hres.thaw 3
            have t4 := hres.thaw 4
            have t5 := hres.thaw 5
            obtain ⟨-, hend⟩ := CR.end hcr HNG.out HGL.out HS.out (by rw [HLN.out]; exact HM.out) (fun _ => by rw [HLN.out]; omega) HOK.out HWANT.out
            rw [HLN.out] at hend
            have hz := store6_blk hres 0 (.int .i64 t.op) (.int .i64 t.n) (.string t.s) (.slice ka2 t.kind.l.length kc2) (.slice na2 t.names.length nc2) (.slice qa ln qc)
            rw [put6_all] at hz
            have HE := Lib.hid hend
            unfold store6 at hz HE
            simp only [Nat.zero_add] at hz HE
            have z0 := hz.cell 0 (.int .i64 t.op) rfl
            have z1 := hz.cell 1 (.int .i64 t.n) rfl
            have z2 := hz.cell 2 (.string t.s) rfl
            have z3 := hz.cell 3 (.slice ka2 t.kind.l.length kc2) rfl
            have z4 := hz.cell 4 (.slice na2 t.names.length nc2) rfl
            have z5 := hz.cell 5 (.slice qa ln qc) rfl
            clear hz hend hres hrb hcr HCK r5
            go_wp2
            refine bodyPost_ret (v := .tuple #[.agg #[.int .i64 t.op, .int .i64 t.n, .string t.s, .slice ka2 t.kind.l.length kc2, .slice na2 t.names.length nc2, .slice qa ln qc], .bool true]) (by simp [results, Tryz.results50, go_sem, z0, z1, z2, z3, z4, z5]) rfl ?_
            exact HE.out
          · have q5 : decide ((kk : Int) < (ln : Int)) = true := decide_eq_true (by omega)
            have hkl : kk < t.l.length := by rw [HLN.out]; exact hlt
            obtain ⟨bb, off, c', xa, xn, xc, ya, yn, yc, za, zn, zc, e, hPb, f0, f1, f2, f3, f4, f5, hx⟩ := (HSL.out wr hcr.only).part kk hkl
            injection e with e1 e2 e3
            clear e2
            subst e1 e3
            rcases hcr.row with hr | ⟨g, cur, rfl, hgb, hgr, hblk, hcs, hdone, htodo⟩
            · rw [hr] at hkl; simp at hkl
            obtain ⟨x, ⟨y0, y1, y2, y3, y4, y5, rfl, k0, k1, k2, k3, k4, k5⟩, hvx⟩ := htodo kk hkl (Nat.le_refl _)
            have hmk := HMK.out kk t.l[kk] (List.getElem?_eq_getElem hkl)
            rw [HDB.out] at hmk
            have hbig := hcr.big
            have hgl := HGL.out
            have e0 := hblk.cell _ _ k0
            have e1 := hblk.cell _ _ k1
            have e2 := hblk.cell _ _ k2
            have e3 := hblk.cell _ _ k3
            have e4 := hblk.cell _ _ k4
            have e5 := hblk.cell _ _ k5
            have g0 := hblk.thaw (kk * 6)
            have g1 := hblk.thaw (kk * 6 + 1)
            have g2 := hblk.thaw (kk * 6 + 2)
            have g3 := hblk.thaw (kk * 6 + 3)
            have g4 := hblk.thaw (kk * 6 + 4)
            have g5 := hblk.thaw (kk * 6 + 5)
            have v5 := hcr.box.cell 5 (.slice (some ⟨bb, off, none⟩) ln lc) rfl
            have HI := Lib.hid (HIH.out t.l[kk] (List.getElem_mem hkl) c (d + 1) (b) wr.drew _ (HW0.out.trans hcr.only.drew) hcr.bld (hx.keep (w' := wr.drew) (show Same (· < N) wr wr.drew from fun _ _ => rfl)) hcr.left.1 (by have := hcr.left.2.1; omega) (by omega) (by omega) (by omega) (by omega))
            have HROW := Lib.hid hblk
            have HRBX := Lib.hid hrb
            have HMKK := Lib.hid hmk
            have HKL := Lib.hid hkl
            have HKS := Lib.hid (And.intro k0 (And.intro k1 (And.intro k2 (And.intro k3 (And.intro k4 k5)))))
            have hn1 : w3.heap.size ≠ G := by omega
            have hn2 : g ≠ G := by omega
            have HN1 := Lib.hid hn1
            have HN2 := Lib.hid hn2
            generalize Con.reb F t.l[kk] (b) = z at *
            generalize t.l[kk].op = po at *
            generalize t.l[kk].n = pn at *
            generalize t.l[kk].s = ps at *
            clear hdone htodo hcr hblk hrb hmk hkl hx hvx k0 k1 k2 k3 k4 k5 hbig hgl hPb hcs hgb hgr hn1 hn2
            go_wp2
            go_region_law (go_simp; go_at_call 50; refine HI.out.mono ?_; rintro e w5 ⟨ho5, yv, u, c2, rfl, hy, hg5, hc0, hc1, hfit⟩; obtain ⟨ua, un, uc, va, vn, vc, ta, tn, tc, rfl, -, -, -⟩ := hy.shape; have HO5 := Lib.hid ((Only.refl G wr).drew.trans ho5); have HV5 := Lib.hid hy; have HG5 := Lib.hid hg5; have HF5 := Lib.hid hfit; have u5 := (HO5.out.blk HRBX.out HN1.out).cell 5 (.slice (some ⟨g, 0, none⟩) ln qc) rfl; have HR5 := Lib.hid (HO5.out.blk HROW.out HN2.out); have s0 := HR5.out.cell _ _ HKS.out.1; have s1 := HR5.out.cell _ _ HKS.out.2.1; have s2 := HR5.out.cell _ _ HKS.out.2.2.1; have s3 := HR5.out.cell _ _ HKS.out.2.2.2.1; have s4 := HR5.out.cell _ _ HKS.out.2.2.2.2.1; have s5 := HR5.out.cell _ _ HKS.out.2.2.2.2.2; have t0 := HR5.out.thaw (kk * 6); have t1 := HR5.out.thaw (kk * 6 + 1); have t2 := HR5.out.thaw (kk * 6 + 2); have t3 := HR5.out.thaw (kk * 6 + 3); have t4 := HR5.out.thaw (kk * 6 + 4); have t5 := HR5.out.thaw (kk * 6 + 5); clear hy hg5 hfit ho5)
            all_goals
              have HNX := Lib.hid (CR.push HCK.out HNG.out HGL.out HKL.out HMKK.out HO5.out HV5.out HG5.out hc0 hc1 HF5.out)
              unfold store6 at HNX
              go_wp2
              go_roundg (gk - 1)
              case measure => omega
              case rel => exact ⟨kk + 1, _, _, by omega, rfl, by go_num, by omega, HNX.out⟩
      · skip
        have HDB := Lib.hid (show Con.deep t.op b = b + 1 from by rw [HDP.out, hbn]; rfl)
        clear hbn
        go_wp2_with fail
        go_loopg [13, 14] (ln + 1) (fun g okv iv wr => ∃ (kk : Nat) (ok : Bool) (c : Int), kk ≤ ln ∧ okv = .bool ok ∧ iv = .int .i64 kk ∧ g = ln + 1 - kk ∧ CR N G Bn w3.heap.size t m L d #[.int .i64 t.op, .int .i64 t.n, .string t.s, .slice ka t.kind.l.length kc, .slice na t.names.length nc, .slice la ln lc] ka2 kc2 na2 nc2 qa qc w wr kk ok c)
        case atStart => exact ⟨0, true, L - 1, Nat.zero_le _, rfl, rfl, by omega, HCR.out⟩
        case round =>
          obtain ⟨kk, ok, c, hkk, rfl, rfl, hg, hcr⟩ := hrel
          have HCK := Lib.hid hcr
          have hrb := hcr.rbx
          rw [HLN.out] at hrb
          have r5 := hrb.cell 5 (.slice qa ln qc) rfl
          cases ok
          · have hres := hcr.res
            have p0 := hrb.cell 0 (.int .i64 t.op) rfl
            have p1 := hrb.cell 1 (.int .i64 t.n) rfl
            have p2 := hrb.cell 2 (.string t.s) rfl
            have p3 := hrb.cell 3 (.slice ka2 t.kind.l.length kc2) rfl
            have p4 := hrb.cell 4 (.slice na2 t.names.length nc2) rfl
            have p5 := hrb.cell 5 (.slice qa ln qc) rfl
            have s0 := hres.cell 0 (.int .i64 0) rfl
            have s1 := hres.cell 1 (.int .i64 0) rfl
            have s2 := hres.cell 2 (.string ⟨#[]⟩) rfl
            have s3 := hres.cell 3 (.slice none 0 0) rfl
            have s4 := hres.cell 4 (.slice none 0 0) rfl
            have s5 := hres.cell 5 (.slice none 0 0) rfl
            have t0 := hres.thaw 0
            have t1 := hres.thaw 1
            have t2 := hres.thaw 2
            have t3 := hres.thaw 3
            have t4 := hres.thaw 4
            have t5 := hres.thaw 5
            obtain ⟨-, hend⟩ := CR.end hcr HNG.out HGL.out HS.out (by rw [HLN.out]; exact HM.out) (fun h => by cases h) HOK.out HWANT.out
            rw [HLN.out] at hend
            have hz := store6_blk hres 0 (.int .i64 t.op) (.int .i64 t.n) (.string t.s) (.slice ka2 t.kind.l.length kc2) (.slice na2 t.names.length nc2) (.slice qa ln qc)
            rw [put6_all] at hz
            have HE := Lib.hid hend
            unfold store6 at hz HE
            simp only [Nat.zero_add] at hz HE
            have z0 := hz.cell 0 (.int .i64 t.op) rfl
            have z1 := hz.cell 1 (.int .i64 t.n) rfl
            have z2 := hz.cell 2 (.string t.s) rfl
            have z3 := hz.cell 3 (.slice ka2 t.kind.l.length kc2) rfl
            have z4 := hz.cell 4 (.slice na2 t.names.length nc2) rfl
            have z5 := hz.cell 5 (.slice qa ln qc) rfl
            clear hz hend hres hrb hcr HCK r5
            go_wp2
            refine bodyPost_ret (v := .tuple #[.agg #[.int .i64 t.op, .int .i64 t.n, .string t.s, .slice ka2 t.kind.l.length kc2, .slice na2 t.names.length nc2, .slice qa ln qc], .bool false]) (by simp [results, Tryz.results50, go_sem, z0, z1, z2, z3, z4, z5]) rfl ?_
            exact HE.out
          by_cases hlt : kk < ln
          rotate_left
          · have q5 : decide ((kk : Int) < (ln : Int)) = false := decide_eq_false (by omega)
            have hres := hcr.res
            have p0 := hrb.cell 0 (.int .i64 t.op) rfl
            have p1 := hrb.cell 1 (.int .i64 t.n) rfl
            have p2 := hrb.cell 2 (.string t.s) rfl
            have p3 := hrb.cell 3 (.slice ka2 t.kind.l.length kc2) rfl
            have p4 := hrb.cell 4 (.slice na2 t.names.length nc2) rfl
            have p5 := hrb.cell 5 (.slice qa ln qc) rfl
            have s0 := hres.cell 0 (.int .i64 0) rfl
            have s1 := hres.cell 1 (.int .i64 0) rfl
            have s2 := hres.cell 2 (.string ⟨#[]⟩) rfl
            have s3 := hres.cell 3 (.slice none 0 0) rfl
            have s4 := hres.cell 4 (.slice none 0 0) rfl
            have s5 := hres.cell 5 (.slice none 0 0) rfl
            have t0 := hres.thaw 0
            have t1 := hres.thaw 1
            have t2 := hres.thaw 2
            have t3 := hres.thaw 3
            have t4 := hres.thaw 4
            have t5 := hres.thaw 5
            obtain ⟨-, hend⟩ := CR.end hcr HNG.out HGL.out HS.out (by rw [HLN.out]; exact HM.out) (fun _ => by rw [HLN.out]; omega) HOK.out HWANT.out
            rw [HLN.out] at hend
            have hz := store6_blk hres 0 (.int .i64 t.op) (.int .i64 t.n) (.string t.s) (.slice ka2 t.kind.l.length kc2) (.slice na2 t.names.length nc2) (.slice qa ln qc)
            rw [put6_all] at hz
            have HE := Lib.hid hend
            unfold store6 at hz HE
            simp only [Nat.zero_add] at hz HE
            have z0 := hz.cell 0 (.int .i64 t.op) rfl
            have z1 := hz.cell 1 (.int .i64 t.n) rfl
            have z2 := hz.cell 2 (.string t.s) rfl
            have z3 := hz.cell 3 (.slice ka2 t.kind.l.length kc2) rfl
            have z4 := hz.cell 4 (.slice na2 t.names.length nc2) rfl
            have z5 := hz.cell 5 (.slice qa ln qc) rfl
            clear hz hend hres hrb hcr HCK r5
            go_wp2
            refine bodyPost_ret (v := .tuple #[.agg #[.int .i64 t.op, .int .i64 t.n, .string t.s, .slice ka2 t.kind.l.length kc2, .slice na2 t.names.length nc2, .slice qa ln qc], .bool true]) (by simp [results, Tryz.results50, go_sem, z0, z1, z2, z3, z4, z5]) rfl ?_
            exact HE.out
          · have q5 : decide ((kk : Int) < (ln : Int)) = true := decide_eq_true (by omega)
            have hkl : kk < t.l.length := by rw [HLN.out]; exact hlt
            obtain ⟨bb, off, c', xa, xn, xc, ya, yn, yc, za, zn, zc, e, hPb, f0, f1, f2, f3, f4, f5, hx⟩ := (HSL.out wr hcr.only).part kk hkl
            injection e with e1 e2 e3
            clear e2
            subst e1 e3
            rcases hcr.row with hr | ⟨g, cur, rfl, hgb, hgr, hblk, hcs, hdone, htodo⟩
            · rw [hr] at hkl; simp at hkl
            obtain ⟨x, ⟨y0, y1, y2, y3, y4, y5, rfl, k0, k1, k2, k3, k4, k5⟩, hvx⟩ := htodo kk hkl (Nat.le_refl _)
            have hmk := HMK.out kk t.l[kk] (List.getElem?_eq_getElem hkl)
            rw [HDB.out] at hmk
            have hbig := hcr.big
            have hgl := HGL.out
            have e0 := hblk.cell _ _ k0
            have e1 := hblk.cell _ _ k1
            have e2 := hblk.cell _ _ k2
            have e3 := hblk.cell _ _ k3
            have e4 := hblk.cell _ _ k4
            have e5 := hblk.cell _ _ k5
            have g0 := hblk.thaw (kk * 6)
            have g1 := hblk.thaw (kk * 6 + 1)
            have g2 := hblk.thaw (kk * 6 + 2)
            have g3 := hblk.thaw (kk * 6 + 3)
            have g4 := hblk.thaw (kk * 6 + 4)
            have g5 := hblk.thaw (kk * 6 + 5)
            have v5 := hcr.box.cell 5 (.slice (some ⟨bb, off, none⟩) ln lc) rfl
            have HI := Lib.hid (HIH.out t.l[kk] (List.getElem_mem hkl) c (d + 1) (b + 1) wr.drew _ (HW0.out.trans hcr.only.drew) hcr.bld (hx.keep (w' := wr.drew) (show Same (· < N) wr wr.drew from fun _ _ => rfl)) hcr.left.1 (by have := hcr.left.2.1; omega) (by omega) (by omega) (by omega) (by omega))
            have HROW := Lib.hid hblk
            have HRBX := Lib.hid hrb
            have HMKK := Lib.hid hmk
            have HKL := Lib.hid hkl
            have HKS := Lib.hid (And.intro k0 (And.intro k1 (And.intro k2 (And.intro k3 (And.intro k4 k5)))))
            have hn1 : w3.heap.size ≠ G := by omega
            have hn2 : g ≠ G := by omega
            have HN1 := Lib.hid hn1
            have HN2 := Lib.hid hn2
            generalize Con.reb F t.l[kk] (b + 1) = z at *
            generalize t.l[kk].op = po at *
            generalize t.l[kk].n = pn at *
            generalize t.l[kk].s = ps at *
            clear hdone htodo hcr hblk hrb hmk hkl hx hvx k0 k1 k2 k3 k4 k5 hbig hgl hPb hcs hgb hgr hn1 hn2
            go_wp2
            go_region_law (go_simp; go_at_call 50; refine HI.out.mono ?_; rintro e w5 ⟨ho5, yv, u, c2, rfl, hy, hg5, hc0, hc1, hfit⟩; obtain ⟨ua, un, uc, va, vn, vc, ta, tn, tc, rfl, -, -, -⟩ := hy.shape; have HO5 := Lib.hid ((Only.refl G wr).drew.trans ho5); have HV5 := Lib.hid hy; have HG5 := Lib.hid hg5; have HF5 := Lib.hid hfit; have u5 := (HO5.out.blk HRBX.out HN1.out).cell 5 (.slice (some ⟨g, 0, none⟩) ln qc) rfl; have HR5 := Lib.hid (HO5.out.blk HROW.out HN2.out); have s0 := HR5.out.cell _ _ HKS.out.1; have s1 := HR5.out.cell _ _ HKS.out.2.1; have s2 := HR5.out.cell _ _ HKS.out.2.2.1; have s3 := HR5.out.cell _ _ HKS.out.2.2.2.1; have s4 := HR5.out.cell _ _ HKS.out.2.2.2.2.1; have s5 := HR5.out.cell _ _ HKS.out.2.2.2.2.2; have t0 := HR5.out.thaw (kk * 6); have t1 := HR5.out.thaw (kk * 6 + 1); have t2 := HR5.out.thaw (kk * 6 + 2); have t3 := HR5.out.thaw (kk * 6 + 3); have t4 := HR5.out.thaw (kk * 6 + 4); have t5 := HR5.out.thaw (kk * 6 + 5); clear hy hg5 hfit ho5)
            all_goals
              have HNX := Lib.hid (CR.push HCK.out HNG.out HGL.out HKL.out HMKK.out HO5.out HV5.out HG5.out hc0 hc1 HF5.out)
              unfold store6 at HNX
              go_wp2
              go_roundg (gk - 1)
              case measure => omega
              case rel => exact ⟨kk + 1, _, _, by omega, rfl, by go_num, by omega, HNX.out⟩
end Go.Proofs.YtmjiocpcenbndaaGreatDoor
namespace Go.Proofs.YtmjiocpcenbndaaGreatDoor
open Go Go.RowKit
open Pl (K Con)
set_option linter.unusedSimpArgs false
set_option linter.unusedVariables false

theorem rebuilt_any (N G k : Nat) (cap : Array Value) (F : Con → Int → Con) (w0 : World) (HC : ChangeOk N G k cap F w0) (hN : N ≤ G) (t : Con) : Con.allB t = true → ∀ (L d b : Int) (w : World) (v : Value), Only G w0 w → Blk w G 94 #[.int .i64 L] → ConV w (· < N) t v → 0 ≤ L → L ≤ 20000 → 0 ≤ b → b ≤ d → 1 ≤ d → d ≤ 401 →
    Calls Tryz.prog 50 #[.pointer (some ⟨G, 0, none⟩), v, .int .i64 b, .int .i64 d, .func (.func k) #[] cap] w (RebP N G (Con.reb F t b) L d w) := by
  induction t using Con.ind with
  | h t ih =>
  intro ha L d b w v hw hG ht h0 h1 hb0 hb1 hd0 hd1
  have ha' := ha
  rw [allB_eq, Bool.and_eq_true, List.all_eq_true] at ha'
  by_cases hlf : Con.leafy t b
  · rw [reb_leaf _ _ _ hlf]
    exact rebuilt_leaf N G k cap F w0 HC t L d b w v hN hw hG ht ha'.1 hlf h0 h1 hb0 hb1 hd0 hd1
  · exact rebuilt_node N G k cap F w0 t (fun x hx L d b w v hw hG hx2 h0 h1 hb0 hb1 hd0 hd1 => ih x hx (ha'.2 x hx) L d b w v hw hG hx2 h0 h1 hb0 hb1 hd0 hd1) L d b w v hN hw hG ht ha'.1 hlf h0 h1 hb0 hb1 hd0 hd1
theorem size_of_leaf (t : Con) (h : t.l = []) : t.size = 1 := by rw [Con.size_eq, h, Con.sizes_nil]
/-- node makes a leaf -/
theorem node_leaf (N G : Nat) (t : Con) (L d : Int) (w : World) (v : Value) (hN : N ≤ G) (hG : Blk w G 94 #[.int .i64 L]) (ht : ConV w (· < N) t v) (hk : K.valid t.kind = true) (hl : t.l = []) (hn : t.names.length ≤ 1000) (h0 : 0 ≤ L) (h1 : L ≤ 20000) :
    Calls Tryz.prog 51 #[.pointer (some ⟨G, 0, none⟩), v, .int .i64 d] w (RebP N G t L d w) := by
  have hgl := hG.lt
  refine (node_any (· < N) G t L d w v (fun q hq => ⟨by have : q < N := hq; omega, by have : q < N := hq; omega⟩) hG ht hk h0 (by omega) (by omega) (by rw [hl]; simp)).mono ?_
  have hs := ((conV_iff _ _ _ _).1 ht).1
  have hfit : fitB t L d = nodeOk t L d := by
    rw [fitB_node, hl, fitsB_nil]
    unfold nodeOk
    rw [Bool.eq_iff_iff]
    simp only [Bool.and_eq_true, decide_eq_true_eq]
    constructor
    · rintro ⟨h, -⟩; exact h
    · rintro ⟨h2, h3, h4⟩; exact ⟨⟨h2, h3, h4⟩, by omega, by omega⟩
  rintro e w' ⟨ho, ⟨hok, rfl, hg⟩ | ⟨hok, Bn, ka, kc, na, nc, la, lc, rfl, hg, hB1, hB2, hkid, hnms, hfr⟩⟩
  · refine ⟨ho, zeroV, Con.none0, L, by rw [hfit, hok], conV_none _ _, hg, h0, Int.le_refl _, fun h => ?_⟩
    rw [hfit, hok] at h; cases h
  · have hLd := hok
    unfold nodeOk at hLd
    simp only [Bool.and_eq_true, decide_eq_true_eq] at hLd
    have hcon : ConV w' (fun q => w.heap.size ≤ q ∧ q < w'.heap.size) t (.agg #[.int .i64 t.op, .int .i64 t.n, .string t.s, .slice ka t.kind.l.length kc, .slice na t.names.length nc, .slice la t.l.length lc]) := (conV_iff _ _ _ _).2 ⟨hs, _, _, _, rfl, hkid.mono (fun q hq => ⟨by have := hq.1; omega, by have := hq.2; omega⟩), hnms.mono (fun q hq => ⟨by have := hq.1; omega, by have := hq.2; omega⟩), (by
      have hc : ConSl w' (fun _ => True) _ t.l := hfr.cons (fun _ _ => trivial) (fun _ _ _ => trivial)
      obtain ⟨a, c, e1, e2, e3, e4, -⟩ := hc
      exact ⟨a, c, e1, e2, e3, e4, .inl hl⟩)⟩
    exact ⟨ho, _, t, L - 1, by rw [hfit, hok], hcon.mono (fun q hq => .inr hq), hg, by omega, by omega, fun _ => ⟨rfl, by rw [size_of_leaf t hl]; rfl, ownC_leaf hcon hl⟩⟩
/-- the boxes of a shift -/
structure ShiftBoxes (w : World) (g1 g2 g3 G : Nat) (by' from' : Int) : Prop where
  frm : Blk w g1 3 #[.int .i64 from']
  bys : Blk w g2 3 #[.int .i64 by']
  bld : Blk w g3 69 #[.pointer (some ⟨G, 0, none⟩)]
set_option maxRecDepth 100000 in
set_option maxHeartbeats 2000000 in
theorem shiftF_any (N G g1 g2 g3 : Nat) (b1 f1 : Int) (t : Con) (b d L : Int) (w : World) (v : Value) (hN : N ≤ G) (hs : ShiftBoxes w g1 g2 g3 G b1 f1) (hG : Blk w G 94 #[.int .i64 L]) (ht : ConV w (· < N) t v) (ha : Con.nodeB t = true) (hlf : Con.leafy t b) (hb1 : -1000000 ≤ b1 ∧ b1 ≤ 1000000) (hf1 : -9223372036854775808 ≤ f1 ∧ f1 ≤ 9223372036854775807) (h0 : 0 ≤ L) (h1 : L ≤ 20000) (hb0 : 0 ≤ b) (hbd : b ≤ 1000000) (hd : d ≤ 401) :
    Calls Tryz.prog 64 #[v, .int .i64 b, .int .i64 d, .pointer (some ⟨g1, 0, none⟩), .pointer (some ⟨g2, 0, none⟩), .pointer (some ⟨g3, 0, none⟩)] w (RebP N G (shF b1 f1 t b) L d w) := by
  obtain ⟨hkv, hnl, hll⟩ := node_facts t ha
  have hnn := nodeB_n t ha
  have hgl := hG.lt
  have hl0 : t.l = [] := leaf_none t ha (by rcases hlf with h | h; exact .inr h; exact .inl h.1)
  have htt := (conV_iff _ _ _ _).1 ht
  obtain ⟨ka, kn, kc, na, nn, nc, la, ln, lc, rfl, -, -, -⟩ := ht.shape
  have HPRT := Lib.hid (show t.s.size ≤ maxLen ∧ KidV w (· < N) t.kind (.slice ka kn kc) ∧ StrSl w (· < N) (.slice na nn nc) t.names ∧ ConSl w (· < N) (.slice la ln lc) t.l from by
    obtain ⟨hs, kv', nv', lv', e, hk, hn, hl⟩ := htt
    simp only [Value.agg.injEq, Array.mk.injEq, List.cons.injEq, and_true, true_and] at e
    obtain ⟨rfl, rfl, rfl⟩ := e
    exact ⟨hs, hk, hn, hl⟩)
  clear htt
  obtain ⟨hbx, hbx2, hb⟩ := twoN_new w 28 28 #[.int .i64 t.op, .int .i64 t.n, .string t.s, .slice ka kn kc, .slice na nn nc, .slice la ln lc] #[.int .i64 0, .int .i64 0, .string ⟨#[]⟩, .slice none 0 0, .slice none 0 0, .slice none 0 0]
  have HGL := Lib.hid hgl
  have hsb := (⟨hs.frm.of_eq (hb.block _ hs.frm.lt), hs.bys.of_eq (hb.block _ hs.bys.lt), hs.bld.of_eq (hb.block _ hs.bld.lt)⟩ : ShiftBoxes _ g1 g2 g3 G b1 f1)
  have x1 := hsb.frm.cell 0 (.int .i64 f1) rfl
  have x2 := hsb.bys.cell 0 (.int .i64 b1) rfl
  have x3 := hsb.bld.cell 0 (.pointer (some ⟨G, 0, none⟩)) rfl
  have c0 := hbx.cell 0 (.int .i64 t.op) rfl
  have c1 := hbx.cell 1 (.int .i64 t.n) rfl
  have c2 := hbx.cell 2 (.string t.s) rfl
  have c3 := hbx.cell 3 (.slice ka kn kc) rfl
  have c4 := hbx.cell 4 (.slice na nn nc) rfl
  have c5 := hbx.cell 5 (.slice la ln lc) rfl
  have fz := hbx.thaw 1
  have w1 : wrap64 (t.n - b) = t.n - b := by rw [wrap64]; omega
  have w2 : wrap64 (t.n + b1) = t.n + b1 := by rw [wrap64]; omega
  clear hbx hbx2 hb
  by_cases h2 : t.op = 1 ∧ f1 ≤ t.n - b
  · have q1 : (t.op == 1) = true := by rw [h2.1]; rfl
    have q2 : decide (f1 ≤ t.n - b) = true := decide_eq_true h2.2
    have HW := Lib.hid (show shF b1 f1 t b = (⟨t.op, t.n + b1, t.s, t.kind, t.names, t.l⟩ : Con) from if_pos h2)
    rw [HW.out]
    obtain ⟨hbx9, hby9, hb9⟩ := twoN_new w 28 28 #[.int .i64 t.op, .int .i64 (t.n + b1), .string t.s, .slice ka kn kc, .slice na nn nc, .slice la ln lc] #[.int .i64 0, .int .i64 0, .string ⟨#[]⟩, .slice none 0 0, .slice none 0 0, .slice none 0 0]
    have HSZ := Lib.hid (show ((w.alloc (.cells #[.int .i64 t.op, .int .i64 (t.n + b1), .string t.s, .slice ka kn kc, .slice na nn nc, .slice la ln lc] 28)).alloc (.cells #[.int .i64 0, .int .i64 0, .string ⟨#[]⟩, .slice none 0 0, .slice none 0 0, .slice none 0 0] 28)).heap.size = w.heap.size + 2 by simp)
    have hgg := hG.of_eq (hb9.block _ hG.lt)
    have HBY := Lib.hid hby9
    have HOW := Lib.hid (only_below (N := G) hb9)
    have HNODE := Lib.hid (node_leaf N G (⟨t.op, t.n + b1, t.s, t.kind, t.names, t.l⟩ : Con) L d ((w.alloc (.cells #[.int .i64 t.op, .int .i64 (t.n + b1), .string t.s, .slice ka kn kc, .slice na nn nc, .slice la ln lc] 28)).alloc (.cells #[.int .i64 0, .int .i64 0, .string ⟨#[]⟩, .slice none 0 0, .slice none 0 0, .slice none 0 0] 28)) (.agg #[.int .i64 t.op, .int .i64 (t.n + b1), .string t.s, .slice ka kn kc, .slice na nn nc, .slice la ln lc]) hN hgg ((conV_iff _ _ _ _).2 (show t.s.size ≤ maxLen ∧ ∃ kv nv lv, (.agg #[.int .i64 t.op, .int .i64 (t.n + b1), .string t.s, .slice ka kn kc, .slice na nn nc, .slice la ln lc] : Value) = .agg #[.int .i64 t.op, .int .i64 (t.n + b1), .string t.s, kv, nv, lv] ∧ KidV _ _ t.kind kv ∧ StrSl _ _ nv t.names ∧ ConSl _ _ lv t.l from ⟨HPRT.out.1, _, _, _, rfl, HPRT.out.2.1.keep (Same.of_below hb9 (fun q (hq : q < N) => by omega)), HPRT.out.2.2.1.keep (Same.of_below hb9 (fun q (hq : q < N) => by omega)), HPRT.out.2.2.2.keep (Same.of_below hb9 (fun q (hq : q < N) => by omega))⟩)) hkv hl0 hnl h0 h1)
    have d0 := hbx9.cell 0 (.int .i64 t.op) rfl
    have d1 := hbx9.cell 1 (.int .i64 (t.n + b1)) rfl
    have d2 := hbx9.cell 2 (.string t.s) rfl
    have d3 := hbx9.cell 3 (.slice ka kn kc) rfl
    have d4 := hbx9.cell 4 (.slice na nn nc) rfl
    have d5 := hbx9.cell 5 (.slice la ln lc) rfl
    obtain ⟨hby1, hby2, hby3⟩ : (((w.alloc (.cells #[.int .i64 t.op, .int .i64 (t.n + b1), .string t.s, .slice ka kn kc, .slice na nn nc, .slice la ln lc] 28)).alloc (.cells #[.int .i64 0, .int .i64 0, .string ⟨#[]⟩, .slice none 0 0, .slice none 0 0, .slice none 0 0] 28))).cell? ⟨g1, 0, none⟩ = some (.int .i64 f1) ∧ (((w.alloc (.cells #[.int .i64 t.op, .int .i64 (t.n + b1), .string t.s, .slice ka kn kc, .slice na nn nc, .slice la ln lc] 28)).alloc (.cells #[.int .i64 0, .int .i64 0, .string ⟨#[]⟩, .slice none 0 0, .slice none 0 0, .slice none 0 0] 28))).cell? ⟨g2, 0, none⟩ = some (.int .i64 b1) ∧ (((w.alloc (.cells #[.int .i64 t.op, .int .i64 (t.n + b1), .string t.s, .slice ka kn kc, .slice na nn nc, .slice la ln lc] 28)).alloc (.cells #[.int .i64 0, .int .i64 0, .string ⟨#[]⟩, .slice none 0 0, .slice none 0 0, .slice none 0 0] 28))).cell? ⟨g3, 0, none⟩ = some (.pointer (some ⟨G, 0, none⟩)) := ⟨(hs.frm.of_eq (hb9.block _ hs.frm.lt)).cell 0 _ rfl, (hs.bys.of_eq (hb9.block _ hs.bys.lt)).cell 0 _ rfl, (hs.bld.of_eq (hb9.block _ hs.bld.lt)).cell 0 _ rfl⟩
    clear hG ht ha hs hsb hgl hlf h2 HPRT hbx9 hby9 hb9 hgg HW
    go_enter Tryz.func64, Tryz.ntmps64
    go_wp2_with fail
    clear c0 c1 c2 c3 c4 c5 d0 d1 d2 d3 d4 d5 x1 x2 x3 hby1 hby2 hby3 q1 q2 fz
    generalize ((w.alloc (.cells #[.int .i64 t.op, .int .i64 (t.n + b1), .string t.s, .slice ka kn kc, .slice na nn nc, .slice la ln lc] 28)).alloc (.cells #[.int .i64 0, .int .i64 0, .string ⟨#[]⟩, .slice none 0 0, .slice none 0 0, .slice none 0 0] 28)) = wa at *
    refine HNODE.out.mono ?_
    rintro e w3 ⟨ho3, y, u, c, rfl, hy, hg3, hc0, hc1, hfit⟩
    have hsz := HSZ.out
    have hss := ho3.size
    have hgl2 := HGL.out
    obtain ⟨ua, un, uc, va, vn, vc, xa, xn, xc, rfl, -, -, -⟩ := hy.shape
    have hby := ho3.blk HBY.out (show w.heap.size + 1 ≠ G from by have := HGL.out; omega)
    have t0 := hby.thaw 0
    have t1 := hby.thaw 1
    have t2 := hby.thaw 2
    have t3 := hby.thaw 3
    have t4 := hby.thaw 4
    have t5 := hby.thaw 5
    have r0 := hby.cell 0 (.int .i64 0) rfl
    have r1 := hby.cell 1 (.int .i64 0) rfl
    have r2 := hby.cell 2 (.string ⟨#[]⟩) rfl
    have r3 := hby.cell 3 (.slice none 0 0) rfl
    have r4 := hby.cell 4 (.slice none 0 0) rfl
    have r5 := hby.cell 5 (.slice none 0 0) rfl
    have hz := store6_blk hby 0 (.int .i64 u.op) (.int .i64 u.n) (.string u.s) (.slice ua un uc) (.slice va vn vc) (.slice xa xn xc)
    rw [put6_all] at hz
    have HE := Lib.hid (show RebP N G (⟨t.op, t.n + b1, t.s, t.kind, t.names, t.l⟩ : Con) L d w (.returned (.tuple #[.agg #[.int .i64 u.op, .int .i64 u.n, .string u.s, .slice ua un uc, .slice va vn vc, .slice xa xn xc], .bool (fitB (⟨t.op, t.n + b1, t.s, t.kind, t.names, t.l⟩ : Con) L d)])) (store6 w3 (w.heap.size + 1) 0 (.int .i64 u.op) (.int .i64 u.n) (.string u.s) (.slice ua un uc) (.slice va vn vc) (.slice xa xn xc)) from by
      refine ⟨store6_only (HOW.out.trans ho3) _ _ _ _ _ _ _ _ (.inr (Nat.le_succ _)), _, u, c, rfl, ?_, hg3.of_eq (store6_other _ _ _ _ _ _ _ _ _ G (by have := HGL.out; omega)), hc0, hc1, fun h => ⟨(hfit h).1, (hfit h).2.1, own_store (hfit h).2.2 (by omega) (by omega) _ _ _ _ _ _ _⟩⟩
      refine (hy.keep (fun q hq => store6_other _ _ _ _ _ _ _ _ _ q (by rcases hq with hq | hq <;> omega))).mono (fun q hq => ?_)
      rcases hq with hq | hq
      · exact .inl hq
      · exact .inr ⟨by omega, by rw [store6_size]; exact hq.2⟩)
    unfold store6 at hz HE
    simp only [Nat.zero_add] at hz HE
    have z0 := hz.cell 0 (.int .i64 u.op) rfl
    have z1 := hz.cell 1 (.int .i64 u.n) rfl
    have z2 := hz.cell 2 (.string u.s) rfl
    have z3 := hz.cell 3 (.slice ua un uc) rfl
    have z4 := hz.cell 4 (.slice va vn vc) rfl
    have z5 := hz.cell 5 (.slice xa xn xc) rfl
    clear hy hg3 hfit hby hz ho3 hsz hss hgl2 HNODE HOW HBY HSZ
    generalize fitB (⟨t.op, t.n + b1, t.s, t.kind, t.names, t.l⟩ : Con) L d = r at *
    go_wp2
    refine bodyPost_ret (v := .tuple #[.agg #[.int .i64 u.op, .int .i64 u.n, .string u.s, .slice ua un uc, .slice va vn vc, .slice xa xn xc], .bool r]) (by simp [results, Tryz.results64, go_sem, z0, z1, z2, z3, z4, z5]) rfl ?_
    exact HE.out
  · have HW := Lib.hid (show shF b1 f1 t b = t from (show shF b1 f1 t b = t from if_neg h2))
    rw [HW.out]
    obtain ⟨hbx9, hby9, hb9⟩ := twoN_new w 28 28 #[.int .i64 t.op, .int .i64 (t.n), .string t.s, .slice ka kn kc, .slice na nn nc, .slice la ln lc] #[.int .i64 0, .int .i64 0, .string ⟨#[]⟩, .slice none 0 0, .slice none 0 0, .slice none 0 0]
    have HSZ := Lib.hid (show ((w.alloc (.cells #[.int .i64 t.op, .int .i64 (t.n), .string t.s, .slice ka kn kc, .slice na nn nc, .slice la ln lc] 28)).alloc (.cells #[.int .i64 0, .int .i64 0, .string ⟨#[]⟩, .slice none 0 0, .slice none 0 0, .slice none 0 0] 28)).heap.size = w.heap.size + 2 by simp)
    have hgg := hG.of_eq (hb9.block _ hG.lt)
    have HBY := Lib.hid hby9
    have HOW := Lib.hid (only_below (N := G) hb9)
    have HNODE := Lib.hid (node_leaf N G t L d ((w.alloc (.cells #[.int .i64 t.op, .int .i64 (t.n), .string t.s, .slice ka kn kc, .slice na nn nc, .slice la ln lc] 28)).alloc (.cells #[.int .i64 0, .int .i64 0, .string ⟨#[]⟩, .slice none 0 0, .slice none 0 0, .slice none 0 0] 28)) (.agg #[.int .i64 t.op, .int .i64 (t.n), .string t.s, .slice ka kn kc, .slice na nn nc, .slice la ln lc]) hN hgg ((conV_iff _ _ _ _).2 (show t.s.size ≤ maxLen ∧ ∃ kv nv lv, (.agg #[.int .i64 t.op, .int .i64 (t.n), .string t.s, .slice ka kn kc, .slice na nn nc, .slice la ln lc] : Value) = .agg #[.int .i64 t.op, .int .i64 (t.n), .string t.s, kv, nv, lv] ∧ KidV _ _ t.kind kv ∧ StrSl _ _ nv t.names ∧ ConSl _ _ lv t.l from ⟨HPRT.out.1, _, _, _, rfl, HPRT.out.2.1.keep (Same.of_below hb9 (fun q (hq : q < N) => by omega)), HPRT.out.2.2.1.keep (Same.of_below hb9 (fun q (hq : q < N) => by omega)), HPRT.out.2.2.2.keep (Same.of_below hb9 (fun q (hq : q < N) => by omega))⟩)) hkv hl0 hnl h0 h1)
    have d0 := hbx9.cell 0 (.int .i64 t.op) rfl
    have d1 := hbx9.cell 1 (.int .i64 (t.n)) rfl
    have d2 := hbx9.cell 2 (.string t.s) rfl
    have d3 := hbx9.cell 3 (.slice ka kn kc) rfl
    have d4 := hbx9.cell 4 (.slice na nn nc) rfl
    have d5 := hbx9.cell 5 (.slice la ln lc) rfl
    have hq : (t.op == 1) = false ∨ decide (f1 ≤ t.n - b) = false := by
      cases h : (t.op == 1)
      · exact .inl rfl
      · right
        rw [decide_eq_false_iff_not]
        exact fun h3 => h2 ⟨by simpa using h, h3⟩
    clear hG ht ha hs hsb hgl hlf h2 HPRT hbx9 hby9 hb9 hgg HW
    go_enter Tryz.func64, Tryz.ntmps64
    rcases hq with q1 | q2
    rotate_left
    cases q1 : (t.op == 1)
    all_goals
      go_wp2_with fail
      clear c0 c1 c2 c3 c4 c5 d0 d1 d2 d3 d4 d5 x1 x2 x3 q1 fz
      try clear q2
      generalize ((w.alloc (.cells #[.int .i64 t.op, .int .i64 t.n, .string t.s, .slice ka kn kc, .slice na nn nc, .slice la ln lc] 28)).alloc (.cells #[.int .i64 0, .int .i64 0, .string ⟨#[]⟩, .slice none 0 0, .slice none 0 0, .slice none 0 0] 28)) = wa at *
      refine HNODE.out.mono ?_
      rintro e w3 ⟨ho3, y, u, c, rfl, hy, hg3, hc0, hc1, hfit⟩
      have hsz := HSZ.out
      have hss := ho3.size
      have hgl2 := HGL.out
      obtain ⟨ua, un, uc, va, vn, vc, xa, xn, xc, rfl, -, -, -⟩ := hy.shape
      have hby := ho3.blk HBY.out (show w.heap.size + 1 ≠ G from by have := HGL.out; omega)
      have t0 := hby.thaw 0
      have t1 := hby.thaw 1
      have t2 := hby.thaw 2
      have t3 := hby.thaw 3
      have t4 := hby.thaw 4
      have t5 := hby.thaw 5
      have r0 := hby.cell 0 (.int .i64 0) rfl
      have r1 := hby.cell 1 (.int .i64 0) rfl
      have r2 := hby.cell 2 (.string ⟨#[]⟩) rfl
      have r3 := hby.cell 3 (.slice none 0 0) rfl
      have r4 := hby.cell 4 (.slice none 0 0) rfl
      have r5 := hby.cell 5 (.slice none 0 0) rfl
      have hz := store6_blk hby 0 (.int .i64 u.op) (.int .i64 u.n) (.string u.s) (.slice ua un uc) (.slice va vn vc) (.slice xa xn xc)
      rw [put6_all] at hz
      have HE := Lib.hid (show RebP N G t L d w (.returned (.tuple #[.agg #[.int .i64 u.op, .int .i64 u.n, .string u.s, .slice ua un uc, .slice va vn vc, .slice xa xn xc], .bool (fitB t L d)])) (store6 w3 (w.heap.size + 1) 0 (.int .i64 u.op) (.int .i64 u.n) (.string u.s) (.slice ua un uc) (.slice va vn vc) (.slice xa xn xc)) from by
        refine ⟨store6_only (HOW.out.trans ho3) _ _ _ _ _ _ _ _ (.inr (Nat.le_succ _)), _, u, c, rfl, ?_, hg3.of_eq (store6_other _ _ _ _ _ _ _ _ _ G (by have := HGL.out; omega)), hc0, hc1, fun h => ⟨(hfit h).1, (hfit h).2.1, own_store (hfit h).2.2 (by omega) (by omega) _ _ _ _ _ _ _⟩⟩
        refine (hy.keep (fun q hq => store6_other _ _ _ _ _ _ _ _ _ q (by rcases hq with hq | hq <;> omega))).mono (fun q hq => ?_)
        rcases hq with hq | hq
        · exact .inl hq
        · exact .inr ⟨by omega, by rw [store6_size]; exact hq.2⟩)
      unfold store6 at hz HE
      simp only [Nat.zero_add] at hz HE
      have z0 := hz.cell 0 (.int .i64 u.op) rfl
      have z1 := hz.cell 1 (.int .i64 u.n) rfl
      have z2 := hz.cell 2 (.string u.s) rfl
      have z3 := hz.cell 3 (.slice ua un uc) rfl
      have z4 := hz.cell 4 (.slice va vn vc) rfl
      have z5 := hz.cell 5 (.slice xa xn xc) rfl
      clear hy hg3 hfit hby hz ho3 hsz hss hgl2 HNODE HOW HBY HSZ
      generalize fitB t L d = r at *
      go_wp2
      refine bodyPost_ret (v := .tuple #[.agg #[.int .i64 u.op, .int .i64 u.n, .string u.s, .slice ua un uc, .slice va vn vc, .slice xa xn xc], .bool r]) (by simp [results, Tryz.results64, go_sem, z0, z1, z2, z3, z4, z5]) rfl ?_
      exact HE.out
end Go.Proofs.YtmjiocpcenbndaaGreatDoor
namespace Go.Proofs.YtmjiocpcenbndaaGreatDoor
open Go Go.RowKit
open Pl (K Con)
set_option linter.unusedSimpArgs false
set_option linter.unusedVariables false

/-- what is made, or nothing, with an error -/
def fitOut (x : Con) : Con × Int := if fitB x 20000 1 = true then (x, 0) else (Con.none0, 6)
def ResP (N G : Nat) (x : Con) (w : World) (e : Ending) (w' : World) : Prop :=
  Only G w w' ∧ ∃ y, e = .returned (.tuple #[y, .int .i64 (fitOut x).2]) ∧ OwnC w' (fitOut x).1 (fun q => w.heap.size ≤ q ∧ q < w'.heap.size) y
set_option maxRecDepth 100000 in
set_option maxHeartbeats 2000000 in
theorem result_any (N G k : Nat) (cap : Array Value) (F : Con → Int → Con) (w : World) (HC : ChangeOk N G k cap F w) (hN : N ≤ G) (t : Con) (v : Value) (ha : Con.allB t = true) (hG : Blk w G 94 #[.int .i64 20000]) (ht : ConV w (· < N) t v) :
    Calls Tryz.prog 47 #[.pointer (some ⟨G, 0, none⟩), v, .func (.func k) #[] cap] w (ResP N G (Con.reb F t 0) w) := by
  have hgl := hG.lt
  have HGL := Lib.hid hgl
  have HREB := Lib.hid (fun W (hW : Only G w W) (hg : Blk W G 94 #[.int .i64 20000]) => rebuilt_any N G k cap F w HC hN t ha 20000 1 0 W v hW hg (ht.keep (Same.of_only hW (fun q (hq : q < N) => ⟨by omega, by omega⟩))) (by omega) (by omega) (by omega) (by omega) (by omega) (by omega))
  obtain ⟨ka, kn, kc, na, nn, nc, la, ln, lc, rfl, -, -, -⟩ := ht.shape
  obtain ⟨hbx, hbx2, hb⟩ := twoN_new w 28 28 #[.int .i64 t.op, .int .i64 t.n, .string t.s, .slice ka kn kc, .slice na nn nc, .slice la ln lc] #[.int .i64 0, .int .i64 0, .string ⟨#[]⟩, .slice none 0 0, .slice none 0 0, .slice none 0 0]
  have HSZ := Lib.hid (show ((w.alloc (.cells #[.int .i64 t.op, .int .i64 t.n, .string t.s, .slice ka kn kc, .slice na nn nc, .slice la ln lc] 28)).alloc (.cells #[.int .i64 0, .int .i64 0, .string ⟨#[]⟩, .slice none 0 0, .slice none 0 0, .slice none 0 0] 28)).heap.size = w.heap.size + 2 by simp)
  have HG := Lib.hid (hG.of_eq (hb.block _ hG.lt))
  have HBX2 := Lib.hid hbx2
  have HO := Lib.hid (only_below (N := G) hb)
  have c0 := hbx.cell 0 (.int .i64 t.op) rfl
  have c1 := hbx.cell 1 (.int .i64 t.n) rfl
  have c2 := hbx.cell 2 (.string t.s) rfl
  have c3 := hbx.cell 3 (.slice ka kn kc) rfl
  have c4 := hbx.cell 4 (.slice na nn nc) rfl
  have c5 := hbx.cell 5 (.slice la ln lc) rfl
  have HOUT := Lib.hid (show fitOut (Con.reb F t 0) = if fitB (Con.reb F t 0) 20000 1 = true then (Con.reb F t 0, 0) else (Con.none0, 6) from rfl)
  generalize Con.reb F t 0 = want at *
  clear hbx hbx2 hb hG ht HC hgl
  go_enter Tryz.func47, Tryz.ntmps47
  go_wp2_with fail
  clear c0 c1 c2 c3 c4 c5
  generalize ((w.alloc (.cells #[.int .i64 t.op, .int .i64 t.n, .string t.s, .slice ka kn kc, .slice na nn nc, .slice la ln lc] 28)).alloc (.cells #[.int .i64 0, .int .i64 0, .string ⟨#[]⟩, .slice none 0 0, .slice none 0 0, .slice none 0 0] 28)) = wa at *
  refine (HREB.out _ HO.out HG.out).mono ?_
  rintro e w3 ⟨ho3, y, u, c, rfl, hy, -, hc0, hc1, hfit⟩
  have hsz := HSZ.out
  have hss := ho3.size
  obtain ⟨ua, un, uc, va, vn, vc, xa, xn, xc, rfl, -, -, -⟩ := hy.shape
  have hby := (ho3.blk HBX2.out (show w.heap.size + 1 ≠ G from by have := HGL.out; omega)).alloc (.cells #[.int .i64 u.op, .int .i64 u.n, .string u.s, .slice ua un uc, .slice va vn vc, .slice xa xn xc] 28)
  have hbr := blk_new w3 #[.int .i64 u.op, .int .i64 u.n, .string u.s, .slice ua un uc, .slice va vn vc, .slice xa xn xc] 28
  have ho4 := (HO.out.trans ho3).alloc (.cells #[.int .i64 u.op, .int .i64 u.n, .string u.s, .slice ua un uc, .slice va vn vc, .slice xa xn xc] 28)
  have hsz4 : w3.heap.size + 1 = (w3.alloc (.cells #[.int .i64 u.op, .int .i64 u.n, .string u.s, .slice ua un uc, .slice va vn vc, .slice xa xn xc] 28)).heap.size := by simp
  have p0 := hbr.cell 0 (.int .i64 u.op) rfl
  have p1 := hbr.cell 1 (.int .i64 u.n) rfl
  have p2 := hbr.cell 2 (.string u.s) rfl
  have p3 := hbr.cell 3 (.slice ua un uc) rfl
  have p4 := hbr.cell 4 (.slice va vn vc) rfl
  have p5 := hbr.cell 5 (.slice xa xn xc) rfl
  have t0 := hby.thaw 0
  have t1 := hby.thaw 1
  have t2 := hby.thaw 2
  have t3 := hby.thaw 3
  have t4 := hby.thaw 4
  have t5 := hby.thaw 5
  have r0 := hby.cell 0 (.int .i64 0) rfl
  have r1 := hby.cell 1 (.int .i64 0) rfl
  have r2 := hby.cell 2 (.string ⟨#[]⟩) rfl
  have r3 := hby.cell 3 (.slice none 0 0) rfl
  have r4 := hby.cell 4 (.slice none 0 0) rfl
  have r5 := hby.cell 5 (.slice none 0 0) rfl
  generalize hr : fitB want 20000 1 = r at *
  cases r
  · have HO2 := Lib.hid (show fitOut want = (Con.none0, 6) from by rw [HOUT.out]; rfl)
    have hz := store6_blk hby 0 (.int .i64 0) (.int .i64 0) (.string ⟨#[]⟩) (.slice none 0 0) (.slice none 0 0) (.slice none 0 0)
    rw [put6_all] at hz
    have HE := Lib.hid (show ResP N G want w (.returned (.tuple #[.agg #[.int .i64 0, .int .i64 0, .string ⟨#[]⟩, .slice none 0 0, .slice none 0 0, .slice none 0 0], .int .i64 6])) (store6 (w3.alloc (.cells #[.int .i64 u.op, .int .i64 u.n, .string u.s, .slice ua un uc, .slice va vn vc, .slice xa xn xc] 28)) (w.heap.size + 1) 0 (.int .i64 0) (.int .i64 0) (.string ⟨#[]⟩) (.slice none 0 0) (.slice none 0 0) (.slice none 0 0)) from ⟨store6_only ho4 _ _ _ _ _ _ _ _ (.inr (Nat.le_succ _)), _, by rw [HO2.out], by rw [HO2.out]; exact ownC_none _ _⟩)
    unfold store6 at hz HE
    simp only [Nat.zero_add] at hz HE
    have z0 := hz.cell 0 (.int .i64 0) rfl
    have z1 := hz.cell 1 (.int .i64 0) rfl
    have z2 := hz.cell 2 (.string ⟨#[]⟩) rfl
    have z3 := hz.cell 3 (.slice none 0 0) rfl
    have z4 := hz.cell 4 (.slice none 0 0) rfl
    have z5 := hz.cell 5 (.slice none 0 0) rfl
    clear hy hfit hby hbr ho3 hsz hss hz ho4 hsz4 HREB HO HG HBX2 HSZ
    go_wp2
    refine bodyPost_ret (v := .tuple #[.agg #[.int .i64 0, .int .i64 0, .string ⟨#[]⟩, .slice none 0 0, .slice none 0 0, .slice none 0 0], .int .i64 6]) (by simp [results, Tryz.results47, go_sem, z0, z1, z2, z3, z4, z5]) rfl ?_
    exact HE.out
  · have HO2 := Lib.hid (show fitOut want = (want, 0) from by rw [HOUT.out]; rfl)
    have hu : u = want := (hfit rfl).1
    have hz := store6_blk hby 0 (.int .i64 u.op) (.int .i64 u.n) (.string u.s) (.slice ua un uc) (.slice va vn vc) (.slice xa xn xc)
    rw [put6_all] at hz
    have HE := Lib.hid (show ResP N G want w (.returned (.tuple #[.agg #[.int .i64 u.op, .int .i64 u.n, .string u.s, .slice ua un uc, .slice va vn vc, .slice xa xn xc], .int .i64 0])) (store6 (w3.alloc (.cells #[.int .i64 u.op, .int .i64 u.n, .string u.s, .slice ua un uc, .slice va vn vc, .slice xa xn xc] 28)) (w.heap.size + 1) 0 (.int .i64 u.op) (.int .i64 u.n) (.string u.s) (.slice ua un uc) (.slice va vn vc) (.slice xa xn xc)) from by
      refine ⟨store6_only ho4 _ _ _ _ _ _ _ _ (.inr (Nat.le_succ _)), _, by rw [HO2.out], ?_⟩
      rw [HO2.out]
      have hby2 := HBX2.out.lt
      have hgl9 := HGL.out
      refine ((hfit rfl).2.2.keep (fun q hq => ?_)).mono (fun q hq => ?_)
      · rw [store6_other _ _ _ _ _ _ _ _ _ q (by have := hq.1; omega)]
        exact Below.heap_alloc w3 _ q hq.2
      · exact ⟨by have := hq.1; omega, by rw [store6_size, ← hsz4]; have := hq.2; omega⟩)
    unfold store6 at hz HE
    simp only [Nat.zero_add] at hz HE
    have z0 := hz.cell 0 (.int .i64 u.op) rfl
    have z1 := hz.cell 1 (.int .i64 u.n) rfl
    have z2 := hz.cell 2 (.string u.s) rfl
    have z3 := hz.cell 3 (.slice ua un uc) rfl
    have z4 := hz.cell 4 (.slice va vn vc) rfl
    have z5 := hz.cell 5 (.slice xa xn xc) rfl
    clear hy hfit hby hbr ho3 hsz hss hz ho4 hsz4 hu HREB HO HG HBX2 HSZ
    go_wp2
    refine bodyPost_ret (v := .tuple #[.agg #[.int .i64 u.op, .int .i64 u.n, .string u.s, .slice ua un uc, .slice va vn vc, .slice xa xn xc], .int .i64 0]) (by simp [results, Tryz.results47, go_sem, z0, z1, z2, z3, z4, z5]) rfl ?_
    exact HE.out
theorem newBuilder_any (w : World) : Calls Tryz.prog 46 #[] w fun e w' => e = .returned (.pointer (some ⟨w.heap.size, 0, none⟩)) ∧ w' = w.alloc (.cells #[.int .i64 20000] 94) := by
  go_enter Tryz.func46, Tryz.ntmps46
  go_wp2
  go_ret
  exact ⟨rfl, rfl⟩
/-- the closure of a shift -/
def shiftV (g1 g2 g3 : Nat) : Array Value := #[.pointer (some ⟨g1, 0, none⟩), .pointer (some ⟨g2, 0, none⟩), .pointer (some ⟨g3, 0, none⟩)]
theorem shifting_any (G : Nat) (b f : Int) (w : World) :
    Calls Tryz.prog 48 #[.pointer (some ⟨G, 0, none⟩), .int .i64 b, .int .i64 f] w fun e w' => (∃ g1 g2 g3, e = .returned (.func (.func 64) #[] #[.pointer (some ⟨g1, 0, none⟩), .pointer (some ⟨g2, 0, none⟩), .pointer (some ⟨g3, 0, none⟩)]) ∧ ShiftBoxes w' g1 g2 g3 G b f ∧ w.heap.size ≤ g1 ∧ w.heap.size ≤ g2 ∧ w.heap.size ≤ g3) ∧ Below w.heap.size w w' := by
  obtain ⟨h1, hb1⟩ := boxN_new w 69 #[.pointer (some ⟨G, 0, none⟩)]
  obtain ⟨h2, hb2⟩ := boxN_new (w.alloc (.cells #[.pointer (some ⟨G, 0, none⟩)] 69)) 3 #[.int .i64 b]
  obtain ⟨h3, hb3⟩ := boxN_new ((w.alloc (.cells #[.pointer (some ⟨G, 0, none⟩)] 69)).alloc (.cells #[.int .i64 b] 3)) 3 #[.int .i64 f]
  have k1 := (h1.alloc (.cells #[.int .i64 b] 3)).alloc (.cells #[.int .i64 f] 3)
  have k2 := h2.alloc (.cells #[.int .i64 f] 3)
  have hbb := belowStep hb3 (belowStep hb2 hb1)
  rw [size_alloc] at k2
  rw [size_alloc, size_alloc] at h3
  have HE := Lib.hid (show ShiftBoxes (((w.alloc (.cells #[.pointer (some ⟨G, 0, none⟩)] 69)).alloc (.cells #[.int .i64 b] 3)).alloc (.cells #[.int .i64 f] 3)) (w.heap.size + 1 + 1) (w.heap.size + 1) w.heap.size G b f from ⟨h3, k2, k1⟩)
  have HB := Lib.hid hbb
  clear h1 h2 h3 hb1 hb2 hb3 k1 k2 hbb
  go_enter Tryz.func48, Tryz.ntmps48
  go_wp2
  go_ret
  exact ⟨⟨_, _, _, rfl, HE.out, by omega, by omega, Nat.le_refl _⟩, HB.out⟩
/-- a shift is a change -/
theorem shift_change (N G g1 g2 g3 : Nat) (b f : Int) (w : World) (hN : N ≤ G) (hs : ShiftBoxes w g1 g2 g3 G b f) (h1 : g1 ≠ G) (h2 : g2 ≠ G) (h3 : g3 ≠ G) (hb1 : -1000000 ≤ b ∧ b ≤ 1000000) (hf1 : -9223372036854775808 ≤ f ∧ f ≤ 9223372036854775807) :
    ChangeOk N G 64 #[.pointer (some ⟨g1, 0, none⟩), .pointer (some ⟨g2, 0, none⟩), .pointer (some ⟨g3, 0, none⟩)] (shF b f) w :=
  ⟨fun _ _ => by kernel_rfl, fun W t v b2 d L hW hg h0 h1' hb0 hbd hd0 hd1 hlf ha ht => shiftF_any N G g1 g2 g3 b f t b2 d L W v hN ⟨hW.blk hs.frm h1, hW.blk hs.bys h2, hW.blk hs.bld h3⟩ hg ht ha hlf hb1 hf1 h0 h1' hb0 (by omega) hd1⟩
end Go.Proofs.YtmjiocpcenbndaaGreatDoor
