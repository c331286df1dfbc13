/-
  Layer 9: several texts in one (Qr Qs Qt).
-/
import Derived.Test.YtigedbkifagfeaaGreatHa
import Derived.Deep.AppendLies
import Derived.Laws.OwnMore
namespace Go.Proofs.YtigedbkifagfeaaGreat
open Go Go.RowKit
open Pl (K Con)
set_option linter.unusedSimpArgs false

set_option maxRecDepth 100000 in
theorem none9_any (P : Nat → Prop) (t : Con) (w : World) (v : Value) (hP : ∀ b, P b → b < w.heap.size) (ht : ConV w P t v) :
    Calls Tryz.prog 20 #[v] w fun e w' => e = .returned (.bool (Con.sameB t Con.none0)) ∧ Below w.heap.size w w' := by
  have HS := Lib.hid (fun W (hW : Below w.heap.size w W) => rsameB_any P (fun _ => False) t Con.none0 W v (.agg #[.int .i64 0, .int .i64 0, .string ByteArray.empty, .slice none 0 0, .slice none 0 0, .slice none 0 0]) (fun b h => Nat.lt_of_lt_of_le (hP b h) hW.size) (fun b h => h.elim) (ht.below hP hW) (conV_none W _))
  obtain ⟨ka, kn, kc, na, nn, nc, la, ln, lc, rfl, -, -, -, hbx, hb⟩ := con_box ht
  have c0 := hbx.cell 0 (.int .i64 t.op) rfl
  have c1 := hbx.cell 1 (.int .i64 t.n) rfl
  have c2 := hbx.cell 2 (.string t.s) rfl
  have c3 := hbx.cell 3 (.slice ka kn kc) rfl
  have c4 := hbx.cell 4 (.slice na nn nc) rfl
  have c5 := hbx.cell 5 (.slice la ln lc) rfl
  have HB := Lib.hid hb
  have HC := Lib.hid (HS.out _ hb)
  generalize Con.sameB t Con.none0 = r at *
  clear ht hbx hb hP HS
  go_enter Tryz.func20, Tryz.ntmps20
  go_wp2_with fail
  refine HC.out.mono ?_
  rintro e w1 ⟨rfl, hb1⟩
  have HB1 := Lib.hid (belowStep hb1 HB.out)
  clear hb1
  go_wp2
  go_ret
  exact ⟨rfl, HB1.out⟩
/-- what the law's answer says -/
noncomputable def answerB (t : Con) (e : Int) (want : Con) : Bool := if Con.validB want then Con.sameB t want && (e == 0) else Con.sameB t Con.none0 && (e == 6)
theorem answer_out (x : Con) : answerB (outB x).1 (outB x).2 x = true := by
  unfold answerB
  rcases outB_cases x with ⟨h, e⟩ | ⟨h, e⟩
  · rw [h, e, if_pos rfl, sameB_self]; rfl
  · rw [h, e, if_neg (by simp), sameB_self]; rfl
set_option maxRecDepth 100000 in
set_option maxHeartbeats 4000000 in
theorem answer9_any (P Q : Nat → Prop) (t want : Con) (ec : Int) (w : World) (v x : Value) (hP : ∀ b, P b → b < w.heap.size) (hQ : ∀ b, Q b → b < w.heap.size) (ht : ConV w P t v) (hu : ConV w Q want x) :
    Calls Tryz.prog 25 #[v, .int .i64 ec, x] w fun e w' => e = .returned (.bool (answerB t ec want)) ∧ Below w.heap.size w w' := by
  have HV := Lib.hid (fun W (hW : Below w.heap.size w W) => rvalid9_any Q want W x (fun b h => Nat.lt_of_lt_of_le (hQ b h) hW.size) (hu.below hQ hW))
  have HN := Lib.hid (fun W (hW : Below w.heap.size w W) => none9_any P t W v (fun b h => Nat.lt_of_lt_of_le (hP b h) hW.size) (ht.below hP hW))
  have HS := Lib.hid (fun W (hW : Below w.heap.size w W) => rsameB_any P Q t want W v x (fun b h => Nat.lt_of_lt_of_le (hP b h) hW.size) (fun b h => Nat.lt_of_lt_of_le (hQ b h) hW.size) (ht.below hP hW) (hu.below hQ hW))
  have HR := Lib.hid (show answerB t ec want = if Con.validB want then Con.sameB t want && (ec == 0) else Con.sameB t Con.none0 && (ec == 6) from rfl)
  generalize answerB t ec want = R at *
  generalize Con.validB want = r1 at *
  generalize Con.sameB t want = r2 at *
  generalize Con.sameB t Con.none0 = r3 at *
  obtain ⟨ka, kn, kc, na, nn, nc, la, ln, lc, rfl, -, -, -⟩ := ht.shape
  obtain ⟨ka2, kn2, kc2, na2, nn2, nc2, la2, ln2, lc2, rfl, -, -, -⟩ := hu.shape
  obtain ⟨hbx, hbx2, hb⟩ := twoN_new w 28 28 #[.int .i64 t.op, .int .i64 t.n, .string t.s, .slice ka kn kc, .slice na nn nc, .slice la ln lc] #[.int .i64 want.op, .int .i64 want.n, .string want.s, .slice ka2 kn2 kc2, .slice na2 nn2 nc2, .slice la2 ln2 lc2]
  have HB := Lib.hid hb
  have HBX := Lib.hid hbx
  have HBX2 := Lib.hid hbx2
  have d0 := hbx2.cell 0 (.int .i64 want.op) rfl
  have d1 := hbx2.cell 1 (.int .i64 want.n) rfl
  have d2 := hbx2.cell 2 (.string want.s) rfl
  have d3 := hbx2.cell 3 (.slice ka2 kn2 kc2) rfl
  have d4 := hbx2.cell 4 (.slice na2 nn2 nc2) rfl
  have d5 := hbx2.cell 5 (.slice la2 ln2 lc2) rfl
  clear hbx hbx2 hb ht hu hP hQ
  go_enter Tryz.func25, Tryz.ntmps25
  go_wp2_with fail
  clear d0 d1 d2 d3 d4 d5
  generalize (w.alloc (.cells #[.int .i64 t.op, .int .i64 t.n, .string t.s, .slice ka kn kc, .slice na nn nc, .slice la ln lc] 28)).alloc (.cells #[.int .i64 want.op, .int .i64 want.n, .string want.s, .slice ka2 kn2 kc2, .slice na2 nn2 nc2, .slice la2 ln2 lc2] 28) = w2 at *
  refine (HV.out _ HB.out).mono ?_
  rintro e w3 ⟨rfl, hb3⟩
  replace HB := Lib.hid (belowStep hb3 HB.out)
  replace HBX := Lib.hid (HBX.out.of_eq (hb3.block _ HBX.out.lt))
  replace HBX2 := Lib.hid (HBX2.out.of_eq (hb3.block _ HBX2.out.lt))
  clear hb3
  have c0 := HBX.out.cell 0 (.int .i64 t.op) rfl
  have c1 := HBX.out.cell 1 (.int .i64 t.n) rfl
  have c2 := HBX.out.cell 2 (.string t.s) rfl
  have c3 := HBX.out.cell 3 (.slice ka kn kc) rfl
  have c4 := HBX.out.cell 4 (.slice na nn nc) rfl
  have c5 := HBX.out.cell 5 (.slice la ln lc) rfl
  have d0 := HBX2.out.cell 0 (.int .i64 want.op) rfl
  have d1 := HBX2.out.cell 1 (.int .i64 want.n) rfl
  have d2 := HBX2.out.cell 2 (.string want.s) rfl
  have d3 := HBX2.out.cell 3 (.slice ka2 kn2 kc2) rfl
  have d4 := HBX2.out.cell 4 (.slice na2 nn2 nc2) rfl
  have d5 := HBX2.out.cell 5 (.slice la2 ln2 lc2) rfl
  cases r1
  · have HR2 := Lib.hid (show R = (r3 && (ec == 6)) from by rw [HR.out]; rfl)
    go_wp2_with fail
    refine (HN.out _ HB.out).mono ?_
    rintro e w4 ⟨rfl, hb4⟩
    have HB4 := Lib.hid (belowStep hb4 HB.out)
    clear hb4 HR c0 c1 c2 c3 c4 c5 d0 d1 d2 d3 d4 d5
    cases r3
    · go_wp2
      go_ret
      exact ⟨by rw [HR2.out]; rfl, HB4.out⟩
    · go_wp2
      go_ret
      exact ⟨by rw [HR2.out]; rfl, HB4.out⟩
  · have HR2 := Lib.hid (show R = (r2 && (ec == 0)) from by rw [HR.out]; rfl)
    go_wp2_with fail
    refine (HS.out _ HB.out).mono ?_
    rintro e w4 ⟨rfl, hb4⟩
    have HB4 := Lib.hid (belowStep hb4 HB.out)
    clear hb4 HR c0 c1 c2 c3 c4 c5 d0 d1 d2 d3 d4 d5
    cases r2
    · go_wp2
      go_ret
      exact ⟨by rw [HR2.out]; rfl, HB4.out⟩
    · go_wp2
      go_ret
      exact ⟨by rw [HR2.out]; rfl, HB4.out⟩
end Go.Proofs.YtigedbkifagfeaaGreat
namespace Go.Proofs.YtigedbkifagfeaaGreat
open Go Go.RowKit
open Pl (K Con)
set_option linter.unusedSimpArgs false

set_option maxRecDepth 100000 in
theorem rinside_any (P : Nat → Prop) (t : Con) (l : List Con) (w : World) (v x : Value) (hP : ∀ b, P b → b < w.heap.size) (ht : ConV w P t v) (hl : ConSl w P x l) :
    Calls Tryz.prog 76 #[v, x] w fun e w' => (∃ y, e = .returned y ∧ ConV w' P (Con.inside t l) y) ∧ Below w.heap.size w w' := by
  have hin : ∀ W, Below w.heap.size w W → ∀ ka kn kc na nn nc la ln lc, v = .agg #[.int .i64 t.op, .int .i64 t.n, .string t.s, .slice ka kn kc, .slice na nn nc, .slice la ln lc] → ConV W P (Con.inside t l) (.agg #[.int .i64 t.op, .int .i64 t.n, .string t.s, .slice ka kn kc, .slice na nn nc, x]) := by
    intro W hW ka kn kc na nn nc la ln lc hv
    obtain ⟨h0, kv, nv, lv, hv2, hk, hs, -⟩ := (conV_iff _ _ _ _).1 (ht.below hP hW)
    have e2 := hv.symm.trans hv2
    simp only [Value.agg.injEq, Array.mk.injEq, List.cons.injEq, and_true, true_and] at e2
    obtain ⟨rfl, rfl, -⟩ := e2
    exact (conV_iff _ _ _ _).2 ⟨h0, _, _, _, rfl, hk, hs, hl.below hP hW⟩
  have HIN := Lib.hid hin
  obtain ⟨xa, xc, rfl, -, -, -⟩ := hl.each
  obtain ⟨ka, kn, kc, na, nn, nc, la, ln, lc, rfl, -, -, -⟩ := ht.shape
  have HI2 := Lib.hid (fun W hW => HIN.out W hW ka kn kc na nn nc la ln lc rfl)
  generalize l.length = xn at *
  obtain ⟨hbx, hb⟩ := boxN_new w 28 #[.int .i64 t.op, .int .i64 t.n, .string t.s, .slice ka kn kc, .slice na nn nc, .slice la ln lc]
  have hr := blk_new (w.alloc (.cells #[.int .i64 t.op, .int .i64 t.n, .string t.s, .slice ka kn kc, .slice na nn nc, .slice la ln lc] 28)) #[.int .i64 t.op, .int .i64 t.n, .string t.s, .slice ka kn kc, .slice na nn nc, .slice xa xn xc] 28
  rw [size_alloc] at hr
  have d0 := hr.cell 0 (.int .i64 t.op) rfl
  have d1 := hr.cell 1 (.int .i64 t.n) rfl
  have d2 := hr.cell 2 (.string t.s) rfl
  have d3 := hr.cell 3 (.slice ka kn kc) rfl
  have d4 := hr.cell 4 (.slice na nn nc) rfl
  have d5 := hr.cell 5 (.slice xa xn xc) rfl
  have hbz := hbx.alloc (.cells #[.int .i64 0, .int .i64 0, .string ByteArray.empty, .slice none 0 0, .slice none 0 0, .slice none 0 0] 28)
  have c0 := hbz.cell 0 (.int .i64 t.op) rfl
  have c1 := hbz.cell 1 (.int .i64 t.n) rfl
  have c2 := hbz.cell 2 (.string t.s) rfl
  have c3 := hbz.cell 3 (.slice ka kn kc) rfl
  have c4 := hbz.cell 4 (.slice na nn nc) rfl
  have HB := Lib.hid (below_new (o := .cells #[.int .i64 t.op, .int .i64 t.n, .string t.s, .slice ka kn kc, .slice na nn nc, .slice xa xn xc] 28) hb)
  clear hbx hb hr hbz ht hl hin hP HIN
  go_enter Tryz.func76, Tryz.ntmps76
  go_wp2_with fail
  refine bodyPost_ret (v := .agg #[.int .i64 t.op, .int .i64 t.n, .string t.s, .slice ka kn kc, .slice na nn nc, .slice xa xn xc]) (by first | (simp [results, Tryz.results76, go_sem, d0, d1, d2, d3, d4, d5]; done) | (simp [results, Tryz.results76, go_sem, d0, d1, d2, d3, d4, d5]; rfl)) rfl ?_
  exact ⟨⟨_, rfl, HI2.out _ HB.out⟩, HB.out⟩
end Go.Proofs.YtigedbkifagfeaaGreat
namespace Go.Proofs.YtigedbkifagfeaaGreat
open Go Go.RowKit
open Pl (K Con)
set_option linter.unusedSimpArgs false

/-- six cells in a row of values -/
def ConIn (cs : Array Value) (o : Nat) (v : Value) : Prop :=
  ∃ x0 x1 x2 x3 x4 x5, v = .agg #[x0, x1, x2, x3, x4, x5] ∧ cs[o]? = some x0 ∧ cs[o + 1]? = some x1 ∧ cs[o + 2]? = some x2 ∧ cs[o + 3]? = some x3 ∧ cs[o + 4]? = some x4 ∧ cs[o + 5]? = some x5
/-- the cells of constructors side by side, their parts in the blocks R -/
def ConRow (w : World) (R : Nat → Prop) (us : List Value) (l : List Con) : Prop :=
  us.length = l.length * 6 ∧ (∀ u ∈ us, u.oneCell' = true) ∧ ∀ j (h : j < l.length), ∃ x, ConIn us.toArray (j * 6) x ∧ ConV w R l[j] x
theorem ConRow.nil (w : World) (R : Nat → Prop) : ConRow w R [] [] := ⟨rfl, fun u hu => (by cases hu), fun j hj => absurd hj (Nat.not_lt_zero _)⟩
theorem ConRow.keep {w w' : World} {R : Nat → Prop} {us : List Value} {l : List Con} (h : ConRow w R us l) (hs : Same R w w') : ConRow w' R us l := ⟨h.1, h.2.1, fun j hj => by obtain ⟨x, hx, hv⟩ := h.2.2 j hj; exact ⟨x, hx, hv.keep hs⟩⟩
theorem ConRow.mono {w : World} {R S : Nat → Prop} {us : List Value} {l : List Con} (h : ConRow w R us l) (hs : ∀ b, R b → S b) : ConRow w S us l := ⟨h.1, h.2.1, fun j hj => by obtain ⟨x, hx, hv⟩ := h.2.2 j hj; exact ⟨x, hx, hv.mono hs⟩⟩
theorem ConIn.left {us vs : List Value} {o : Nat} {v : Value} (h : ConIn us.toArray o v) : ConIn (us ++ vs).toArray o v := by
  obtain ⟨x0, x1, x2, x3, x4, x5, rfl, h0, h1, h2, h3, h4, h5⟩ := h
  have each : ∀ (i : Nat) (x : Value), us.toArray[i]? = some x → (us ++ vs).toArray[i]? = some x := by
    intro i x hx
    simp only [List.getElem?_toArray] at hx ⊢
    have hi : i < us.length := by
      rcases Nat.lt_or_ge i us.length with h | h
      · exact h
      · rw [List.getElem?_eq_none h] at hx; cases hx
    rw [List.getElem?_append_left hi]; exact hx
  exact ⟨x0, x1, x2, x3, x4, x5, rfl, each _ _ h0, each _ _ h1, each _ _ h2, each _ _ h3, each _ _ h4, each _ _ h5⟩
theorem con_one_cell {w : World} {P : Nat → Prop} {t : Con} {x0 x1 x2 x3 x4 x5 : Value} (h : ConV w P t (.agg #[x0, x1, x2, x3, x4, x5])) : ∀ u ∈ [x0, x1, x2, x3, x4, x5], u.oneCell' = true := by
  obtain ⟨ka, kn, kc, na, nn, nc, la, ln, lc, e, -, -, -⟩ := h.shape
  simp only [Value.agg.injEq, Array.mk.injEq, List.cons.injEq, and_true] at e
  obtain ⟨rfl, rfl, rfl, rfl, rfl, rfl⟩ := e
  intro u hu
  simp at hu
  rcases hu with rfl | rfl | rfl | rfl | rfl | rfl <;> rfl
theorem ConRow.push {w : World} {R : Nat → Prop} {us : List Value} {l : List Con} {x0 x1 x2 x3 x4 x5 : Value} {y : Con} (h : ConRow w R us l) (hy : ConV w R y (.agg #[x0, x1, x2, x3, x4, x5])) : ConRow w R (us ++ [x0, x1, x2, x3, x4, x5]) (l ++ [y]) := by
  obtain ⟨h1, h2, h3⟩ := h
  refine ⟨by simp [h1]; omega, fun u hu => ?_, fun j hj => ?_⟩
  · rw [List.mem_append] at hu
    rcases hu with hu | hu
    · exact h2 u hu
    · exact con_one_cell hy u hu
  · by_cases hlt : j < l.length
    · obtain ⟨x, hx, hv⟩ := h3 j hlt
      exact ⟨x, hx.left, by rw [List.getElem_append_left hlt]; exact hv⟩
    · have hjl : j = l.length := by simp at hj; omega
      subst hjl
      refine ⟨.agg #[x0, x1, x2, x3, x4, x5], ⟨x0, x1, x2, x3, x4, x5, rfl, ?_⟩, by rw [List.getElem_append_right (Nat.le_refl _)]; simpa using hy⟩
      rw [← h1]
      simp only [List.getElem?_toArray]
      refine ⟨?_, ?_, ?_, ?_, ?_, ?_⟩
      all_goals (rw [List.getElem?_append_right (by omega)]; simp)
theorem ownsRow6_below {w w' : World} {base n : Nat} {T : TypeId} {v : Value} {xs : List Value} (h : w.ownsRow base T 6 v n xs) (hb : Below w.heap.size w w') : w'.ownsRow base T 6 v n xs :=
  h.kept (row := none) ⟨hb.os, hb.tape, hb.output, hb.size, fun i hi _ => hb.block i hi⟩ (by cases ho : v.ownBlock with | none => exact .inl rfl | some k => exact .inr (by simp))
/-- the row is a slice of constructors -/
theorem ConRow.cons {w : World} {base : Nat} {R S : Nat → Prop} {v : Value} {cur : List Con} {us : List Value} (h1 : w.ownsRow base 28 6 v cur.length us) (h2 : ConRow w R us cur) (hR : ∀ b, R b → S b) (hS : ∀ b, base ≤ b → b < w.heap.size → S b) : ConSl w S v cur := by
  have hc := h1
  rcases h1.2 with ⟨rfl, h0⟩ | ⟨g, cap, cu, rfl, hbg, hg, hnc, hcm, hcs, htake⟩
  · obtain rfl : cur = [] := List.eq_nil_of_length_eq_zero h0
    exact ⟨none, 0, rfl, Nat.le_refl _, Nat.zero_le _, fun _ => rfl, .inl rfl⟩
  · have hgl : g < w.heap.size := (hc.lt g rfl).2
    refine ⟨_, cap, rfl, hnc, hcm, (fun h => by cases h), .inr ⟨g, 0, rfl, hS g hbg hgl, ?_⟩⟩
    rw [consAt_iff]
    intro j hj
    obtain ⟨x, hx, hv⟩ := h2.2.2 j hj
    refine ⟨x, ?_, hv.mono hR⟩
    obtain ⟨x0, x1, x2, x3, x4, x5, rfl, c0, c1, c2, c3, c4, c5⟩ := hx
    simp only [List.getElem?_toArray] at c0 c1 c2 c3 c4 c5
    have each : ∀ d u, d < 6 → us[j * 6 + d]? = some u → w.cell? ⟨g, 0 + j * 6 + d, none⟩ = some u := by
      intro d u hd hu
      rw [Nat.zero_add, hc.cellAt (j * 6 + d) (by omega), hu]
    exact ⟨x0, x1, x2, x3, x4, x5, rfl, each 0 _ (by omega) c0, each 1 _ (by omega) c1, each 2 _ (by omega) c2, each 3 _ (by omega) c3, each 4 _ (by omega) c4, each 5 _ (by omega) c5⟩
end Go.Proofs.YtigedbkifagfeaaGreat
