/-
  Walks and plain mathematics, several texts in one (Th Ti).
-/
import Derived.Test.YtjedahcpkcgpeaaGreatDoorH23
/-
  Walks of layer 3: the parts of a node, first.
-/
namespace Go.Proofs.YtjedahcpkcgpeaaGreatDoor
open Go Go.RowKit
open Pl (Syn)
set_option linter.unusedSimpArgs false
theorem opAt_get (l : List Syn) (j : Nat) (h : j < l.length) : Pl.opAt l j = l[j].op := by
  unfold Pl.opAt
  simp [List.getD, h]
theorem parts_true_len (l : List Syn) (cs : List Int) (h : Pl.parts l cs = true) : l.length = cs.length := by
  rcases Nat.lt_trichotomy l.length cs.length with h1 | h1 | h1
  · rw [parts_len l cs (by omega)] at h; cases h
  · exact h1
  · rw [parts_len l cs (by omega)] at h; cases h
theorem SynSl.sub {w : World} {P : Nat → Prop} {a : Option Addr} {n c : Nat} {l : List Syn} (h : SynSl w P (.slice a n c) l) (m : Nat) (hm : m ≤ n) : SynSl w P (.slice a m c) (l.take m) := by
  obtain ⟨a', c', e, h1, h2, h3, h5⟩ := h
  injection e with e1 e2 e3
  subst e1 e2 e3
  refine ⟨a, c, by rw [List.length_take, Nat.min_eq_left hm], by rw [List.length_take]; omega, h2, h3, ?_⟩
  rcases h5 with rfl | ⟨b, off, rfl, h6, h7⟩
  · exact .inl (by simp)
  · refine .inr ⟨b, off, rfl, h6, ?_⟩
    rw [kidsAt_iff] at h7 ⊢
    intro j hj
    rw [List.length_take] at hj
    obtain ⟨v, hv1, hv2⟩ := h7 j (by omega)
    exact ⟨v, hv1, by rw [List.getElem_take]; exact hv2⟩
theorem SynSl.rest {w : World} {P : Nat → Prop} {b off n c : Nat} {l : List Syn} (h : SynSl w P (.slice (some ⟨b, off, none⟩) n c) l) (m : Nat) (hm : m < n) : SynSl w P (.slice (some ⟨b, off + m * 5, none⟩) (n - m) (c - m)) (l.drop m) := by
  obtain ⟨a', c', e, h1, h2, h3, h5⟩ := h
  injection e with e1 e2 e3
  subst e1 e2 e3
  refine ⟨_, c - m, by rw [List.length_drop], by rw [List.length_drop]; omega, by omega, fun h => (by cases h), ?_⟩
  rcases h5 with rfl | ⟨b, off, e4, h6, h7⟩
  · simp at hm
  · injection e4 with e4
    injection e4 with e5 e6 e7
    subst e5 e6
    refine .inr ⟨_, _, rfl, h6, ?_⟩
    rw [kidsAt_iff] at h7 ⊢
    intro j hj
    rw [List.length_drop] at hj
    obtain ⟨v, hv1, hv2⟩ := h7 (m + j) (by omega)
    rw [show off + (m + j) * 5 = off + m * 5 + j * 5 from by omega] at hv1
    exact ⟨v, hv1, by rw [List.getElem_drop]; exact hv2⟩
set_option maxRecDepth 100000 in
set_option maxHeartbeats 4000000 in
theorem core_1 (P : Nat → Prop) (n : Int) (s : ByteArray) (nv lv : Value) (l : List Syn) (w : World) (hP : ∀ b, P b → b < w.heap.size) (h : SynSl w P lv l) :
    Calls Tryz.prog 99 #[.agg #[.int .i64 1, .int .i64 n, .string s, nv, lv]] w fun e w' => e = .returned (.bool (Pl.parts l [])) ∧ Below w.heap.size w w' := by
  have h0 := h
  obtain ⟨la, lc, rfl, hm⟩ := h0.form
  unfold maxLen at hm
  have HL := Lib.hid (fun W (hW : Below w.heap.size w W) => h.keep (Same.of_below hW hP))
  have HPW := Lib.hid (fun W (hW : Below w.heap.size w W) b (hb : P b) => Nat.lt_of_lt_of_le (hP b hb) hW.size)
  generalize hln : l.length = ln at *
  have HLN := Lib.hid hln
  have hb : Below w.heap.size w (w.alloc (.cells #[.int .i64 1, .int .i64 n, .string s, nv, .slice la ln lc] 27)) := (Below.refl _ _).alloc (Nat.le_refl _) _
  have HB := Lib.hid hb
  have HI0 := Lib.hid (intSl_nil (w.alloc (.cells #[.int .i64 1, .int .i64 n, .string s, nv, .slice la ln lc] 27)))
  clear h h0 hb hP hln
  go_enter Tryz.func99, Tryz.ntmps99
  go_wp2_with fail
  refine (areParts_any P _ _ l _ _ (HL.out _ HB.out) HI0.out).mono ?_
  rintro e w2 ⟨rfl, rfl⟩
  go_wp2
  go_ret
  exact ⟨rfl, HB.out⟩
set_option maxRecDepth 100000 in
set_option maxHeartbeats 4000000 in
theorem core_5 (P : Nat → Prop) (n : Int) (s : ByteArray) (nv lv : Value) (l : List Syn) (w : World) (hP : ∀ b, P b → b < w.heap.size) (h : SynSl w P lv l) :
    Calls Tryz.prog 99 #[.agg #[.int .i64 5, .int .i64 n, .string s, nv, lv]] w fun e w' => e = .returned (.bool (Pl.parts l [])) ∧ Below w.heap.size w w' := by
  have h0 := h
  obtain ⟨la, lc, rfl, hm⟩ := h0.form
  unfold maxLen at hm
  have HL := Lib.hid (fun W (hW : Below w.heap.size w W) => h.keep (Same.of_below hW hP))
  have HPW := Lib.hid (fun W (hW : Below w.heap.size w W) b (hb : P b) => Nat.lt_of_lt_of_le (hP b hb) hW.size)
  generalize hln : l.length = ln at *
  have HLN := Lib.hid hln
  have hb : Below w.heap.size w (w.alloc (.cells #[.int .i64 5, .int .i64 n, .string s, nv, .slice la ln lc] 27)) := (Below.refl _ _).alloc (Nat.le_refl _) _
  have HB := Lib.hid hb
  have HI0 := Lib.hid (intSl_nil (w.alloc (.cells #[.int .i64 5, .int .i64 n, .string s, nv, .slice la ln lc] 27)))
  clear h h0 hb hP hln
  go_enter Tryz.func99, Tryz.ntmps99
  go_wp2_with fail
  refine (areParts_any P _ _ l _ _ (HL.out _ HB.out) HI0.out).mono ?_
  rintro e w2 ⟨rfl, rfl⟩
  go_wp2
  go_ret
  exact ⟨rfl, HB.out⟩
set_option maxRecDepth 100000 in
set_option maxHeartbeats 4000000 in
theorem core_11 (P : Nat → Prop) (n : Int) (s : ByteArray) (nv lv : Value) (l : List Syn) (w : World) (hP : ∀ b, P b → b < w.heap.size) (h : SynSl w P lv l) :
    Calls Tryz.prog 99 #[.agg #[.int .i64 11, .int .i64 n, .string s, nv, lv]] w fun e w' => e = .returned (.bool (Pl.parts l [])) ∧ Below w.heap.size w w' := by
  have h0 := h
  obtain ⟨la, lc, rfl, hm⟩ := h0.form
  unfold maxLen at hm
  have HL := Lib.hid (fun W (hW : Below w.heap.size w W) => h.keep (Same.of_below hW hP))
  have HPW := Lib.hid (fun W (hW : Below w.heap.size w W) b (hb : P b) => Nat.lt_of_lt_of_le (hP b hb) hW.size)
  generalize hln : l.length = ln at *
  have HLN := Lib.hid hln
  have hb : Below w.heap.size w (w.alloc (.cells #[.int .i64 11, .int .i64 n, .string s, nv, .slice la ln lc] 27)) := (Below.refl _ _).alloc (Nat.le_refl _) _
  have HB := Lib.hid hb
  have HI0 := Lib.hid (intSl_nil (w.alloc (.cells #[.int .i64 11, .int .i64 n, .string s, nv, .slice la ln lc] 27)))
  clear h h0 hb hP hln
  go_enter Tryz.func99, Tryz.ntmps99
  go_wp2_with fail
  refine (areParts_any P _ _ l _ _ (HL.out _ HB.out) HI0.out).mono ?_
  rintro e w2 ⟨rfl, rfl⟩
  go_wp2
  go_ret
  exact ⟨rfl, HB.out⟩
set_option maxRecDepth 100000 in
set_option maxHeartbeats 4000000 in
theorem core_12 (P : Nat → Prop) (n : Int) (s : ByteArray) (nv lv : Value) (l : List Syn) (w : World) (hP : ∀ b, P b → b < w.heap.size) (h : SynSl w P lv l) :
    Calls Tryz.prog 99 #[.agg #[.int .i64 12, .int .i64 n, .string s, nv, lv]] w fun e w' => e = .returned (.bool (Pl.parts l [])) ∧ Below w.heap.size w w' := by
  have h0 := h
  obtain ⟨la, lc, rfl, hm⟩ := h0.form
  unfold maxLen at hm
  have HL := Lib.hid (fun W (hW : Below w.heap.size w W) => h.keep (Same.of_below hW hP))
  have HPW := Lib.hid (fun W (hW : Below w.heap.size w W) b (hb : P b) => Nat.lt_of_lt_of_le (hP b hb) hW.size)
  generalize hln : l.length = ln at *
  have HLN := Lib.hid hln
  have hb : Below w.heap.size w (w.alloc (.cells #[.int .i64 12, .int .i64 n, .string s, nv, .slice la ln lc] 27)) := (Below.refl _ _).alloc (Nat.le_refl _) _
  have HB := Lib.hid hb
  have HI0 := Lib.hid (intSl_nil (w.alloc (.cells #[.int .i64 12, .int .i64 n, .string s, nv, .slice la ln lc] 27)))
  clear h h0 hb hP hln
  go_enter Tryz.func99, Tryz.ntmps99
  go_wp2_with fail
  refine (areParts_any P _ _ l _ _ (HL.out _ HB.out) HI0.out).mono ?_
  rintro e w2 ⟨rfl, rfl⟩
  go_wp2
  go_ret
  exact ⟨rfl, HB.out⟩
set_option maxRecDepth 100000 in
set_option maxHeartbeats 4000000 in
theorem core_13 (P : Nat → Prop) (n : Int) (s : ByteArray) (nv lv : Value) (l : List Syn) (w : World) (hP : ∀ b, P b → b < w.heap.size) (h : SynSl w P lv l) :
    Calls Tryz.prog 99 #[.agg #[.int .i64 13, .int .i64 n, .string s, nv, lv]] w fun e w' => e = .returned (.bool (Pl.parts l [])) ∧ Below w.heap.size w w' := by
  have h0 := h
  obtain ⟨la, lc, rfl, hm⟩ := h0.form
  unfold maxLen at hm
  have HL := Lib.hid (fun W (hW : Below w.heap.size w W) => h.keep (Same.of_below hW hP))
  have HPW := Lib.hid (fun W (hW : Below w.heap.size w W) b (hb : P b) => Nat.lt_of_lt_of_le (hP b hb) hW.size)
  generalize hln : l.length = ln at *
  have HLN := Lib.hid hln
  have hb : Below w.heap.size w (w.alloc (.cells #[.int .i64 13, .int .i64 n, .string s, nv, .slice la ln lc] 27)) := (Below.refl _ _).alloc (Nat.le_refl _) _
  have HB := Lib.hid hb
  have HI0 := Lib.hid (intSl_nil (w.alloc (.cells #[.int .i64 13, .int .i64 n, .string s, nv, .slice la ln lc] 27)))
  clear h h0 hb hP hln
  go_enter Tryz.func99, Tryz.ntmps99
  go_wp2_with fail
  refine (areParts_any P _ _ l _ _ (HL.out _ HB.out) HI0.out).mono ?_
  rintro e w2 ⟨rfl, rfl⟩
  go_wp2
  go_ret
  exact ⟨rfl, HB.out⟩
set_option maxRecDepth 100000 in
set_option maxHeartbeats 4000000 in
theorem core_21 (P : Nat → Prop) (n : Int) (s : ByteArray) (nv lv : Value) (l : List Syn) (w : World) (hP : ∀ b, P b → b < w.heap.size) (h : SynSl w P lv l) :
    Calls Tryz.prog 99 #[.agg #[.int .i64 21, .int .i64 n, .string s, nv, lv]] w fun e w' => e = .returned (.bool (Pl.parts l [])) ∧ Below w.heap.size w w' := by
  have h0 := h
  obtain ⟨la, lc, rfl, hm⟩ := h0.form
  unfold maxLen at hm
  have HL := Lib.hid (fun W (hW : Below w.heap.size w W) => h.keep (Same.of_below hW hP))
  have HPW := Lib.hid (fun W (hW : Below w.heap.size w W) b (hb : P b) => Nat.lt_of_lt_of_le (hP b hb) hW.size)
  generalize hln : l.length = ln at *
  have HLN := Lib.hid hln
  have hb : Below w.heap.size w (w.alloc (.cells #[.int .i64 21, .int .i64 n, .string s, nv, .slice la ln lc] 27)) := (Below.refl _ _).alloc (Nat.le_refl _) _
  have HB := Lib.hid hb
  have HI0 := Lib.hid (intSl_nil (w.alloc (.cells #[.int .i64 21, .int .i64 n, .string s, nv, .slice la ln lc] 27)))
  clear h h0 hb hP hln
  go_enter Tryz.func99, Tryz.ntmps99
  go_wp2_with fail
  refine (areParts_any P _ _ l _ _ (HL.out _ HB.out) HI0.out).mono ?_
  rintro e w2 ⟨rfl, rfl⟩
  go_wp2
  go_ret
  exact ⟨rfl, HB.out⟩
set_option maxRecDepth 100000 in
set_option maxHeartbeats 4000000 in
theorem core_22 (P : Nat → Prop) (n : Int) (s : ByteArray) (nv lv : Value) (l : List Syn) (w : World) (hP : ∀ b, P b → b < w.heap.size) (h : SynSl w P lv l) :
    Calls Tryz.prog 99 #[.agg #[.int .i64 22, .int .i64 n, .string s, nv, lv]] w fun e w' => e = .returned (.bool (Pl.parts l [])) ∧ Below w.heap.size w w' := by
  have h0 := h
  obtain ⟨la, lc, rfl, hm⟩ := h0.form
  unfold maxLen at hm
  have HL := Lib.hid (fun W (hW : Below w.heap.size w W) => h.keep (Same.of_below hW hP))
  have HPW := Lib.hid (fun W (hW : Below w.heap.size w W) b (hb : P b) => Nat.lt_of_lt_of_le (hP b hb) hW.size)
  generalize hln : l.length = ln at *
  have HLN := Lib.hid hln
  have hb : Below w.heap.size w (w.alloc (.cells #[.int .i64 22, .int .i64 n, .string s, nv, .slice la ln lc] 27)) := (Below.refl _ _).alloc (Nat.le_refl _) _
  have HB := Lib.hid hb
  have HI0 := Lib.hid (intSl_nil (w.alloc (.cells #[.int .i64 22, .int .i64 n, .string s, nv, .slice la ln lc] 27)))
  clear h h0 hb hP hln
  go_enter Tryz.func99, Tryz.ntmps99
  go_wp2_with fail
  refine (areParts_any P _ _ l _ _ (HL.out _ HB.out) HI0.out).mono ?_
  rintro e w2 ⟨rfl, rfl⟩
  go_wp2
  go_ret
  exact ⟨rfl, HB.out⟩
set_option maxRecDepth 100000 in
set_option maxHeartbeats 4000000 in
theorem core_23 (P : Nat → Prop) (n : Int) (s : ByteArray) (nv lv : Value) (l : List Syn) (w : World) (hP : ∀ b, P b → b < w.heap.size) (h : SynSl w P lv l) :
    Calls Tryz.prog 99 #[.agg #[.int .i64 23, .int .i64 n, .string s, nv, lv]] w fun e w' => e = .returned (.bool (Pl.parts l [])) ∧ Below w.heap.size w w' := by
  have h0 := h
  obtain ⟨la, lc, rfl, hm⟩ := h0.form
  unfold maxLen at hm
  have HL := Lib.hid (fun W (hW : Below w.heap.size w W) => h.keep (Same.of_below hW hP))
  have HPW := Lib.hid (fun W (hW : Below w.heap.size w W) b (hb : P b) => Nat.lt_of_lt_of_le (hP b hb) hW.size)
  generalize hln : l.length = ln at *
  have HLN := Lib.hid hln
  have hb : Below w.heap.size w (w.alloc (.cells #[.int .i64 23, .int .i64 n, .string s, nv, .slice la ln lc] 27)) := (Below.refl _ _).alloc (Nat.le_refl _) _
  have HB := Lib.hid hb
  have HI0 := Lib.hid (intSl_nil (w.alloc (.cells #[.int .i64 23, .int .i64 n, .string s, nv, .slice la ln lc] 27)))
  clear h h0 hb hP hln
  go_enter Tryz.func99, Tryz.ntmps99
  go_wp2_with fail
  refine (areParts_any P _ _ l _ _ (HL.out _ HB.out) HI0.out).mono ?_
  rintro e w2 ⟨rfl, rfl⟩
  go_wp2
  go_ret
  exact ⟨rfl, HB.out⟩
set_option maxRecDepth 100000 in
set_option maxHeartbeats 4000000 in
theorem core_24 (P : Nat → Prop) (n : Int) (s : ByteArray) (nv lv : Value) (l : List Syn) (w : World) (hP : ∀ b, P b → b < w.heap.size) (h : SynSl w P lv l) :
    Calls Tryz.prog 99 #[.agg #[.int .i64 24, .int .i64 n, .string s, nv, lv]] w fun e w' => e = .returned (.bool (Pl.parts l [])) ∧ Below w.heap.size w w' := by
  have h0 := h
  obtain ⟨la, lc, rfl, hm⟩ := h0.form
  unfold maxLen at hm
  have HL := Lib.hid (fun W (hW : Below w.heap.size w W) => h.keep (Same.of_below hW hP))
  have HPW := Lib.hid (fun W (hW : Below w.heap.size w W) b (hb : P b) => Nat.lt_of_lt_of_le (hP b hb) hW.size)
  generalize hln : l.length = ln at *
  have HLN := Lib.hid hln
  have hb : Below w.heap.size w (w.alloc (.cells #[.int .i64 24, .int .i64 n, .string s, nv, .slice la ln lc] 27)) := (Below.refl _ _).alloc (Nat.le_refl _) _
  have HB := Lib.hid hb
  have HI0 := Lib.hid (intSl_nil (w.alloc (.cells #[.int .i64 24, .int .i64 n, .string s, nv, .slice la ln lc] 27)))
  clear h h0 hb hP hln
  go_enter Tryz.func99, Tryz.ntmps99
  go_wp2_with fail
  refine (areParts_any P _ _ l _ _ (HL.out _ HB.out) HI0.out).mono ?_
  rintro e w2 ⟨rfl, rfl⟩
  go_wp2
  go_ret
  exact ⟨rfl, HB.out⟩
set_option maxRecDepth 100000 in
set_option maxHeartbeats 4000000 in
theorem core_2 (P : Nat → Prop) (n : Int) (s : ByteArray) (nv lv : Value) (l : List Syn) (w : World) (hP : ∀ b, P b → b < w.heap.size) (h : SynSl w P lv l) :
    Calls Tryz.prog 99 #[.agg #[.int .i64 2, .int .i64 n, .string s, nv, lv]] w fun e w' => e = .returned (.bool (decide (l.length ≤ 4) && Pl.allOf l 1)) ∧ Below w.heap.size w w' := by
  have h0 := h
  obtain ⟨la, lc, rfl, hm⟩ := h0.form
  unfold maxLen at hm
  have HL := Lib.hid (fun W (hW : Below w.heap.size w W) => h.keep (Same.of_below hW hP))
  have HPW := Lib.hid (fun W (hW : Below w.heap.size w W) b (hb : P b) => Nat.lt_of_lt_of_le (hP b hb) hW.size)
  generalize hln : l.length = ln at *
  have HLN := Lib.hid hln
  have hb : Below w.heap.size w (w.alloc (.cells #[.int .i64 2, .int .i64 n, .string s, nv, .slice la ln lc] 27)) := (Below.refl _ _).alloc (Nat.le_refl _) _
  have HB := Lib.hid hb
  clear h h0 hb hP hln
  have HA := Lib.hid (fun W h1 h2 => allOf_any P (.slice la ln lc) l 1 W h1 h2)
  generalize Pl.allOf l 1 = r at *
  by_cases h4 : ln ≤ 4
  · have q : decide ((ln : Int) ≤ 4) = true := by simp; omega
    go_enter Tryz.func99, Tryz.ntmps99
    go_wp2_with fail
    refine (HA.out _ (HPW.out _ HB.out) (HL.out _ HB.out)).mono ?_
    rintro e w2 ⟨rfl, hb2⟩
    have HB2 := Lib.hid (HB.out.trans (hb2.mono HB.out.size))
    clear hb2
    go_wp2
    go_ret
    exact ⟨ret_bool (by first | rfl | simp [h4] | (rw [decide_eq_true h4]; rfl)), HB2.out⟩
  · have q : decide ((ln : Int) ≤ 4) = false := by simp; omega
    go_enter Tryz.func99, Tryz.ntmps99
    go_wp2
    go_ret
    exact ⟨ret_bool (by first | rfl | simp [h4] | (rw [decide_eq_false h4]; rfl)), HB.out⟩
set_option maxRecDepth 100000 in
set_option maxHeartbeats 4000000 in
theorem core_3 (P : Nat → Prop) (n : Int) (s : ByteArray) (nv lv : Value) (l : List Syn) (w : World) (hP : ∀ b, P b → b < w.heap.size) (h : SynSl w P lv l) :
    Calls Tryz.prog 99 #[.agg #[.int .i64 3, .int .i64 n, .string s, nv, lv]] w fun e w' => e = .returned (.bool (Pl.parts l [1, 1])) ∧ Below w.heap.size w w' := by
  have h0 := h
  obtain ⟨la, lc, rfl, hm⟩ := h0.form
  unfold maxLen at hm
  have HL := Lib.hid (fun W (hW : Below w.heap.size w W) => h.keep (Same.of_below hW hP))
  have HPW := Lib.hid (fun W (hW : Below w.heap.size w W) b (hb : P b) => Nat.lt_of_lt_of_le (hP b hb) hW.size)
  generalize hln : l.length = ln at *
  have HLN := Lib.hid hln
  have hb : Below w.heap.size w (w.alloc (.cells #[.int .i64 3, .int .i64 n, .string s, nv, .slice la ln lc] 27)) := (Below.refl _ _).alloc (Nat.le_refl _) _
  have HB := Lib.hid hb
  have hi := intSl_2 (w.alloc (.cells #[.int .i64 3, .int .i64 n, .string s, nv, .slice la ln lc] 27)) 1 1 2
  rw [size_alloc] at hi
  have HI := Lib.hid hi
  have hb2 : Below w.heap.size w ((w.alloc (.cells #[.int .i64 3, .int .i64 n, .string s, nv, .slice la ln lc] 27)).alloc (.cells #[.int .i64 1, .int .i64 1] 3)) := ((Below.refl _ _).alloc (Nat.le_refl _) _).alloc (by simp) _
  have HB2 := Lib.hid hb2
  clear hi hb2
  clear h h0 hb hP hln
  go_enter Tryz.func99, Tryz.ntmps99
  go_wp2_with fail
  refine (areParts_any P _ _ l _ _ (HL.out _ HB2.out) HI.out).mono ?_
  rintro e w2 ⟨rfl, rfl⟩
  go_wp2
  go_ret
  exact ⟨rfl, HB2.out⟩
set_option maxRecDepth 100000 in
set_option maxHeartbeats 4000000 in
theorem core_4 (P : Nat → Prop) (n : Int) (s : ByteArray) (nv lv : Value) (l : List Syn) (w : World) (hP : ∀ b, P b → b < w.heap.size) (h : SynSl w P lv l) :
    Calls Tryz.prog 99 #[.agg #[.int .i64 4, .int .i64 n, .string s, nv, lv]] w fun e w' => e = .returned (.bool (Pl.tuple l 1)) ∧ Below w.heap.size w w' := by
  have h0 := h
  obtain ⟨la, lc, rfl, hm⟩ := h0.form
  unfold maxLen at hm
  have HL := Lib.hid (fun W (hW : Below w.heap.size w W) => h.keep (Same.of_below hW hP))
  have HPW := Lib.hid (fun W (hW : Below w.heap.size w W) b (hb : P b) => Nat.lt_of_lt_of_le (hP b hb) hW.size)
  generalize hln : l.length = ln at *
  have HLN := Lib.hid hln
  have hb : Below w.heap.size w (w.alloc (.cells #[.int .i64 4, .int .i64 n, .string s, nv, .slice la ln lc] 27)) := (Below.refl _ _).alloc (Nat.le_refl _) _
  have HB := Lib.hid hb
  clear h h0 hb hP hln
  go_enter Tryz.func99, Tryz.ntmps99
  go_wp2_with fail
  refine (isTuple_any P _ l _ _ (HPW.out _ HB.out) (HL.out _ HB.out)).mono ?_
  rintro e w2 ⟨rfl, hb2⟩
  have HB2 := Lib.hid (HB.out.trans (hb2.mono HB.out.size))
  clear hb2
  go_wp2
  go_ret
  exact ⟨rfl, HB2.out⟩
set_option maxRecDepth 100000 in
set_option maxHeartbeats 4000000 in
theorem core_14 (P : Nat → Prop) (n : Int) (s : ByteArray) (nv lv : Value) (l : List Syn) (w : World) (hP : ∀ b, P b → b < w.heap.size) (h : SynSl w P lv l) :
    Calls Tryz.prog 99 #[.agg #[.int .i64 14, .int .i64 n, .string s, nv, lv]] w fun e w' => e = .returned (.bool (Pl.parts l [] || Pl.parts l [2])) ∧ Below w.heap.size w w' := by
  have h0 := h
  obtain ⟨la, lc, rfl, hm⟩ := h0.form
  unfold maxLen at hm
  have HL := Lib.hid (fun W (hW : Below w.heap.size w W) => h.keep (Same.of_below hW hP))
  have HPW := Lib.hid (fun W (hW : Below w.heap.size w W) b (hb : P b) => Nat.lt_of_lt_of_le (hP b hb) hW.size)
  generalize hln : l.length = ln at *
  have HLN := Lib.hid hln
  have hb : Below w.heap.size w (w.alloc (.cells #[.int .i64 14, .int .i64 n, .string s, nv, .slice la ln lc] 27)) := (Below.refl _ _).alloc (Nat.le_refl _) _
  have HB := Lib.hid hb
  have HI0 := Lib.hid (intSl_nil (w.alloc (.cells #[.int .i64 14, .int .i64 n, .string s, nv, .slice la ln lc] 27)))
  have hi := intSl_1 (w.alloc (.cells #[.int .i64 14, .int .i64 n, .string s, nv, .slice la ln lc] 27)) 2 1
  rw [size_alloc] at hi
  have HI := Lib.hid hi
  have hb2 : Below w.heap.size w ((w.alloc (.cells #[.int .i64 14, .int .i64 n, .string s, nv, .slice la ln lc] 27)).alloc (.cells #[.int .i64 2] 3)) := ((Below.refl _ _).alloc (Nat.le_refl _) _).alloc (by simp) _
  have HB2 := Lib.hid hb2
  clear hi hb2
  clear h h0 hb hP hln
  have HA := Lib.hid (areParts_any P _ _ l _ _ (HL.out _ HB.out) HI0.out)
  have HA2 := Lib.hid (areParts_any P _ _ l _ _ (HL.out _ HB2.out) HI.out)
  generalize Pl.parts l [] = r at *
  generalize Pl.parts l [2] = r2 at *
  cases r
  · go_enter Tryz.func99, Tryz.ntmps99
    go_wp2_with fail
    refine HA.out.mono ?_
    rintro e w2 ⟨rfl, rfl⟩
    go_wp2_with fail
    refine HA2.out.mono ?_
    rintro e w2 ⟨rfl, rfl⟩
    go_wp2
    go_ret
    exact ⟨rfl, HB2.out⟩
  · go_enter Tryz.func99, Tryz.ntmps99
    go_wp2_with fail
    refine HA.out.mono ?_
    rintro e w2 ⟨rfl, rfl⟩
    go_wp2
    go_ret
    exact ⟨rfl, HB.out⟩
set_option maxRecDepth 100000 in
set_option maxHeartbeats 4000000 in
theorem core_15 (P : Nat → Prop) (n : Int) (s : ByteArray) (nv lv : Value) (l : List Syn) (w : World) (hP : ∀ b, P b → b < w.heap.size) (h : SynSl w P lv l) :
    Calls Tryz.prog 99 #[.agg #[.int .i64 15, .int .i64 n, .string s, nv, lv]] w fun e w' => e = .returned (.bool (Pl.parts l [] || Pl.tuple l 2)) ∧ Below w.heap.size w w' := by
  have h0 := h
  obtain ⟨la, lc, rfl, hm⟩ := h0.form
  unfold maxLen at hm
  have HL := Lib.hid (fun W (hW : Below w.heap.size w W) => h.keep (Same.of_below hW hP))
  have HPW := Lib.hid (fun W (hW : Below w.heap.size w W) b (hb : P b) => Nat.lt_of_lt_of_le (hP b hb) hW.size)
  generalize hln : l.length = ln at *
  have HLN := Lib.hid hln
  have hb : Below w.heap.size w (w.alloc (.cells #[.int .i64 15, .int .i64 n, .string s, nv, .slice la ln lc] 27)) := (Below.refl _ _).alloc (Nat.le_refl _) _
  have HB := Lib.hid hb
  have HI0 := Lib.hid (intSl_nil (w.alloc (.cells #[.int .i64 15, .int .i64 n, .string s, nv, .slice la ln lc] 27)))
  clear h h0 hb hP hln
  have HA := Lib.hid (areParts_any P _ _ l _ _ (HL.out _ HB.out) HI0.out)
  have HA2 := Lib.hid (isTuple_any P _ l 2 _ (HPW.out _ HB.out) (HL.out _ HB.out))
  generalize Pl.parts l [] = r at *
  generalize Pl.tuple l 2 = r2 at *
  cases r
  · go_enter Tryz.func99, Tryz.ntmps99
    go_wp2_with fail
    refine HA.out.mono ?_
    rintro e w2 ⟨rfl, rfl⟩
    go_wp2_with fail
    refine HA2.out.mono ?_
    rintro e w2 ⟨rfl, hb2⟩
    have HB2 := Lib.hid (HB.out.trans (hb2.mono HB.out.size))
    clear hb2
    go_wp2
    go_ret
    exact ⟨rfl, HB2.out⟩
  · go_enter Tryz.func99, Tryz.ntmps99
    go_wp2_with fail
    refine HA.out.mono ?_
    rintro e w2 ⟨rfl, rfl⟩
    go_wp2
    go_ret
    exact ⟨rfl, HB.out⟩
end Go.Proofs.YtjedahcpkcgpeaaGreatDoor

/-
  Walks of layer 3: the parts of a node, second.
-/
namespace Go.Proofs.YtjedahcpkcgpeaaGreatDoor
open Go Go.RowKit
open Pl (Syn)
set_option linter.unusedSimpArgs false
set_option maxRecDepth 100000 in
set_option maxHeartbeats 4000000 in
theorem core_25 (P : Nat → Prop) (n : Int) (s : ByteArray) (nv lv : Value) (l : List Syn) (w : World) (hP : ∀ b, P b → b < w.heap.size) (h : SynSl w P lv l) :
    Calls Tryz.prog 99 #[.agg #[.int .i64 25, .int .i64 n, .string s, nv, lv]] w fun e w' => e = .returned (.bool (Pl.parts l [3])) ∧ Below w.heap.size w w' := by
  have h0 := h
  obtain ⟨la, lc, rfl, hm⟩ := h0.form
  unfold maxLen at hm
  have HL := Lib.hid (fun W (hW : Below w.heap.size w W) => h.keep (Same.of_below hW hP))
  have HPW := Lib.hid (fun W (hW : Below w.heap.size w W) b (hb : P b) => Nat.lt_of_lt_of_le (hP b hb) hW.size)
  generalize hln : l.length = ln at *
  have HLN := Lib.hid hln
  have hb : Below w.heap.size w (w.alloc (.cells #[.int .i64 25, .int .i64 n, .string s, nv, .slice la ln lc] 27)) := (Below.refl _ _).alloc (Nat.le_refl _) _
  have HB := Lib.hid hb
  have hi := intSl_1 (w.alloc (.cells #[.int .i64 25, .int .i64 n, .string s, nv, .slice la ln lc] 27)) 3 1
  rw [size_alloc] at hi
  have HI := Lib.hid hi
  have hb2 : Below w.heap.size w ((w.alloc (.cells #[.int .i64 25, .int .i64 n, .string s, nv, .slice la ln lc] 27)).alloc (.cells #[.int .i64 3] 3)) := ((Below.refl _ _).alloc (Nat.le_refl _) _).alloc (by simp) _
  have HB2 := Lib.hid hb2
  clear hi hb2
  clear h h0 hb hP hln
  go_enter Tryz.func99, Tryz.ntmps99
  go_wp2_with fail
  refine (areParts_any P _ _ l _ _ (HL.out _ HB2.out) HI.out).mono ?_
  rintro e w2 ⟨rfl, rfl⟩
  go_wp2
  go_ret
  exact ⟨rfl, HB2.out⟩
set_option maxRecDepth 100000 in
set_option maxHeartbeats 4000000 in
theorem core_26 (P : Nat → Prop) (n : Int) (s : ByteArray) (nv lv : Value) (l : List Syn) (w : World) (hP : ∀ b, P b → b < w.heap.size) (h : SynSl w P lv l) :
    Calls Tryz.prog 99 #[.agg #[.int .i64 26, .int .i64 n, .string s, nv, lv]] w fun e w' => e = .returned (.bool (Pl.parts l [3, 3])) ∧ Below w.heap.size w w' := by
  have h0 := h
  obtain ⟨la, lc, rfl, hm⟩ := h0.form
  unfold maxLen at hm
  have HL := Lib.hid (fun W (hW : Below w.heap.size w W) => h.keep (Same.of_below hW hP))
  have HPW := Lib.hid (fun W (hW : Below w.heap.size w W) b (hb : P b) => Nat.lt_of_lt_of_le (hP b hb) hW.size)
  generalize hln : l.length = ln at *
  have HLN := Lib.hid hln
  have hb : Below w.heap.size w (w.alloc (.cells #[.int .i64 26, .int .i64 n, .string s, nv, .slice la ln lc] 27)) := (Below.refl _ _).alloc (Nat.le_refl _) _
  have HB := Lib.hid hb
  have hi := intSl_2 (w.alloc (.cells #[.int .i64 26, .int .i64 n, .string s, nv, .slice la ln lc] 27)) 3 3 2
  rw [size_alloc] at hi
  have HI := Lib.hid hi
  have hb2 : Below w.heap.size w ((w.alloc (.cells #[.int .i64 26, .int .i64 n, .string s, nv, .slice la ln lc] 27)).alloc (.cells #[.int .i64 3, .int .i64 3] 3)) := ((Below.refl _ _).alloc (Nat.le_refl _) _).alloc (by simp) _
  have HB2 := Lib.hid hb2
  clear hi hb2
  clear h h0 hb hP hln
  go_enter Tryz.func99, Tryz.ntmps99
  go_wp2_with fail
  refine (areParts_any P _ _ l _ _ (HL.out _ HB2.out) HI.out).mono ?_
  rintro e w2 ⟨rfl, rfl⟩
  go_wp2
  go_ret
  exact ⟨rfl, HB2.out⟩
set_option maxRecDepth 100000 in
set_option maxHeartbeats 4000000 in
theorem core_27 (P : Nat → Prop) (n : Int) (s : ByteArray) (nv lv : Value) (l : List Syn) (w : World) (hP : ∀ b, P b → b < w.heap.size) (h : SynSl w P lv l) :
    Calls Tryz.prog 99 #[.agg #[.int .i64 27, .int .i64 n, .string s, nv, lv]] w fun e w' => e = .returned (.bool (Pl.parts l [] || Pl.tuple l 3)) ∧ Below w.heap.size w w' := by
  have h0 := h
  obtain ⟨la, lc, rfl, hm⟩ := h0.form
  unfold maxLen at hm
  have HL := Lib.hid (fun W (hW : Below w.heap.size w W) => h.keep (Same.of_below hW hP))
  have HPW := Lib.hid (fun W (hW : Below w.heap.size w W) b (hb : P b) => Nat.lt_of_lt_of_le (hP b hb) hW.size)
  generalize hln : l.length = ln at *
  have HLN := Lib.hid hln
  have hb : Below w.heap.size w (w.alloc (.cells #[.int .i64 27, .int .i64 n, .string s, nv, .slice la ln lc] 27)) := (Below.refl _ _).alloc (Nat.le_refl _) _
  have HB := Lib.hid hb
  have HI0 := Lib.hid (intSl_nil (w.alloc (.cells #[.int .i64 27, .int .i64 n, .string s, nv, .slice la ln lc] 27)))
  clear h h0 hb hP hln
  have HA := Lib.hid (areParts_any P _ _ l _ _ (HL.out _ HB.out) HI0.out)
  have HA2 := Lib.hid (isTuple_any P _ l 3 _ (HPW.out _ HB.out) (HL.out _ HB.out))
  generalize Pl.parts l [] = r at *
  generalize Pl.tuple l 3 = r2 at *
  cases r
  · go_enter Tryz.func99, Tryz.ntmps99
    go_wp2_with fail
    refine HA.out.mono ?_
    rintro e w2 ⟨rfl, rfl⟩
    go_wp2_with fail
    refine HA2.out.mono ?_
    rintro e w2 ⟨rfl, hb2⟩
    have HB2 := Lib.hid (HB.out.trans (hb2.mono HB.out.size))
    clear hb2
    go_wp2
    go_ret
    exact ⟨rfl, HB2.out⟩
  · go_enter Tryz.func99, Tryz.ntmps99
    go_wp2_with fail
    refine HA.out.mono ?_
    rintro e w2 ⟨rfl, rfl⟩
    go_wp2
    go_ret
    exact ⟨rfl, HB.out⟩
set_option maxRecDepth 100000 in
set_option maxHeartbeats 4000000 in
theorem core_28 (P : Nat → Prop) (n : Int) (s : ByteArray) (nv lv : Value) (l : List Syn) (w : World) (hP : ∀ b, P b → b < w.heap.size) (h : SynSl w P lv l) :
    Calls Tryz.prog 99 #[.agg #[.int .i64 28, .int .i64 n, .string s, nv, lv]] w fun e w' => e = .returned (.bool (Pl.parts l [3, 3, 3])) ∧ Below w.heap.size w w' := by
  have h0 := h
  obtain ⟨la, lc, rfl, hm⟩ := h0.form
  unfold maxLen at hm
  have HL := Lib.hid (fun W (hW : Below w.heap.size w W) => h.keep (Same.of_below hW hP))
  have HPW := Lib.hid (fun W (hW : Below w.heap.size w W) b (hb : P b) => Nat.lt_of_lt_of_le (hP b hb) hW.size)
  generalize hln : l.length = ln at *
  have HLN := Lib.hid hln
  have hb : Below w.heap.size w (w.alloc (.cells #[.int .i64 28, .int .i64 n, .string s, nv, .slice la ln lc] 27)) := (Below.refl _ _).alloc (Nat.le_refl _) _
  have HB := Lib.hid hb
  have hi := intSl_3 (w.alloc (.cells #[.int .i64 28, .int .i64 n, .string s, nv, .slice la ln lc] 27)) 3 3 3 3
  rw [size_alloc] at hi
  have HI := Lib.hid hi
  have hb2 : Below w.heap.size w ((w.alloc (.cells #[.int .i64 28, .int .i64 n, .string s, nv, .slice la ln lc] 27)).alloc (.cells #[.int .i64 3, .int .i64 3, .int .i64 3] 3)) := ((Below.refl _ _).alloc (Nat.le_refl _) _).alloc (by simp) _
  have HB2 := Lib.hid hb2
  clear hi hb2
  clear h h0 hb hP hln
  go_enter Tryz.func99, Tryz.ntmps99
  go_wp2_with fail
  refine (areParts_any P _ _ l _ _ (HL.out _ HB2.out) HI.out).mono ?_
  rintro e w2 ⟨rfl, rfl⟩
  go_wp2
  go_ret
  exact ⟨rfl, HB2.out⟩
set_option maxRecDepth 100000 in
set_option maxHeartbeats 4000000 in
theorem core_30 (P : Nat → Prop) (n : Int) (s : ByteArray) (nv lv : Value) (l : List Syn) (w : World) (hP : ∀ b, P b → b < w.heap.size) (h : SynSl w P lv l) :
    Calls Tryz.prog 99 #[.agg #[.int .i64 30, .int .i64 n, .string s, nv, lv]] w fun e w' => e = .returned (.bool (Pl.parts l [2, 3])) ∧ Below w.heap.size w w' := by
  have h0 := h
  obtain ⟨la, lc, rfl, hm⟩ := h0.form
  unfold maxLen at hm
  have HL := Lib.hid (fun W (hW : Below w.heap.size w W) => h.keep (Same.of_below hW hP))
  have HPW := Lib.hid (fun W (hW : Below w.heap.size w W) b (hb : P b) => Nat.lt_of_lt_of_le (hP b hb) hW.size)
  generalize hln : l.length = ln at *
  have HLN := Lib.hid hln
  have hb : Below w.heap.size w (w.alloc (.cells #[.int .i64 30, .int .i64 n, .string s, nv, .slice la ln lc] 27)) := (Below.refl _ _).alloc (Nat.le_refl _) _
  have HB := Lib.hid hb
  have hi := intSl_2 (w.alloc (.cells #[.int .i64 30, .int .i64 n, .string s, nv, .slice la ln lc] 27)) 2 3 2
  rw [size_alloc] at hi
  have HI := Lib.hid hi
  have hb2 : Below w.heap.size w ((w.alloc (.cells #[.int .i64 30, .int .i64 n, .string s, nv, .slice la ln lc] 27)).alloc (.cells #[.int .i64 2, .int .i64 3] 3)) := ((Below.refl _ _).alloc (Nat.le_refl _) _).alloc (by simp) _
  have HB2 := Lib.hid hb2
  clear hi hb2
  clear h h0 hb hP hln
  go_enter Tryz.func99, Tryz.ntmps99
  go_wp2_with fail
  refine (areParts_any P _ _ l _ _ (HL.out _ HB2.out) HI.out).mono ?_
  rintro e w2 ⟨rfl, rfl⟩
  go_wp2
  go_ret
  exact ⟨rfl, HB2.out⟩
set_option maxRecDepth 100000 in
set_option maxHeartbeats 4000000 in
theorem core_32 (P : Nat → Prop) (n : Int) (s : ByteArray) (nv lv : Value) (l : List Syn) (w : World) (hP : ∀ b, P b → b < w.heap.size) (h : SynSl w P lv l) :
    Calls Tryz.prog 99 #[.agg #[.int .i64 32, .int .i64 n, .string s, nv, lv]] w fun e w' => e = .returned (.bool (if n = 12 then Pl.parts l [3] else Pl.parts l [3, 3])) ∧ Below w.heap.size w w' := by
  have h0 := h
  obtain ⟨la, lc, rfl, hm⟩ := h0.form
  unfold maxLen at hm
  have HL := Lib.hid (fun W (hW : Below w.heap.size w W) => h.keep (Same.of_below hW hP))
  have HPW := Lib.hid (fun W (hW : Below w.heap.size w W) b (hb : P b) => Nat.lt_of_lt_of_le (hP b hb) hW.size)
  generalize hln : l.length = ln at *
  have HLN := Lib.hid hln
  have hb : Below w.heap.size w (w.alloc (.cells #[.int .i64 32, .int .i64 n, .string s, nv, .slice la ln lc] 27)) := (Below.refl _ _).alloc (Nat.le_refl _) _
  have HB := Lib.hid hb
  have hi := intSl_1 (w.alloc (.cells #[.int .i64 32, .int .i64 n, .string s, nv, .slice la ln lc] 27)) 3 1
  rw [size_alloc] at hi
  have HI := Lib.hid hi
  have hb2 : Below w.heap.size w ((w.alloc (.cells #[.int .i64 32, .int .i64 n, .string s, nv, .slice la ln lc] 27)).alloc (.cells #[.int .i64 3] 3)) := ((Below.refl _ _).alloc (Nat.le_refl _) _).alloc (by simp) _
  have HB2 := Lib.hid hb2
  clear hi hb2
  have hib := intSl_2 (w.alloc (.cells #[.int .i64 32, .int .i64 n, .string s, nv, .slice la ln lc] 27)) 3 3 2
  rw [size_alloc] at hib
  have HIb := Lib.hid hib
  have hb2b : Below w.heap.size w ((w.alloc (.cells #[.int .i64 32, .int .i64 n, .string s, nv, .slice la ln lc] 27)).alloc (.cells #[.int .i64 3, .int .i64 3] 3)) := ((Below.refl _ _).alloc (Nat.le_refl _) _).alloc (by simp) _
  have HB2b := Lib.hid hb2b
  clear hib hb2b
  clear h h0 hb hP hln
  have HA := Lib.hid (areParts_any P _ _ l _ _ (HL.out _ HB2.out) HI.out)
  have HA2 := Lib.hid (areParts_any P _ _ l _ _ (HL.out _ HB2b.out) HIb.out)
  generalize Pl.parts l [3] = r at *
  generalize Pl.parts l [3, 3] = r2 at *
  by_cases h12 : n = 12
  · subst h12
    go_enter Tryz.func99, Tryz.ntmps99
    go_wp2_with fail
    refine HA.out.mono ?_
    rintro e w2 ⟨rfl, rfl⟩
    go_wp2
    go_ret
    exact ⟨ret_bool (by first | rfl | simp), HB2.out⟩
  · have q : (n == 12) = false := by simpa using h12
    go_enter Tryz.func99, Tryz.ntmps99
    go_wp2_with fail
    refine HA2.out.mono ?_
    rintro e w2 ⟨rfl, rfl⟩
    go_wp2
    go_ret
    exact ⟨ret_bool (by first | rfl | simp [h12]), HB2b.out⟩
set_option maxRecDepth 100000 in
set_option maxHeartbeats 4000000 in
theorem core_33 (P : Nat → Prop) (n : Int) (s : ByteArray) (nv lv : Value) (l : List Syn) (w : World) (hP : ∀ b, P b → b < w.heap.size) (h : SynSl w P lv l) :
    Calls Tryz.prog 99 #[.agg #[.int .i64 33, .int .i64 n, .string s, nv, lv]] w fun e w' => e = .returned (.bool (Pl.parts l [3, 1])) ∧ Below w.heap.size w w' := by
  have h0 := h
  obtain ⟨la, lc, rfl, hm⟩ := h0.form
  unfold maxLen at hm
  have HL := Lib.hid (fun W (hW : Below w.heap.size w W) => h.keep (Same.of_below hW hP))
  have HPW := Lib.hid (fun W (hW : Below w.heap.size w W) b (hb : P b) => Nat.lt_of_lt_of_le (hP b hb) hW.size)
  generalize hln : l.length = ln at *
  have HLN := Lib.hid hln
  have hb : Below w.heap.size w (w.alloc (.cells #[.int .i64 33, .int .i64 n, .string s, nv, .slice la ln lc] 27)) := (Below.refl _ _).alloc (Nat.le_refl _) _
  have HB := Lib.hid hb
  have hi := intSl_2 (w.alloc (.cells #[.int .i64 33, .int .i64 n, .string s, nv, .slice la ln lc] 27)) 3 1 2
  rw [size_alloc] at hi
  have HI := Lib.hid hi
  have hb2 : Below w.heap.size w ((w.alloc (.cells #[.int .i64 33, .int .i64 n, .string s, nv, .slice la ln lc] 27)).alloc (.cells #[.int .i64 3, .int .i64 1] 3)) := ((Below.refl _ _).alloc (Nat.le_refl _) _).alloc (by simp) _
  have HB2 := Lib.hid hb2
  clear hi hb2
  clear h h0 hb hP hln
  go_enter Tryz.func99, Tryz.ntmps99
  go_wp2_with fail
  refine (areParts_any P _ _ l _ _ (HL.out _ HB2.out) HI.out).mono ?_
  rintro e w2 ⟨rfl, rfl⟩
  go_wp2
  go_ret
  exact ⟨rfl, HB2.out⟩
set_option maxRecDepth 100000 in
set_option maxHeartbeats 4000000 in
theorem core_34 (P : Nat → Prop) (n : Int) (s : ByteArray) (nv lv : Value) (l : List Syn) (w : World) (hP : ∀ b, P b → b < w.heap.size) (h : SynSl w P lv l) :
    Calls Tryz.prog 99 #[.agg #[.int .i64 34, .int .i64 n, .string s, nv, lv]] w fun e w' => e = .returned (.bool (Pl.parts l [6] && decide (Pl.opAt l 0 = 72))) ∧ Below w.heap.size w w' := by
  have h0 := h
  obtain ⟨la, lc, rfl, hm⟩ := h0.form
  unfold maxLen at hm
  have HL := Lib.hid (fun W (hW : Below w.heap.size w W) => h.keep (Same.of_below hW hP))
  have HPW := Lib.hid (fun W (hW : Below w.heap.size w W) b (hb : P b) => Nat.lt_of_lt_of_le (hP b hb) hW.size)
  generalize hln : l.length = ln at *
  have HLN := Lib.hid hln
  have hb : Below w.heap.size w (w.alloc (.cells #[.int .i64 34, .int .i64 n, .string s, nv, .slice la ln lc] 27)) := (Below.refl _ _).alloc (Nat.le_refl _) _
  have HB := Lib.hid hb
  have hi := intSl_1 (w.alloc (.cells #[.int .i64 34, .int .i64 n, .string s, nv, .slice la ln lc] 27)) 6 1
  rw [size_alloc] at hi
  have HI := Lib.hid hi
  have hb2 : Below w.heap.size w ((w.alloc (.cells #[.int .i64 34, .int .i64 n, .string s, nv, .slice la ln lc] 27)).alloc (.cells #[.int .i64 6] 3)) := ((Below.refl _ _).alloc (Nat.le_refl _) _).alloc (by simp) _
  have HB2 := Lib.hid hb2
  clear hi hb2
  have HA := Lib.hid (areParts_any P _ _ l _ _ (HL.out _ HB2.out) HI.out)
  by_cases hp : Pl.parts l [6] = true
  · have hlen : l.length = 1 := parts_true_len l _ hp
    rcases h.cases with ⟨rfl, _⟩ | ⟨b, off, n', c', hv, hnl, hn0, hnc, hcm, hPb, hka⟩
    · simp at hlen
    · injection hv with hv1 hv2 hv3
      subst hv1 hv2 hv3
      have hl2 : ln = 1 := by omega
      subst hl2
      obtain ⟨xo, xn, xs, na, nn, nc, la, ln, lc', hxo, a0, -⟩ := (hka.keep (Same.of_below HB2.out hP) hPb).part 0 (by omega)
      simp only [Nat.zero_mul, Nat.one_mul, Nat.add_zero] at a0
      have HO := Lib.hid ((opAt_get l 0 (by omega)).trans hxo)
      have HPT := Lib.hid hp
      rw [hp] at HA
      clear h h0 hb hP hln hka hxo hlen
      go_enter Tryz.func99, Tryz.ntmps99
      go_wp2_with fail
      refine HA.out.mono ?_
      rintro e w2 ⟨rfl, rfl⟩
      go_wp2
      go_ret
      exact ⟨ret_bool (by rw [HPT.out, HO.out, Bool.true_and]; rfl), HB2.out⟩
  · have hp' : Pl.parts l [6] = false := by simpa using hp
    have HPT := Lib.hid hp'
    rw [hp'] at HA
    clear h h0 hb hP hln hp hp'
    go_enter Tryz.func99, Tryz.ntmps99
    go_wp2_with fail
    refine HA.out.mono ?_
    rintro e w2 ⟨rfl, rfl⟩
    go_wp2
    go_ret
    exact ⟨ret_bool (by rw [HPT.out]; rfl), HB2.out⟩
end Go.Proofs.YtjedahcpkcgpeaaGreatDoor
