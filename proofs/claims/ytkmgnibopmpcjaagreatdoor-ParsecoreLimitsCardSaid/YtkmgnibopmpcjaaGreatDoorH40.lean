/-
  Walks and plain mathematics, several texts in one (Tj).
-/
import Derived.Test.YtkmgnibopmpcjaaGreatDoorH37
import Derived.Test.YtkmgnibopmpcjaaGreatDoorH38
/-
  Walks of layer 3: the parts of a node, third.
-/
namespace Go.Proofs.YtkmgnibopmpcjaaGreatDoor
open Go Go.RowKit
open Pl (Syn)
set_option linter.unusedSimpArgs false
set_option maxRecDepth 100000 in
set_option maxHeartbeats 4000000 in
theorem modl_48 (P : Nat → Prop) (n : Int) (s : ByteArray) (nv lv : Value) (l : List Syn) (w : World) (hP : ∀ b, P b → b < w.heap.size) (h : SynSl w P lv l) :
    Calls Tryz.prog 185 #[.agg #[.int .i64 48, .int .i64 n, .string s, nv, lv]] w fun e w' => e = .returned (.bool (Pl.parts l [])) ∧ Below w.heap.size w w' := by
  have h0 := h
  obtain ⟨la, lc, rfl, hm⟩ := h0.form
  unfold maxLen at hm
  have HL := Lib.hid (fun W (hW : Below w.heap.size w W) => h.keep (Same.of_below hW hP))
  have HPW := Lib.hid (fun W (hW : Below w.heap.size w W) b (hb : P b) => Nat.lt_of_lt_of_le (hP b hb) hW.size)
  generalize hln : l.length = ln at *
  have HLN := Lib.hid hln
  have hb : Below w.heap.size w (w.alloc (.cells #[.int .i64 48, .int .i64 n, .string s, nv, .slice la ln lc] 28)) := (Below.refl _ _).alloc (Nat.le_refl _) _
  have HB := Lib.hid hb
  have HI0 := Lib.hid (intSl_nil (w.alloc (.cells #[.int .i64 48, .int .i64 n, .string s, nv, .slice la ln lc] 28)))
  clear h h0 hb hP hln
  go_enter Tryz.func185, Tryz.ntmps185
  go_wp2_with fail
  refine (areParts_any P _ _ l _ _ (HL.out _ HB.out) HI0.out).mono ?_
  rintro e w2 ⟨rfl, rfl⟩
  go_wp2
  go_ret
  exact ⟨rfl, HB.out⟩
set_option maxRecDepth 100000 in
set_option maxHeartbeats 4000000 in
theorem modl_49 (P : Nat → Prop) (n : Int) (s : ByteArray) (nv lv : Value) (l : List Syn) (w : World) (hP : ∀ b, P b → b < w.heap.size) (h : SynSl w P lv l) :
    Calls Tryz.prog 185 #[.agg #[.int .i64 49, .int .i64 n, .string s, nv, lv]] w fun e w' => e = .returned (.bool (Pl.parts l [])) ∧ Below w.heap.size w w' := by
  have h0 := h
  obtain ⟨la, lc, rfl, hm⟩ := h0.form
  unfold maxLen at hm
  have HL := Lib.hid (fun W (hW : Below w.heap.size w W) => h.keep (Same.of_below hW hP))
  have HPW := Lib.hid (fun W (hW : Below w.heap.size w W) b (hb : P b) => Nat.lt_of_lt_of_le (hP b hb) hW.size)
  generalize hln : l.length = ln at *
  have HLN := Lib.hid hln
  have hb : Below w.heap.size w (w.alloc (.cells #[.int .i64 49, .int .i64 n, .string s, nv, .slice la ln lc] 28)) := (Below.refl _ _).alloc (Nat.le_refl _) _
  have HB := Lib.hid hb
  have HI0 := Lib.hid (intSl_nil (w.alloc (.cells #[.int .i64 49, .int .i64 n, .string s, nv, .slice la ln lc] 28)))
  clear h h0 hb hP hln
  go_enter Tryz.func185, Tryz.ntmps185
  go_wp2_with fail
  refine (areParts_any P _ _ l _ _ (HL.out _ HB.out) HI0.out).mono ?_
  rintro e w2 ⟨rfl, rfl⟩
  go_wp2
  go_ret
  exact ⟨rfl, HB.out⟩
set_option maxRecDepth 100000 in
set_option maxHeartbeats 4000000 in
theorem modl_62 (P : Nat → Prop) (n : Int) (s : ByteArray) (nv lv : Value) (l : List Syn) (w : World) (hP : ∀ b, P b → b < w.heap.size) (h : SynSl w P lv l) :
    Calls Tryz.prog 185 #[.agg #[.int .i64 62, .int .i64 n, .string s, nv, lv]] w fun e w' => e = .returned (.bool (Pl.parts l [])) ∧ Below w.heap.size w w' := by
  have h0 := h
  obtain ⟨la, lc, rfl, hm⟩ := h0.form
  unfold maxLen at hm
  have HL := Lib.hid (fun W (hW : Below w.heap.size w W) => h.keep (Same.of_below hW hP))
  have HPW := Lib.hid (fun W (hW : Below w.heap.size w W) b (hb : P b) => Nat.lt_of_lt_of_le (hP b hb) hW.size)
  generalize hln : l.length = ln at *
  have HLN := Lib.hid hln
  have hb : Below w.heap.size w (w.alloc (.cells #[.int .i64 62, .int .i64 n, .string s, nv, .slice la ln lc] 28)) := (Below.refl _ _).alloc (Nat.le_refl _) _
  have HB := Lib.hid hb
  have HI0 := Lib.hid (intSl_nil (w.alloc (.cells #[.int .i64 62, .int .i64 n, .string s, nv, .slice la ln lc] 28)))
  clear h h0 hb hP hln
  go_enter Tryz.func185, Tryz.ntmps185
  go_wp2_with fail
  refine (areParts_any P _ _ l _ _ (HL.out _ HB.out) HI0.out).mono ?_
  rintro e w2 ⟨rfl, rfl⟩
  go_wp2
  go_ret
  exact ⟨rfl, HB.out⟩
set_option maxRecDepth 100000 in
set_option maxHeartbeats 4000000 in
theorem modl_72 (P : Nat → Prop) (n : Int) (s : ByteArray) (nv lv : Value) (l : List Syn) (w : World) (hP : ∀ b, P b → b < w.heap.size) (h : SynSl w P lv l) :
    Calls Tryz.prog 185 #[.agg #[.int .i64 72, .int .i64 n, .string s, nv, lv]] w fun e w' => e = .returned (.bool (Pl.parts l [])) ∧ Below w.heap.size w w' := by
  have h0 := h
  obtain ⟨la, lc, rfl, hm⟩ := h0.form
  unfold maxLen at hm
  have HL := Lib.hid (fun W (hW : Below w.heap.size w W) => h.keep (Same.of_below hW hP))
  have HPW := Lib.hid (fun W (hW : Below w.heap.size w W) b (hb : P b) => Nat.lt_of_lt_of_le (hP b hb) hW.size)
  generalize hln : l.length = ln at *
  have HLN := Lib.hid hln
  have hb : Below w.heap.size w (w.alloc (.cells #[.int .i64 72, .int .i64 n, .string s, nv, .slice la ln lc] 28)) := (Below.refl _ _).alloc (Nat.le_refl _) _
  have HB := Lib.hid hb
  have HI0 := Lib.hid (intSl_nil (w.alloc (.cells #[.int .i64 72, .int .i64 n, .string s, nv, .slice la ln lc] 28)))
  clear h h0 hb hP hln
  go_enter Tryz.func185, Tryz.ntmps185
  go_wp2_with fail
  refine (areParts_any P _ _ l _ _ (HL.out _ HB.out) HI0.out).mono ?_
  rintro e w2 ⟨rfl, rfl⟩
  go_wp2
  go_ret
  exact ⟨rfl, HB.out⟩
set_option maxRecDepth 100000 in
set_option maxHeartbeats 4000000 in
theorem modl_82 (P : Nat → Prop) (n : Int) (s : ByteArray) (nv lv : Value) (l : List Syn) (w : World) (hP : ∀ b, P b → b < w.heap.size) (h : SynSl w P lv l) :
    Calls Tryz.prog 185 #[.agg #[.int .i64 82, .int .i64 n, .string s, nv, lv]] w fun e w' => e = .returned (.bool (Pl.parts l [])) ∧ Below w.heap.size w w' := by
  have h0 := h
  obtain ⟨la, lc, rfl, hm⟩ := h0.form
  unfold maxLen at hm
  have HL := Lib.hid (fun W (hW : Below w.heap.size w W) => h.keep (Same.of_below hW hP))
  have HPW := Lib.hid (fun W (hW : Below w.heap.size w W) b (hb : P b) => Nat.lt_of_lt_of_le (hP b hb) hW.size)
  generalize hln : l.length = ln at *
  have HLN := Lib.hid hln
  have hb : Below w.heap.size w (w.alloc (.cells #[.int .i64 82, .int .i64 n, .string s, nv, .slice la ln lc] 28)) := (Below.refl _ _).alloc (Nat.le_refl _) _
  have HB := Lib.hid hb
  have HI0 := Lib.hid (intSl_nil (w.alloc (.cells #[.int .i64 82, .int .i64 n, .string s, nv, .slice la ln lc] 28)))
  clear h h0 hb hP hln
  go_enter Tryz.func185, Tryz.ntmps185
  go_wp2_with fail
  refine (areParts_any P _ _ l _ _ (HL.out _ HB.out) HI0.out).mono ?_
  rintro e w2 ⟨rfl, rfl⟩
  go_wp2
  go_ret
  exact ⟨rfl, HB.out⟩
set_option maxRecDepth 100000 in
set_option maxHeartbeats 4000000 in
theorem modl_41 (P : Nat → Prop) (n : Int) (s : ByteArray) (nv lv : Value) (l : List Syn) (w : World) (hP : ∀ b, P b → b < w.heap.size) (h : SynSl w P lv l) :
    Calls Tryz.prog 185 #[.agg #[.int .i64 41, .int .i64 n, .string s, nv, lv]] w fun e w' => e = .returned (.bool (Pl.parts l [3])) ∧ Below w.heap.size w w' := by
  have h0 := h
  obtain ⟨la, lc, rfl, hm⟩ := h0.form
  unfold maxLen at hm
  have HL := Lib.hid (fun W (hW : Below w.heap.size w W) => h.keep (Same.of_below hW hP))
  have HPW := Lib.hid (fun W (hW : Below w.heap.size w W) b (hb : P b) => Nat.lt_of_lt_of_le (hP b hb) hW.size)
  generalize hln : l.length = ln at *
  have HLN := Lib.hid hln
  have hb : Below w.heap.size w (w.alloc (.cells #[.int .i64 41, .int .i64 n, .string s, nv, .slice la ln lc] 28)) := (Below.refl _ _).alloc (Nat.le_refl _) _
  have HB := Lib.hid hb
  have hi := intSl_1 (w.alloc (.cells #[.int .i64 41, .int .i64 n, .string s, nv, .slice la ln lc] 28)) 3 1
  rw [size_alloc] at hi
  have HI := Lib.hid hi
  have hb2 : Below w.heap.size w ((w.alloc (.cells #[.int .i64 41, .int .i64 n, .string s, nv, .slice la ln lc] 28)).alloc (.cells #[.int .i64 3] 3)) := ((Below.refl _ _).alloc (Nat.le_refl _) _).alloc (by simp) _
  have HB2 := Lib.hid hb2
  clear hi hb2
  clear h h0 hb hP hln
  go_enter Tryz.func185, Tryz.ntmps185
  go_wp2_with fail
  refine (areParts_any P _ _ l _ _ (HL.out _ HB2.out) HI.out).mono ?_
  rintro e w2 ⟨rfl, rfl⟩
  go_wp2
  go_ret
  exact ⟨rfl, HB2.out⟩
set_option maxRecDepth 100000 in
set_option maxHeartbeats 4000000 in
theorem modl_42 (P : Nat → Prop) (n : Int) (s : ByteArray) (nv lv : Value) (l : List Syn) (w : World) (hP : ∀ b, P b → b < w.heap.size) (h : SynSl w P lv l) :
    Calls Tryz.prog 185 #[.agg #[.int .i64 42, .int .i64 n, .string s, nv, lv]] w fun e w' => e = .returned (.bool (Pl.parts l [3])) ∧ Below w.heap.size w w' := by
  have h0 := h
  obtain ⟨la, lc, rfl, hm⟩ := h0.form
  unfold maxLen at hm
  have HL := Lib.hid (fun W (hW : Below w.heap.size w W) => h.keep (Same.of_below hW hP))
  have HPW := Lib.hid (fun W (hW : Below w.heap.size w W) b (hb : P b) => Nat.lt_of_lt_of_le (hP b hb) hW.size)
  generalize hln : l.length = ln at *
  have HLN := Lib.hid hln
  have hb : Below w.heap.size w (w.alloc (.cells #[.int .i64 42, .int .i64 n, .string s, nv, .slice la ln lc] 28)) := (Below.refl _ _).alloc (Nat.le_refl _) _
  have HB := Lib.hid hb
  have hi := intSl_1 (w.alloc (.cells #[.int .i64 42, .int .i64 n, .string s, nv, .slice la ln lc] 28)) 3 1
  rw [size_alloc] at hi
  have HI := Lib.hid hi
  have hb2 : Below w.heap.size w ((w.alloc (.cells #[.int .i64 42, .int .i64 n, .string s, nv, .slice la ln lc] 28)).alloc (.cells #[.int .i64 3] 3)) := ((Below.refl _ _).alloc (Nat.le_refl _) _).alloc (by simp) _
  have HB2 := Lib.hid hb2
  clear hi hb2
  clear h h0 hb hP hln
  go_enter Tryz.func185, Tryz.ntmps185
  go_wp2_with fail
  refine (areParts_any P _ _ l _ _ (HL.out _ HB2.out) HI.out).mono ?_
  rintro e w2 ⟨rfl, rfl⟩
  go_wp2
  go_ret
  exact ⟨rfl, HB2.out⟩
set_option maxRecDepth 100000 in
set_option maxHeartbeats 4000000 in
theorem modl_43 (P : Nat → Prop) (n : Int) (s : ByteArray) (nv lv : Value) (l : List Syn) (w : World) (hP : ∀ b, P b → b < w.heap.size) (h : SynSl w P lv l) :
    Calls Tryz.prog 185 #[.agg #[.int .i64 43, .int .i64 n, .string s, nv, lv]] w fun e w' => e = .returned (.bool (Pl.parts l [1])) ∧ Below w.heap.size w w' := by
  have h0 := h
  obtain ⟨la, lc, rfl, hm⟩ := h0.form
  unfold maxLen at hm
  have HL := Lib.hid (fun W (hW : Below w.heap.size w W) => h.keep (Same.of_below hW hP))
  have HPW := Lib.hid (fun W (hW : Below w.heap.size w W) b (hb : P b) => Nat.lt_of_lt_of_le (hP b hb) hW.size)
  generalize hln : l.length = ln at *
  have HLN := Lib.hid hln
  have hb : Below w.heap.size w (w.alloc (.cells #[.int .i64 43, .int .i64 n, .string s, nv, .slice la ln lc] 28)) := (Below.refl _ _).alloc (Nat.le_refl _) _
  have HB := Lib.hid hb
  have hi := intSl_1 (w.alloc (.cells #[.int .i64 43, .int .i64 n, .string s, nv, .slice la ln lc] 28)) 1 1
  rw [size_alloc] at hi
  have HI := Lib.hid hi
  have hb2 : Below w.heap.size w ((w.alloc (.cells #[.int .i64 43, .int .i64 n, .string s, nv, .slice la ln lc] 28)).alloc (.cells #[.int .i64 1] 3)) := ((Below.refl _ _).alloc (Nat.le_refl _) _).alloc (by simp) _
  have HB2 := Lib.hid hb2
  clear hi hb2
  clear h h0 hb hP hln
  go_enter Tryz.func185, Tryz.ntmps185
  go_wp2_with fail
  refine (areParts_any P _ _ l _ _ (HL.out _ HB2.out) HI.out).mono ?_
  rintro e w2 ⟨rfl, rfl⟩
  go_wp2
  go_ret
  exact ⟨rfl, HB2.out⟩
set_option maxRecDepth 100000 in
set_option maxHeartbeats 4000000 in
theorem modl_61 (P : Nat → Prop) (n : Int) (s : ByteArray) (nv lv : Value) (l : List Syn) (w : World) (hP : ∀ b, P b → b < w.heap.size) (h : SynSl w P lv l) :
    Calls Tryz.prog 185 #[.agg #[.int .i64 61, .int .i64 n, .string s, nv, lv]] w fun e w' => e = .returned (.bool (Pl.parts l [1])) ∧ Below w.heap.size w w' := by
  have h0 := h
  obtain ⟨la, lc, rfl, hm⟩ := h0.form
  unfold maxLen at hm
  have HL := Lib.hid (fun W (hW : Below w.heap.size w W) => h.keep (Same.of_below hW hP))
  have HPW := Lib.hid (fun W (hW : Below w.heap.size w W) b (hb : P b) => Nat.lt_of_lt_of_le (hP b hb) hW.size)
  generalize hln : l.length = ln at *
  have HLN := Lib.hid hln
  have hb : Below w.heap.size w (w.alloc (.cells #[.int .i64 61, .int .i64 n, .string s, nv, .slice la ln lc] 28)) := (Below.refl _ _).alloc (Nat.le_refl _) _
  have HB := Lib.hid hb
  have hi := intSl_1 (w.alloc (.cells #[.int .i64 61, .int .i64 n, .string s, nv, .slice la ln lc] 28)) 1 1
  rw [size_alloc] at hi
  have HI := Lib.hid hi
  have hb2 : Below w.heap.size w ((w.alloc (.cells #[.int .i64 61, .int .i64 n, .string s, nv, .slice la ln lc] 28)).alloc (.cells #[.int .i64 1] 3)) := ((Below.refl _ _).alloc (Nat.le_refl _) _).alloc (by simp) _
  have HB2 := Lib.hid hb2
  clear hi hb2
  clear h h0 hb hP hln
  go_enter Tryz.func185, Tryz.ntmps185
  go_wp2_with fail
  refine (areParts_any P _ _ l _ _ (HL.out _ HB2.out) HI.out).mono ?_
  rintro e w2 ⟨rfl, rfl⟩
  go_wp2
  go_ret
  exact ⟨rfl, HB2.out⟩
set_option maxRecDepth 100000 in
set_option maxHeartbeats 4000000 in
theorem modl_45 (P : Nat → Prop) (n : Int) (s : ByteArray) (nv lv : Value) (l : List Syn) (w : World) (hP : ∀ b, P b → b < w.heap.size) (h : SynSl w P lv l) :
    Calls Tryz.prog 185 #[.agg #[.int .i64 45, .int .i64 n, .string s, nv, lv]] w fun e w' => e = .returned (.bool (Pl.parts l [] || Pl.parts l [1])) ∧ Below w.heap.size w w' := by
  have h0 := h
  obtain ⟨la, lc, rfl, hm⟩ := h0.form
  unfold maxLen at hm
  have HL := Lib.hid (fun W (hW : Below w.heap.size w W) => h.keep (Same.of_below hW hP))
  have HPW := Lib.hid (fun W (hW : Below w.heap.size w W) b (hb : P b) => Nat.lt_of_lt_of_le (hP b hb) hW.size)
  generalize hln : l.length = ln at *
  have HLN := Lib.hid hln
  have hb : Below w.heap.size w (w.alloc (.cells #[.int .i64 45, .int .i64 n, .string s, nv, .slice la ln lc] 28)) := (Below.refl _ _).alloc (Nat.le_refl _) _
  have HB := Lib.hid hb
  have HI0 := Lib.hid (intSl_nil (w.alloc (.cells #[.int .i64 45, .int .i64 n, .string s, nv, .slice la ln lc] 28)))
  have hi := intSl_1 (w.alloc (.cells #[.int .i64 45, .int .i64 n, .string s, nv, .slice la ln lc] 28)) 1 1
  rw [size_alloc] at hi
  have HI := Lib.hid hi
  have hb2 : Below w.heap.size w ((w.alloc (.cells #[.int .i64 45, .int .i64 n, .string s, nv, .slice la ln lc] 28)).alloc (.cells #[.int .i64 1] 3)) := ((Below.refl _ _).alloc (Nat.le_refl _) _).alloc (by simp) _
  have HB2 := Lib.hid hb2
  clear hi hb2
  clear h h0 hb hP hln
  have HA := Lib.hid (areParts_any P _ _ l _ _ (HL.out _ HB.out) HI0.out)
  have HA2 := Lib.hid (areParts_any P _ _ l _ _ (HL.out _ HB2.out) HI.out)
  generalize Pl.parts l [] = r at *
  generalize Pl.parts l [1] = r2 at *
  cases r
  · go_enter Tryz.func185, Tryz.ntmps185
    go_wp2_with fail
    refine HA.out.mono ?_
    rintro e w2 ⟨rfl, rfl⟩
    go_wp2_with fail
    refine HA2.out.mono ?_
    rintro e w2 ⟨rfl, rfl⟩
    go_wp2
    go_ret
    exact ⟨rfl, HB2.out⟩
  · go_enter Tryz.func185, Tryz.ntmps185
    go_wp2_with fail
    refine HA.out.mono ?_
    rintro e w2 ⟨rfl, rfl⟩
    go_wp2
    go_ret
    exact ⟨rfl, HB.out⟩
set_option maxRecDepth 100000 in
set_option maxHeartbeats 4000000 in
theorem modl_46 (P : Nat → Prop) (n : Int) (s : ByteArray) (nv lv : Value) (l : List Syn) (w : World) (hP : ∀ b, P b → b < w.heap.size) (h : SynSl w P lv l) :
    Calls Tryz.prog 185 #[.agg #[.int .i64 46, .int .i64 n, .string s, nv, lv]] w fun e w' => e = .returned (.bool (Pl.parts l [7])) ∧ Below w.heap.size w w' := by
  have h0 := h
  obtain ⟨la, lc, rfl, hm⟩ := h0.form
  unfold maxLen at hm
  have HL := Lib.hid (fun W (hW : Below w.heap.size w W) => h.keep (Same.of_below hW hP))
  have HPW := Lib.hid (fun W (hW : Below w.heap.size w W) b (hb : P b) => Nat.lt_of_lt_of_le (hP b hb) hW.size)
  generalize hln : l.length = ln at *
  have HLN := Lib.hid hln
  have hb : Below w.heap.size w (w.alloc (.cells #[.int .i64 46, .int .i64 n, .string s, nv, .slice la ln lc] 28)) := (Below.refl _ _).alloc (Nat.le_refl _) _
  have HB := Lib.hid hb
  have hi := intSl_1 (w.alloc (.cells #[.int .i64 46, .int .i64 n, .string s, nv, .slice la ln lc] 28)) 7 1
  rw [size_alloc] at hi
  have HI := Lib.hid hi
  have hb2 : Below w.heap.size w ((w.alloc (.cells #[.int .i64 46, .int .i64 n, .string s, nv, .slice la ln lc] 28)).alloc (.cells #[.int .i64 7] 3)) := ((Below.refl _ _).alloc (Nat.le_refl _) _).alloc (by simp) _
  have HB2 := Lib.hid hb2
  clear hi hb2
  clear h h0 hb hP hln
  go_enter Tryz.func185, Tryz.ntmps185
  go_wp2_with fail
  refine (areParts_any P _ _ l _ _ (HL.out _ HB2.out) HI.out).mono ?_
  rintro e w2 ⟨rfl, rfl⟩
  go_wp2
  go_ret
  exact ⟨rfl, HB2.out⟩
set_option maxRecDepth 100000 in
set_option maxHeartbeats 4000000 in
theorem modl_47 (P : Nat → Prop) (n : Int) (s : ByteArray) (nv lv : Value) (l : List Syn) (w : World) (hP : ∀ b, P b → b < w.heap.size) (h : SynSl w P lv l) :
    Calls Tryz.prog 185 #[.agg #[.int .i64 47, .int .i64 n, .string s, nv, lv]] w fun e w' => e = .returned (.bool (Pl.parts l [6])) ∧ Below w.heap.size w w' := by
  have h0 := h
  obtain ⟨la, lc, rfl, hm⟩ := h0.form
  unfold maxLen at hm
  have HL := Lib.hid (fun W (hW : Below w.heap.size w W) => h.keep (Same.of_below hW hP))
  have HPW := Lib.hid (fun W (hW : Below w.heap.size w W) b (hb : P b) => Nat.lt_of_lt_of_le (hP b hb) hW.size)
  generalize hln : l.length = ln at *
  have HLN := Lib.hid hln
  have hb : Below w.heap.size w (w.alloc (.cells #[.int .i64 47, .int .i64 n, .string s, nv, .slice la ln lc] 28)) := (Below.refl _ _).alloc (Nat.le_refl _) _
  have HB := Lib.hid hb
  have hi := intSl_1 (w.alloc (.cells #[.int .i64 47, .int .i64 n, .string s, nv, .slice la ln lc] 28)) 6 1
  rw [size_alloc] at hi
  have HI := Lib.hid hi
  have hb2 : Below w.heap.size w ((w.alloc (.cells #[.int .i64 47, .int .i64 n, .string s, nv, .slice la ln lc] 28)).alloc (.cells #[.int .i64 6] 3)) := ((Below.refl _ _).alloc (Nat.le_refl _) _).alloc (by simp) _
  have HB2 := Lib.hid hb2
  clear hi hb2
  clear h h0 hb hP hln
  go_enter Tryz.func185, Tryz.ntmps185
  go_wp2_with fail
  refine (areParts_any P _ _ l _ _ (HL.out _ HB2.out) HI.out).mono ?_
  rintro e w2 ⟨rfl, rfl⟩
  go_wp2
  go_ret
  exact ⟨rfl, HB2.out⟩
set_option maxRecDepth 100000 in
set_option maxHeartbeats 4000000 in
theorem modl_63 (P : Nat → Prop) (n : Int) (s : ByteArray) (nv lv : Value) (l : List Syn) (w : World) (hP : ∀ b, P b → b < w.heap.size) (h : SynSl w P lv l) :
    Calls Tryz.prog 185 #[.agg #[.int .i64 63, .int .i64 n, .string s, nv, lv]] w fun e w' => e = .returned (.bool (Pl.parts l [6])) ∧ Below w.heap.size w w' := by
  have h0 := h
  obtain ⟨la, lc, rfl, hm⟩ := h0.form
  unfold maxLen at hm
  have HL := Lib.hid (fun W (hW : Below w.heap.size w W) => h.keep (Same.of_below hW hP))
  have HPW := Lib.hid (fun W (hW : Below w.heap.size w W) b (hb : P b) => Nat.lt_of_lt_of_le (hP b hb) hW.size)
  generalize hln : l.length = ln at *
  have HLN := Lib.hid hln
  have hb : Below w.heap.size w (w.alloc (.cells #[.int .i64 63, .int .i64 n, .string s, nv, .slice la ln lc] 28)) := (Below.refl _ _).alloc (Nat.le_refl _) _
  have HB := Lib.hid hb
  have hi := intSl_1 (w.alloc (.cells #[.int .i64 63, .int .i64 n, .string s, nv, .slice la ln lc] 28)) 6 1
  rw [size_alloc] at hi
  have HI := Lib.hid hi
  have hb2 : Below w.heap.size w ((w.alloc (.cells #[.int .i64 63, .int .i64 n, .string s, nv, .slice la ln lc] 28)).alloc (.cells #[.int .i64 6] 3)) := ((Below.refl _ _).alloc (Nat.le_refl _) _).alloc (by simp) _
  have HB2 := Lib.hid hb2
  clear hi hb2
  clear h h0 hb hP hln
  go_enter Tryz.func185, Tryz.ntmps185
  go_wp2_with fail
  refine (areParts_any P _ _ l _ _ (HL.out _ HB2.out) HI.out).mono ?_
  rintro e w2 ⟨rfl, rfl⟩
  go_wp2
  go_ret
  exact ⟨rfl, HB2.out⟩
set_option maxRecDepth 100000 in
set_option maxHeartbeats 4000000 in
theorem modl_64 (P : Nat → Prop) (n : Int) (s : ByteArray) (nv lv : Value) (l : List Syn) (w : World) (hP : ∀ b, P b → b < w.heap.size) (h : SynSl w P lv l) :
    Calls Tryz.prog 185 #[.agg #[.int .i64 64, .int .i64 n, .string s, nv, lv]] w fun e w' => e = .returned (.bool (Pl.parts l [6])) ∧ Below w.heap.size w w' := by
  have h0 := h
  obtain ⟨la, lc, rfl, hm⟩ := h0.form
  unfold maxLen at hm
  have HL := Lib.hid (fun W (hW : Below w.heap.size w W) => h.keep (Same.of_below hW hP))
  have HPW := Lib.hid (fun W (hW : Below w.heap.size w W) b (hb : P b) => Nat.lt_of_lt_of_le (hP b hb) hW.size)
  generalize hln : l.length = ln at *
  have HLN := Lib.hid hln
  have hb : Below w.heap.size w (w.alloc (.cells #[.int .i64 64, .int .i64 n, .string s, nv, .slice la ln lc] 28)) := (Below.refl _ _).alloc (Nat.le_refl _) _
  have HB := Lib.hid hb
  have hi := intSl_1 (w.alloc (.cells #[.int .i64 64, .int .i64 n, .string s, nv, .slice la ln lc] 28)) 6 1
  rw [size_alloc] at hi
  have HI := Lib.hid hi
  have hb2 : Below w.heap.size w ((w.alloc (.cells #[.int .i64 64, .int .i64 n, .string s, nv, .slice la ln lc] 28)).alloc (.cells #[.int .i64 6] 3)) := ((Below.refl _ _).alloc (Nat.le_refl _) _).alloc (by simp) _
  have HB2 := Lib.hid hb2
  clear hi hb2
  clear h h0 hb hP hln
  go_enter Tryz.func185, Tryz.ntmps185
  go_wp2_with fail
  refine (areParts_any P _ _ l _ _ (HL.out _ HB2.out) HI.out).mono ?_
  rintro e w2 ⟨rfl, rfl⟩
  go_wp2
  go_ret
  exact ⟨rfl, HB2.out⟩
set_option maxRecDepth 100000 in
set_option maxHeartbeats 4000000 in
theorem modl_65 (P : Nat → Prop) (n : Int) (s : ByteArray) (nv lv : Value) (l : List Syn) (w : World) (hP : ∀ b, P b → b < w.heap.size) (h : SynSl w P lv l) :
    Calls Tryz.prog 185 #[.agg #[.int .i64 65, .int .i64 n, .string s, nv, lv]] w fun e w' => e = .returned (.bool (Pl.parts l [6])) ∧ Below w.heap.size w w' := by
  have h0 := h
  obtain ⟨la, lc, rfl, hm⟩ := h0.form
  unfold maxLen at hm
  have HL := Lib.hid (fun W (hW : Below w.heap.size w W) => h.keep (Same.of_below hW hP))
  have HPW := Lib.hid (fun W (hW : Below w.heap.size w W) b (hb : P b) => Nat.lt_of_lt_of_le (hP b hb) hW.size)
  generalize hln : l.length = ln at *
  have HLN := Lib.hid hln
  have hb : Below w.heap.size w (w.alloc (.cells #[.int .i64 65, .int .i64 n, .string s, nv, .slice la ln lc] 28)) := (Below.refl _ _).alloc (Nat.le_refl _) _
  have HB := Lib.hid hb
  have hi := intSl_1 (w.alloc (.cells #[.int .i64 65, .int .i64 n, .string s, nv, .slice la ln lc] 28)) 6 1
  rw [size_alloc] at hi
  have HI := Lib.hid hi
  have hb2 : Below w.heap.size w ((w.alloc (.cells #[.int .i64 65, .int .i64 n, .string s, nv, .slice la ln lc] 28)).alloc (.cells #[.int .i64 6] 3)) := ((Below.refl _ _).alloc (Nat.le_refl _) _).alloc (by simp) _
  have HB2 := Lib.hid hb2
  clear hi hb2
  clear h h0 hb hP hln
  go_enter Tryz.func185, Tryz.ntmps185
  go_wp2_with fail
  refine (areParts_any P _ _ l _ _ (HL.out _ HB2.out) HI.out).mono ?_
  rintro e w2 ⟨rfl, rfl⟩
  go_wp2
  go_ret
  exact ⟨rfl, HB2.out⟩
end Go.Proofs.YtkmgnibopmpcjaaGreatDoor
