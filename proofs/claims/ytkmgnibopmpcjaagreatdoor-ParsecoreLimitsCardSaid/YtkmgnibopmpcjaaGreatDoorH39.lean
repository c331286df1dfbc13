/-
  Walks and plain mathematics, several texts in one (Ti).
-/
import Derived.Test.YtkmgnibopmpcjaaGreatDoorH37
import Derived.Test.YtkmgnibopmpcjaaGreatDoorH38
/-
  Walks of layer 3: the parts of a node, second.
-/
namespace Go.Proofs.YtkmgnibopmpcjaaGreatDoor
open Go Go.RowKit
open Pl (Syn)
set_option linter.unusedSimpArgs false
set_option maxRecDepth 100000 in
set_option maxHeartbeats 4000000 in
theorem core_25 (P : Nat → Prop) (n : Int) (s : ByteArray) (nv lv : Value) (l : List Syn) (w : World) (hP : ∀ b, P b → b < w.heap.size) (h : SynSl w P lv l) :
    Calls Tryz.prog 184 #[.agg #[.int .i64 25, .int .i64 n, .string s, nv, lv]] w fun e w' => e = .returned (.bool (Pl.parts l [3])) ∧ Below w.heap.size w w' := by
  have h0 := h
  obtain ⟨la, lc, rfl, hm⟩ := h0.form
  unfold maxLen at hm
  have HL := Lib.hid (fun W (hW : Below w.heap.size w W) => h.keep (Same.of_below hW hP))
  have HPW := Lib.hid (fun W (hW : Below w.heap.size w W) b (hb : P b) => Nat.lt_of_lt_of_le (hP b hb) hW.size)
  generalize hln : l.length = ln at *
  have HLN := Lib.hid hln
  have hb : Below w.heap.size w (w.alloc (.cells #[.int .i64 25, .int .i64 n, .string s, nv, .slice la ln lc] 28)) := (Below.refl _ _).alloc (Nat.le_refl _) _
  have HB := Lib.hid hb
  have hi := intSl_1 (w.alloc (.cells #[.int .i64 25, .int .i64 n, .string s, nv, .slice la ln lc] 28)) 3 1
  rw [size_alloc] at hi
  have HI := Lib.hid hi
  have hb2 : Below w.heap.size w ((w.alloc (.cells #[.int .i64 25, .int .i64 n, .string s, nv, .slice la ln lc] 28)).alloc (.cells #[.int .i64 3] 3)) := ((Below.refl _ _).alloc (Nat.le_refl _) _).alloc (by simp) _
  have HB2 := Lib.hid hb2
  clear hi hb2
  clear h h0 hb hP hln
  go_enter Tryz.func184, Tryz.ntmps184
  go_wp2_with fail
  refine (areParts_any P _ _ l _ _ (HL.out _ HB2.out) HI.out).mono ?_
  rintro e w2 ⟨rfl, rfl⟩
  go_wp2
  go_ret
  exact ⟨rfl, HB2.out⟩
set_option maxRecDepth 100000 in
set_option maxHeartbeats 4000000 in
theorem core_26 (P : Nat → Prop) (n : Int) (s : ByteArray) (nv lv : Value) (l : List Syn) (w : World) (hP : ∀ b, P b → b < w.heap.size) (h : SynSl w P lv l) :
    Calls Tryz.prog 184 #[.agg #[.int .i64 26, .int .i64 n, .string s, nv, lv]] w fun e w' => e = .returned (.bool (Pl.parts l [3, 3])) ∧ Below w.heap.size w w' := by
  have h0 := h
  obtain ⟨la, lc, rfl, hm⟩ := h0.form
  unfold maxLen at hm
  have HL := Lib.hid (fun W (hW : Below w.heap.size w W) => h.keep (Same.of_below hW hP))
  have HPW := Lib.hid (fun W (hW : Below w.heap.size w W) b (hb : P b) => Nat.lt_of_lt_of_le (hP b hb) hW.size)
  generalize hln : l.length = ln at *
  have HLN := Lib.hid hln
  have hb : Below w.heap.size w (w.alloc (.cells #[.int .i64 26, .int .i64 n, .string s, nv, .slice la ln lc] 28)) := (Below.refl _ _).alloc (Nat.le_refl _) _
  have HB := Lib.hid hb
  have hi := intSl_2 (w.alloc (.cells #[.int .i64 26, .int .i64 n, .string s, nv, .slice la ln lc] 28)) 3 3 2
  rw [size_alloc] at hi
  have HI := Lib.hid hi
  have hb2 : Below w.heap.size w ((w.alloc (.cells #[.int .i64 26, .int .i64 n, .string s, nv, .slice la ln lc] 28)).alloc (.cells #[.int .i64 3, .int .i64 3] 3)) := ((Below.refl _ _).alloc (Nat.le_refl _) _).alloc (by simp) _
  have HB2 := Lib.hid hb2
  clear hi hb2
  clear h h0 hb hP hln
  go_enter Tryz.func184, Tryz.ntmps184
  go_wp2_with fail
  refine (areParts_any P _ _ l _ _ (HL.out _ HB2.out) HI.out).mono ?_
  rintro e w2 ⟨rfl, rfl⟩
  go_wp2
  go_ret
  exact ⟨rfl, HB2.out⟩
set_option maxRecDepth 100000 in
set_option maxHeartbeats 4000000 in
theorem core_27 (P : Nat → Prop) (n : Int) (s : ByteArray) (nv lv : Value) (l : List Syn) (w : World) (hP : ∀ b, P b → b < w.heap.size) (h : SynSl w P lv l) :
    Calls Tryz.prog 184 #[.agg #[.int .i64 27, .int .i64 n, .string s, nv, lv]] w fun e w' => e = .returned (.bool (Pl.parts l [] || Pl.tuple l 3)) ∧ Below w.heap.size w w' := by
  have h0 := h
  obtain ⟨la, lc, rfl, hm⟩ := h0.form
  unfold maxLen at hm
  have HL := Lib.hid (fun W (hW : Below w.heap.size w W) => h.keep (Same.of_below hW hP))
  have HPW := Lib.hid (fun W (hW : Below w.heap.size w W) b (hb : P b) => Nat.lt_of_lt_of_le (hP b hb) hW.size)
  generalize hln : l.length = ln at *
  have HLN := Lib.hid hln
  have hb : Below w.heap.size w (w.alloc (.cells #[.int .i64 27, .int .i64 n, .string s, nv, .slice la ln lc] 28)) := (Below.refl _ _).alloc (Nat.le_refl _) _
  have HB := Lib.hid hb
  have HI0 := Lib.hid (intSl_nil (w.alloc (.cells #[.int .i64 27, .int .i64 n, .string s, nv, .slice la ln lc] 28)))
  clear h h0 hb hP hln
  have HA := Lib.hid (areParts_any P _ _ l _ _ (HL.out _ HB.out) HI0.out)
  have HA2 := Lib.hid (isTuple_any P _ l 3 _ (HPW.out _ HB.out) (HL.out _ HB.out))
  generalize Pl.parts l [] = r at *
  generalize Pl.tuple l 3 = r2 at *
  cases r
  · go_enter Tryz.func184, Tryz.ntmps184
    go_wp2_with fail
    refine HA.out.mono ?_
    rintro e w2 ⟨rfl, rfl⟩
    go_wp2_with fail
    refine HA2.out.mono ?_
    rintro e w2 ⟨rfl, hb2⟩
    have HB2 := Lib.hid (HB.out.trans (hb2.mono HB.out.size))
    clear hb2
    go_wp2
    go_ret
    exact ⟨rfl, HB2.out⟩
  · go_enter Tryz.func184, Tryz.ntmps184
    go_wp2_with fail
    refine HA.out.mono ?_
    rintro e w2 ⟨rfl, rfl⟩
    go_wp2
    go_ret
    exact ⟨rfl, HB.out⟩
set_option maxRecDepth 100000 in
set_option maxHeartbeats 4000000 in
theorem core_28 (P : Nat → Prop) (n : Int) (s : ByteArray) (nv lv : Value) (l : List Syn) (w : World) (hP : ∀ b, P b → b < w.heap.size) (h : SynSl w P lv l) :
    Calls Tryz.prog 184 #[.agg #[.int .i64 28, .int .i64 n, .string s, nv, lv]] w fun e w' => e = .returned (.bool (Pl.parts l [3, 3, 3])) ∧ Below w.heap.size w w' := by
  have h0 := h
  obtain ⟨la, lc, rfl, hm⟩ := h0.form
  unfold maxLen at hm
  have HL := Lib.hid (fun W (hW : Below w.heap.size w W) => h.keep (Same.of_below hW hP))
  have HPW := Lib.hid (fun W (hW : Below w.heap.size w W) b (hb : P b) => Nat.lt_of_lt_of_le (hP b hb) hW.size)
  generalize hln : l.length = ln at *
  have HLN := Lib.hid hln
  have hb : Below w.heap.size w (w.alloc (.cells #[.int .i64 28, .int .i64 n, .string s, nv, .slice la ln lc] 28)) := (Below.refl _ _).alloc (Nat.le_refl _) _
  have HB := Lib.hid hb
  have hi := intSl_3 (w.alloc (.cells #[.int .i64 28, .int .i64 n, .string s, nv, .slice la ln lc] 28)) 3 3 3 3
  rw [size_alloc] at hi
  have HI := Lib.hid hi
  have hb2 : Below w.heap.size w ((w.alloc (.cells #[.int .i64 28, .int .i64 n, .string s, nv, .slice la ln lc] 28)).alloc (.cells #[.int .i64 3, .int .i64 3, .int .i64 3] 3)) := ((Below.refl _ _).alloc (Nat.le_refl _) _).alloc (by simp) _
  have HB2 := Lib.hid hb2
  clear hi hb2
  clear h h0 hb hP hln
  go_enter Tryz.func184, Tryz.ntmps184
  go_wp2_with fail
  refine (areParts_any P _ _ l _ _ (HL.out _ HB2.out) HI.out).mono ?_
  rintro e w2 ⟨rfl, rfl⟩
  go_wp2
  go_ret
  exact ⟨rfl, HB2.out⟩
set_option maxRecDepth 100000 in
set_option maxHeartbeats 4000000 in
theorem core_30 (P : Nat → Prop) (n : Int) (s : ByteArray) (nv lv : Value) (l : List Syn) (w : World) (hP : ∀ b, P b → b < w.heap.size) (h : SynSl w P lv l) :
    Calls Tryz.prog 184 #[.agg #[.int .i64 30, .int .i64 n, .string s, nv, lv]] w fun e w' => e = .returned (.bool (Pl.parts l [2, 3])) ∧ Below w.heap.size w w' := by
  have h0 := h
  obtain ⟨la, lc, rfl, hm⟩ := h0.form
  unfold maxLen at hm
  have HL := Lib.hid (fun W (hW : Below w.heap.size w W) => h.keep (Same.of_below hW hP))
  have HPW := Lib.hid (fun W (hW : Below w.heap.size w W) b (hb : P b) => Nat.lt_of_lt_of_le (hP b hb) hW.size)
  generalize hln : l.length = ln at *
  have HLN := Lib.hid hln
  have hb : Below w.heap.size w (w.alloc (.cells #[.int .i64 30, .int .i64 n, .string s, nv, .slice la ln lc] 28)) := (Below.refl _ _).alloc (Nat.le_refl _) _
  have HB := Lib.hid hb
  have hi := intSl_2 (w.alloc (.cells #[.int .i64 30, .int .i64 n, .string s, nv, .slice la ln lc] 28)) 2 3 2
  rw [size_alloc] at hi
  have HI := Lib.hid hi
  have hb2 : Below w.heap.size w ((w.alloc (.cells #[.int .i64 30, .int .i64 n, .string s, nv, .slice la ln lc] 28)).alloc (.cells #[.int .i64 2, .int .i64 3] 3)) := ((Below.refl _ _).alloc (Nat.le_refl _) _).alloc (by simp) _
  have HB2 := Lib.hid hb2
  clear hi hb2
  clear h h0 hb hP hln
  go_enter Tryz.func184, Tryz.ntmps184
  go_wp2_with fail
  refine (areParts_any P _ _ l _ _ (HL.out _ HB2.out) HI.out).mono ?_
  rintro e w2 ⟨rfl, rfl⟩
  go_wp2
  go_ret
  exact ⟨rfl, HB2.out⟩
set_option maxRecDepth 100000 in
set_option maxHeartbeats 4000000 in
theorem core_32 (P : Nat → Prop) (n : Int) (s : ByteArray) (nv lv : Value) (l : List Syn) (w : World) (hP : ∀ b, P b → b < w.heap.size) (h : SynSl w P lv l) :
    Calls Tryz.prog 184 #[.agg #[.int .i64 32, .int .i64 n, .string s, nv, lv]] w fun e w' => e = .returned (.bool (if n = 12 then Pl.parts l [3] else Pl.parts l [3, 3])) ∧ Below w.heap.size w w' := by
  have h0 := h
  obtain ⟨la, lc, rfl, hm⟩ := h0.form
  unfold maxLen at hm
  have HL := Lib.hid (fun W (hW : Below w.heap.size w W) => h.keep (Same.of_below hW hP))
  have HPW := Lib.hid (fun W (hW : Below w.heap.size w W) b (hb : P b) => Nat.lt_of_lt_of_le (hP b hb) hW.size)
  generalize hln : l.length = ln at *
  have HLN := Lib.hid hln
  have hb : Below w.heap.size w (w.alloc (.cells #[.int .i64 32, .int .i64 n, .string s, nv, .slice la ln lc] 28)) := (Below.refl _ _).alloc (Nat.le_refl _) _
  have HB := Lib.hid hb
  have hi := intSl_1 (w.alloc (.cells #[.int .i64 32, .int .i64 n, .string s, nv, .slice la ln lc] 28)) 3 1
  rw [size_alloc] at hi
  have HI := Lib.hid hi
  have hb2 : Below w.heap.size w ((w.alloc (.cells #[.int .i64 32, .int .i64 n, .string s, nv, .slice la ln lc] 28)).alloc (.cells #[.int .i64 3] 3)) := ((Below.refl _ _).alloc (Nat.le_refl _) _).alloc (by simp) _
  have HB2 := Lib.hid hb2
  clear hi hb2
  have hib := intSl_2 (w.alloc (.cells #[.int .i64 32, .int .i64 n, .string s, nv, .slice la ln lc] 28)) 3 3 2
  rw [size_alloc] at hib
  have HIb := Lib.hid hib
  have hb2b : Below w.heap.size w ((w.alloc (.cells #[.int .i64 32, .int .i64 n, .string s, nv, .slice la ln lc] 28)).alloc (.cells #[.int .i64 3, .int .i64 3] 3)) := ((Below.refl _ _).alloc (Nat.le_refl _) _).alloc (by simp) _
  have HB2b := Lib.hid hb2b
  clear hib hb2b
  clear h h0 hb hP hln
  have HA := Lib.hid (areParts_any P _ _ l _ _ (HL.out _ HB2.out) HI.out)
  have HA2 := Lib.hid (areParts_any P _ _ l _ _ (HL.out _ HB2b.out) HIb.out)
  generalize Pl.parts l [3] = r at *
  generalize Pl.parts l [3, 3] = r2 at *
  by_cases h12 : n = 12
  · subst h12
    go_enter Tryz.func184, Tryz.ntmps184
    go_wp2_with fail
    refine HA.out.mono ?_
    rintro e w2 ⟨rfl, rfl⟩
    go_wp2
    go_ret
    exact ⟨ret_bool (by first | rfl | simp), HB2.out⟩
  · have q : (n == 12) = false := by simpa using h12
    go_enter Tryz.func184, Tryz.ntmps184
    go_wp2_with fail
    refine HA2.out.mono ?_
    rintro e w2 ⟨rfl, rfl⟩
    go_wp2
    go_ret
    exact ⟨ret_bool (by first | rfl | simp [h12]), HB2b.out⟩
set_option maxRecDepth 100000 in
set_option maxHeartbeats 4000000 in
theorem core_33 (P : Nat → Prop) (n : Int) (s : ByteArray) (nv lv : Value) (l : List Syn) (w : World) (hP : ∀ b, P b → b < w.heap.size) (h : SynSl w P lv l) :
    Calls Tryz.prog 184 #[.agg #[.int .i64 33, .int .i64 n, .string s, nv, lv]] w fun e w' => e = .returned (.bool (Pl.parts l [3, 1])) ∧ Below w.heap.size w w' := by
  have h0 := h
  obtain ⟨la, lc, rfl, hm⟩ := h0.form
  unfold maxLen at hm
  have HL := Lib.hid (fun W (hW : Below w.heap.size w W) => h.keep (Same.of_below hW hP))
  have HPW := Lib.hid (fun W (hW : Below w.heap.size w W) b (hb : P b) => Nat.lt_of_lt_of_le (hP b hb) hW.size)
  generalize hln : l.length = ln at *
  have HLN := Lib.hid hln
  have hb : Below w.heap.size w (w.alloc (.cells #[.int .i64 33, .int .i64 n, .string s, nv, .slice la ln lc] 28)) := (Below.refl _ _).alloc (Nat.le_refl _) _
  have HB := Lib.hid hb
  have hi := intSl_2 (w.alloc (.cells #[.int .i64 33, .int .i64 n, .string s, nv, .slice la ln lc] 28)) 3 1 2
  rw [size_alloc] at hi
  have HI := Lib.hid hi
  have hb2 : Below w.heap.size w ((w.alloc (.cells #[.int .i64 33, .int .i64 n, .string s, nv, .slice la ln lc] 28)).alloc (.cells #[.int .i64 3, .int .i64 1] 3)) := ((Below.refl _ _).alloc (Nat.le_refl _) _).alloc (by simp) _
  have HB2 := Lib.hid hb2
  clear hi hb2
  clear h h0 hb hP hln
  go_enter Tryz.func184, Tryz.ntmps184
  go_wp2_with fail
  refine (areParts_any P _ _ l _ _ (HL.out _ HB2.out) HI.out).mono ?_
  rintro e w2 ⟨rfl, rfl⟩
  go_wp2
  go_ret
  exact ⟨rfl, HB2.out⟩
set_option maxRecDepth 100000 in
set_option maxHeartbeats 4000000 in
theorem core_34 (P : Nat → Prop) (n : Int) (s : ByteArray) (nv lv : Value) (l : List Syn) (w : World) (hP : ∀ b, P b → b < w.heap.size) (h : SynSl w P lv l) :
    Calls Tryz.prog 184 #[.agg #[.int .i64 34, .int .i64 n, .string s, nv, lv]] w fun e w' => e = .returned (.bool (Pl.parts l [6] && decide (Pl.opAt l 0 = 72))) ∧ Below w.heap.size w w' := by
  have h0 := h
  obtain ⟨la, lc, rfl, hm⟩ := h0.form
  unfold maxLen at hm
  have HL := Lib.hid (fun W (hW : Below w.heap.size w W) => h.keep (Same.of_below hW hP))
  have HPW := Lib.hid (fun W (hW : Below w.heap.size w W) b (hb : P b) => Nat.lt_of_lt_of_le (hP b hb) hW.size)
  generalize hln : l.length = ln at *
  have HLN := Lib.hid hln
  have hb : Below w.heap.size w (w.alloc (.cells #[.int .i64 34, .int .i64 n, .string s, nv, .slice la ln lc] 28)) := (Below.refl _ _).alloc (Nat.le_refl _) _
  have HB := Lib.hid hb
  have hi := intSl_1 (w.alloc (.cells #[.int .i64 34, .int .i64 n, .string s, nv, .slice la ln lc] 28)) 6 1
  rw [size_alloc] at hi
  have HI := Lib.hid hi
  have hb2 : Below w.heap.size w ((w.alloc (.cells #[.int .i64 34, .int .i64 n, .string s, nv, .slice la ln lc] 28)).alloc (.cells #[.int .i64 6] 3)) := ((Below.refl _ _).alloc (Nat.le_refl _) _).alloc (by simp) _
  have HB2 := Lib.hid hb2
  clear hi hb2
  have HA := Lib.hid (areParts_any P _ _ l _ _ (HL.out _ HB2.out) HI.out)
  by_cases hp : Pl.parts l [6] = true
  · have hlen : l.length = 1 := parts_true_len l _ hp
    rcases h.cases with ⟨rfl, _⟩ | ⟨b, off, n', c', hv, hnl, hn0, hnc, hcm, hPb, hka⟩
    · simp at hlen
    · injection hv with hv1 hv2 hv3
      subst hv1 hv2 hv3
      have hl2 : ln = 1 := by omega
      subst hl2
      obtain ⟨xo, xn, xs, na, nn, nc, la, ln, lc', hxo, a0, -⟩ := (hka.keep (Same.of_below HB2.out hP) hPb).part 0 (by omega)
      simp only [Nat.zero_mul, Nat.one_mul, Nat.add_zero] at a0
      have HO := Lib.hid ((opAt_get l 0 (by omega)).trans hxo)
      have HPT := Lib.hid hp
      rw [hp] at HA
      clear h h0 hb hP hln hka hxo hlen
      go_enter Tryz.func184, Tryz.ntmps184
      go_wp2_with fail
      refine HA.out.mono ?_
      rintro e w2 ⟨rfl, rfl⟩
      go_wp2
      go_ret
      exact ⟨ret_bool (by rw [HPT.out, HO.out, Bool.true_and]; rfl), HB2.out⟩
  · have hp' : Pl.parts l [6] = false := by simpa using hp
    have HPT := Lib.hid hp'
    rw [hp'] at HA
    clear h h0 hb hP hln hp hp'
    go_enter Tryz.func184, Tryz.ntmps184
    go_wp2_with fail
    refine HA.out.mono ?_
    rintro e w2 ⟨rfl, rfl⟩
    go_wp2
    go_ret
    exact ⟨ret_bool (by rw [HPT.out]; rfl), HB2.out⟩
end Go.Proofs.YtkmgnibopmpcjaaGreatDoor
