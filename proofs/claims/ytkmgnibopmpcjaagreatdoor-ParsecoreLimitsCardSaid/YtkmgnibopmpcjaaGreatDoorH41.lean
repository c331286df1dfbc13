/-
  Walks and plain mathematics, several texts in one (Tk Tl).
-/
import Derived.Test.YtkmgnibopmpcjaaGreatDoorH37
import Derived.Test.YtkmgnibopmpcjaaGreatDoorH38
/-
  Walks of layer 3: the parts of a node, fourth.
-/
namespace Go.Proofs.YtkmgnibopmpcjaaGreatDoor
open Go Go.RowKit
open Pl (Syn)
set_option linter.unusedSimpArgs false
set_option maxRecDepth 100000 in
set_option maxHeartbeats 4000000 in
theorem modl_50 (P : Nat → Prop) (n : Int) (s : ByteArray) (nv lv : Value) (l : List Syn) (w : World) (hP : ∀ b, P b → b < w.heap.size) (h : SynSl w P lv l) :
    Calls Tryz.prog 185 #[.agg #[.int .i64 50, .int .i64 n, .string s, nv, lv]] w fun e w' => e = .returned (.bool (Pl.parts l [3, 6] && decide (Pl.opAt l 1 = 72))) ∧ Below w.heap.size w w' := by
  have h0 := h
  obtain ⟨la, lc, rfl, hm⟩ := h0.form
  unfold maxLen at hm
  have HL := Lib.hid (fun W (hW : Below w.heap.size w W) => h.keep (Same.of_below hW hP))
  have HPW := Lib.hid (fun W (hW : Below w.heap.size w W) b (hb : P b) => Nat.lt_of_lt_of_le (hP b hb) hW.size)
  generalize hln : l.length = ln at *
  have HLN := Lib.hid hln
  have hb : Below w.heap.size w (w.alloc (.cells #[.int .i64 50, .int .i64 n, .string s, nv, .slice la ln lc] 28)) := (Below.refl _ _).alloc (Nat.le_refl _) _
  have HB := Lib.hid hb
  have hi := intSl_2 (w.alloc (.cells #[.int .i64 50, .int .i64 n, .string s, nv, .slice la ln lc] 28)) 3 6 2
  rw [size_alloc] at hi
  have HI := Lib.hid hi
  have hb2 : Below w.heap.size w ((w.alloc (.cells #[.int .i64 50, .int .i64 n, .string s, nv, .slice la ln lc] 28)).alloc (.cells #[.int .i64 3, .int .i64 6] 3)) := ((Below.refl _ _).alloc (Nat.le_refl _) _).alloc (by simp) _
  have HB2 := Lib.hid hb2
  clear hi hb2
  have HA := Lib.hid (areParts_any P _ _ l _ _ (HL.out _ HB2.out) HI.out)
  by_cases hp : Pl.parts l [3, 6] = true
  · have hlen : l.length = 2 := parts_true_len l _ hp
    rcases h.cases with ⟨rfl, _⟩ | ⟨b, off, n', c', hv, hnl, hn0, hnc, hcm, hPb, hka⟩
    · simp at hlen
    · injection hv with hv1 hv2 hv3
      subst hv1 hv2 hv3
      have hl2 : ln = 2 := by omega
      subst hl2
      obtain ⟨xo, xn, xs, na, nn, nc, la, ln, lc', hxo, a0, -⟩ := (hka.keep (Same.of_below HB2.out hP) hPb).part 1 (by omega)
      simp only [Nat.zero_mul, Nat.one_mul, Nat.add_zero] at a0
      have HO := Lib.hid ((opAt_get l 1 (by omega)).trans hxo)
      have HPT := Lib.hid hp
      rw [hp] at HA
      clear h h0 hb hP hln hka hxo hlen
      go_enter Tryz.func185, Tryz.ntmps185
      go_wp2_with fail
      refine HA.out.mono ?_
      rintro e w2 ⟨rfl, rfl⟩
      go_wp2
      go_ret
      exact ⟨ret_bool (by rw [HPT.out, HO.out, Bool.true_and]; rfl), HB2.out⟩
  · have hp' : Pl.parts l [3, 6] = false := by simpa using hp
    have HPT := Lib.hid hp'
    rw [hp'] at HA
    clear h h0 hb hP hln hp hp'
    go_enter Tryz.func185, Tryz.ntmps185
    go_wp2_with fail
    refine HA.out.mono ?_
    rintro e w2 ⟨rfl, rfl⟩
    go_wp2
    go_ret
    exact ⟨ret_bool (by rw [HPT.out]; rfl), HB2.out⟩
set_option maxRecDepth 100000 in
set_option maxHeartbeats 4000000 in
theorem modl_88 (P : Nat → Prop) (n : Int) (s : ByteArray) (nv lv : Value) (l : List Syn) (w : World) (hP : ∀ b, P b → b < w.heap.size) (h : SynSl w P lv l) :
    Calls Tryz.prog 185 #[.agg #[.int .i64 88, .int .i64 n, .string s, nv, lv]] w fun e w' => e = .returned (.bool (Pl.parts l [3, 6] && decide (Pl.opAt l 1 = 72))) ∧ Below w.heap.size w w' := by
  have h0 := h
  obtain ⟨la, lc, rfl, hm⟩ := h0.form
  unfold maxLen at hm
  have HL := Lib.hid (fun W (hW : Below w.heap.size w W) => h.keep (Same.of_below hW hP))
  have HPW := Lib.hid (fun W (hW : Below w.heap.size w W) b (hb : P b) => Nat.lt_of_lt_of_le (hP b hb) hW.size)
  generalize hln : l.length = ln at *
  have HLN := Lib.hid hln
  have hb : Below w.heap.size w (w.alloc (.cells #[.int .i64 88, .int .i64 n, .string s, nv, .slice la ln lc] 28)) := (Below.refl _ _).alloc (Nat.le_refl _) _
  have HB := Lib.hid hb
  have hi := intSl_2 (w.alloc (.cells #[.int .i64 88, .int .i64 n, .string s, nv, .slice la ln lc] 28)) 3 6 2
  rw [size_alloc] at hi
  have HI := Lib.hid hi
  have hb2 : Below w.heap.size w ((w.alloc (.cells #[.int .i64 88, .int .i64 n, .string s, nv, .slice la ln lc] 28)).alloc (.cells #[.int .i64 3, .int .i64 6] 3)) := ((Below.refl _ _).alloc (Nat.le_refl _) _).alloc (by simp) _
  have HB2 := Lib.hid hb2
  clear hi hb2
  have HA := Lib.hid (areParts_any P _ _ l _ _ (HL.out _ HB2.out) HI.out)
  by_cases hp : Pl.parts l [3, 6] = true
  · have hlen : l.length = 2 := parts_true_len l _ hp
    rcases h.cases with ⟨rfl, _⟩ | ⟨b, off, n', c', hv, hnl, hn0, hnc, hcm, hPb, hka⟩
    · simp at hlen
    · injection hv with hv1 hv2 hv3
      subst hv1 hv2 hv3
      have hl2 : ln = 2 := by omega
      subst hl2
      obtain ⟨xo, xn, xs, na, nn, nc, la, ln, lc', hxo, a0, -⟩ := (hka.keep (Same.of_below HB2.out hP) hPb).part 1 (by omega)
      simp only [Nat.zero_mul, Nat.one_mul, Nat.add_zero] at a0
      have HO := Lib.hid ((opAt_get l 1 (by omega)).trans hxo)
      have HPT := Lib.hid hp
      rw [hp] at HA
      clear h h0 hb hP hln hka hxo hlen
      go_enter Tryz.func185, Tryz.ntmps185
      go_wp2_with fail
      refine HA.out.mono ?_
      rintro e w2 ⟨rfl, rfl⟩
      go_wp2
      go_ret
      exact ⟨ret_bool (by rw [HPT.out, HO.out, Bool.true_and]; rfl), HB2.out⟩
  · have hp' : Pl.parts l [3, 6] = false := by simpa using hp
    have HPT := Lib.hid hp'
    rw [hp'] at HA
    clear h h0 hb hP hln hp hp'
    go_enter Tryz.func185, Tryz.ntmps185
    go_wp2_with fail
    refine HA.out.mono ?_
    rintro e w2 ⟨rfl, rfl⟩
    go_wp2
    go_ret
    exact ⟨ret_bool (by rw [HPT.out]; rfl), HB2.out⟩
set_option maxRecDepth 100000 in
set_option maxHeartbeats 4000000 in
theorem modl_71 (P : Nat → Prop) (n : Int) (s : ByteArray) (nv lv : Value) (l : List Syn) (w : World) (hP : ∀ b, P b → b < w.heap.size) (h : SynSl w P lv l) :
    Calls Tryz.prog 185 #[.agg #[.int .i64 71, .int .i64 n, .string s, nv, lv]] w fun e w' => e = .returned (.bool (Pl.allOf l 5)) ∧ Below w.heap.size w w' := by
  have h0 := h
  obtain ⟨la, lc, rfl, hm⟩ := h0.form
  unfold maxLen at hm
  have HL := Lib.hid (fun W (hW : Below w.heap.size w W) => h.keep (Same.of_below hW hP))
  have HPW := Lib.hid (fun W (hW : Below w.heap.size w W) b (hb : P b) => Nat.lt_of_lt_of_le (hP b hb) hW.size)
  generalize hln : l.length = ln at *
  have HLN := Lib.hid hln
  have hb : Below w.heap.size w (w.alloc (.cells #[.int .i64 71, .int .i64 n, .string s, nv, .slice la ln lc] 28)) := (Below.refl _ _).alloc (Nat.le_refl _) _
  have HB := Lib.hid hb
  clear h h0 hb hP hln
  go_enter Tryz.func185, Tryz.ntmps185
  go_wp2_with fail
  refine (allOf_any P _ l _ _ (HPW.out _ HB.out) (HL.out _ HB.out)).mono ?_
  rintro e w2 ⟨rfl, hb2⟩
  have HB2 := Lib.hid (HB.out.trans (hb2.mono HB.out.size))
  clear hb2
  go_wp2
  go_ret
  exact ⟨rfl, HB2.out⟩
set_option maxRecDepth 100000 in
set_option maxHeartbeats 4000000 in
theorem modl_73 (P : Nat → Prop) (n : Int) (s : ByteArray) (nv lv : Value) (l : List Syn) (w : World) (hP : ∀ b, P b → b < w.heap.size) (h : SynSl w P lv l) :
    Calls Tryz.prog 185 #[.agg #[.int .i64 73, .int .i64 n, .string s, nv, lv]] w fun e w' => e = .returned (.bool (Pl.parts l [6, 6])) ∧ Below w.heap.size w w' := by
  have h0 := h
  obtain ⟨la, lc, rfl, hm⟩ := h0.form
  unfold maxLen at hm
  have HL := Lib.hid (fun W (hW : Below w.heap.size w W) => h.keep (Same.of_below hW hP))
  have HPW := Lib.hid (fun W (hW : Below w.heap.size w W) b (hb : P b) => Nat.lt_of_lt_of_le (hP b hb) hW.size)
  generalize hln : l.length = ln at *
  have HLN := Lib.hid hln
  have hb : Below w.heap.size w (w.alloc (.cells #[.int .i64 73, .int .i64 n, .string s, nv, .slice la ln lc] 28)) := (Below.refl _ _).alloc (Nat.le_refl _) _
  have HB := Lib.hid hb
  have hi := intSl_2 (w.alloc (.cells #[.int .i64 73, .int .i64 n, .string s, nv, .slice la ln lc] 28)) 6 6 2
  rw [size_alloc] at hi
  have HI := Lib.hid hi
  have hb2 : Below w.heap.size w ((w.alloc (.cells #[.int .i64 73, .int .i64 n, .string s, nv, .slice la ln lc] 28)).alloc (.cells #[.int .i64 6, .int .i64 6] 3)) := ((Below.refl _ _).alloc (Nat.le_refl _) _).alloc (by simp) _
  have HB2 := Lib.hid hb2
  clear hi hb2
  clear h h0 hb hP hln
  go_enter Tryz.func185, Tryz.ntmps185
  go_wp2_with fail
  refine (areParts_any P _ _ l _ _ (HL.out _ HB2.out) HI.out).mono ?_
  rintro e w2 ⟨rfl, rfl⟩
  go_wp2
  go_ret
  exact ⟨rfl, HB2.out⟩
set_option maxRecDepth 100000 in
set_option maxHeartbeats 4000000 in
theorem modl_74 (P : Nat → Prop) (n : Int) (s : ByteArray) (nv lv : Value) (l : List Syn) (w : World) (hP : ∀ b, P b → b < w.heap.size) (h : SynSl w P lv l) :
    Calls Tryz.prog 185 #[.agg #[.int .i64 74, .int .i64 n, .string s, nv, lv]] w fun e w' => e = .returned (.bool (Pl.parts l [6, 4] && decide (Pl.opAt l 1 = 43))) ∧ Below w.heap.size w w' := by
  have h0 := h
  obtain ⟨la, lc, rfl, hm⟩ := h0.form
  unfold maxLen at hm
  have HL := Lib.hid (fun W (hW : Below w.heap.size w W) => h.keep (Same.of_below hW hP))
  have HPW := Lib.hid (fun W (hW : Below w.heap.size w W) b (hb : P b) => Nat.lt_of_lt_of_le (hP b hb) hW.size)
  generalize hln : l.length = ln at *
  have HLN := Lib.hid hln
  have hb : Below w.heap.size w (w.alloc (.cells #[.int .i64 74, .int .i64 n, .string s, nv, .slice la ln lc] 28)) := (Below.refl _ _).alloc (Nat.le_refl _) _
  have HB := Lib.hid hb
  have hi := intSl_2 (w.alloc (.cells #[.int .i64 74, .int .i64 n, .string s, nv, .slice la ln lc] 28)) 6 4 2
  rw [size_alloc] at hi
  have HI := Lib.hid hi
  have hb2 : Below w.heap.size w ((w.alloc (.cells #[.int .i64 74, .int .i64 n, .string s, nv, .slice la ln lc] 28)).alloc (.cells #[.int .i64 6, .int .i64 4] 3)) := ((Below.refl _ _).alloc (Nat.le_refl _) _).alloc (by simp) _
  have HB2 := Lib.hid hb2
  clear hi hb2
  have HA := Lib.hid (areParts_any P _ _ l _ _ (HL.out _ HB2.out) HI.out)
  by_cases hp : Pl.parts l [6, 4] = true
  · have hlen : l.length = 2 := parts_true_len l _ hp
    rcases h.cases with ⟨rfl, _⟩ | ⟨b, off, n', c', hv, hnl, hn0, hnc, hcm, hPb, hka⟩
    · simp at hlen
    · injection hv with hv1 hv2 hv3
      subst hv1 hv2 hv3
      have hl2 : ln = 2 := by omega
      subst hl2
      obtain ⟨xo, xn, xs, na, nn, nc, la, ln, lc', hxo, a0, -⟩ := (hka.keep (Same.of_below HB2.out hP) hPb).part 1 (by omega)
      simp only [Nat.zero_mul, Nat.one_mul, Nat.add_zero] at a0
      have HO := Lib.hid ((opAt_get l 1 (by omega)).trans hxo)
      have HPT := Lib.hid hp
      rw [hp] at HA
      clear h h0 hb hP hln hka hxo hlen
      go_enter Tryz.func185, Tryz.ntmps185
      go_wp2_with fail
      refine HA.out.mono ?_
      rintro e w2 ⟨rfl, rfl⟩
      go_wp2
      go_ret
      exact ⟨ret_bool (by rw [HPT.out, HO.out, Bool.true_and]; rfl), HB2.out⟩
  · have hp' : Pl.parts l [6, 4] = false := by simpa using hp
    have HPT := Lib.hid hp'
    rw [hp'] at HA
    clear h h0 hb hP hln hp hp'
    go_enter Tryz.func185, Tryz.ntmps185
    go_wp2_with fail
    refine HA.out.mono ?_
    rintro e w2 ⟨rfl, rfl⟩
    go_wp2
    go_ret
    exact ⟨ret_bool (by rw [HPT.out]; rfl), HB2.out⟩
set_option maxRecDepth 100000 in
set_option maxHeartbeats 4000000 in
theorem modl_81 (P : Nat → Prop) (n : Int) (s : ByteArray) (nv lv : Value) (l : List Syn) (w : World) (hP : ∀ b, P b → b < w.heap.size) (h : SynSl w P lv l) :
    Calls Tryz.prog 185 #[.agg #[.int .i64 81, .int .i64 n, .string s, nv, lv]] w fun e w' => e = .returned (.bool (Pl.allOf l 4)) ∧ Below w.heap.size w w' := by
  have h0 := h
  obtain ⟨la, lc, rfl, hm⟩ := h0.form
  unfold maxLen at hm
  have HL := Lib.hid (fun W (hW : Below w.heap.size w W) => h.keep (Same.of_below hW hP))
  have HPW := Lib.hid (fun W (hW : Below w.heap.size w W) b (hb : P b) => Nat.lt_of_lt_of_le (hP b hb) hW.size)
  generalize hln : l.length = ln at *
  have HLN := Lib.hid hln
  have hb : Below w.heap.size w (w.alloc (.cells #[.int .i64 81, .int .i64 n, .string s, nv, .slice la ln lc] 28)) := (Below.refl _ _).alloc (Nat.le_refl _) _
  have HB := Lib.hid hb
  clear h h0 hb hP hln
  go_enter Tryz.func185, Tryz.ntmps185
  go_wp2_with fail
  refine (allOf_any P _ l _ _ (HPW.out _ HB.out) (HL.out _ HB.out)).mono ?_
  rintro e w2 ⟨rfl, hb2⟩
  have HB2 := Lib.hid (HB.out.trans (hb2.mono HB.out.size))
  clear hb2
  go_wp2
  go_ret
  exact ⟨rfl, HB2.out⟩
set_option maxRecDepth 100000 in
set_option maxHeartbeats 4000000 in
theorem modl_83 (P : Nat → Prop) (n : Int) (s : ByteArray) (nv lv : Value) (l : List Syn) (w : World) (hP : ∀ b, P b → b < w.heap.size) (h : SynSl w P lv l) :
    Calls Tryz.prog 185 #[.agg #[.int .i64 83, .int .i64 n, .string s, nv, lv]] w fun e w' => e = .returned (.bool (Pl.parts l [6, 7])) ∧ Below w.heap.size w w' := by
  have h0 := h
  obtain ⟨la, lc, rfl, hm⟩ := h0.form
  unfold maxLen at hm
  have HL := Lib.hid (fun W (hW : Below w.heap.size w W) => h.keep (Same.of_below hW hP))
  have HPW := Lib.hid (fun W (hW : Below w.heap.size w W) b (hb : P b) => Nat.lt_of_lt_of_le (hP b hb) hW.size)
  generalize hln : l.length = ln at *
  have HLN := Lib.hid hln
  have hb : Below w.heap.size w (w.alloc (.cells #[.int .i64 83, .int .i64 n, .string s, nv, .slice la ln lc] 28)) := (Below.refl _ _).alloc (Nat.le_refl _) _
  have HB := Lib.hid hb
  have hi := intSl_2 (w.alloc (.cells #[.int .i64 83, .int .i64 n, .string s, nv, .slice la ln lc] 28)) 6 7 2
  rw [size_alloc] at hi
  have HI := Lib.hid hi
  have hb2 : Below w.heap.size w ((w.alloc (.cells #[.int .i64 83, .int .i64 n, .string s, nv, .slice la ln lc] 28)).alloc (.cells #[.int .i64 6, .int .i64 7] 3)) := ((Below.refl _ _).alloc (Nat.le_refl _) _).alloc (by simp) _
  have HB2 := Lib.hid hb2
  clear hi hb2
  clear h h0 hb hP hln
  go_enter Tryz.func185, Tryz.ntmps185
  go_wp2_with fail
  refine (areParts_any P _ _ l _ _ (HL.out _ HB2.out) HI.out).mono ?_
  rintro e w2 ⟨rfl, rfl⟩
  go_wp2
  go_ret
  exact ⟨rfl, HB2.out⟩
set_option maxRecDepth 100000 in
set_option maxHeartbeats 4000000 in
theorem modl_84 (P : Nat → Prop) (n : Int) (s : ByteArray) (nv lv : Value) (l : List Syn) (w : World) (hP : ∀ b, P b → b < w.heap.size) (h : SynSl w P lv l) :
    Calls Tryz.prog 185 #[.agg #[.int .i64 84, .int .i64 n, .string s, nv, lv]] w fun e w' => e = .returned (.bool (Pl.parts l [7, 7])) ∧ Below w.heap.size w w' := by
  have h0 := h
  obtain ⟨la, lc, rfl, hm⟩ := h0.form
  unfold maxLen at hm
  have HL := Lib.hid (fun W (hW : Below w.heap.size w W) => h.keep (Same.of_below hW hP))
  have HPW := Lib.hid (fun W (hW : Below w.heap.size w W) b (hb : P b) => Nat.lt_of_lt_of_le (hP b hb) hW.size)
  generalize hln : l.length = ln at *
  have HLN := Lib.hid hln
  have hb : Below w.heap.size w (w.alloc (.cells #[.int .i64 84, .int .i64 n, .string s, nv, .slice la ln lc] 28)) := (Below.refl _ _).alloc (Nat.le_refl _) _
  have HB := Lib.hid hb
  have hi := intSl_2 (w.alloc (.cells #[.int .i64 84, .int .i64 n, .string s, nv, .slice la ln lc] 28)) 7 7 2
  rw [size_alloc] at hi
  have HI := Lib.hid hi
  have hb2 : Below w.heap.size w ((w.alloc (.cells #[.int .i64 84, .int .i64 n, .string s, nv, .slice la ln lc] 28)).alloc (.cells #[.int .i64 7, .int .i64 7] 3)) := ((Below.refl _ _).alloc (Nat.le_refl _) _).alloc (by simp) _
  have HB2 := Lib.hid hb2
  clear hi hb2
  clear h h0 hb hP hln
  go_enter Tryz.func185, Tryz.ntmps185
  go_wp2_with fail
  refine (areParts_any P _ _ l _ _ (HL.out _ HB2.out) HI.out).mono ?_
  rintro e w2 ⟨rfl, rfl⟩
  go_wp2
  go_ret
  exact ⟨rfl, HB2.out⟩
set_option maxRecDepth 100000 in
set_option maxHeartbeats 4000000 in
theorem modl_85 (P : Nat → Prop) (n : Int) (s : ByteArray) (nv lv : Value) (l : List Syn) (w : World) (hP : ∀ b, P b → b < w.heap.size) (h : SynSl w P lv l) :
    Calls Tryz.prog 185 #[.agg #[.int .i64 85, .int .i64 n, .string s, nv, lv]] w fun e w' => e = .returned (.bool (Pl.parts l [7, 6])) ∧ Below w.heap.size w w' := by
  have h0 := h
  obtain ⟨la, lc, rfl, hm⟩ := h0.form
  unfold maxLen at hm
  have HL := Lib.hid (fun W (hW : Below w.heap.size w W) => h.keep (Same.of_below hW hP))
  have HPW := Lib.hid (fun W (hW : Below w.heap.size w W) b (hb : P b) => Nat.lt_of_lt_of_le (hP b hb) hW.size)
  generalize hln : l.length = ln at *
  have HLN := Lib.hid hln
  have hb : Below w.heap.size w (w.alloc (.cells #[.int .i64 85, .int .i64 n, .string s, nv, .slice la ln lc] 28)) := (Below.refl _ _).alloc (Nat.le_refl _) _
  have HB := Lib.hid hb
  have hi := intSl_2 (w.alloc (.cells #[.int .i64 85, .int .i64 n, .string s, nv, .slice la ln lc] 28)) 7 6 2
  rw [size_alloc] at hi
  have HI := Lib.hid hi
  have hb2 : Below w.heap.size w ((w.alloc (.cells #[.int .i64 85, .int .i64 n, .string s, nv, .slice la ln lc] 28)).alloc (.cells #[.int .i64 7, .int .i64 6] 3)) := ((Below.refl _ _).alloc (Nat.le_refl _) _).alloc (by simp) _
  have HB2 := Lib.hid hb2
  clear hi hb2
  clear h h0 hb hP hln
  go_enter Tryz.func185, Tryz.ntmps185
  go_wp2_with fail
  refine (areParts_any P _ _ l _ _ (HL.out _ HB2.out) HI.out).mono ?_
  rintro e w2 ⟨rfl, rfl⟩
  go_wp2
  go_ret
  exact ⟨rfl, HB2.out⟩
set_option maxRecDepth 100000 in
set_option maxHeartbeats 4000000 in
theorem modl_86 (P : Nat → Prop) (n : Int) (s : ByteArray) (nv lv : Value) (l : List Syn) (w : World) (hP : ∀ b, P b → b < w.heap.size) (h : SynSl w P lv l) :
    Calls Tryz.prog 185 #[.agg #[.int .i64 86, .int .i64 n, .string s, nv, lv]] w fun e w' => e = .returned (.bool (Pl.parts l [7, 6])) ∧ Below w.heap.size w w' := by
  have h0 := h
  obtain ⟨la, lc, rfl, hm⟩ := h0.form
  unfold maxLen at hm
  have HL := Lib.hid (fun W (hW : Below w.heap.size w W) => h.keep (Same.of_below hW hP))
  have HPW := Lib.hid (fun W (hW : Below w.heap.size w W) b (hb : P b) => Nat.lt_of_lt_of_le (hP b hb) hW.size)
  generalize hln : l.length = ln at *
  have HLN := Lib.hid hln
  have hb : Below w.heap.size w (w.alloc (.cells #[.int .i64 86, .int .i64 n, .string s, nv, .slice la ln lc] 28)) := (Below.refl _ _).alloc (Nat.le_refl _) _
  have HB := Lib.hid hb
  have hi := intSl_2 (w.alloc (.cells #[.int .i64 86, .int .i64 n, .string s, nv, .slice la ln lc] 28)) 7 6 2
  rw [size_alloc] at hi
  have HI := Lib.hid hi
  have hb2 : Below w.heap.size w ((w.alloc (.cells #[.int .i64 86, .int .i64 n, .string s, nv, .slice la ln lc] 28)).alloc (.cells #[.int .i64 7, .int .i64 6] 3)) := ((Below.refl _ _).alloc (Nat.le_refl _) _).alloc (by simp) _
  have HB2 := Lib.hid hb2
  clear hi hb2
  clear h h0 hb hP hln
  go_enter Tryz.func185, Tryz.ntmps185
  go_wp2_with fail
  refine (areParts_any P _ _ l _ _ (HL.out _ HB2.out) HI.out).mono ?_
  rintro e w2 ⟨rfl, rfl⟩
  go_wp2
  go_ret
  exact ⟨rfl, HB2.out⟩
end Go.Proofs.YtkmgnibopmpcjaaGreatDoor

/-
  Walks of layer 3: the names of constructors; data types and sharings.
-/
namespace Go.Proofs.YtkmgnibopmpcjaaGreatDoor
open Go Go.RowKit
open Pl (Syn)
set_option linter.unusedSimpArgs false
theorem infoStr : (Tryz.prog.info? 9).map (fun i => (i.zero, i.size, i.bytes)) = some (some (.string ByteArray.empty), 1, 16) := by kernel_rfl
theorem strSl_owns {w : World} {base n : Nat} {v : Value} {zs : List ByteArray} (h : w.ownsRow base 9 1 v n (zs.map Value.string)) (hs : ∀ s ∈ zs, s.size ≤ maxLen) : StrSl w (fun b => base ≤ b ∧ b < w.heap.size) v zs := by
  obtain ⟨hlen, hf⟩ := id h
  have hn : zs.length = n := by simpa using hlen
  rcases hf with ⟨rfl, h0⟩ | ⟨g, cap, cur, rfl, hgb, hg, hnc, hm, _, _⟩
  · subst h0
    have : zs = [] := List.eq_nil_of_length_eq_zero hn
    subst this
    exact ⟨none, 0, rfl, Nat.le_refl _, Nat.zero_le _, fun _ => rfl, fun z hz => (by cases hz), .inl rfl⟩
  · have hlt : g < w.heap.size := by
      rcases Nat.lt_or_ge g w.heap.size with hb | hb
      · exact hb
      · have hx : w.heap[g]? = none := by simp; omega
        rw [hx] at hg; cases hg
    refine ⟨some ⟨g, 0, none⟩, cap, by rw [hn], by omega, hm, fun h => (by cases h), hs, .inr ⟨g, 0, rfl, ⟨hgb, hlt⟩, fun j hj => ?_⟩⟩
    rw [Nat.zero_add, h.cellAt j (by omega)]
    simp [hj]
theorem below_append2 {w wr w1 : World} {v : Value} {B n : Nat} {e : TypeId} {xs : List Value} {size : Nat} {o o2 : Obj} (hbr : Below B w wr) (hB : B ≤ wr.heap.size) (hown : wr.ownsRow B e size v n xs) (hg : ((wr.alloc o).alloc o2).grownBy w1 v.ownBlock) : Below B w w1 :=
  ((hbr.alloc hB o).alloc (by simp; omega) o2).grown hg (by simp; omega) (fun j hj => (hown.lt j hj).1)
def nameCells (l : List Syn) : List Value := (l.map Syn.s).map Value.string
set_option maxRecDepth 100000 in
set_option maxHeartbeats 4000000 in
theorem names_any (P : Nat → Prop) (v : Value) (l : List Syn) (w : World) (hP : ∀ b, P b → b < w.heap.size) (h : SynSl w P v l) (hl : l.length ≤ 1073741824) :
    Calls Tryz.prog 224 #[v] w fun e w' => (∃ u, e = .returned u ∧ StrSl w' (fun b => w.heap.size ≤ b ∧ b < w'.heap.size) u (l.map Syn.s)) ∧ Below w.heap.size w w' := by
  obtain ⟨i9, hi, hz0, hz1, hz2⟩ := info_parts infoStr
  have HBL := Lib.hid (Below.refl w.heap.size w)
  rcases h.cases with ⟨rfl, a, c, rfl, -, -⟩ | ⟨b, off, n, c, rfl, hnl, hn0, hnc, hcm, hPb, hka⟩
  · clear h
    go_enter Tryz.func224, Tryz.ntmps224
    go_wp2_with fail
    go_loopg [3, 8] 1 (fun g u v wr => u = .slice none 0 0 ∧ v = .int .i64 0 ∧ wr = w)
    case atStart => exact ⟨rfl, rfl, rfl⟩
    case round =>
      obtain ⟨rfl, rfl, rfl⟩ := hrel
      go_wp2
      go_ret
      exact ⟨⟨_, rfl, strSl_owns (n := 0) (zs := []) (World.ownsRow_nil _ _ _ _) (fun s hs => (by cases hs))⟩, HBL.out⟩
  · unfold maxLen at hcm
    have HNL := Lib.hid hnl
    have HKA := Lib.hid hka
    have HP := Lib.hid hP
    have HPB := Lib.hid hPb
    have HSS := Lib.hid (show ∀ s ∈ l.map Syn.s, s.size ≤ maxLen from fun s hs => by
      rw [List.mem_map] at hs
      obtain ⟨t, ht, rfl⟩ := hs
      obtain ⟨k, hk, rfl⟩ := List.getElem_of_mem ht
      obtain ⟨x, _, hx⟩ := (kidsAt_iff _ _ _ _ _).1 hka k hk
      rw [synV_iff] at hx
      exact hx.1)
    rw [hnl] at hl
    clear h hnl hka hP hPb
    go_enter Tryz.func224, Tryz.ntmps224
    go_wp2_with fail
    go_loopg [3, 8] (n + 1) (fun g u v wr => ∃ k : Nat, k ≤ n ∧ v = .int .i64 k ∧ g = n + 1 - k ∧ Below w.heap.size w wr ∧ wr.ownsRow w.heap.size 9 1 u k (nameCells (l.take k)))
    case atStart => exact ⟨0, by omega, rfl, by omega, HBL.out, by rw [List.take_zero]; exact World.ownsRow_nil _ _ _ _⟩
    case round =>
      rename_i u _
      obtain ⟨k, hk, rfl, hg, hbw, hown⟩ := hrel
      have HBW := Lib.hid hbw
      have hsz := hbw.size
      by_cases hlt : k < n
      · have hkl : k < l.length := by rw [HNL.out]; exact hlt
        obtain ⟨xo, xn, xs, na, nn, nc, la, ln, lc, -, a0, a1, a2, a3, a4, hxs⟩ := (HKA.out.keep (Same.of_below hbw HP.out) HPB.out).part k hkl
        have HXS := Lib.hid (show l[k].s = xs from by
          rw [synV_iff] at hxs
          obtain ⟨_, _, _, e, _⟩ := hxs
          injection e with e
          injection e with e
          injection e with _ e
          injection e with _ e
          injection e with e _
          injection e with e
          exact e.symm)
        have bx := (blk_new wr #[.int .i64 xo, .int .i64 xn, .string xs, .slice na nn nc, .slice la ln lc] 28)
        have d2 := bx.cell 2 _ rfl
        have HTK := Lib.hid (show nameCells (l.take (k + 1)) = nameCells (l.take k) ++ [.string xs] from by
          unfold nameCells
          rw [List.take_succ_eq_append_getElem hkl, List.map_append, List.map_append, ← HXS.out]; rfl)
        have HOWN := Lib.hid hown
        clear hbw hxs bx hown
        go_wp2_with (at_builtin; refine wpList_append_own _ rfl _ _ 25 rfl w.heap.size 9 i9 (.string ByteArray.empty) 1 16 Tryz.underlying25 hi hz0 hz1 hz2 rfl (by decide) _ _ _ rfl ((HOWN.out.alloc _).alloc _) ⟨wr.heap.size + 1, 0, none⟩ 1 1 [.string xs] rfl rfl ?c1 ?c2 ?c3 ?c4 ?c5 ?_)
        case c1 =>
          intro j u hj
          match j, hj with
          | 0, hj =>
            simp at hj; subst hj
            have := blk_new (wr.alloc (.cells #[.int .i64 xo, .int .i64 xn, .string xs, .slice na nn nc, .slice la ln lc] 28)) #[.string xs] 9
            rw [size_alloc] at this
            exact this.cell 0 _ rfl
        case c2 => intro u hu; simp at hu; subst hu; rfl
        case c3 => unfold maxLen; omega
        case c4 => omega
        case c5 => simp; omega
        intro v' w1 hown' hgrow _
        have HB1 := Lib.hid (below_append2 HBW.out hsz HOWN.out hgrow)
        have HO1 := Lib.hid hown'
        clear hown' hgrow a0 a1 a2 a3 a4 d2
        go_wp2
        go_roundg (gk - 1)
        case measure => omega
        case rel => exact ⟨k + 1, by omega, by go_num, by omega, HB1.out, by rw [HTK.out]; exact HO1.out⟩
      · have HT := Lib.hid (show l.take k = l from List.take_of_length_le (by rw [HNL.out]; omega))
        have HOWN := Lib.hid hown
        clear hbw hown
        go_wp2
        go_ret
        have := HOWN.out
        rw [HT.out] at this
        exact ⟨⟨_, rfl, strSl_owns this HSS.out⟩, HBW.out⟩
end Go.Proofs.YtkmgnibopmpcjaaGreatDoor
