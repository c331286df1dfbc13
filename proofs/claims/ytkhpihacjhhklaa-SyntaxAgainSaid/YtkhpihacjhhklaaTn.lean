/-
  Walks of layer 3: the parts of a node, sixth.
-/
import Derived.Test.YtkhpihacjhhklaaTg
import Derived.Test.YtkhpihacjhhklaaTl
namespace Go.Proofs.Ytkhpihacjhhklaa
open Go Go.RowKit
open Pl (Syn)
set_option linter.unusedSimpArgs false

set_option maxRecDepth 100000 in
set_option maxHeartbeats 4000000 in
theorem core_31 (P : Nat → Prop) (n : Int) (s : ByteArray) (nv lv : Value) (l : List Syn) (w : World) (hP : ∀ b, P b → b < w.heap.size) (h : SynSl w P lv l) :
    Calls Try.prog 64 #[.agg #[.int .i64 31, .int .i64 n, .string s, nv, lv]] w fun e w' => e = .returned (.bool (decide (1 ≤ l.length) && Pl.kinds (l.take (l.length - 1)) [41, 42, 50] && Pl.parts (l.drop (l.length - 1)) [3])) ∧ Below w.heap.size w w' := by
  have h0 := h
  obtain ⟨la, lc, rfl, hm⟩ := h0.form
  unfold maxLen at hm
  have HL := Lib.hid (fun W (hW : Below w.heap.size w W) => h.keep (Same.of_below hW hP))
  have HPW := Lib.hid (fun W (hW : Below w.heap.size w W) b (hb : P b) => Nat.lt_of_lt_of_le (hP b hb) hW.size)
  generalize hln : l.length = ln at *
  have HLN := Lib.hid hln
  have hb : Below w.heap.size w (w.alloc (.cells #[.int .i64 31, .int .i64 n, .string s, nv, .slice la ln lc] 25)) := (Below.refl _ _).alloc (Nat.le_refl _) _
  have HB := Lib.hid hb
  by_cases h1 : 1 ≤ ln
  · rcases h.cases with ⟨rfl, _⟩ | ⟨b, off, n', c', hv, hnl, hn0, hnc, hcm, hPb, hka⟩
    · simp at hln; omega
    · injection hv with hv1 hv2 hv3
      subst hv1 hv2 hv3
      unfold maxLen at hcm
      obtain ⟨m, rfl⟩ : ∃ m, ln = m + 1 := ⟨ln - 1, by omega⟩
      have hi := intSl_3 (w.alloc (.cells #[.int .i64 31, .int .i64 n, .string s, nv, .slice (some ⟨b, off, none⟩) (m + 1) lc] 25)) 41 42 50 3
      rw [size_alloc] at hi
      have hb2 : Below w.heap.size w ((w.alloc (.cells #[.int .i64 31, .int .i64 n, .string s, nv, .slice (some ⟨b, off, none⟩) (m + 1) lc] 25)).alloc (.cells #[.int .i64 41, .int .i64 42, .int .i64 50] 3)) := ((Below.refl _ _).alloc (Nat.le_refl _) _).alloc (by simp) _
      have HB2 := Lib.hid hb2
      have HK := Lib.hid (areKinds_any P _ _ (l.take m) [41, 42, 50] _ (HPW.out _ HB2.out) ((HL.out _ HB2.out).sub m (by omega)) hi)
      clear hi hb2
      have HQ := Lib.hid (fun W (hW : Below w.heap.size w W) => areParts_any P _ _ (l.drop m) [3] _ ((HL.out _ (hW.trans (((Below.refl W.heap.size W).alloc (Nat.le_refl _) (.cells #[.int .i64 3] 3)).mono hW.size))).rest m (by omega)) (intSl_1 W 3 1))
      have HD := Lib.hid (show (decide (1 ≤ m + 1) && Pl.kinds (l.take (m + 1 - 1)) [41, 42, 50] && Pl.parts (l.drop (m + 1 - 1)) [3]) = (Pl.kinds (l.take m) [41, 42, 50] && Pl.parts (l.drop m) [3]) from by rw [decide_eq_true (by omega), Nat.add_sub_cancel]; rfl)
      generalize (decide (1 ≤ m + 1) && Pl.kinds (l.take (m + 1 - 1)) [41, 42, 50] && Pl.parts (l.drop (m + 1 - 1)) [3]) = rr at *
      generalize Pl.kinds (l.take m) [41, 42, 50] = r1 at *
      generalize Pl.parts (l.drop m) [3] = r2 at *
      clear h h0 hb hP hln hka
      cases r1
      · go_enter Try.func64, Try.ntmps64
        go_wp2_with fail
        refine HK.out.mono ?_
        rintro e w2 ⟨rfl, hb4⟩
        have HB4 := Lib.hid (HB2.out.trans (hb4.mono HB2.out.size))
        clear hb4
        go_wp2
        go_ret
        exact ⟨ret_bool (by rw [HD.out]; rfl), HB4.out⟩
      · go_enter Try.func64, Try.ntmps64
        go_wp2_with fail
        refine HK.out.mono ?_
        rintro e w2 ⟨rfl, hb4⟩
        have HB4 := Lib.hid (HB2.out.trans (hb4.mono HB2.out.size))
        clear hb4
        have hq := HQ.out _ HB4.out
        rw [Nat.add_sub_cancel_left] at hq
        have HQ2 := Lib.hid hq
        clear hq
        have HB5 := Lib.hid (HB4.out.trans (((Below.refl w2.heap.size w2).alloc (Nat.le_refl _) (.cells #[.int .i64 3] 3)).mono HB4.out.size))
        go_wp2_with fail
        refine HQ2.out.mono ?_
        rintro e w3 ⟨rfl, rfl⟩
        go_wp2
        go_ret
        exact ⟨ret_bool (by rw [HD.out]; rfl), HB5.out⟩
  · obtain rfl : ln = 0 := by omega
    have HD := Lib.hid (show (decide (1 ≤ 0) && Pl.kinds (l.take (0 - 1)) [41, 42, 50] && Pl.parts (l.drop (0 - 1)) [3]) = false from by simp)
    generalize (decide (1 ≤ 0) && Pl.kinds (l.take (0 - 1)) [41, 42, 50] && Pl.parts (l.drop (0 - 1)) [3]) = rr at *
    clear h h0 hb hP hln
    go_enter Try.func64, Try.ntmps64
    go_wp2
    go_ret
    exact ⟨ret_bool HD.out.symm, HB.out⟩
set_option maxRecDepth 100000 in
set_option maxHeartbeats 4000000 in
theorem modl_87 (P : Nat → Prop) (n : Int) (s : ByteArray) (nv lv : Value) (l : List Syn) (w : World) (hP : ∀ b, P b → b < w.heap.size) (h : SynSl w P lv l) :
    Calls Try.prog 65 #[.agg #[.int .i64 87, .int .i64 n, .string s, nv, lv]] w fun e w' => e = .returned (.bool (decide (1 ≤ l.length) && Pl.allOf (l.take (l.length - 1)) 4 && Pl.parts (l.drop (l.length - 1)) [7])) ∧ Below w.heap.size w w' := by
  have h0 := h
  obtain ⟨la, lc, rfl, hm⟩ := h0.form
  unfold maxLen at hm
  have HL := Lib.hid (fun W (hW : Below w.heap.size w W) => h.keep (Same.of_below hW hP))
  have HPW := Lib.hid (fun W (hW : Below w.heap.size w W) b (hb : P b) => Nat.lt_of_lt_of_le (hP b hb) hW.size)
  generalize hln : l.length = ln at *
  have HLN := Lib.hid hln
  have hb : Below w.heap.size w (w.alloc (.cells #[.int .i64 87, .int .i64 n, .string s, nv, .slice la ln lc] 25)) := (Below.refl _ _).alloc (Nat.le_refl _) _
  have HB := Lib.hid hb
  by_cases h1 : 1 ≤ ln
  · rcases h.cases with ⟨rfl, _⟩ | ⟨b, off, n', c', hv, hnl, hn0, hnc, hcm, hPb, hka⟩
    · simp at hln; omega
    · injection hv with hv1 hv2 hv3
      subst hv1 hv2 hv3
      unfold maxLen at hcm
      obtain ⟨m, rfl⟩ : ∃ m, ln = m + 1 := ⟨ln - 1, by omega⟩
      have HB2 := Lib.hid HB.out
      have HK := Lib.hid (allOf_any P _ (l.take m) 4 _ (HPW.out _ HB2.out) ((HL.out _ HB2.out).sub m (by omega)))
      have HQ := Lib.hid (fun W (hW : Below w.heap.size w W) => areParts_any P _ _ (l.drop m) [7] _ ((HL.out _ (hW.trans (((Below.refl W.heap.size W).alloc (Nat.le_refl _) (.cells #[.int .i64 7] 3)).mono hW.size))).rest m (by omega)) (intSl_1 W 7 1))
      have HD := Lib.hid (show (decide (1 ≤ m + 1) && Pl.allOf (l.take (m + 1 - 1)) 4 && Pl.parts (l.drop (m + 1 - 1)) [7]) = (Pl.allOf (l.take m) 4 && Pl.parts (l.drop m) [7]) from by rw [decide_eq_true (by omega), Nat.add_sub_cancel]; rfl)
      generalize (decide (1 ≤ m + 1) && Pl.allOf (l.take (m + 1 - 1)) 4 && Pl.parts (l.drop (m + 1 - 1)) [7]) = rr at *
      generalize Pl.allOf (l.take m) 4 = r1 at *
      generalize Pl.parts (l.drop m) [7] = r2 at *
      clear h h0 hb hP hln hka
      cases r1
      · go_enter Try.func65, Try.ntmps65
        go_wp2_with fail
        refine HK.out.mono ?_
        rintro e w2 ⟨rfl, hb4⟩
        have HB4 := Lib.hid (HB2.out.trans (hb4.mono HB2.out.size))
        clear hb4
        go_wp2
        go_ret
        exact ⟨ret_bool (by rw [HD.out]; rfl), HB4.out⟩
      · go_enter Try.func65, Try.ntmps65
        go_wp2_with fail
        refine HK.out.mono ?_
        rintro e w2 ⟨rfl, hb4⟩
        have HB4 := Lib.hid (HB2.out.trans (hb4.mono HB2.out.size))
        clear hb4
        have hq := HQ.out _ HB4.out
        rw [Nat.add_sub_cancel_left] at hq
        have HQ2 := Lib.hid hq
        clear hq
        have HB5 := Lib.hid (HB4.out.trans (((Below.refl w2.heap.size w2).alloc (Nat.le_refl _) (.cells #[.int .i64 7] 3)).mono HB4.out.size))
        go_wp2_with fail
        refine HQ2.out.mono ?_
        rintro e w3 ⟨rfl, rfl⟩
        go_wp2
        go_ret
        exact ⟨ret_bool (by rw [HD.out]; rfl), HB5.out⟩
  · obtain rfl : ln = 0 := by omega
    have HD := Lib.hid (show (decide (1 ≤ 0) && Pl.allOf (l.take (0 - 1)) 4 && Pl.parts (l.drop (0 - 1)) [7]) = false from by simp)
    generalize (decide (1 ≤ 0) && Pl.allOf (l.take (0 - 1)) 4 && Pl.parts (l.drop (0 - 1)) [7]) = rr at *
    clear h h0 hb hP hln
    go_enter Try.func65, Try.ntmps65
    go_wp2
    go_ret
    exact ⟨ret_bool HD.out.symm, HB.out⟩
set_option maxRecDepth 100000 in
set_option maxHeartbeats 4000000 in
theorem core_other (P : Nat → Prop) (op n : Int) (s : ByteArray) (nv lv : Value) (l : List Syn) (w : World) (h : SynSl w P lv l) (p1 : (op == 1) = false) (p5 : (op == 5) = false) (p11 : (op == 11) = false) (p12 : (op == 12) = false) (p13 : (op == 13) = false) (p21 : (op == 21) = false) (p22 : (op == 22) = false) (p23 : (op == 23) = false) (p24 : (op == 24) = false) (p2 : (op == 2) = false) (p3 : (op == 3) = false) (p4 : (op == 4) = false) (p14 : (op == 14) = false) (p15 : (op == 15) = false) (p25 : (op == 25) = false) (p26 : (op == 26) = false) (p27 : (op == 27) = false) (p28 : (op == 28) = false) (p29 : (op == 29) = false) (p30 : (op == 30) = false) (p31 : (op == 31) = false) (p32 : (op == 32) = false) (p33 : (op == 33) = false) (p34 : (op == 34) = false) :
    Calls Try.prog 64 #[.agg #[.int .i64 op, .int .i64 n, .string s, nv, lv]] w fun e w' => e = .returned (.bool (false)) ∧ Below w.heap.size w w' := by
  have h0 := h
  obtain ⟨la, lc, rfl, hm⟩ := h0.form
  unfold maxLen at hm
  generalize hln : l.length = ln at *
  have hb : Below w.heap.size w (w.alloc (.cells #[.int .i64 op, .int .i64 n, .string s, nv, .slice la ln lc] 25)) := (Below.refl _ _).alloc (Nat.le_refl _) _
  have HB := Lib.hid hb
  clear h h0 hb hln
  go_enter Try.func64, Try.ntmps64
  go_wp2
  go_ret
  exact ⟨rfl, HB.out⟩
set_option maxRecDepth 100000 in
set_option maxHeartbeats 4000000 in
theorem modl_other (P : Nat → Prop) (op n : Int) (s : ByteArray) (nv lv : Value) (l : List Syn) (w : World) (h : SynSl w P lv l) (p48 : (op == 48) = false) (p49 : (op == 49) = false) (p62 : (op == 62) = false) (p72 : (op == 72) = false) (p82 : (op == 82) = false) (p41 : (op == 41) = false) (p42 : (op == 42) = false) (p43 : (op == 43) = false) (p61 : (op == 61) = false) (p44 : (op == 44) = false) (p45 : (op == 45) = false) (p46 : (op == 46) = false) (p47 : (op == 47) = false) (p63 : (op == 63) = false) (p64 : (op == 64) = false) (p65 : (op == 65) = false) (p50 : (op == 50) = false) (p88 : (op == 88) = false) (p66 : (op == 66) = false) (p71 : (op == 71) = false) (p73 : (op == 73) = false) (p74 : (op == 74) = false) (p81 : (op == 81) = false) (p83 : (op == 83) = false) (p84 : (op == 84) = false) (p85 : (op == 85) = false) (p86 : (op == 86) = false) (p87 : (op == 87) = false) :
    Calls Try.prog 65 #[.agg #[.int .i64 op, .int .i64 n, .string s, nv, lv]] w fun e w' => e = .returned (.bool (false)) ∧ Below w.heap.size w w' := by
  have h0 := h
  obtain ⟨la, lc, rfl, hm⟩ := h0.form
  unfold maxLen at hm
  generalize hln : l.length = ln at *
  have hb : Below w.heap.size w (w.alloc (.cells #[.int .i64 op, .int .i64 n, .string s, nv, .slice la ln lc] 25)) := (Below.refl _ _).alloc (Nat.le_refl _) _
  have HB := Lib.hid hb
  clear h h0 hb hln
  go_enter Try.func65, Try.ntmps65
  go_wp2
  go_ret
  exact ⟨rfl, HB.out⟩
end Go.Proofs.Ytkhpihacjhhklaa
