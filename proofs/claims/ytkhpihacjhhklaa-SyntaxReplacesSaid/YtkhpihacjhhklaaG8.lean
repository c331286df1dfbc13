/-
  Walks and plain mathematics, several texts in one (Tm Tn To Tp Tq).
-/
import Derived.Test.YtkhpihacjhhklaaG5
import Derived.Test.YtkhpihacjhhklaaG7
import Derived.Test.YtkhpihacjhhklaaG6
import Derived.Test.YtkhpihacjhhklaaG3
import Derived.Test.YtkhpihacjhhklaaG4
import Derived.Test.YtkhpihacjhhklaaG1
/-
  Walks of layer 3: the parts of a node, fifth.
-/
namespace Go.Proofs.Ytkhpihacjhhklaa
open Go Go.RowKit
open Pl (Syn)
set_option linter.unusedSimpArgs false

set_option maxRecDepth 100000 in
set_option maxHeartbeats 4000000 in
theorem modl_44 (P : Nat → Prop) (n : Int) (s : ByteArray) (nv lv : Value) (l : List Syn) (w : World) (hP : ∀ b, P b → b < w.heap.size) (h : SynSl w P lv l) (hbig : l.length ≤ 1073741824) :
    Calls Try.prog 65 #[.agg #[.int .i64 44, .int .i64 n, .string s, nv, lv]] w fun e w' => e = .returned (.bool (decide (0 < l.length) && Pl.kinds l [45] && Pl.noTwin (l.map Syn.s))) ∧ Below w.heap.size w w' := by
  have h0 := h
  obtain ⟨la, lc, rfl, hm⟩ := h0.form
  unfold maxLen at hm
  have HL := Lib.hid (fun W (hW : Below w.heap.size w W) => h.keep (Same.of_below hW hP))
  have HPW := Lib.hid (fun W (hW : Below w.heap.size w W) b (hb : P b) => Nat.lt_of_lt_of_le (hP b hb) hW.size)
  generalize hln : l.length = ln at *
  have HLN := Lib.hid hln
  have hb : Below w.heap.size w (w.alloc (.cells #[.int .i64 44, .int .i64 n, .string s, nv, .slice la ln lc] 25)) := (Below.refl _ _).alloc (Nat.le_refl _) _
  have HB := Lib.hid hb
  have hi := intSl_1 (w.alloc (.cells #[.int .i64 44, .int .i64 n, .string s, nv, .slice la ln lc] 25)) 45 1
  rw [size_alloc] at hi
  have HI := Lib.hid hi
  have hb2 : Below w.heap.size w ((w.alloc (.cells #[.int .i64 44, .int .i64 n, .string s, nv, .slice la ln lc] 25)).alloc (.cells #[.int .i64 45] 3)) := ((Below.refl _ _).alloc (Nat.le_refl _) _).alloc (by simp) _
  have HB2 := Lib.hid hb2
  clear hi hb2
  have HA := Lib.hid (areKinds_any P _ _ l [45] _ (HPW.out _ HB2.out) (HL.out _ HB2.out) HI.out)
  have HN := Lib.hid (fun W h1 h2 => names_any P (.slice la ln lc) l W h1 h2 (by omega))
  generalize Pl.kinds l [45] = r at *
  clear h h0 hb hP hln
  by_cases h0 : 0 < ln
  · have q : decide ((0 : Int) < (ln : Int)) = true := by simp; omega
    cases r
    · go_enter Try.func65, Try.ntmps65
      go_wp2_with fail
      refine HA.out.mono ?_
      rintro e w2 ⟨rfl, hb3⟩
      have HB3 := Lib.hid (HB2.out.trans (hb3.mono HB2.out.size))
      clear hb3
      go_wp2
      go_ret
      exact ⟨ret_bool (by simp), HB3.out⟩
    · go_enter Try.func65, Try.ntmps65
      go_wp2_with fail
      refine HA.out.mono ?_
      rintro e w2 ⟨rfl, hb3⟩
      have HB3 := Lib.hid (HB2.out.trans (hb3.mono HB2.out.size))
      clear hb3
      go_wp2_with fail
      refine (HN.out _ (HPW.out _ HB3.out) (HL.out _ HB3.out)).mono ?_
      rintro e w3 ⟨⟨u, rfl, hu⟩, hb4⟩
      have HB4 := Lib.hid (HB3.out.trans (hb4.mono HB3.out.size))
      have HD := Lib.hid (differ_any _ u _ w3 (fun b hb => hb.2) hu)
      clear hb4 hu
      generalize hrd : Pl.noTwin (l.map Syn.s) = rd at *
      have HRD := Lib.hid hrd
      clear hrd
      go_wp2_with fail
      refine HD.out.mono ?_
      rintro e w4 ⟨rfl, hb5⟩
      have HB5 := Lib.hid (HB4.out.trans (hb5.mono HB4.out.size))
      clear hb5
      go_wp2
      go_ret
      exact ⟨ret_bool (by rw [decide_eq_true h0, HRD.out]; rfl), HB5.out⟩
  · obtain rfl : ln = 0 := by omega
    go_enter Try.func65, Try.ntmps65
    go_wp2
    go_ret
    exact ⟨ret_bool (by simp), HB.out⟩
theorem getD_get (l : List Syn) (j : Nat) (h : j < l.length) : l.getD j Pl.none0 = l[j] := by simp [List.getD, h]
theorem synV_len {w : World} {P : Nat → Prop} {t : Syn} {a b : Value} {la : Option Addr} {ln lc : Nat} {s : ByteArray} {nv : Value} (h : SynV w P t (.agg #[a, b, .string s, nv, .slice la ln lc])) : t.l.length = ln ∧ ln ≤ maxLen := by
  rw [synV_iff] at h
  obtain ⟨_, nv', lv', e, _, ⟨a', c', e2, h2, h3, _⟩⟩ := h
  injection e with e
  injection e with e
  injection e with _ e
  injection e with _ e
  injection e with _ e
  injection e with _ e
  injection e with e _
  rw [e2] at e
  injection e with e1 e3 e4
  exact ⟨e3.symm, by omega⟩
set_option maxRecDepth 100000 in
set_option maxHeartbeats 4000000 in
theorem modl_66 (P : Nat → Prop) (n : Int) (s : ByteArray) (nv lv : Value) (l : List Syn) (w : World) (hP : ∀ b, P b → b < w.heap.size) (h : SynSl w P lv l) :
    Calls Try.prog 65 #[.agg #[.int .i64 66, .int .i64 n, .string s, nv, lv]] w fun e w' => e = .returned (.bool (Pl.parts l [1] && decide (Pl.opAt l 0 = 2) && decide ((l.getD 0 Pl.none0).l.length = 0))) ∧ Below w.heap.size w w' := by
  have h0 := h
  obtain ⟨la, lc, rfl, hm⟩ := h0.form
  unfold maxLen at hm
  have HL := Lib.hid (fun W (hW : Below w.heap.size w W) => h.keep (Same.of_below hW hP))
  have HPW := Lib.hid (fun W (hW : Below w.heap.size w W) b (hb : P b) => Nat.lt_of_lt_of_le (hP b hb) hW.size)
  generalize hln : l.length = ln at *
  have HLN := Lib.hid hln
  have hb : Below w.heap.size w (w.alloc (.cells #[.int .i64 66, .int .i64 n, .string s, nv, .slice la ln lc] 25)) := (Below.refl _ _).alloc (Nat.le_refl _) _
  have HB := Lib.hid hb
  have hi := intSl_1 (w.alloc (.cells #[.int .i64 66, .int .i64 n, .string s, nv, .slice la ln lc] 25)) 1 1
  rw [size_alloc] at hi
  have HI := Lib.hid hi
  have hb2 : Below w.heap.size w ((w.alloc (.cells #[.int .i64 66, .int .i64 n, .string s, nv, .slice la ln lc] 25)).alloc (.cells #[.int .i64 1] 3)) := ((Below.refl _ _).alloc (Nat.le_refl _) _).alloc (by simp) _
  have HB2 := Lib.hid hb2
  clear hi hb2
  have HA := Lib.hid (areParts_any P _ _ l _ _ (HL.out _ HB2.out) HI.out)
  by_cases hp : Pl.parts l [1] = true
  · have hlen : l.length = 1 := parts_true_len l _ hp
    rcases h.cases with ⟨rfl, _⟩ | ⟨b, off, n', c', hv, hnl, hn0, hnc, hcm, hPb, hka⟩
    · simp at hlen
    · injection hv with hv1 hv2 hv3
      subst hv1 hv2 hv3
      have hl2 : ln = 1 := by omega
      subst hl2
      obtain ⟨xo, xn, xs, na, nn, nc, la, ln, lc', hxo, a0, -, -, -, a4, hx0⟩ := (hka.keep (Same.of_below HB2.out hP) hPb).part 0 (by omega)
      simp only [Nat.zero_mul, Nat.one_mul, Nat.add_zero] at a0 a4
      obtain ⟨hlk, hlm⟩ := synV_len hx0
      have HK := Lib.hid (show decide ((l.getD 0 Pl.none0).l.length = 0) = decide (ln = 0) from by rw [getD_get l 0 (by omega), hlk])
      unfold maxLen at hlm
      clear hlk hx0
      have HO := Lib.hid ((opAt_get l 0 (by omega)).trans hxo)
      have HPT := Lib.hid hp
      rw [hp] at HA
      clear h h0 hb hP hln hka hxo hlen
      have HD := Lib.hid (show ∀ b : Bool, b = (true && decide (xo = 2) && decide (ln = 0)) → b = (Pl.parts l [1] && decide (Pl.opAt l 0 = 2) && decide ((l.getD 0 Pl.none0).l.length = 0)) from fun b hb => by rw [hb, HPT.out, HO.out, HK.out])
      generalize (Pl.parts l [1] && decide (Pl.opAt l 0 = 2) && decide ((l.getD 0 Pl.none0).l.length = 0)) = rr at *
      by_cases hx2 : xo = 2
      · have q : (xo == 2) = true := beq_iff_eq.2 hx2
        have HX2 := Lib.hid hx2
        clear hx2
        go_enter Try.func65, Try.ntmps65
        go_wp2_with fail
        refine HA.out.mono ?_
        rintro e w2 ⟨rfl, rfl⟩
        go_wp2
        go_ret
        exact ⟨ret_bool (HD.out _ (by rw [decide_eq_true HX2.out]; first | rfl | (rw [Bool.eq_iff_iff]; simp; omega) | (rw [Bool.eq_iff_iff]; simp))), HB2.out⟩
      · have q : (xo == 2) = false := beq_eq_false_iff_ne.2 hx2
        have HX2 := Lib.hid hx2
        clear hx2
        go_enter Try.func65, Try.ntmps65
        go_wp2_with fail
        refine HA.out.mono ?_
        rintro e w2 ⟨rfl, rfl⟩
        go_wp2
        go_ret
        exact ⟨ret_bool (HD.out _ (by rw [decide_eq_false HX2.out]; rfl)), HB2.out⟩
  · have hp' : Pl.parts l [1] = false := by simpa using hp
    have HPT := Lib.hid hp'
    rw [hp'] at HA
    clear h h0 hb hP hln hp hp'
    go_enter Try.func65, Try.ntmps65
    go_wp2_with fail
    refine HA.out.mono ?_
    rintro e w2 ⟨rfl, rfl⟩
    go_wp2
    go_ret
    exact ⟨ret_bool (by rw [HPT.out]; rfl), HB2.out⟩
set_option maxRecDepth 100000 in
set_option maxHeartbeats 4000000 in
theorem core_29 (P : Nat → Prop) (n : Int) (s : ByteArray) (nv lv : Value) (l : List Syn) (w : World) (hP : ∀ b, P b → b < w.heap.size) (h : SynSl w P lv l) :
    Calls Try.prog 64 #[.agg #[.int .i64 29, .int .i64 n, .string s, nv, lv]] w fun e w' => e = .returned (.bool (decide (1 < l.length) && Pl.parts (l.take 1) [3] && Pl.kinds (l.drop 1) [30])) ∧ Below w.heap.size w w' := by
  have h0 := h
  obtain ⟨la, lc, rfl, hm⟩ := h0.form
  unfold maxLen at hm
  have HL := Lib.hid (fun W (hW : Below w.heap.size w W) => h.keep (Same.of_below hW hP))
  have HPW := Lib.hid (fun W (hW : Below w.heap.size w W) b (hb : P b) => Nat.lt_of_lt_of_le (hP b hb) hW.size)
  generalize hln : l.length = ln at *
  have HLN := Lib.hid hln
  have hb : Below w.heap.size w (w.alloc (.cells #[.int .i64 29, .int .i64 n, .string s, nv, .slice la ln lc] 25)) := (Below.refl _ _).alloc (Nat.le_refl _) _
  have HB := Lib.hid hb
  have hi := intSl_1 (w.alloc (.cells #[.int .i64 29, .int .i64 n, .string s, nv, .slice la ln lc] 25)) 3 1
  rw [size_alloc] at hi
  have HI := Lib.hid hi
  have hb2 : Below w.heap.size w ((w.alloc (.cells #[.int .i64 29, .int .i64 n, .string s, nv, .slice la ln lc] 25)).alloc (.cells #[.int .i64 3] 3)) := ((Below.refl _ _).alloc (Nat.le_refl _) _).alloc (by simp) _
  have HB2 := Lib.hid hb2
  clear hi hb2
  by_cases h1 : 1 < ln
  · have q : decide ((1 : Int) < (ln : Int)) = true := by simp; omega
    rcases h.cases with ⟨rfl, _⟩ | ⟨b, off, n', c', hv, hnl, hn0, hnc, hcm, hPb, hka⟩
    · simp at hln; omega
    · injection hv with hv1 hv2 hv3
      subst hv1 hv2 hv3
      unfold maxLen at hcm
      have HA := Lib.hid (areParts_any P _ _ (l.take 1) _ _ ((HL.out _ HB2.out).sub 1 (by omega)) HI.out)
      have hi2 := intSl_1 ((w.alloc (.cells #[.int .i64 29, .int .i64 n, .string s, nv, .slice (some ⟨b, off, none⟩) ln lc] 25)).alloc (.cells #[.int .i64 3] 3)) 30 1
      rw [size_alloc, size_alloc] at hi2
      have hb3 : Below w.heap.size w (((w.alloc (.cells #[.int .i64 29, .int .i64 n, .string s, nv, .slice (some ⟨b, off, none⟩) ln lc] 25)).alloc (.cells #[.int .i64 3] 3)).alloc (.cells #[.int .i64 30] 3)) := (((Below.refl _ _).alloc (Nat.le_refl _) _).alloc (by simp) _).alloc (by simp; omega) _
      have HB3 := Lib.hid hb3
      have HK := Lib.hid (areKinds_any P _ _ (l.drop 1) [30] _ (HPW.out _ HB3.out) ((HL.out _ HB3.out).rest 1 (by omega)) hi2)
      have HD := Lib.hid (show (decide (1 < ln) && Pl.parts (l.take 1) [3] && Pl.kinds (l.drop 1) [30]) = (Pl.parts (l.take 1) [3] && Pl.kinds (l.drop 1) [30]) from by rw [decide_eq_true (by omega)]; rfl)
      generalize (decide (1 < ln) && Pl.parts (l.take 1) [3] && Pl.kinds (l.drop 1) [30]) = rr at *
      generalize Pl.parts (l.take 1) [3] = r1 at *
      generalize Pl.kinds (l.drop 1) [30] = r2 at *
      clear h h0 hb hP hln hka hi2 hb3
      rw [Nat.one_mul] at HK
      cases r1
      · go_enter Try.func64, Try.ntmps64
        go_wp2_with fail
        refine HA.out.mono ?_
        rintro e w2 ⟨rfl, rfl⟩
        go_wp2
        go_ret
        exact ⟨ret_bool (by rw [HD.out]; rfl), HB2.out⟩
      · go_enter Try.func64, Try.ntmps64
        go_wp2_with fail
        refine HA.out.mono ?_
        rintro e w2 ⟨rfl, rfl⟩
        go_wp2_with fail
        refine HK.out.mono ?_
        rintro e w3 ⟨rfl, hb4⟩
        have HB4 := Lib.hid (HB3.out.trans (hb4.mono HB3.out.size))
        clear hb4
        go_wp2
        go_ret
        exact ⟨ret_bool (by rw [HD.out]; rfl), HB4.out⟩
  · have q : decide ((1 : Int) < (ln : Int)) = false := by simp; omega
    have HD := Lib.hid (show (decide (1 < ln) && Pl.parts (l.take 1) [3] && Pl.kinds (l.drop 1) [30]) = false from by rw [decide_eq_false (by omega)]; rfl)
    generalize (decide (1 < ln) && Pl.parts (l.take 1) [3] && Pl.kinds (l.drop 1) [30]) = rr at *
    clear h h0 hb hP hln
    go_enter Try.func64, Try.ntmps64
    go_wp2
    go_ret
    exact ⟨ret_bool HD.out.symm, HB.out⟩
end Go.Proofs.Ytkhpihacjhhklaa

/-
  Walks of layer 3: the parts of a node, sixth.
-/
namespace Go.Proofs.Ytkhpihacjhhklaa
open Go Go.RowKit
open Pl (Syn)
set_option linter.unusedSimpArgs false

set_option maxRecDepth 100000 in
set_option maxHeartbeats 4000000 in
theorem core_31 (P : Nat → Prop) (n : Int) (s : ByteArray) (nv lv : Value) (l : List Syn) (w : World) (hP : ∀ b, P b → b < w.heap.size) (h : SynSl w P lv l) :
    Calls Try.prog 64 #[.agg #[.int .i64 31, .int .i64 n, .string s, nv, lv]] w fun e w' => e = .returned (.bool (decide (1 ≤ l.length) && Pl.kinds (l.take (l.length - 1)) [41, 42, 50] && Pl.parts (l.drop (l.length - 1)) [3])) ∧ Below w.heap.size w w' := by
  have h0 := h
  obtain ⟨la, lc, rfl, hm⟩ := h0.form
  unfold maxLen at hm
  have HL := Lib.hid (fun W (hW : Below w.heap.size w W) => h.keep (Same.of_below hW hP))
  have HPW := Lib.hid (fun W (hW : Below w.heap.size w W) b (hb : P b) => Nat.lt_of_lt_of_le (hP b hb) hW.size)
  generalize hln : l.length = ln at *
  have HLN := Lib.hid hln
  have hb : Below w.heap.size w (w.alloc (.cells #[.int .i64 31, .int .i64 n, .string s, nv, .slice la ln lc] 25)) := (Below.refl _ _).alloc (Nat.le_refl _) _
  have HB := Lib.hid hb
  by_cases h1 : 1 ≤ ln
  · rcases h.cases with ⟨rfl, _⟩ | ⟨b, off, n', c', hv, hnl, hn0, hnc, hcm, hPb, hka⟩
    · simp at hln; omega
    · injection hv with hv1 hv2 hv3
      subst hv1 hv2 hv3
      unfold maxLen at hcm
      obtain ⟨m, rfl⟩ : ∃ m, ln = m + 1 := ⟨ln - 1, by omega⟩
      have hi := intSl_3 (w.alloc (.cells #[.int .i64 31, .int .i64 n, .string s, nv, .slice (some ⟨b, off, none⟩) (m + 1) lc] 25)) 41 42 50 3
      rw [size_alloc] at hi
      have hb2 : Below w.heap.size w ((w.alloc (.cells #[.int .i64 31, .int .i64 n, .string s, nv, .slice (some ⟨b, off, none⟩) (m + 1) lc] 25)).alloc (.cells #[.int .i64 41, .int .i64 42, .int .i64 50] 3)) := ((Below.refl _ _).alloc (Nat.le_refl _) _).alloc (by simp) _
      have HB2 := Lib.hid hb2
      have HK := Lib.hid (areKinds_any P _ _ (l.take m) [41, 42, 50] _ (HPW.out _ HB2.out) ((HL.out _ HB2.out).sub m (by omega)) hi)
      clear hi hb2
      have HQ := Lib.hid (fun W (hW : Below w.heap.size w W) => areParts_any P _ _ (l.drop m) [3] _ ((HL.out _ (hW.trans (((Below.refl W.heap.size W).alloc (Nat.le_refl _) (.cells #[.int .i64 3] 3)).mono hW.size))).rest m (by omega)) (intSl_1 W 3 1))
      have HD := Lib.hid (show (decide (1 ≤ m + 1) && Pl.kinds (l.take (m + 1 - 1)) [41, 42, 50] && Pl.parts (l.drop (m + 1 - 1)) [3]) = (Pl.kinds (l.take m) [41, 42, 50] && Pl.parts (l.drop m) [3]) from by rw [decide_eq_true (by omega), Nat.add_sub_cancel]; rfl)
      generalize (decide (1 ≤ m + 1) && Pl.kinds (l.take (m + 1 - 1)) [41, 42, 50] && Pl.parts (l.drop (m + 1 - 1)) [3]) = rr at *
      generalize Pl.kinds (l.take m) [41, 42, 50] = r1 at *
      generalize Pl.parts (l.drop m) [3] = r2 at *
      clear h h0 hb hP hln hka
      cases r1
      · go_enter Try.func64, Try.ntmps64
        go_wp2_with fail
        refine HK.out.mono ?_
        rintro e w2 ⟨rfl, hb4⟩
        have HB4 := Lib.hid (HB2.out.trans (hb4.mono HB2.out.size))
        clear hb4
        go_wp2
        go_ret
        exact ⟨ret_bool (by rw [HD.out]; rfl), HB4.out⟩
      · go_enter Try.func64, Try.ntmps64
        go_wp2_with fail
        refine HK.out.mono ?_
        rintro e w2 ⟨rfl, hb4⟩
        have HB4 := Lib.hid (HB2.out.trans (hb4.mono HB2.out.size))
        clear hb4
        have hq := HQ.out _ HB4.out
        rw [Nat.add_sub_cancel_left] at hq
        have HQ2 := Lib.hid hq
        clear hq
        have HB5 := Lib.hid (HB4.out.trans (((Below.refl w2.heap.size w2).alloc (Nat.le_refl _) (.cells #[.int .i64 3] 3)).mono HB4.out.size))
        go_wp2_with fail
        refine HQ2.out.mono ?_
        rintro e w3 ⟨rfl, rfl⟩
        go_wp2
        go_ret
        exact ⟨ret_bool (by rw [HD.out]; rfl), HB5.out⟩
  · obtain rfl : ln = 0 := by omega
    have HD := Lib.hid (show (decide (1 ≤ 0) && Pl.kinds (l.take (0 - 1)) [41, 42, 50] && Pl.parts (l.drop (0 - 1)) [3]) = false from by simp)
    generalize (decide (1 ≤ 0) && Pl.kinds (l.take (0 - 1)) [41, 42, 50] && Pl.parts (l.drop (0 - 1)) [3]) = rr at *
    clear h h0 hb hP hln
    go_enter Try.func64, Try.ntmps64
    go_wp2
    go_ret
    exact ⟨ret_bool HD.out.symm, HB.out⟩
set_option maxRecDepth 100000 in
set_option maxHeartbeats 4000000 in
theorem modl_87 (P : Nat → Prop) (n : Int) (s : ByteArray) (nv lv : Value) (l : List Syn) (w : World) (hP : ∀ b, P b → b < w.heap.size) (h : SynSl w P lv l) :
    Calls Try.prog 65 #[.agg #[.int .i64 87, .int .i64 n, .string s, nv, lv]] w fun e w' => e = .returned (.bool (decide (1 ≤ l.length) && Pl.allOf (l.take (l.length - 1)) 4 && Pl.parts (l.drop (l.length - 1)) [7])) ∧ Below w.heap.size w w' := by
  have h0 := h
  obtain ⟨la, lc, rfl, hm⟩ := h0.form
  unfold maxLen at hm
  have HL := Lib.hid (fun W (hW : Below w.heap.size w W) => h.keep (Same.of_below hW hP))
  have HPW := Lib.hid (fun W (hW : Below w.heap.size w W) b (hb : P b) => Nat.lt_of_lt_of_le (hP b hb) hW.size)
  generalize hln : l.length = ln at *
  have HLN := Lib.hid hln
  have hb : Below w.heap.size w (w.alloc (.cells #[.int .i64 87, .int .i64 n, .string s, nv, .slice la ln lc] 25)) := (Below.refl _ _).alloc (Nat.le_refl _) _
  have HB := Lib.hid hb
  by_cases h1 : 1 ≤ ln
  · rcases h.cases with ⟨rfl, _⟩ | ⟨b, off, n', c', hv, hnl, hn0, hnc, hcm, hPb, hka⟩
    · simp at hln; omega
    · injection hv with hv1 hv2 hv3
      subst hv1 hv2 hv3
      unfold maxLen at hcm
      obtain ⟨m, rfl⟩ : ∃ m, ln = m + 1 := ⟨ln - 1, by omega⟩
      have HB2 := Lib.hid HB.out
      have HK := Lib.hid (allOf_any P _ (l.take m) 4 _ (HPW.out _ HB2.out) ((HL.out _ HB2.out).sub m (by omega)))
      have HQ := Lib.hid (fun W (hW : Below w.heap.size w W) => areParts_any P _ _ (l.drop m) [7] _ ((HL.out _ (hW.trans (((Below.refl W.heap.size W).alloc (Nat.le_refl _) (.cells #[.int .i64 7] 3)).mono hW.size))).rest m (by omega)) (intSl_1 W 7 1))
      have HD := Lib.hid (show (decide (1 ≤ m + 1) && Pl.allOf (l.take (m + 1 - 1)) 4 && Pl.parts (l.drop (m + 1 - 1)) [7]) = (Pl.allOf (l.take m) 4 && Pl.parts (l.drop m) [7]) from by rw [decide_eq_true (by omega), Nat.add_sub_cancel]; rfl)
      generalize (decide (1 ≤ m + 1) && Pl.allOf (l.take (m + 1 - 1)) 4 && Pl.parts (l.drop (m + 1 - 1)) [7]) = rr at *
      generalize Pl.allOf (l.take m) 4 = r1 at *
      generalize Pl.parts (l.drop m) [7] = r2 at *
      clear h h0 hb hP hln hka
      cases r1
      · go_enter Try.func65, Try.ntmps65
        go_wp2_with fail
        refine HK.out.mono ?_
        rintro e w2 ⟨rfl, hb4⟩
        have HB4 := Lib.hid (HB2.out.trans (hb4.mono HB2.out.size))
        clear hb4
        go_wp2
        go_ret
        exact ⟨ret_bool (by rw [HD.out]; rfl), HB4.out⟩
      · go_enter Try.func65, Try.ntmps65
        go_wp2_with fail
        refine HK.out.mono ?_
        rintro e w2 ⟨rfl, hb4⟩
        have HB4 := Lib.hid (HB2.out.trans (hb4.mono HB2.out.size))
        clear hb4
        have hq := HQ.out _ HB4.out
        rw [Nat.add_sub_cancel_left] at hq
        have HQ2 := Lib.hid hq
        clear hq
        have HB5 := Lib.hid (HB4.out.trans (((Below.refl w2.heap.size w2).alloc (Nat.le_refl _) (.cells #[.int .i64 7] 3)).mono HB4.out.size))
        go_wp2_with fail
        refine HQ2.out.mono ?_
        rintro e w3 ⟨rfl, rfl⟩
        go_wp2
        go_ret
        exact ⟨ret_bool (by rw [HD.out]; rfl), HB5.out⟩
  · obtain rfl : ln = 0 := by omega
    have HD := Lib.hid (show (decide (1 ≤ 0) && Pl.allOf (l.take (0 - 1)) 4 && Pl.parts (l.drop (0 - 1)) [7]) = false from by simp)
    generalize (decide (1 ≤ 0) && Pl.allOf (l.take (0 - 1)) 4 && Pl.parts (l.drop (0 - 1)) [7]) = rr at *
    clear h h0 hb hP hln
    go_enter Try.func65, Try.ntmps65
    go_wp2
    go_ret
    exact ⟨ret_bool HD.out.symm, HB.out⟩
set_option maxRecDepth 100000 in
set_option maxHeartbeats 4000000 in
theorem core_other (P : Nat → Prop) (op n : Int) (s : ByteArray) (nv lv : Value) (l : List Syn) (w : World) (h : SynSl w P lv l) (p1 : (op == 1) = false) (p5 : (op == 5) = false) (p11 : (op == 11) = false) (p12 : (op == 12) = false) (p13 : (op == 13) = false) (p21 : (op == 21) = false) (p22 : (op == 22) = false) (p23 : (op == 23) = false) (p24 : (op == 24) = false) (p2 : (op == 2) = false) (p3 : (op == 3) = false) (p4 : (op == 4) = false) (p14 : (op == 14) = false) (p15 : (op == 15) = false) (p25 : (op == 25) = false) (p26 : (op == 26) = false) (p27 : (op == 27) = false) (p28 : (op == 28) = false) (p29 : (op == 29) = false) (p30 : (op == 30) = false) (p31 : (op == 31) = false) (p32 : (op == 32) = false) (p33 : (op == 33) = false) (p34 : (op == 34) = false) :
    Calls Try.prog 64 #[.agg #[.int .i64 op, .int .i64 n, .string s, nv, lv]] w fun e w' => e = .returned (.bool (false)) ∧ Below w.heap.size w w' := by
  have h0 := h
  obtain ⟨la, lc, rfl, hm⟩ := h0.form
  unfold maxLen at hm
  generalize hln : l.length = ln at *
  have hb : Below w.heap.size w (w.alloc (.cells #[.int .i64 op, .int .i64 n, .string s, nv, .slice la ln lc] 25)) := (Below.refl _ _).alloc (Nat.le_refl _) _
  have HB := Lib.hid hb
  clear h h0 hb hln
  go_enter Try.func64, Try.ntmps64
  go_wp2
  go_ret
  exact ⟨rfl, HB.out⟩
set_option maxRecDepth 100000 in
set_option maxHeartbeats 4000000 in
theorem modl_other (P : Nat → Prop) (op n : Int) (s : ByteArray) (nv lv : Value) (l : List Syn) (w : World) (h : SynSl w P lv l) (p48 : (op == 48) = false) (p49 : (op == 49) = false) (p62 : (op == 62) = false) (p72 : (op == 72) = false) (p82 : (op == 82) = false) (p41 : (op == 41) = false) (p42 : (op == 42) = false) (p43 : (op == 43) = false) (p61 : (op == 61) = false) (p44 : (op == 44) = false) (p45 : (op == 45) = false) (p46 : (op == 46) = false) (p47 : (op == 47) = false) (p63 : (op == 63) = false) (p64 : (op == 64) = false) (p65 : (op == 65) = false) (p50 : (op == 50) = false) (p88 : (op == 88) = false) (p66 : (op == 66) = false) (p71 : (op == 71) = false) (p73 : (op == 73) = false) (p74 : (op == 74) = false) (p81 : (op == 81) = false) (p83 : (op == 83) = false) (p84 : (op == 84) = false) (p85 : (op == 85) = false) (p86 : (op == 86) = false) (p87 : (op == 87) = false) :
    Calls Try.prog 65 #[.agg #[.int .i64 op, .int .i64 n, .string s, nv, lv]] w fun e w' => e = .returned (.bool (false)) ∧ Below w.heap.size w w' := by
  have h0 := h
  obtain ⟨la, lc, rfl, hm⟩ := h0.form
  unfold maxLen at hm
  generalize hln : l.length = ln at *
  have hb : Below w.heap.size w (w.alloc (.cells #[.int .i64 op, .int .i64 n, .string s, nv, .slice la ln lc] 25)) := (Below.refl _ _).alloc (Nat.le_refl _) _
  have HB := Lib.hid hb
  clear h h0 hb hln
  go_enter Try.func65, Try.ntmps65
  go_wp2
  go_ret
  exact ⟨rfl, HB.out⟩
end Go.Proofs.Ytkhpihacjhhklaa

/-
  Walks of layer 3: the parts of a node, whole.
-/
namespace Go.Proofs.Ytkhpihacjhhklaa
open Go Go.RowKit
open Pl (Syn)
set_option linter.unusedSimpArgs false

set_option maxRecDepth 100000 in
theorem core_any (P : Nat → Prop) (op n : Int) (s : ByteArray) (nv lv : Value) (l : List Syn) (w : World) (hP : ∀ b, P b → b < w.heap.size) (h : SynSl w P lv l) :
    Calls Try.prog 64 #[.agg #[.int .i64 op, .int .i64 n, .string s, nv, lv]] w fun e w' => e = .returned (.bool (Pl.core op n l)) ∧ Below w.heap.size w w' := by
  by_cases p1 : op = 1
  · subst p1; exact core_1 P n s nv lv l w hP h
  by_cases p5 : op = 5
  · subst p5; exact core_5 P n s nv lv l w hP h
  by_cases p11 : op = 11
  · subst p11; exact core_11 P n s nv lv l w hP h
  by_cases p12 : op = 12
  · subst p12; exact core_12 P n s nv lv l w hP h
  by_cases p13 : op = 13
  · subst p13; exact core_13 P n s nv lv l w hP h
  by_cases p21 : op = 21
  · subst p21; exact core_21 P n s nv lv l w hP h
  by_cases p22 : op = 22
  · subst p22; exact core_22 P n s nv lv l w hP h
  by_cases p23 : op = 23
  · subst p23; exact core_23 P n s nv lv l w hP h
  by_cases p24 : op = 24
  · subst p24; exact core_24 P n s nv lv l w hP h
  by_cases p2 : op = 2
  · subst p2; exact core_2 P n s nv lv l w hP h
  by_cases p3 : op = 3
  · subst p3; exact core_3 P n s nv lv l w hP h
  by_cases p4 : op = 4
  · subst p4; exact core_4 P n s nv lv l w hP h
  by_cases p14 : op = 14
  · subst p14; exact core_14 P n s nv lv l w hP h
  by_cases p15 : op = 15
  · subst p15; exact core_15 P n s nv lv l w hP h
  by_cases p25 : op = 25
  · subst p25; exact core_25 P n s nv lv l w hP h
  by_cases p26 : op = 26
  · subst p26; exact core_26 P n s nv lv l w hP h
  by_cases p27 : op = 27
  · subst p27; exact core_27 P n s nv lv l w hP h
  by_cases p28 : op = 28
  · subst p28; exact core_28 P n s nv lv l w hP h
  by_cases p29 : op = 29
  · subst p29; exact core_29 P n s nv lv l w hP h
  by_cases p30 : op = 30
  · subst p30; exact core_30 P n s nv lv l w hP h
  by_cases p31 : op = 31
  · subst p31; exact core_31 P n s nv lv l w hP h
  by_cases p32 : op = 32
  · subst p32; exact core_32 P n s nv lv l w hP h
  by_cases p33 : op = 33
  · subst p33; exact core_33 P n s nv lv l w hP h
  by_cases p34 : op = 34
  · subst p34; exact core_34 P n s nv lv l w hP h
  have hf : Pl.core op n l = false := by
    unfold Pl.core
    repeat' rw [if_neg (by omega)]
  rw [hf]
  exact core_other P op n s nv lv l w h (beq_eq_false_iff_ne.2 p1) (beq_eq_false_iff_ne.2 p5) (beq_eq_false_iff_ne.2 p11) (beq_eq_false_iff_ne.2 p12) (beq_eq_false_iff_ne.2 p13) (beq_eq_false_iff_ne.2 p21) (beq_eq_false_iff_ne.2 p22) (beq_eq_false_iff_ne.2 p23) (beq_eq_false_iff_ne.2 p24) (beq_eq_false_iff_ne.2 p2) (beq_eq_false_iff_ne.2 p3) (beq_eq_false_iff_ne.2 p4) (beq_eq_false_iff_ne.2 p14) (beq_eq_false_iff_ne.2 p15) (beq_eq_false_iff_ne.2 p25) (beq_eq_false_iff_ne.2 p26) (beq_eq_false_iff_ne.2 p27) (beq_eq_false_iff_ne.2 p28) (beq_eq_false_iff_ne.2 p29) (beq_eq_false_iff_ne.2 p30) (beq_eq_false_iff_ne.2 p31) (beq_eq_false_iff_ne.2 p32) (beq_eq_false_iff_ne.2 p33) (beq_eq_false_iff_ne.2 p34)
set_option maxRecDepth 100000 in
theorem modl_any (P : Nat → Prop) (op n : Int) (s : ByteArray) (nv lv : Value) (l : List Syn) (w : World) (hP : ∀ b, P b → b < w.heap.size) (h : SynSl w P lv l) (hbig : l.length ≤ 1073741824) :
    Calls Try.prog 65 #[.agg #[.int .i64 op, .int .i64 n, .string s, nv, lv]] w fun e w' => e = .returned (.bool (Pl.modl op l)) ∧ Below w.heap.size w w' := by
  by_cases p48 : op = 48
  · subst p48; exact modl_48 P n s nv lv l w hP h
  by_cases p49 : op = 49
  · subst p49; exact modl_49 P n s nv lv l w hP h
  by_cases p62 : op = 62
  · subst p62; exact modl_62 P n s nv lv l w hP h
  by_cases p72 : op = 72
  · subst p72; exact modl_72 P n s nv lv l w hP h
  by_cases p82 : op = 82
  · subst p82; exact modl_82 P n s nv lv l w hP h
  by_cases p41 : op = 41
  · subst p41; exact modl_41 P n s nv lv l w hP h
  by_cases p42 : op = 42
  · subst p42; exact modl_42 P n s nv lv l w hP h
  by_cases p43 : op = 43
  · subst p43; exact modl_43 P n s nv lv l w hP h
  by_cases p61 : op = 61
  · subst p61; exact modl_61 P n s nv lv l w hP h
  by_cases p44 : op = 44
  · subst p44; exact modl_44 P n s nv lv l w hP h hbig
  by_cases p45 : op = 45
  · subst p45; exact modl_45 P n s nv lv l w hP h
  by_cases p46 : op = 46
  · subst p46; exact modl_46 P n s nv lv l w hP h
  by_cases p47 : op = 47
  · subst p47; exact modl_47 P n s nv lv l w hP h
  by_cases p63 : op = 63
  · subst p63; exact modl_63 P n s nv lv l w hP h
  by_cases p64 : op = 64
  · subst p64; exact modl_64 P n s nv lv l w hP h
  by_cases p65 : op = 65
  · subst p65; exact modl_65 P n s nv lv l w hP h
  by_cases p50 : op = 50
  · subst p50; exact modl_50 P n s nv lv l w hP h
  by_cases p88 : op = 88
  · subst p88; exact modl_88 P n s nv lv l w hP h
  by_cases p66 : op = 66
  · subst p66; exact modl_66 P n s nv lv l w hP h
  by_cases p71 : op = 71
  · subst p71; exact modl_71 P n s nv lv l w hP h
  by_cases p73 : op = 73
  · subst p73; exact modl_73 P n s nv lv l w hP h
  by_cases p74 : op = 74
  · subst p74; exact modl_74 P n s nv lv l w hP h
  by_cases p81 : op = 81
  · subst p81; exact modl_81 P n s nv lv l w hP h
  by_cases p83 : op = 83
  · subst p83; exact modl_83 P n s nv lv l w hP h
  by_cases p84 : op = 84
  · subst p84; exact modl_84 P n s nv lv l w hP h
  by_cases p85 : op = 85
  · subst p85; exact modl_85 P n s nv lv l w hP h
  by_cases p86 : op = 86
  · subst p86; exact modl_86 P n s nv lv l w hP h
  by_cases p87 : op = 87
  · subst p87; exact modl_87 P n s nv lv l w hP h
  have hf : Pl.modl op l = false := by
    unfold Pl.modl
    repeat' rw [if_neg (by omega)]
  rw [hf]
  exact modl_other P op n s nv lv l w h (beq_eq_false_iff_ne.2 p48) (beq_eq_false_iff_ne.2 p49) (beq_eq_false_iff_ne.2 p62) (beq_eq_false_iff_ne.2 p72) (beq_eq_false_iff_ne.2 p82) (beq_eq_false_iff_ne.2 p41) (beq_eq_false_iff_ne.2 p42) (beq_eq_false_iff_ne.2 p43) (beq_eq_false_iff_ne.2 p61) (beq_eq_false_iff_ne.2 p44) (beq_eq_false_iff_ne.2 p45) (beq_eq_false_iff_ne.2 p46) (beq_eq_false_iff_ne.2 p47) (beq_eq_false_iff_ne.2 p63) (beq_eq_false_iff_ne.2 p64) (beq_eq_false_iff_ne.2 p65) (beq_eq_false_iff_ne.2 p50) (beq_eq_false_iff_ne.2 p88) (beq_eq_false_iff_ne.2 p66) (beq_eq_false_iff_ne.2 p71) (beq_eq_false_iff_ne.2 p73) (beq_eq_false_iff_ne.2 p74) (beq_eq_false_iff_ne.2 p81) (beq_eq_false_iff_ne.2 p83) (beq_eq_false_iff_ne.2 p84) (beq_eq_false_iff_ne.2 p85) (beq_eq_false_iff_ne.2 p86) (beq_eq_false_iff_ne.2 p87)
end Go.Proofs.Ytkhpihacjhhklaa

/-
  Walks of layer 3: the form of a node, and a well-formed tree.
-/
namespace Go.Proofs.Ytkhpihacjhhklaa
open Go Go.RowKit
open Pl (Syn)
set_option linter.unusedSimpArgs false

set_option maxRecDepth 100000 in
set_option maxHeartbeats 4000000 in
theorem hasForm_any (P : Nat → Prop) (t : Syn) (v : Value) (around : Int) (w : World) (hP : ∀ b, P b → b < w.heap.size) (h : SynV w P t v) (hbig : t.big ≤ 1073741824) :
    Calls Try.prog 55 #[v, .int .i64 around] w fun e w' => e = .returned (.bool (Pl.form t around)) ∧ Below w.heap.size w w' := by
  have hlb := Pl.len_big t
  rw [synV_iff] at h
  obtain ⟨hs, nv, lv, rfl, hn, hl⟩ := h
  have HN := Lib.hid (fun W (hW : Below w.heap.size w W) => hn.keep (Same.of_below hW hP))
  have HL := Lib.hid (fun W (hW : Below w.heap.size w W) => hl.keep (Same.of_below hW hP))
  have HPW := Lib.hid (fun W (hW : Below w.heap.size w W) b (hb : P b) => Nat.lt_of_lt_of_le (hP b hb) hW.size)
  have hb : Below w.heap.size w (w.alloc (.cells #[.int .i64 t.op, .int .i64 t.n, .string t.s, nv, lv] 25)) := (Below.refl _ _).alloc (Nat.le_refl _) _
  have bx := blk_new w #[.int .i64 t.op, .int .i64 t.n, .string t.s, nv, lv] 25
  have HBX := Lib.hid bx
  have HB := Lib.hid hb
  have HSZ := Lib.hid (size_alloc w (.cells #[.int .i64 t.op, .int .i64 t.n, .string t.s, nv, lv] 25))
  have x0 := bx.cell 0 _ rfl
  have x1 := bx.cell 1 _ rfl
  have x2 := bx.cell 2 _ rfl
  have x3 := bx.cell 3 _ rfl
  have x4 := bx.cell 4 _ rfl
  have H1 := Lib.hid (fun W => numberFits_any t.op t.n t.s nv lv W)
  have H2 := Lib.hid (fun W => textFits_any t.op t.n around t.s nv lv W hs)
  have H3 := Lib.hid (fun W h1 h2 => namesFit_any P t.op t.n t.s t.names nv lv W h1 h2)
  have H4 := Lib.hid (fun W h1 h2 => core_any P t.op t.n t.s nv lv t.l W h1 h2)
  have H5 := Lib.hid (fun W h1 h2 => modl_any P t.op t.n t.s nv lv t.l W h1 h2 (by omega))
  have HF := Lib.hid (show Pl.form t around = (Pl.num t.op t.n && Pl.txt t.op around t.s && Pl.nam t.op t.names && (Pl.core t.op t.n t.l || Pl.modl t.op t.l)) from rfl)
  generalize Pl.form t around = rr at *
  generalize Pl.num t.op t.n = r1 at *
  generalize Pl.txt t.op around t.s = r2 at *
  generalize Pl.nam t.op t.names = r3 at *
  generalize Pl.core t.op t.n t.l = r4 at *
  generalize Pl.modl t.op t.l = r5 at *
  generalize t.op = xo at *
  generalize t.n = xn at *
  generalize t.s = xs at *
  clear hs hn hl hP hb bx hlb
  go_enter Try.func55, Try.ntmps55
  go_wp2_with fail
  refine (H1.out _).mono ?_
  rintro e w1 ⟨rfl, hb1⟩
  have HB1 := Lib.hid (HB.out.trans (hb1.mono HB.out.size))
  have HX1 := Lib.hid (HBX.out.of_eq (hb1.block _ HBX.out.lt))
  have x0 := HX1.out.cell 0 _ rfl
  have x1 := HX1.out.cell 1 _ rfl
  have x2 := HX1.out.cell 2 _ rfl
  have x3 := HX1.out.cell 3 _ rfl
  have x4 := HX1.out.cell 4 _ rfl
  clear hb1
  cases r1
  · go_wp2
    go_ret
    exact ⟨ret_bool (by rw [HF.out]; rfl), HB1.out⟩
  go_wp2_with fail
  refine (H2.out _).mono ?_
  rintro e w2 ⟨rfl, hb2⟩
  have HB2 := Lib.hid (HB1.out.trans (hb2.mono HB1.out.size))
  have HX2 := Lib.hid (HX1.out.of_eq (hb2.block _ HX1.out.lt))
  have x0 := HX2.out.cell 0 _ rfl
  have x1 := HX2.out.cell 1 _ rfl
  have x2 := HX2.out.cell 2 _ rfl
  have x3 := HX2.out.cell 3 _ rfl
  have x4 := HX2.out.cell 4 _ rfl
  clear hb2
  cases r2
  · go_wp2
    go_ret
    exact ⟨ret_bool (by rw [HF.out]; rfl), HB2.out⟩
  go_wp2_with fail
  refine (H3.out _ (HPW.out _ HB2.out) (HN.out _ HB2.out)).mono ?_
  rintro e w3 ⟨rfl, hb3⟩
  have HB3 := Lib.hid (HB2.out.trans (hb3.mono HB2.out.size))
  have HX3 := Lib.hid (HX2.out.of_eq (hb3.block _ HX2.out.lt))
  have x0 := HX3.out.cell 0 _ rfl
  have x1 := HX3.out.cell 1 _ rfl
  have x2 := HX3.out.cell 2 _ rfl
  have x3 := HX3.out.cell 3 _ rfl
  have x4 := HX3.out.cell 4 _ rfl
  clear hb3
  cases r3
  · go_wp2
    go_ret
    exact ⟨ret_bool (by rw [HF.out]; rfl), HB3.out⟩
  go_wp2_with fail
  refine (H4.out _ (HPW.out _ HB3.out) (HL.out _ HB3.out)).mono ?_
  rintro e w4 ⟨rfl, hb4⟩
  have HB4 := Lib.hid (HB3.out.trans (hb4.mono HB3.out.size))
  have HX4 := Lib.hid (HX3.out.of_eq (hb4.block _ HX3.out.lt))
  have x0 := HX4.out.cell 0 _ rfl
  have x1 := HX4.out.cell 1 _ rfl
  have x2 := HX4.out.cell 2 _ rfl
  have x3 := HX4.out.cell 3 _ rfl
  have x4 := HX4.out.cell 4 _ rfl
  clear hb4
  cases r4
  · go_wp2_with fail
    refine (H5.out _ (HPW.out _ HB4.out) (HL.out _ HB4.out)).mono ?_
    rintro e w5 ⟨rfl, hb5⟩
    have HB5 := Lib.hid (HB4.out.trans (hb5.mono HB4.out.size))
    clear hb5
    go_wp2
    go_ret
    exact ⟨ret_bool (by rw [HF.out]; rfl), HB5.out⟩
  · go_wp2
    go_ret
    exact ⟨ret_bool (by rw [HF.out]; rfl), HB4.out⟩

/-- isWellFormed's function -/
abbrev wfV (g : Nat) : Visitor where
  St := Int
  fid := 54
  g := g
  G := Unit
  Inv n _ w := Cell1 g n w ∧ n ≤ 20000
  own _ i := i = g
  cnt n := (20000 - n).toNat
  next n t around d := (n - 1, decide ((t.l.length : Int) ≤ n - 1) && decide (d ≤ 400) && Pl.form t around)
set_option maxRecDepth 100000 in
set_option maxHeartbeats 4000000 in
theorem wf1_any (g : Nat) (n : Int) (w : World) (t : Syn) (v : Value) (P : Nat → Prop) (around depth : Int) (hi : Cell1 g n w) (ht : SynV w P t v) (hP : ∀ b, P b → b < w.heap.size ∧ b ≠ g) (hbig : t.big ≤ 1073741824) (hn : n ≤ 20000) (hn2 : -1073741824 ≤ n) :
    Calls Try.prog 54 #[v, .int .i64 around, .int .i64 depth, .pointer (some ⟨g, 0, none⟩)] w fun e w' => e = .returned (.bool (decide ((t.l.length : Int) ≤ n - 1) && decide (depth ≤ 400) && Pl.form t around)) ∧ Cell1 g (n - 1) w' ∧ Fr (· = g) (· = g) w w' := by
  have HT := Lib.hid ht
  obtain ⟨na, nn, nc, la, ln, lc, rfl⟩ := ht.form
  have hlen := synV_len ht
  have hb : Below w.heap.size w (w.alloc (.cells #[.int .i64 t.op, .int .i64 t.n, .string t.s, .slice na nn nc, .slice la ln lc] 25)) := (Below.refl _ _).alloc (Nat.le_refl _) _
  have hi1 := hi.below hb
  have c0 := Blk.cell hi1 0 _ rfl
  have f0 := Blk.thaw hi1 0
  have hgl := Blk.lt hi
  have hw2 := cell1_set hi (show n - 1 = n - 1 from rfl) (.cells #[.int .i64 t.op, .int .i64 t.n, .string t.s, .slice na nn nc, .slice la ln lc] 25)
  have hf2 := (fr_set (g := g) (.int .i64 (n - 1)) 0 (Below.refl w.heap.size w)).alloc (.cells #[.int .i64 t.op, .int .i64 t.n, .string t.s, .slice na nn nc, .slice la ln lc] 25)
  have HW2 := Lib.hid hw2
  have HF2 := Lib.hid hf2
  have bx := blk_new (w.setCell ⟨g, 0, none⟩ (.int .i64 (n - 1))) #[.int .i64 t.op, .int .i64 t.n, .string t.s, .slice na nn nc, .slice la ln lc] 25
  rw [size_setCell] at bx
  have x0 := bx.cell 0 _ rfl
  have x1 := bx.cell 1 _ rfl
  have x2 := bx.cell 2 _ rfl
  have x3 := bx.cell 3 _ rfl
  have x4 := bx.cell 4 _ rfl
  have y0 := Blk.cell hw2 0 _ rfl
  have HC := Lib.hid (hasForm_any P t _ around _ (fun b hb' => (hf2.still hP b hb').1) (HT.out.keep (hf2.same hP)) hbig)
  have hll : ln ≤ maxLen := hlen.2
  unfold maxLen at hll
  have HLN := Lib.hid hlen.1
  have HNB := Lib.hid (show ∀ w', Below (((w.setCell ⟨g, 0, none⟩ (.int .i64 (n - 1))).alloc (.cells #[.int .i64 t.op, .int .i64 t.n, .string t.s, .slice na nn nc, .slice la ln lc] 25))).heap.size ((w.setCell ⟨g, 0, none⟩ (.int .i64 (n - 1))).alloc (.cells #[.int .i64 t.op, .int .i64 t.n, .string t.s, .slice na nn nc, .slice la ln lc] 25)) w' → Cell1 g (n - 1) w' ∧ Fr (· = g) (· = g) w w' from fun w' hb' => ⟨hw2.below hb', hf2.trans (Fr.of_below hb')⟩)
  rw [hlen.1]
  generalize Pl.form t around = rf at *
  generalize t.op = xo at *
  generalize t.n = xn at *
  generalize t.s = xs at *
  clear hb hi hi1 ht hP hlen hw2 hf2 bx
  by_cases h1 : (ln : Int) ≤ n - 1
  · have q1 : decide ((ln : Int) ≤ n - 1) = true := decide_eq_true h1
    by_cases h2 : depth ≤ 400
    · have q2 : decide (depth ≤ 400) = true := decide_eq_true h2
      go_enter Try.func54, Try.ntmps54
      go_wp2_with fail
      refine HC.out.mono ?_
      rintro e w2 ⟨rfl, hb2⟩
      have HB2 := Lib.hid (HNB.out _ hb2)
      clear hb2
      go_wp2
      go_ret
      exact ⟨ret_bool (by first | rfl | (simp [h1, h2]; done) | simp), HB2.out⟩
    · have q2 : decide (depth ≤ 400) = false := decide_eq_false h2
      go_enter Try.func54, Try.ntmps54
      go_wp2
      go_ret
      exact ⟨ret_bool (by first | rfl | (rw [show decide (depth ≤ 400) = false from decide_eq_false (by omega)]; simp)), HW2.out, HF2.out⟩
  · have q1 : decide ((ln : Int) ≤ n - 1) = false := decide_eq_false h1
    go_enter Try.func54, Try.ntmps54
    go_wp2
    go_ret
    exact ⟨ret_bool (by first | rfl | (rw [show decide ((ln : Int) ≤ n - 1) = false from decide_eq_false (by omega)]; simp)), HW2.out, HF2.out⟩
theorem wf_low (n : Int) (h : (20000 - n).toNat < 1073741824) : -1073741824 ≤ n := by omega
theorem wf_up (n : Int) (h : n ≤ 20000) : n - 1 ≤ 20000 := by omega
theorem wf_cnt (n : Int) : (20000 - (n - 1)).toNat ≤ (20000 - n).toNat + 1 := by omega
theorem wf_good (g : Nat) : (wfV g).Good where
  enter := by
    intro args w
    show Sem.run Try.prog (callFunc 54 args) w = .ok (.enter 54 args) w
    kernel_rfl
  calls := fun σ γ w P t v around depth hi ht hP hb hc h0 h1 => (wf1_any g σ w t v P around depth hi.1 ht hP hb hi.2 (wf_low σ hc)).mono fun e w' h => ⟨h.1, (), ⟨h.2.1, wf_up σ hi.2⟩, h.2.2⟩
  keep := fun σ γ w w' hi hb => ⟨Cell1.below hi.1 hb, hi.2⟩
  lt := fun σ γ w i hi ho => by
    have h : i = g := ho
    subst h; exact Blk.lt hi.1
  cnt_le := fun σ t around depth => wf_cnt σ
theorem wf_runs (g : Nat) (l : List Syn) (hl : ∀ x ∈ l, ∀ (n : Int) (around d : Int), (((wfV g).run n x around d).2 = true ↔ (x.size : Int) ≤ n ∧ d + x.depth - 1 ≤ 400 ∧ x.ok around = true) ∧ (((wfV g).run n x around d).2 = true → ((wfV g).run n x around d).1 = n - x.size)) :
    ∀ (n : Int) (around d : Int), 0 ≤ n → ((((wfV g).runs n l around d).2 = true ↔ (Pl.sizes l : Int) ≤ n ∧ (l = [] ∨ d + Pl.depths l - 1 ≤ 400) ∧ Pl.oks l around = true) ∧ (((wfV g).runs n l around d).2 = true → ((wfV g).runs n l around d).1 = n - Pl.sizes l)) := by
  induction l with
  | nil =>
    intro n around d hn
    rw [Visitor.runs_nil, Pl.sizes_nil, Pl.oks_nil]
    exact ⟨⟨fun _ => ⟨by omega, .inl rfl, rfl⟩, fun _ => rfl⟩, fun _ => by show n = n - ((0 : Nat) : Int); omega⟩
  | cons x r ih =>
    intro n around d hn
    obtain ⟨h1, h2⟩ := hl x List.mem_cons_self n around d
    have ih' := ih (fun y hy => hl y (List.mem_cons_of_mem _ hy))
    rw [Visitor.runs_cons, Pl.sizes_cons, Pl.oks_cons, Pl.depths_cons]
    generalize (wfV g).run n x around d = rx at *
    obtain ⟨n1, b⟩ := rx
    cases b
    · simp only [Bool.false_eq_true, if_false, false_iff, not_and, Bool.and_eq_true, false_implies, and_true] at h1 ⊢
      intro g1 g2 g3
      rcases g2 with g2 | g2
      · cases g2
      · exact absurd g3 (h1 (by omega) (by omega))
    · simp only [if_true, true_iff, true_implies] at h1 h2 ⊢
      subst h2
      obtain ⟨h1, h3, h4⟩ := h1
      obtain ⟨k1, k2⟩ := ih' (n - x.size) around d (by omega)
      rw [k1]
      refine ⟨⟨fun ⟨a1, a2, a3⟩ => ⟨by omega, .inr ?_, by rw [h4, a3]; rfl⟩, fun ⟨a1, a2, a3⟩ => ⟨by omega, ?_, by rw [h4] at a3; simpa using a3⟩⟩, fun a => ?_⟩
      · rcases a2 with a2 | a2
        · subst a2; rw [Pl.depths_nil]; omega
        · omega
      · rcases a2 with a2 | a2
        · cases a2
        · cases r with
          | nil => exact .inl rfl
          | cons y q => exact .inr (by omega)
      · rw [k2 (k1.2 a)]; show n - (x.size : Int) - _ = _; omega
theorem wf_run (g : Nat) (t : Syn) : ∀ (n : Int) (around d : Int), (((wfV g).run n t around d).2 = true ↔ (t.size : Int) ≤ n ∧ d + t.depth - 1 ≤ 400 ∧ t.ok around = true) ∧ (((wfV g).run n t around d).2 = true → ((wfV g).run n t around d).1 = n - t.size) := by
  induction t using Syn.ind with
  | h t ih =>
    intro n around d
    rw [Visitor.run_eq, Pl.size_eq, Pl.depth_eq, Pl.ok_eq]
    have hls := Pl.len_sizes t.l
    have hq := wf_runs g t.l ih (n - 1) t.op (d + 1)
    show ((if (decide ((t.l.length : Int) ≤ n - 1) && decide (d ≤ 400) && Pl.form t around) = true then (wfV g).runs (n - 1) t.l t.op (d + 1) else (n - 1, false)).2 = true ↔ _) ∧ ((if (decide ((t.l.length : Int) ≤ n - 1) && decide (d ≤ 400) && Pl.form t around) = true then (wfV g).runs (n - 1) t.l t.op (d + 1) else (n - 1, false)).2 = true → (if (decide ((t.l.length : Int) ≤ n - 1) && decide (d ≤ 400) && Pl.form t around) = true then (wfV g).runs (n - 1) t.l t.op (d + 1) else (n - 1, false)).1 = _)
    have hdp : t.l = [] → Pl.depths t.l = 0 := fun h => by rw [h, Pl.depths_nil]
    have hdn : t.l ≠ [] → 1 ≤ Pl.depths t.l := fun h => by
      cases hl : t.l with
      | nil => exact absurd hl h
      | cons x r => rw [Pl.depths_cons]; have := Pl.depth_pos x; omega
    by_cases hc : (decide ((t.l.length : Int) ≤ n - 1) && decide (d ≤ 400) && Pl.form t around) = true
    · rw [if_pos hc]
      simp only [Bool.and_eq_true, decide_eq_true_eq] at hc
      obtain ⟨⟨c1, c2⟩, c3⟩ := hc
      obtain ⟨q1, q2⟩ := hq (by omega)
      rw [q1]
      refine ⟨⟨fun ⟨a1, a2, a3⟩ => ⟨by omega, ?_, by rw [c3, a3]; rfl⟩, fun ⟨a1, a2, a3⟩ => ⟨by omega, ?_, by rw [c3] at a3; simpa using a3⟩⟩, fun a => ?_⟩
      · rcases a2 with a2 | a2
        · have := hdp a2; omega
        · omega
      · by_cases hl : t.l = []
        · exact .inl hl
        · exact .inr (by omega)
      · rw [q2 (q1.2 a)]
        show n - 1 - (Pl.sizes t.l : Int) = n - ((1 + Pl.sizes t.l : Nat) : Int)
        omega
    · rw [if_neg hc]
      simp only [Bool.false_eq_true, false_iff, false_implies, and_true]
      rintro ⟨a1, a2, a3⟩
      rw [Bool.and_eq_true] at a3
      refine hc ?_
      rw [a3.1, decide_eq_true (show (t.l.length : Int) ≤ n - 1 from by omega), decide_eq_true (show d ≤ 400 from by omega)]
      rfl
theorem wf_formed (g : Nat) (t : Syn) : ((wfV g).run (20000 : Int) t 0 1).2 = Pl.formed t := by
  rw [Bool.eq_iff_iff, (wf_run g t 20000 0 1).1, Pl.formed_ok]
  simp only [Bool.and_eq_true, decide_eq_true_eq, and_assoc]
  constructor
  · rintro ⟨a, b, c⟩; exact ⟨by omega, by omega, c⟩
  · rintro ⟨a, b, c⟩; exact ⟨by omega, by omega, c⟩
set_option maxRecDepth 100000 in
set_option maxHeartbeats 4000000 in
theorem isWellFormed_any (P : Nat → Prop) (t : Syn) (w : World) (v : Value) (hP : ∀ b, P b → b < w.heap.size) (ht : SynV w P t v) (hbig : t.big ≤ 536870912) :
    Calls Try.prog 32 #[v] w fun e w' => e = .returned (.bool (Pl.formed t)) ∧ Below w.heap.size w w' := by
  have hsb := Pl.size_big t
  have HT := Lib.hid ht
  obtain ⟨na, nn, nc, la, ln, lc, rfl⟩ := ht.form
  have hb : Below w.heap.size w ((w.alloc (.cells #[.int .i64 t.op, .int .i64 t.n, .string t.s, .slice na nn nc, .slice la ln lc] 25)).alloc (.cells #[.int .i64 20000] 3)) := (((Below.refl _ _).alloc (Nat.le_refl _) _).alloc (by simp) _)
  have hi : Cell1 (w.heap.size + 1) (20000 : Int) ((w.alloc (.cells #[.int .i64 t.op, .int .i64 t.n, .string t.s, .slice na nn nc, .slice la ln lc] 25)).alloc (.cells #[.int .i64 20000] 3)) := by
    have := blk_new (w.alloc (.cells #[.int .i64 t.op, .int .i64 t.n, .string t.s, .slice na nn nc, .slice la ln lc] 25)) #[.int .i64 20000] 3
    rw [size_alloc] at this
    exact this
  have HC := Lib.hid (visit_any (wfV (w.heap.size + 1)) (wf_good _) P t (20000 : Int) () _ (.agg #[.int .i64 t.op, .int .i64 t.n, .string t.s, .slice na nn nc, .slice la ln lc]) ⟨hi, by omega⟩ (fun b hbp => ⟨by rw [size_alloc, size_alloc]; have := hP b hbp; omega, fun ho => by have h1 : b = w.heap.size + 1 := ho; have := hP b hbp; omega⟩) (HT.out.keep (Same.of_below hb hP)) (by omega) (by show ((20000 : Int) - 20000).toNat + t.size ≤ 1073741824; omega))
  unfold Visitor.Post at HC
  rw [wf_formed] at HC
  have HB := Lib.hid hb
  clear ht hb hi hP
  go_enter Try.func32, Try.ntmps32
  go_wp2_with fail
  refine HC.out.mono ?_
  rintro e w1 ⟨rfl, _, hi1, hf1⟩
  have HF1 := Lib.hid (fr_above HB.out hf1 HB.out.size (fun i hi => by have h1 : i = w.heap.size + 1 := hi; omega))
  clear hi1 hf1
  go_wp2
  go_ret
  exact ⟨rfl, HF1.out⟩
end Go.Proofs.Ytkhpihacjhhklaa

/-
  Walks of layer 3: Valid, isTree, common categories.
-/
namespace Go.Proofs.Ytkhpihacjhhklaa
open Go Go.RowKit
open Pl (Syn)
set_option linter.unusedSimpArgs false

def validP (c : Int) (t : Syn) : Bool := Pl.bel t.op c && Pl.formed t
def anyP (t : Syn) : Bool := decide (Pl.cat t.op ≠ 0) && Pl.formed t
def common (op o : Int) : Bool := [1, 2, 3, 4, 5, 6, 7].any fun c => Pl.bel op c && Pl.bel o c
set_option maxRecDepth 100000 in
set_option maxHeartbeats 4000000 in
theorem valid_any (P : Nat → Prop) (t : Syn) (c : Int) (w : World) (v : Value) (hP : ∀ b, P b → b < w.heap.size) (ht : SynV w P t v) (hbig : t.big ≤ 536870912) :
    Calls Try.prog 11 #[.int .i64 c, v] w fun e w' => e = .returned (.bool (validP c t)) ∧ Below w.heap.size w w' := by
  have HT := Lib.hid ht
  obtain ⟨na, nn, nc, la, ln, lc, rfl⟩ := ht.form
  have hb : Below w.heap.size w (w.alloc (.cells #[.int .i64 t.op, .int .i64 t.n, .string t.s, .slice na nn nc, .slice la ln lc] 25)) := (Below.refl _ _).alloc (Nat.le_refl _) _
  have HB := Lib.hid hb
  have HC := Lib.hid (isWellFormed_any P t _ _ (fun b hb' => Nat.lt_of_lt_of_le (hP b hb') hb.size) (HT.out.keep (Same.of_below hb hP)) hbig)
  have HF := Lib.hid (show validP c t = (Pl.bel t.op c && Pl.formed t) from rfl)
  have HBE := Lib.hid (fun W => belongs_any t.op c W)
  generalize validP c t = rr at *
  generalize Pl.formed t = r2 at *
  generalize Pl.bel t.op c = r1 at *
  clear ht hb hP
  cases r1
  · go_enter Try.func11, Try.ntmps11
    go_wp2_with fail
    refine (HBE.out _).mono ?_
    rintro e w1 ⟨rfl, rfl⟩
    go_wp2
    go_ret
    exact ⟨ret_bool (by rw [HF.out]; rfl), HB.out⟩
  · go_enter Try.func11, Try.ntmps11
    go_wp2_with fail
    refine (HBE.out _).mono ?_
    rintro e w1 ⟨rfl, rfl⟩
    go_wp2_with fail
    refine HC.out.mono ?_
    rintro e w1 ⟨rfl, hb1⟩
    have HB1 := Lib.hid (HB.out.trans (hb1.mono HB.out.size))
    clear hb1
    go_wp2
    go_ret
    exact ⟨ret_bool (by rw [HF.out]; rfl), HB1.out⟩
set_option maxRecDepth 100000 in
set_option maxHeartbeats 4000000 in
theorem isTree_any (P : Nat → Prop) (t : Syn) (w : World) (v : Value) (hP : ∀ b, P b → b < w.heap.size) (ht : SynV w P t v) (hbig : t.big ≤ 536870912) :
    Calls Try.prog 39 #[v] w fun e w' => e = .returned (.bool (anyP t)) ∧ Below w.heap.size w w' := by
  have HT := Lib.hid ht
  obtain ⟨na, nn, nc, la, ln, lc, rfl⟩ := ht.form
  have hb : Below w.heap.size w (w.alloc (.cells #[.int .i64 t.op, .int .i64 t.n, .string t.s, .slice na nn nc, .slice la ln lc] 25)) := (Below.refl _ _).alloc (Nat.le_refl _) _
  have HB := Lib.hid hb
  have HC := Lib.hid (isWellFormed_any P t _ _ (fun b hb' => Nat.lt_of_lt_of_le (hP b hb') hb.size) (HT.out.keep (Same.of_below hb hP)) hbig)
  have HF := Lib.hid (show anyP t = (decide (Pl.cat t.op ≠ 0) && Pl.formed t) from rfl)
  have HBE := Lib.hid (fun W => category_any t.op W)
  generalize anyP t = rr at *
  generalize Pl.formed t = r2 at *
  generalize Pl.cat t.op = k at *
  clear ht hb hP
  by_cases hk : k = 0
  · have q : (k != 0) = false := by simp [hk]
    have HK := Lib.hid hk
    clear hk
    go_enter Try.func39, Try.ntmps39
    go_wp2_with fail
    refine (HBE.out _).mono ?_
    rintro e w1 ⟨rfl, rfl⟩
    go_wp2
    go_ret
    exact ⟨ret_bool (by rw [HF.out, HK.out]; rfl), HB.out⟩
  · have q : (k != 0) = true := by simpa using hk
    have HK := Lib.hid hk
    clear hk
    go_enter Try.func39, Try.ntmps39
    go_wp2_with fail
    refine (HBE.out _).mono ?_
    rintro e w1 ⟨rfl, rfl⟩
    go_wp2_with fail
    refine HC.out.mono ?_
    rintro e w1 ⟨rfl, hb1⟩
    have HB1 := Lib.hid (HB.out.trans (hb1.mono HB.out.size))
    clear hb1
    go_wp2
    go_ret
    exact ⟨ret_bool (by rw [HF.out, decide_eq_true HK.out]; rfl), HB1.out⟩
theorem common_iff (op o : Int) : common op o = true ↔ ∃ c : Nat, 1 ≤ c ∧ c ≤ 7 ∧ (Pl.bel op c && Pl.bel o c) = true := by
  unfold common
  rw [List.any_eq_true]
  constructor
  · rintro ⟨c, hc, h⟩
    simp only [List.mem_cons, List.mem_nil_iff, or_false] at hc
    rcases hc with rfl | rfl | rfl | rfl | rfl | rfl | rfl
    · exact ⟨1, by omega, by omega, h⟩
    · exact ⟨2, by omega, by omega, h⟩
    · exact ⟨3, by omega, by omega, h⟩
    · exact ⟨4, by omega, by omega, h⟩
    · exact ⟨5, by omega, by omega, h⟩
    · exact ⟨6, by omega, by omega, h⟩
    · exact ⟨7, by omega, by omega, h⟩
  · rintro ⟨c, h1, h2, h⟩
    refine ⟨c, ?_, h⟩
    simp only [List.mem_cons, List.mem_nil_iff, or_false]
    omega
set_option maxHeartbeats 4000000 in
theorem common_any (op o : Int) (w : World) : Calls Try.prog 47 #[.int .i64 op, .int .i64 o] w fun e w' => e = .returned (.bool (common op o)) ∧ w = w' := by
  have HI := Lib.hid (common_iff op o)
  generalize common op o = rr at *
  go_enter Try.func47, Try.ntmps47
  go_wp2_with fail
  go_loopg [5] 8 (fun g v wr => ∃ k : Nat, 1 ≤ k ∧ k ≤ 8 ∧ v = .int .i64 k ∧ g = 9 - k ∧ wr = w ∧ ∀ c : Nat, 1 ≤ c → c < k → (Pl.bel op c && Pl.bel o c) = false)
  case atStart => exact ⟨1, by omega, by omega, rfl, by omega, rfl, fun c h1 h2 => (by exfalso; omega)⟩
  case round =>
    obtain ⟨k, hk1, hk, rfl, hg, rfl, hall⟩ := hrel
    have HA := Lib.hid hall
    clear hall
    by_cases hlt : k ≤ 7
    · have H1 := Lib.hid (belongs_any op k wr)
      have H2 := Lib.hid (belongs_any o k wr)
      have HX := Lib.hid (show (Pl.bel op k && Pl.bel o k) = false → ∀ c : Nat, 1 ≤ c → c < k + 1 → (Pl.bel op c && Pl.bel o c) = false from fun h c h1 h2 => by
        rcases Nat.lt_or_ge c k with h3 | h3
        · exact HA.out c h1 h3
        · obtain rfl : c = k := by omega
          exact h)
      have HY := Lib.hid (show (Pl.bel op k && Pl.bel o k) = true → rr = true from fun h => HI.out.2 ⟨k, hk1, hlt, h⟩)
      generalize Pl.bel op k = r1 at *
      generalize Pl.bel o k = r2 at *
      cases r1
      · go_wp2_with fail
        refine H1.out.mono ?_
        rintro e w1 ⟨rfl, rfl⟩
        go_wp2
        go_roundg (gk - 1)
        case measure => omega
        case rel => exact ⟨k + 1, by omega, by omega, by go_num, by omega, rfl, HX.out (by first | rfl | trivial)⟩
      · go_wp2_with fail
        refine H1.out.mono ?_
        rintro e w1 ⟨rfl, rfl⟩
        go_wp2_with fail
        refine H2.out.mono ?_
        rintro e w1 ⟨rfl, rfl⟩
        cases r2
        · go_wp2
          go_roundg (gk - 1)
          case measure => omega
          case rel => exact ⟨k + 1, by omega, by omega, by go_num, by omega, rfl, HX.out (by first | rfl | trivial)⟩
        · go_wp2
          go_ret
          exact ⟨ret_bool (HY.out (by first | rfl | trivial)).symm, rfl⟩
    · obtain rfl : k = 8 := by omega
      have HZ := Lib.hid (show rr = false from by
        rw [Bool.eq_false_iff]
        intro h
        obtain ⟨c, h1, h2, h3⟩ := HI.out.1 h
        rw [HA.out c h1 (by omega)] at h3; cases h3)
      go_wp2
      go_ret
      exact ⟨ret_bool HZ.out.symm, rfl⟩
end Go.Proofs.Ytkhpihacjhhklaa
