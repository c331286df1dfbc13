/-
  Walks of layer 3: the parts of a node, fifth.
-/
import Derived.Test.YtkhpihacjhhklaaTg
import Derived.Test.YtkhpihacjhhklaaTl
namespace Go.Proofs.Ytkhpihacjhhklaa
open Go Go.RowKit
open Pl (Syn)
set_option linter.unusedSimpArgs false

set_option maxRecDepth 100000 in
set_option maxHeartbeats 4000000 in
theorem modl_44 (P : Nat → Prop) (n : Int) (s : ByteArray) (nv lv : Value) (l : List Syn) (w : World) (hP : ∀ b, P b → b < w.heap.size) (h : SynSl w P lv l) (hbig : l.length ≤ 1073741824) :
    Calls Try.prog 65 #[.agg #[.int .i64 44, .int .i64 n, .string s, nv, lv]] w fun e w' => e = .returned (.bool (decide (0 < l.length) && Pl.kinds l [45] && Pl.noTwin (l.map Syn.s))) ∧ Below w.heap.size w w' := by
  have h0 := h
  obtain ⟨la, lc, rfl, hm⟩ := h0.form
  unfold maxLen at hm
  have HL := Lib.hid (fun W (hW : Below w.heap.size w W) => h.keep (Same.of_below hW hP))
  have HPW := Lib.hid (fun W (hW : Below w.heap.size w W) b (hb : P b) => Nat.lt_of_lt_of_le (hP b hb) hW.size)
  generalize hln : l.length = ln at *
  have HLN := Lib.hid hln
  have hb : Below w.heap.size w (w.alloc (.cells #[.int .i64 44, .int .i64 n, .string s, nv, .slice la ln lc] 25)) := (Below.refl _ _).alloc (Nat.le_refl _) _
  have HB := Lib.hid hb
  have hi := intSl_1 (w.alloc (.cells #[.int .i64 44, .int .i64 n, .string s, nv, .slice la ln lc] 25)) 45 1
  rw [size_alloc] at hi
  have HI := Lib.hid hi
  have hb2 : Below w.heap.size w ((w.alloc (.cells #[.int .i64 44, .int .i64 n, .string s, nv, .slice la ln lc] 25)).alloc (.cells #[.int .i64 45] 3)) := ((Below.refl _ _).alloc (Nat.le_refl _) _).alloc (by simp) _
  have HB2 := Lib.hid hb2
  clear hi hb2
  have HA := Lib.hid (areKinds_any P _ _ l [45] _ (HPW.out _ HB2.out) (HL.out _ HB2.out) HI.out)
  have HN := Lib.hid (fun W h1 h2 => names_any P (.slice la ln lc) l W h1 h2 (by omega))
  generalize Pl.kinds l [45] = r at *
  clear h h0 hb hP hln
  by_cases h0 : 0 < ln
  · have q : decide ((0 : Int) < (ln : Int)) = true := by simp; omega
    cases r
    · go_enter Try.func65, Try.ntmps65
      go_wp2_with fail
      refine HA.out.mono ?_
      rintro e w2 ⟨rfl, hb3⟩
      have HB3 := Lib.hid (HB2.out.trans (hb3.mono HB2.out.size))
      clear hb3
      go_wp2
      go_ret
      exact ⟨ret_bool (by simp), HB3.out⟩
    · go_enter Try.func65, Try.ntmps65
      go_wp2_with fail
      refine HA.out.mono ?_
      rintro e w2 ⟨rfl, hb3⟩
      have HB3 := Lib.hid (HB2.out.trans (hb3.mono HB2.out.size))
      clear hb3
      go_wp2_with fail
      refine (HN.out _ (HPW.out _ HB3.out) (HL.out _ HB3.out)).mono ?_
      rintro e w3 ⟨⟨u, rfl, hu⟩, hb4⟩
      have HB4 := Lib.hid (HB3.out.trans (hb4.mono HB3.out.size))
      have HD := Lib.hid (differ_any _ u _ w3 (fun b hb => hb.2) hu)
      clear hb4 hu
      generalize hrd : Pl.noTwin (l.map Syn.s) = rd at *
      have HRD := Lib.hid hrd
      clear hrd
      go_wp2_with fail
      refine HD.out.mono ?_
      rintro e w4 ⟨rfl, hb5⟩
      have HB5 := Lib.hid (HB4.out.trans (hb5.mono HB4.out.size))
      clear hb5
      go_wp2
      go_ret
      exact ⟨ret_bool (by rw [decide_eq_true h0, HRD.out]; rfl), HB5.out⟩
  · obtain rfl : ln = 0 := by omega
    go_enter Try.func65, Try.ntmps65
    go_wp2
    go_ret
    exact ⟨ret_bool (by simp), HB.out⟩
theorem getD_get (l : List Syn) (j : Nat) (h : j < l.length) : l.getD j Pl.none0 = l[j] := by simp [List.getD, h]
theorem synV_len {w : World} {P : Nat → Prop} {t : Syn} {a b : Value} {la : Option Addr} {ln lc : Nat} {s : ByteArray} {nv : Value} (h : SynV w P t (.agg #[a, b, .string s, nv, .slice la ln lc])) : t.l.length = ln ∧ ln ≤ maxLen := by
  rw [synV_iff] at h
  obtain ⟨_, nv', lv', e, _, ⟨a', c', e2, h2, h3, _⟩⟩ := h
  injection e with e
  injection e with e
  injection e with _ e
  injection e with _ e
  injection e with _ e
  injection e with _ e
  injection e with e _
  rw [e2] at e
  injection e with e1 e3 e4
  exact ⟨e3.symm, by omega⟩
set_option maxRecDepth 100000 in
set_option maxHeartbeats 4000000 in
theorem modl_66 (P : Nat → Prop) (n : Int) (s : ByteArray) (nv lv : Value) (l : List Syn) (w : World) (hP : ∀ b, P b → b < w.heap.size) (h : SynSl w P lv l) :
    Calls Try.prog 65 #[.agg #[.int .i64 66, .int .i64 n, .string s, nv, lv]] w fun e w' => e = .returned (.bool (Pl.parts l [1] && decide (Pl.opAt l 0 = 2) && decide ((l.getD 0 Pl.none0).l.length = 0))) ∧ Below w.heap.size w w' := by
  have h0 := h
  obtain ⟨la, lc, rfl, hm⟩ := h0.form
  unfold maxLen at hm
  have HL := Lib.hid (fun W (hW : Below w.heap.size w W) => h.keep (Same.of_below hW hP))
  have HPW := Lib.hid (fun W (hW : Below w.heap.size w W) b (hb : P b) => Nat.lt_of_lt_of_le (hP b hb) hW.size)
  generalize hln : l.length = ln at *
  have HLN := Lib.hid hln
  have hb : Below w.heap.size w (w.alloc (.cells #[.int .i64 66, .int .i64 n, .string s, nv, .slice la ln lc] 25)) := (Below.refl _ _).alloc (Nat.le_refl _) _
  have HB := Lib.hid hb
  have hi := intSl_1 (w.alloc (.cells #[.int .i64 66, .int .i64 n, .string s, nv, .slice la ln lc] 25)) 1 1
  rw [size_alloc] at hi
  have HI := Lib.hid hi
  have hb2 : Below w.heap.size w ((w.alloc (.cells #[.int .i64 66, .int .i64 n, .string s, nv, .slice la ln lc] 25)).alloc (.cells #[.int .i64 1] 3)) := ((Below.refl _ _).alloc (Nat.le_refl _) _).alloc (by simp) _
  have HB2 := Lib.hid hb2
  clear hi hb2
  have HA := Lib.hid (areParts_any P _ _ l _ _ (HL.out _ HB2.out) HI.out)
  by_cases hp : Pl.parts l [1] = true
  · have hlen : l.length = 1 := parts_true_len l _ hp
    rcases h.cases with ⟨rfl, _⟩ | ⟨b, off, n', c', hv, hnl, hn0, hnc, hcm, hPb, hka⟩
    · simp at hlen
    · injection hv with hv1 hv2 hv3
      subst hv1 hv2 hv3
      have hl2 : ln = 1 := by omega
      subst hl2
      obtain ⟨xo, xn, xs, na, nn, nc, la, ln, lc', hxo, a0, -, -, -, a4, hx0⟩ := (hka.keep (Same.of_below HB2.out hP) hPb).part 0 (by omega)
      simp only [Nat.zero_mul, Nat.one_mul, Nat.add_zero] at a0 a4
      obtain ⟨hlk, hlm⟩ := synV_len hx0
      have HK := Lib.hid (show decide ((l.getD 0 Pl.none0).l.length = 0) = decide (ln = 0) from by rw [getD_get l 0 (by omega), hlk])
      unfold maxLen at hlm
      clear hlk hx0
      have HO := Lib.hid ((opAt_get l 0 (by omega)).trans hxo)
      have HPT := Lib.hid hp
      rw [hp] at HA
      clear h h0 hb hP hln hka hxo hlen
      have HD := Lib.hid (show ∀ b : Bool, b = (true && decide (xo = 2) && decide (ln = 0)) → b = (Pl.parts l [1] && decide (Pl.opAt l 0 = 2) && decide ((l.getD 0 Pl.none0).l.length = 0)) from fun b hb => by rw [hb, HPT.out, HO.out, HK.out])
      generalize (Pl.parts l [1] && decide (Pl.opAt l 0 = 2) && decide ((l.getD 0 Pl.none0).l.length = 0)) = rr at *
      by_cases hx2 : xo = 2
      · have q : (xo == 2) = true := beq_iff_eq.2 hx2
        have HX2 := Lib.hid hx2
        clear hx2
        go_enter Try.func65, Try.ntmps65
        go_wp2_with fail
        refine HA.out.mono ?_
        rintro e w2 ⟨rfl, rfl⟩
        go_wp2
        go_ret
        exact ⟨ret_bool (HD.out _ (by rw [decide_eq_true HX2.out]; first | rfl | (rw [Bool.eq_iff_iff]; simp; omega) | (rw [Bool.eq_iff_iff]; simp))), HB2.out⟩
      · have q : (xo == 2) = false := beq_eq_false_iff_ne.2 hx2
        have HX2 := Lib.hid hx2
        clear hx2
        go_enter Try.func65, Try.ntmps65
        go_wp2_with fail
        refine HA.out.mono ?_
        rintro e w2 ⟨rfl, rfl⟩
        go_wp2
        go_ret
        exact ⟨ret_bool (HD.out _ (by rw [decide_eq_false HX2.out]; rfl)), HB2.out⟩
  · have hp' : Pl.parts l [1] = false := by simpa using hp
    have HPT := Lib.hid hp'
    rw [hp'] at HA
    clear h h0 hb hP hln hp hp'
    go_enter Try.func65, Try.ntmps65
    go_wp2_with fail
    refine HA.out.mono ?_
    rintro e w2 ⟨rfl, rfl⟩
    go_wp2
    go_ret
    exact ⟨ret_bool (by rw [HPT.out]; rfl), HB2.out⟩
set_option maxRecDepth 100000 in
set_option maxHeartbeats 4000000 in
theorem core_29 (P : Nat → Prop) (n : Int) (s : ByteArray) (nv lv : Value) (l : List Syn) (w : World) (hP : ∀ b, P b → b < w.heap.size) (h : SynSl w P lv l) :
    Calls Try.prog 64 #[.agg #[.int .i64 29, .int .i64 n, .string s, nv, lv]] w fun e w' => e = .returned (.bool (decide (1 < l.length) && Pl.parts (l.take 1) [3] && Pl.kinds (l.drop 1) [30])) ∧ Below w.heap.size w w' := by
  have h0 := h
  obtain ⟨la, lc, rfl, hm⟩ := h0.form
  unfold maxLen at hm
  have HL := Lib.hid (fun W (hW : Below w.heap.size w W) => h.keep (Same.of_below hW hP))
  have HPW := Lib.hid (fun W (hW : Below w.heap.size w W) b (hb : P b) => Nat.lt_of_lt_of_le (hP b hb) hW.size)
  generalize hln : l.length = ln at *
  have HLN := Lib.hid hln
  have hb : Below w.heap.size w (w.alloc (.cells #[.int .i64 29, .int .i64 n, .string s, nv, .slice la ln lc] 25)) := (Below.refl _ _).alloc (Nat.le_refl _) _
  have HB := Lib.hid hb
  have hi := intSl_1 (w.alloc (.cells #[.int .i64 29, .int .i64 n, .string s, nv, .slice la ln lc] 25)) 3 1
  rw [size_alloc] at hi
  have HI := Lib.hid hi
  have hb2 : Below w.heap.size w ((w.alloc (.cells #[.int .i64 29, .int .i64 n, .string s, nv, .slice la ln lc] 25)).alloc (.cells #[.int .i64 3] 3)) := ((Below.refl _ _).alloc (Nat.le_refl _) _).alloc (by simp) _
  have HB2 := Lib.hid hb2
  clear hi hb2
  by_cases h1 : 1 < ln
  · have q : decide ((1 : Int) < (ln : Int)) = true := by simp; omega
    rcases h.cases with ⟨rfl, _⟩ | ⟨b, off, n', c', hv, hnl, hn0, hnc, hcm, hPb, hka⟩
    · simp at hln; omega
    · injection hv with hv1 hv2 hv3
      subst hv1 hv2 hv3
      unfold maxLen at hcm
      have HA := Lib.hid (areParts_any P _ _ (l.take 1) _ _ ((HL.out _ HB2.out).sub 1 (by omega)) HI.out)
      have hi2 := intSl_1 ((w.alloc (.cells #[.int .i64 29, .int .i64 n, .string s, nv, .slice (some ⟨b, off, none⟩) ln lc] 25)).alloc (.cells #[.int .i64 3] 3)) 30 1
      rw [size_alloc, size_alloc] at hi2
      have hb3 : Below w.heap.size w (((w.alloc (.cells #[.int .i64 29, .int .i64 n, .string s, nv, .slice (some ⟨b, off, none⟩) ln lc] 25)).alloc (.cells #[.int .i64 3] 3)).alloc (.cells #[.int .i64 30] 3)) := (((Below.refl _ _).alloc (Nat.le_refl _) _).alloc (by simp) _).alloc (by simp; omega) _
      have HB3 := Lib.hid hb3
      have HK := Lib.hid (areKinds_any P _ _ (l.drop 1) [30] _ (HPW.out _ HB3.out) ((HL.out _ HB3.out).rest 1 (by omega)) hi2)
      have HD := Lib.hid (show (decide (1 < ln) && Pl.parts (l.take 1) [3] && Pl.kinds (l.drop 1) [30]) = (Pl.parts (l.take 1) [3] && Pl.kinds (l.drop 1) [30]) from by rw [decide_eq_true (by omega)]; rfl)
      generalize (decide (1 < ln) && Pl.parts (l.take 1) [3] && Pl.kinds (l.drop 1) [30]) = rr at *
      generalize Pl.parts (l.take 1) [3] = r1 at *
      generalize Pl.kinds (l.drop 1) [30] = r2 at *
      clear h h0 hb hP hln hka hi2 hb3
      rw [Nat.one_mul] at HK
      cases r1
      · go_enter Try.func64, Try.ntmps64
        go_wp2_with fail
        refine HA.out.mono ?_
        rintro e w2 ⟨rfl, rfl⟩
        go_wp2
        go_ret
        exact ⟨ret_bool (by rw [HD.out]; rfl), HB2.out⟩
      · go_enter Try.func64, Try.ntmps64
        go_wp2_with fail
        refine HA.out.mono ?_
        rintro e w2 ⟨rfl, rfl⟩
        go_wp2_with fail
        refine HK.out.mono ?_
        rintro e w3 ⟨rfl, hb4⟩
        have HB4 := Lib.hid (HB3.out.trans (hb4.mono HB3.out.size))
        clear hb4
        go_wp2
        go_ret
        exact ⟨ret_bool (by rw [HD.out]; rfl), HB4.out⟩
  · have q : decide ((1 : Int) < (ln : Int)) = false := by simp; omega
    have HD := Lib.hid (show (decide (1 < ln) && Pl.parts (l.take 1) [3] && Pl.kinds (l.drop 1) [30]) = false from by rw [decide_eq_false (by omega)]; rfl)
    generalize (decide (1 < ln) && Pl.parts (l.take 1) [3] && Pl.kinds (l.drop 1) [30]) = rr at *
    clear h h0 hb hP hln
    go_enter Try.func64, Try.ntmps64
    go_wp2
    go_ret
    exact ⟨ret_bool HD.out.symm, HB.out⟩
end Go.Proofs.Ytkhpihacjhhklaa
