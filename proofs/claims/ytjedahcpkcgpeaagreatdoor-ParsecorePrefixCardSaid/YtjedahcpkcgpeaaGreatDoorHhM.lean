/-
  Walks of layer 4: ParsecorePrefix: a token that is refused.
-/
import Derived.Test.YtjedahcpkcgpeaaGreatDoorHeM
namespace Go.Proofs.YtjedahcpkcgpeaaGreatDoor
open Go Go.RowKit
set_option linter.unusedSimpArgs false
set_option maxRecDepth 100000 in
set_option maxHeartbeats 8000000 in
theorem prefix_tok {c : Int} {rd : List Pl.Tok → Pl.PR Pl.Syn} (z : Int) (s more : ByteArray) (w : World) (hcat : ∀ W, Calls Tryz.prog 7 #[.int .u8 z] W fun e w' => e = .returned (.int .i64 c) ∧ Below W.heap.size W w')
    (hparse : ∀ (x : ByteArray) W, x.size ≤ maxLen → Calls Tryz.prog 8 #[.int .i64 c, .string x] W (SourceOut (sourceP c rd (Pl.tokens x.toList)) W))
    (hL : Pl.Local rd) (hin : ∀ ts, Pl.InB ts (rd ts)) (hs : s.size ≤ 1000) (hm : more.size ≤ 1000) (hE : (Pl.tokens s.toList).err = 0) (h3 : (sourceP c rd (Pl.tokens s.toList)).err = 3) : Calls Tryz.prog 4 #[.int .u8 z, .string s, .string more] w fun e w' => e = .returned (.bool true) ∧ Below w.heap.size w w' := by
  have l1 : decide ((1000 : Int) < (s.size : Int)) = false := by simp; omega
  have l2 : decide ((1000 : Int) < (more.size : Int)) = false := by simp; omega
  have HA := Lib.hid awake_any4
  have HC := Lib.hid hcat
  have HP := Lib.hid (fun W => hparse s W (by unfold maxLen; omega))
  have HT := Lib.hid (fun W => lexTokens_any s W (by unfold maxLen; omega))
  obtain ⟨X, j, hX, hr⟩ := refused_of hin (by rw [Pl.len_size]; omega) hE (by first | exact .inl h3 | exact .inr h3)
  have hbig := toks_small hE hX
  obtain ⟨R, hR⟩ : ∃ R, R = sourceP c rd (Pl.tokens s.toList) := ⟨_, rfl⟩
  rw [← hR] at HP h3
  obtain ⟨lix, hlix⟩ : ∃ q, q = R.line := ⟨_, rfl⟩
  obtain ⟨cox, hcox⟩ : ∃ q, q = R.col := ⟨_, rfl⟩
  have hat : ∀ (hj : j < (X ++ [(⟨8, [], Pl.lineAt s.toList s.toList.length, Pl.colAt s.toList s.toList.length⟩ : Pl.Tok)]).length), atB lix cox (X ++ [(⟨8, [], Pl.lineAt s.toList s.toList.length, Pl.colAt s.toList s.toList.length⟩ : Pl.Tok)])[j] = true := fun hj => by
    have e1 := hr.line
    have e2 := hr.col
    rw [← hR, ← hlix, place_get _ _ hj] at e1
    rw [← hR, ← hcox, place_get _ _ hj] at e2
    unfold atB
    rw [e1, e2, beq_self_eq_true, beq_self_eq_true]
    rfl
  have hfi : ∀ i (hi : i < (X ++ [(⟨8, [], Pl.lineAt s.toList s.toList.length, Pl.colAt s.toList s.toList.length⟩ : Pl.Tok)]).length), i < j → atB lix cox (X ++ [(⟨8, [], Pl.lineAt s.toList s.toList.length, Pl.colAt s.toList s.toList.length⟩ : Pl.Tok)])[i] = false := fun i hi hij => by
    have e1 := hr.first i hij
    rw [← hR, ← hlix, ← hcox, place_get _ _ hi] at e1
    unfold atB
    rw [Bool.and_eq_false_iff]
    by_cases e2 : (X ++ [(⟨8, [], Pl.lineAt s.toList s.toList.length, Pl.colAt s.toList s.toList.length⟩ : Pl.Tok)])[i].line = lix
    · exact .inr (by simpa using fun e3 => e1 ⟨e2, e3⟩)
    · exact .inl (by simpa using e2)
  have hjl := hr.le
  have hkd := hr.kinds
  have her := hr.err
  rw [← hR, h3] at her
  have hjl : j < X.length := by
    by_cases h : j = X.length
    · rw [if_pos h] at her
      exact absurd her (by decide)
    · omega
  obtain ⟨f1, f2, f3⟩ := hr.front hL hin (by rw [Pl.len_size]; omega)
  obtain ⟨g1, g2, g3, g4, g5⟩ := hr.back hL (by rw [Pl.len_size]; omega) hjl more.toList (by rw [Pl.len_size]; omega)
  have HJ1 := Lib.hid (joins_to hkd hbig j f1)
  have HJ2 := Lib.hid (joins_to hkd hbig (j + 1) g1)
  have HP1 := Lib.hid (fun W => hparse (Pl.mk (jn (X.take j))) W (by rw [Pl.mk_size]; unfold maxLen; omega))
  have HP2 := Lib.hid (fun W => hparse (Pl.mk (jn (X.take (j + 1)))) W (by rw [Pl.mk_size]; unfold maxLen; omega))
  have hms : (Pl.mk (jn (X.take (j + 1))) ++ (⟨#[32]⟩ : ByteArray) ++ more).size ≤ 5100 := by
    rw [ByteArray.size_append, ByteArray.size_append, Pl.mk_size]
    have : (⟨#[32]⟩ : ByteArray).size = 1 := rfl
    omega
  have hml : (Pl.mk (jn (X.take (j + 1))) ++ (⟨#[32]⟩ : ByteArray) ++ more).toList = jn (X.take (j + 1)) ++ 32 :: more.toList := by
    rw [app_list, app_list, Pl.mk_toList, show (⟨#[32]⟩ : ByteArray).toList = [32] from Pl.mk_toList [32]]
    rw [List.append_assoc]
    rfl
  have HP3 := Lib.hid (fun W => hparse (Pl.mk (jn (X.take (j + 1))) ++ (⟨#[32]⟩ : ByteArray) ++ more) W (by unfold maxLen; omega))
  have HT3 := Lib.hid (fun W => lexTokens_any (Pl.mk (jn (X.take (j + 1))) ++ (⟨#[32]⟩ : ByteArray) ++ more) W (by unfold maxLen; omega))
  rw [Pl.mk_toList] at HP1 HP2
  rw [hml] at HP3 HT3
  have z1 : ¬ 9223372036854775807 < (Pl.mk (jn (X.take (j + 1)))).size + 1 := by rw [Pl.mk_size]; omega
  have z2 : ¬ 9223372036854775807 < (Pl.mk (jn (X.take (j + 1)))).size + 1 + more.size := by rw [Pl.mk_size]; omega
  have hfs : ((jn (X.take j)).length : Int) = (Pl.mk (jn (X.take j))).size := by rw [Pl.mk_size]
  have hfm : (Pl.mk (jn (X.take j))).size ≤ 4000 := by rw [Pl.mk_size]; exact f2
  rw [hfs] at f3
  obtain ⟨R1, hR1⟩ : ∃ R, R = sourceP c rd (Pl.tokens (jn (X.take j))) := ⟨_, rfl⟩
  obtain ⟨R2, hR2⟩ : ∃ R, R = sourceP c rd (Pl.tokens (jn (X.take (j + 1)))) := ⟨_, rfl⟩
  obtain ⟨R3, hR3⟩ : ∃ R, R = sourceP c rd (Pl.tokens (jn (X.take (j + 1)) ++ 32 :: more.toList)) := ⟨_, rfl⟩
  obtain ⟨Q, hQ⟩ : ∃ Q, Q = Pl.tokens (jn (X.take (j + 1)) ++ 32 :: more.toList) := ⟨_, rfl⟩
  rw [← hR1] at HP1 f3
  rw [← hR2] at HP2 g3 g5
  rw [← hR3] at HP3 g4 g5
  rw [← hQ] at HT3 g4 g5
  clear f1 f2 g1 g2 hms hml hfs hR1 hR2 hR3 hQ
  generalize Pl.mk (jn (X.take j)) = F at *
  generalize Pl.mk (jn (X.take (j + 1))) = G at *
  obtain ⟨liy, hliy⟩ : ∃ q, q = R1.line := ⟨_, rfl⟩
  obtain ⟨coy, hcoy⟩ : ∃ q, q = R1.col := ⟨_, rfl⟩
  obtain ⟨ery, hery⟩ : ∃ q, q = R1.err := ⟨_, rfl⟩
  obtain ⟨liz, hliz⟩ : ∃ q, q = R2.line := ⟨_, rfl⟩
  obtain ⟨coz, hcoz⟩ : ∃ q, q = R2.col := ⟨_, rfl⟩
  obtain ⟨lit, hlit⟩ : ∃ q, q = R3.line := ⟨_, rfl⟩
  obtain ⟨cot, hcot⟩ : ∃ q, q = R3.col := ⟨_, rfl⟩
  obtain ⟨ert, hert⟩ : ∃ q, q = R3.err := ⟨_, rfl⟩
  rw [← hery, ← hcoy] at f3
  rw [← hert] at g4 g5
  rw [← hlit, ← hcot, ← hliz, ← hcoz] at g5
  have HY := Lib.hid (⟨hliy, hcoy, hery⟩ : liy = R1.line ∧ coy = R1.col ∧ ery = R1.err)
  have HZ := Lib.hid (⟨hliz, hcoz, g3⟩ : liz = R2.line ∧ coz = R2.col ∧ R2.err = 3)
  have HV := Lib.hid (⟨hlit, hcot, hert⟩ : lit = R3.line ∧ cot = R3.col ∧ ert = R3.err)
  have HF3 := Lib.hid f3
  have HG4 := Lib.hid g4
  have HG5 := Lib.hid g5
  clear hliy hcoy hery hliz hcoz hlit hcot hert g3 g4 g5 f3
  generalize hEn : (⟨8, [], Pl.lineAt s.toList s.toList.length, Pl.colAt s.toList s.toList.length⟩ : Pl.Tok) = En at *
  obtain ⟨O, hO⟩ : ∃ O, O = Pl.tokens s.toList := ⟨_, rfl⟩
  rw [← hO] at HT hE hX
  have HEQ := Lib.hid hE
  have HX := Lib.hid hX
  have HAT := Lib.hid hat
  have HFI := Lib.hid hfi
  have HW := Lib.hid (⟨hlix, hcox, h3⟩ : lix = R.line ∧ cox = R.col ∧ R.err = 3)
  clear hR hO hE hlix hcox her hcat hparse hs hm h3 hX hat hfi hr hkd hbig hEn hL hin
  rcases HF3.out with h0 | ⟨h0, h0'⟩ | h0
  · subst h0
    go_enter Tryz.func4, Tryz.ntmps4
    go_wp2_with fail
    refine (HA.out _).mono ?_
    rintro e w1 ⟨rfl, hb1⟩
    have HB := Lib.hid hb1
    clear hb1
    go_wp2_with fail
    refine (HC.out _).mono ?_
    rintro e w2 ⟨rfl, hb2⟩
    replace HB := Lib.hid (HB.out.trans (hb2.mono HB.out.size))
    clear hb2
    go_wp2_with fail
    refine (HP.out _).mono ?_
    rintro e w3 ⟨⟨v, rfl, ht⟩, hb⟩
    obtain ⟨x0, x1, x2, xa, xl, xc, xd, xe, xf, rfl⟩ := tree_open ht
    clear ht
    replace HB := Lib.hid (HB.out.trans (hb.mono HB.out.size))
    rw [← HW.out.1, ← HW.out.2.1, HW.out.2.2]
    obtain ⟨k0, k1, k2⟩ := res_boxes w3 (.int .i64 lix) (.int .i64 cox) 27 29 #[.int .i64 x0, .int .i64 x1, .string x2, .slice xa xl xc, .slice xd xe xf]
    have HKx := Lib.hid k1
    replace HB := Lib.hid (HB.out.trans (k2.mono HB.out.size))
    clear hb k0 k1 k2
    go_wp2_with fail
    generalize (w3.alloc (.cells #[.int .i64 x0, .int .i64 x1, .string x2, .slice xa xl xc, .slice xd xe xf] 27)).alloc (.cells #[.int .i64 lix, .int .i64 cox] 29) = w4 at *
    refine (HT.out _).mono ?_
    rintro e w5 (⟨-, ⟨v, rfl, hts⟩, hb⟩ | ⟨he, -⟩)
    rotate_left
    · exact absurd HEQ.out he
    replace HKx := Lib.hid (HKx.out.of_eq (hb.block _ HKx.out.lt))
    rw [HX.out] at hts
    obtain ⟨b, off, ca, n, hn, rfl, hnc, hca, hbl, hta⟩ := end_slice4 hts
    replace HB := Lib.hid (HB.out.trans (hb.mono HB.out.size))
    have hbp : Below w5.heap.size w5 (w5.alloc (.cells #[.int .i64 0, .int .i64 0] 29)) := (Below.refl _ _).alloc (Nat.le_refl _) _
    replace HB := Lib.hid (HB.out.trans (hbp.mono HB.out.size))
    replace HKx := Lib.hid (HKx.out.of_eq (hbp.block _ HKx.out.lt))
    have HTA := Lib.hid (fun i hi => (hta i hi).below hbp hbl)
    have hbl2 := Nat.lt_of_lt_of_le hbl hbp.size
    have hcm := hca
    unfold maxLen at hcm
    have hlen : (X ++ [En]).length = n + 1 := by rw [List.length_append, hn]; rfl
    have qn : ((n : Int) + 1 == 0) = false := by simp; omega
    clear hb hbp hts hta hbl
    go_wp2_with fail
    generalize w5.alloc (.cells #[.int .i64 0, .int .i64 0] 29) = w6 at *
    obtain ⟨p0, p1⟩ := two_cells HKx.out
    refine (indexAt_any b off ca (n + 1) _ lix cox (X ++ [En]) w6 hlen (by unfold maxLen; omega) hbl2 HTA.out HKx.out.lt p0 p1 j (by omega) (HAT.out (by omega)) HFI.out).mono ?_
    rintro e w7 ⟨rfl, hb⟩
    have HTA7 := Lib.hid (fun i hi => (HTA.out i hi).below hb hbl2)
    have hbl7 := Nat.lt_of_lt_of_le hbl2 hb.size
    replace HB := Lib.hid (HB.out.trans (hb.mono HB.out.size))
    have w64 : wrap64 ((n : Int) + 1 - 1) = n := by rw [wrap64]; omega
    have qj : decide ((j : Int) < 0) = false := by simp
    clear hb p0 p1 HTA hbl2
    have qk : ((j : Int) == (n : Int)) = false := by simp; omega
    have HB7 : Hid (Below w7.heap.size w7 w7) := Below.refl _ _
    have hj1 : j ≤ ca := by omega
    have hj2 : j + 1 ≤ ca := by omega
    have w65 : wrap64 ((j : Int) + 1) = (j : Int) + 1 := by rw [wrap64]; omega
    have w66 : wrap64 ((F.size : Int) + 1) = (F.size : Int) + 1 := by rw [wrap64]; omega
    have HZZ := Lib.hid (⟨z1, z2⟩ : ¬ 9223372036854775807 < G.size + 1 ∧ ¬ 9223372036854775807 < G.size + 1 + more.size)
    clear hfm z1 z2
    go_wp2_with fail
    refine (HJ1.out _ _ (slice_front hn hnc hca hbl7 HTA7.out j (Nat.le_of_lt hjl) _ HB7.out)).mono ?_
    rintro e w8 ⟨rfl, hb⟩
    replace HB := Lib.hid (HB.out.trans (hb.mono HB.out.size))
    replace HB7 := Lib.hid (HB7.out.trans (hb.mono HB7.out.size))
    clear hb
    go_wp2_with fail
    refine (HP1.out _).mono ?_
    rintro e w9 ⟨⟨v, rfl, ht⟩, hb⟩
    obtain ⟨y0, y1, y2, ya, yl, yc, yd, ye, yf, rfl⟩ := tree_open ht
    clear ht
    replace HB := Lib.hid (HB.out.trans (hb.mono HB.out.size))
    replace HB7 := Lib.hid (HB7.out.trans (hb.mono HB7.out.size))
    rw [← HY.out.1, ← HY.out.2.1, ← HY.out.2.2]
    obtain ⟨k0, k1, k2⟩ := res_boxes w9 (.int .i64 liy) (.int .i64 coy) 27 29 #[.int .i64 y0, .int .i64 y1, .string y2, .slice ya yl yc, .slice yd ye yf]
    have HKy := Lib.hid k1
    replace HB := Lib.hid (HB.out.trans (k2.mono HB.out.size))
    replace HB7 := Lib.hid (HB7.out.trans (k2.mono HB7.out.size))
    clear hb k0 k1 k2
    obtain ⟨p0, p1⟩ := two_cells HKy.out
    go_wp2_with fail
    generalize (w9.alloc (.cells #[.int .i64 y0, .int .i64 y1, .string y2, .slice ya yl yc, .slice yd ye yf] 27)).alloc (.cells #[.int .i64 liy, .int .i64 coy] 29) = wa at *
    refine (HJ2.out _ _ (slice_front hn hnc hca hbl7 HTA7.out (j + 1) hjl _ HB7.out)).mono ?_
    rintro e wb ⟨rfl, hb⟩
    clear p0 p1
    replace HB := Lib.hid (HB.out.trans (hb.mono HB.out.size))
    replace HB7 := Lib.hid (HB7.out.trans (hb.mono HB7.out.size))
    clear hb
    go_wp2_with fail
    refine (HP2.out _).mono ?_
    rintro e wc ⟨⟨v, rfl, ht⟩, hb⟩
    obtain ⟨z0, z1, z2, za, zl, zc, zd, ze, zf, rfl⟩ := tree_open ht
    clear ht
    replace HB := Lib.hid (HB.out.trans (hb.mono HB.out.size))
    rw [← HZ.out.1, ← HZ.out.2.1, HZ.out.2.2]
    obtain ⟨k0, k1, k2⟩ := res_boxes wc (.int .i64 liz) (.int .i64 coz) 27 29 #[.int .i64 z0, .int .i64 z1, .string z2, .slice za zl zc, .slice zd ze zf]
    have HKz := Lib.hid k1
    replace HB := Lib.hid (HB.out.trans (k2.mono HB.out.size))
    clear hb k0 k1 k2
    obtain ⟨gu1, gu2⟩ := HZZ.out
    go_wp2_with fail
    generalize (wc.alloc (.cells #[.int .i64 z0, .int .i64 z1, .string z2, .slice za zl zc, .slice zd ze zf] 27)).alloc (.cells #[.int .i64 liz, .int .i64 coz] 29) = wd at *
    refine (HP3.out _).mono ?_
    rintro e we ⟨⟨v, rfl, ht⟩, hb⟩
    obtain ⟨t0, t1, t2, ta, tl, tc, td, te, tf, rfl⟩ := tree_open ht
    clear ht
    replace HKz := Lib.hid (HKz.out.of_eq (hb.block _ HKz.out.lt))
    replace HB := Lib.hid (HB.out.trans (hb.mono HB.out.size))
    rw [← HV.out.1, ← HV.out.2.1, ← HV.out.2.2]
    obtain ⟨k0, k1, k2⟩ := res_boxes we (.int .i64 lit) (.int .i64 cot) 27 29 #[.int .i64 t0, .int .i64 t1, .string t2, .slice ta tl tc, .slice td te tf]
    have HKt := Lib.hid k1
    replace HKz := Lib.hid (HKz.out.of_eq (k2.block _ HKz.out.lt))
    replace HB := Lib.hid (HB.out.trans (k2.mono HB.out.size))
    clear hb k0 k1 k2
    go_wp2_with fail
    generalize (we.alloc (.cells #[.int .i64 t0, .int .i64 t1, .string t2, .slice ta tl tc, .slice td te tf] 27)).alloc (.cells #[.int .i64 lit, .int .i64 cot] 29) = wf at *
    refine (HT3.out _).mono ?_
    rintro e wg (⟨he, ⟨v, rfl, hts⟩, hb⟩ | ⟨he, -, rfl, hb⟩)
    · obtain ⟨q1, q2, q3⟩ := HG5.out he
      obtain ⟨va, vc, rfl, -⟩ := hts.form
      replace HB := Lib.hid (HB.out.trans (hb.mono HB.out.size))
      have hbp : Below wg.heap.size wg (wg.alloc (.cells #[.int .i64 0, .int .i64 0] 29)) := (Below.refl _ _).alloc (Nat.le_refl _) _
      replace HB := Lib.hid (HB.out.trans (hbp.mono HB.out.size))
      replace HKz := Lib.hid (HKz.out.of_eq (hb.block _ HKz.out.lt))
      replace HKt := Lib.hid (HKt.out.of_eq (hb.block _ HKt.out.lt))
      replace HKz := Lib.hid (HKz.out.of_eq (hbp.block _ HKz.out.lt))
      replace HKt := Lib.hid (HKt.out.of_eq (hbp.block _ HKt.out.lt))
      obtain ⟨r0, r1⟩ := two_cells HKz.out
      obtain ⟨r2, r3⟩ := two_cells HKt.out
      rw [q1]
      rw [q2] at r2
      rw [q3] at r3
      clear hb hbp hts he q1 q2 q3
      go_wp2_with fail
      go_ret
      exact ⟨rfl, HB.out⟩
    · have hq := HG4.out he
      replace HB := Lib.hid (HB.out.trans (hb.mono HB.out.size))
      obtain ⟨eo, heo⟩ : ∃ q, q = Q.err := ⟨_, rfl⟩
      obtain ⟨lo, hlo⟩ : ∃ q, q = Q.line := ⟨_, rfl⟩
      obtain ⟨co, hco⟩ : ∃ q, q = Q.col := ⟨_, rfl⟩
      have hbp : Below wg.heap.size wg (wg.alloc (.cells #[.int .i64 lo, .int .i64 co] 29)) := (Below.refl _ _).alloc (Nat.le_refl _) _
      replace HB := Lib.hid (HB.out.trans (hbp.mono HB.out.size))
      have q0 : (eo != 0) = true := by rw [heo]; simpa using he
      rw [hq, ← heo, ← hlo, ← hco]
      clear hb hbp he hq heo hlo hco
      go_wp2_with fail
      go_ret
      exact ⟨rfl, HB.out⟩
  · subst h0
    subst h0'
    go_enter Tryz.func4, Tryz.ntmps4
    go_wp2_with fail
    refine (HA.out _).mono ?_
    rintro e w1 ⟨rfl, hb1⟩
    have HB := Lib.hid hb1
    clear hb1
    go_wp2_with fail
    refine (HC.out _).mono ?_
    rintro e w2 ⟨rfl, hb2⟩
    replace HB := Lib.hid (HB.out.trans (hb2.mono HB.out.size))
    clear hb2
    go_wp2_with fail
    refine (HP.out _).mono ?_
    rintro e w3 ⟨⟨v, rfl, ht⟩, hb⟩
    obtain ⟨x0, x1, x2, xa, xl, xc, xd, xe, xf, rfl⟩ := tree_open ht
    clear ht
    replace HB := Lib.hid (HB.out.trans (hb.mono HB.out.size))
    rw [← HW.out.1, ← HW.out.2.1, HW.out.2.2]
    obtain ⟨k0, k1, k2⟩ := res_boxes w3 (.int .i64 lix) (.int .i64 cox) 27 29 #[.int .i64 x0, .int .i64 x1, .string x2, .slice xa xl xc, .slice xd xe xf]
    have HKx := Lib.hid k1
    replace HB := Lib.hid (HB.out.trans (k2.mono HB.out.size))
    clear hb k0 k1 k2
    go_wp2_with fail
    generalize (w3.alloc (.cells #[.int .i64 x0, .int .i64 x1, .string x2, .slice xa xl xc, .slice xd xe xf] 27)).alloc (.cells #[.int .i64 lix, .int .i64 cox] 29) = w4 at *
    refine (HT.out _).mono ?_
    rintro e w5 (⟨-, ⟨v, rfl, hts⟩, hb⟩ | ⟨he, -⟩)
    rotate_left
    · exact absurd HEQ.out he
    replace HKx := Lib.hid (HKx.out.of_eq (hb.block _ HKx.out.lt))
    rw [HX.out] at hts
    obtain ⟨b, off, ca, n, hn, rfl, hnc, hca, hbl, hta⟩ := end_slice4 hts
    replace HB := Lib.hid (HB.out.trans (hb.mono HB.out.size))
    have hbp : Below w5.heap.size w5 (w5.alloc (.cells #[.int .i64 0, .int .i64 0] 29)) := (Below.refl _ _).alloc (Nat.le_refl _) _
    replace HB := Lib.hid (HB.out.trans (hbp.mono HB.out.size))
    replace HKx := Lib.hid (HKx.out.of_eq (hbp.block _ HKx.out.lt))
    have HTA := Lib.hid (fun i hi => (hta i hi).below hbp hbl)
    have hbl2 := Nat.lt_of_lt_of_le hbl hbp.size
    have hcm := hca
    unfold maxLen at hcm
    have hlen : (X ++ [En]).length = n + 1 := by rw [List.length_append, hn]; rfl
    have qn : ((n : Int) + 1 == 0) = false := by simp; omega
    clear hb hbp hts hta hbl
    go_wp2_with fail
    generalize w5.alloc (.cells #[.int .i64 0, .int .i64 0] 29) = w6 at *
    obtain ⟨p0, p1⟩ := two_cells HKx.out
    refine (indexAt_any b off ca (n + 1) _ lix cox (X ++ [En]) w6 hlen (by unfold maxLen; omega) hbl2 HTA.out HKx.out.lt p0 p1 j (by omega) (HAT.out (by omega)) HFI.out).mono ?_
    rintro e w7 ⟨rfl, hb⟩
    have HTA7 := Lib.hid (fun i hi => (HTA.out i hi).below hb hbl2)
    have hbl7 := Nat.lt_of_lt_of_le hbl2 hb.size
    replace HB := Lib.hid (HB.out.trans (hb.mono HB.out.size))
    have w64 : wrap64 ((n : Int) + 1 - 1) = n := by rw [wrap64]; omega
    have qj : decide ((j : Int) < 0) = false := by simp
    clear hb p0 p1 HTA hbl2
    have qk : ((j : Int) == (n : Int)) = false := by simp; omega
    have HB7 : Hid (Below w7.heap.size w7 w7) := Below.refl _ _
    have hj1 : j ≤ ca := by omega
    have hj2 : j + 1 ≤ ca := by omega
    have w65 : wrap64 ((j : Int) + 1) = (j : Int) + 1 := by rw [wrap64]; omega
    have w66 : wrap64 ((F.size : Int) + 1) = (F.size : Int) + 1 := by rw [wrap64]; omega
    have HZZ := Lib.hid (⟨z1, z2⟩ : ¬ 9223372036854775807 < G.size + 1 ∧ ¬ 9223372036854775807 < G.size + 1 + more.size)
    clear hfm z1 z2
    go_wp2_with fail
    refine (HJ1.out _ _ (slice_front hn hnc hca hbl7 HTA7.out j (Nat.le_of_lt hjl) _ HB7.out)).mono ?_
    rintro e w8 ⟨rfl, hb⟩
    replace HB := Lib.hid (HB.out.trans (hb.mono HB.out.size))
    replace HB7 := Lib.hid (HB7.out.trans (hb.mono HB7.out.size))
    clear hb
    go_wp2_with fail
    refine (HP1.out _).mono ?_
    rintro e w9 ⟨⟨v, rfl, ht⟩, hb⟩
    obtain ⟨y0, y1, y2, ya, yl, yc, yd, ye, yf, rfl⟩ := tree_open ht
    clear ht
    replace HB := Lib.hid (HB.out.trans (hb.mono HB.out.size))
    replace HB7 := Lib.hid (HB7.out.trans (hb.mono HB7.out.size))
    rw [← HY.out.1, ← HY.out.2.1, ← HY.out.2.2]
    obtain ⟨k0, k1, k2⟩ := res_boxes w9 (.int .i64 liy) (.int .i64 ((F.size : Int) + 1)) 27 29 #[.int .i64 y0, .int .i64 y1, .string y2, .slice ya yl yc, .slice yd ye yf]
    have HKy := Lib.hid k1
    replace HB := Lib.hid (HB.out.trans (k2.mono HB.out.size))
    replace HB7 := Lib.hid (HB7.out.trans (k2.mono HB7.out.size))
    clear hb k0 k1 k2
    obtain ⟨p0, p1⟩ := two_cells HKy.out
    go_wp2_with fail
    generalize (w9.alloc (.cells #[.int .i64 y0, .int .i64 y1, .string y2, .slice ya yl yc, .slice yd ye yf] 27)).alloc (.cells #[.int .i64 liy, .int .i64 ((F.size : Int) + 1)] 29) = wa at *
    refine (HJ2.out _ _ (slice_front hn hnc hca hbl7 HTA7.out (j + 1) hjl _ HB7.out)).mono ?_
    rintro e wb ⟨rfl, hb⟩
    clear p0 p1
    replace HB := Lib.hid (HB.out.trans (hb.mono HB.out.size))
    replace HB7 := Lib.hid (HB7.out.trans (hb.mono HB7.out.size))
    clear hb
    go_wp2_with fail
    refine (HP2.out _).mono ?_
    rintro e wc ⟨⟨v, rfl, ht⟩, hb⟩
    obtain ⟨z0, z1, z2, za, zl, zc, zd, ze, zf, rfl⟩ := tree_open ht
    clear ht
    replace HB := Lib.hid (HB.out.trans (hb.mono HB.out.size))
    rw [← HZ.out.1, ← HZ.out.2.1, HZ.out.2.2]
    obtain ⟨k0, k1, k2⟩ := res_boxes wc (.int .i64 liz) (.int .i64 coz) 27 29 #[.int .i64 z0, .int .i64 z1, .string z2, .slice za zl zc, .slice zd ze zf]
    have HKz := Lib.hid k1
    replace HB := Lib.hid (HB.out.trans (k2.mono HB.out.size))
    clear hb k0 k1 k2
    obtain ⟨gu1, gu2⟩ := HZZ.out
    go_wp2_with fail
    generalize (wc.alloc (.cells #[.int .i64 z0, .int .i64 z1, .string z2, .slice za zl zc, .slice zd ze zf] 27)).alloc (.cells #[.int .i64 liz, .int .i64 coz] 29) = wd at *
    refine (HP3.out _).mono ?_
    rintro e we ⟨⟨v, rfl, ht⟩, hb⟩
    obtain ⟨t0, t1, t2, ta, tl, tc, td, te, tf, rfl⟩ := tree_open ht
    clear ht
    replace HKz := Lib.hid (HKz.out.of_eq (hb.block _ HKz.out.lt))
    replace HB := Lib.hid (HB.out.trans (hb.mono HB.out.size))
    rw [← HV.out.1, ← HV.out.2.1, ← HV.out.2.2]
    obtain ⟨k0, k1, k2⟩ := res_boxes we (.int .i64 lit) (.int .i64 cot) 27 29 #[.int .i64 t0, .int .i64 t1, .string t2, .slice ta tl tc, .slice td te tf]
    have HKt := Lib.hid k1
    replace HKz := Lib.hid (HKz.out.of_eq (k2.block _ HKz.out.lt))
    replace HB := Lib.hid (HB.out.trans (k2.mono HB.out.size))
    clear hb k0 k1 k2
    go_wp2_with fail
    generalize (we.alloc (.cells #[.int .i64 t0, .int .i64 t1, .string t2, .slice ta tl tc, .slice td te tf] 27)).alloc (.cells #[.int .i64 lit, .int .i64 cot] 29) = wf at *
    refine (HT3.out _).mono ?_
    rintro e wg (⟨he, ⟨v, rfl, hts⟩, hb⟩ | ⟨he, -, rfl, hb⟩)
    · obtain ⟨q1, q2, q3⟩ := HG5.out he
      obtain ⟨va, vc, rfl, -⟩ := hts.form
      replace HB := Lib.hid (HB.out.trans (hb.mono HB.out.size))
      have hbp : Below wg.heap.size wg (wg.alloc (.cells #[.int .i64 0, .int .i64 0] 29)) := (Below.refl _ _).alloc (Nat.le_refl _) _
      replace HB := Lib.hid (HB.out.trans (hbp.mono HB.out.size))
      replace HKz := Lib.hid (HKz.out.of_eq (hb.block _ HKz.out.lt))
      replace HKt := Lib.hid (HKt.out.of_eq (hb.block _ HKt.out.lt))
      replace HKz := Lib.hid (HKz.out.of_eq (hbp.block _ HKz.out.lt))
      replace HKt := Lib.hid (HKt.out.of_eq (hbp.block _ HKt.out.lt))
      obtain ⟨r0, r1⟩ := two_cells HKz.out
      obtain ⟨r2, r3⟩ := two_cells HKt.out
      rw [q1]
      rw [q2] at r2
      rw [q3] at r3
      clear hb hbp hts he q1 q2 q3
      go_wp2_with fail
      go_ret
      exact ⟨rfl, HB.out⟩
    · have hq := HG4.out he
      replace HB := Lib.hid (HB.out.trans (hb.mono HB.out.size))
      obtain ⟨eo, heo⟩ : ∃ q, q = Q.err := ⟨_, rfl⟩
      obtain ⟨lo, hlo⟩ : ∃ q, q = Q.line := ⟨_, rfl⟩
      obtain ⟨co, hco⟩ : ∃ q, q = Q.col := ⟨_, rfl⟩
      have hbp : Below wg.heap.size wg (wg.alloc (.cells #[.int .i64 lo, .int .i64 co] 29)) := (Below.refl _ _).alloc (Nat.le_refl _) _
      replace HB := Lib.hid (HB.out.trans (hbp.mono HB.out.size))
      have q0 : (eo != 0) = true := by rw [heo]; simpa using he
      rw [hq, ← heo, ← hlo, ← hco]
      clear hb hbp he hq heo hlo hco
      go_wp2_with fail
      go_ret
      exact ⟨rfl, HB.out⟩
  · subst h0
    go_enter Tryz.func4, Tryz.ntmps4
    go_wp2_with fail
    refine (HA.out _).mono ?_
    rintro e w1 ⟨rfl, hb1⟩
    have HB := Lib.hid hb1
    clear hb1
    go_wp2_with fail
    refine (HC.out _).mono ?_
    rintro e w2 ⟨rfl, hb2⟩
    replace HB := Lib.hid (HB.out.trans (hb2.mono HB.out.size))
    clear hb2
    go_wp2_with fail
    refine (HP.out _).mono ?_
    rintro e w3 ⟨⟨v, rfl, ht⟩, hb⟩
    obtain ⟨x0, x1, x2, xa, xl, xc, xd, xe, xf, rfl⟩ := tree_open ht
    clear ht
    replace HB := Lib.hid (HB.out.trans (hb.mono HB.out.size))
    rw [← HW.out.1, ← HW.out.2.1, HW.out.2.2]
    obtain ⟨k0, k1, k2⟩ := res_boxes w3 (.int .i64 lix) (.int .i64 cox) 27 29 #[.int .i64 x0, .int .i64 x1, .string x2, .slice xa xl xc, .slice xd xe xf]
    have HKx := Lib.hid k1
    replace HB := Lib.hid (HB.out.trans (k2.mono HB.out.size))
    clear hb k0 k1 k2
    go_wp2_with fail
    generalize (w3.alloc (.cells #[.int .i64 x0, .int .i64 x1, .string x2, .slice xa xl xc, .slice xd xe xf] 27)).alloc (.cells #[.int .i64 lix, .int .i64 cox] 29) = w4 at *
    refine (HT.out _).mono ?_
    rintro e w5 (⟨-, ⟨v, rfl, hts⟩, hb⟩ | ⟨he, -⟩)
    rotate_left
    · exact absurd HEQ.out he
    replace HKx := Lib.hid (HKx.out.of_eq (hb.block _ HKx.out.lt))
    rw [HX.out] at hts
    obtain ⟨b, off, ca, n, hn, rfl, hnc, hca, hbl, hta⟩ := end_slice4 hts
    replace HB := Lib.hid (HB.out.trans (hb.mono HB.out.size))
    have hbp : Below w5.heap.size w5 (w5.alloc (.cells #[.int .i64 0, .int .i64 0] 29)) := (Below.refl _ _).alloc (Nat.le_refl _) _
    replace HB := Lib.hid (HB.out.trans (hbp.mono HB.out.size))
    replace HKx := Lib.hid (HKx.out.of_eq (hbp.block _ HKx.out.lt))
    have HTA := Lib.hid (fun i hi => (hta i hi).below hbp hbl)
    have hbl2 := Nat.lt_of_lt_of_le hbl hbp.size
    have hcm := hca
    unfold maxLen at hcm
    have hlen : (X ++ [En]).length = n + 1 := by rw [List.length_append, hn]; rfl
    have qn : ((n : Int) + 1 == 0) = false := by simp; omega
    clear hb hbp hts hta hbl
    go_wp2_with fail
    generalize w5.alloc (.cells #[.int .i64 0, .int .i64 0] 29) = w6 at *
    obtain ⟨p0, p1⟩ := two_cells HKx.out
    refine (indexAt_any b off ca (n + 1) _ lix cox (X ++ [En]) w6 hlen (by unfold maxLen; omega) hbl2 HTA.out HKx.out.lt p0 p1 j (by omega) (HAT.out (by omega)) HFI.out).mono ?_
    rintro e w7 ⟨rfl, hb⟩
    have HTA7 := Lib.hid (fun i hi => (HTA.out i hi).below hb hbl2)
    have hbl7 := Nat.lt_of_lt_of_le hbl2 hb.size
    replace HB := Lib.hid (HB.out.trans (hb.mono HB.out.size))
    have w64 : wrap64 ((n : Int) + 1 - 1) = n := by rw [wrap64]; omega
    have qj : decide ((j : Int) < 0) = false := by simp
    clear hb p0 p1 HTA hbl2
    have qk : ((j : Int) == (n : Int)) = false := by simp; omega
    have HB7 : Hid (Below w7.heap.size w7 w7) := Below.refl _ _
    have hj1 : j ≤ ca := by omega
    have hj2 : j + 1 ≤ ca := by omega
    have w65 : wrap64 ((j : Int) + 1) = (j : Int) + 1 := by rw [wrap64]; omega
    have w66 : wrap64 ((F.size : Int) + 1) = (F.size : Int) + 1 := by rw [wrap64]; omega
    have HZZ := Lib.hid (⟨z1, z2⟩ : ¬ 9223372036854775807 < G.size + 1 ∧ ¬ 9223372036854775807 < G.size + 1 + more.size)
    clear hfm z1 z2
    go_wp2_with fail
    refine (HJ1.out _ _ (slice_front hn hnc hca hbl7 HTA7.out j (Nat.le_of_lt hjl) _ HB7.out)).mono ?_
    rintro e w8 ⟨rfl, hb⟩
    replace HB := Lib.hid (HB.out.trans (hb.mono HB.out.size))
    replace HB7 := Lib.hid (HB7.out.trans (hb.mono HB7.out.size))
    clear hb
    go_wp2_with fail
    refine (HP1.out _).mono ?_
    rintro e w9 ⟨⟨v, rfl, ht⟩, hb⟩
    obtain ⟨y0, y1, y2, ya, yl, yc, yd, ye, yf, rfl⟩ := tree_open ht
    clear ht
    replace HB := Lib.hid (HB.out.trans (hb.mono HB.out.size))
    replace HB7 := Lib.hid (HB7.out.trans (hb.mono HB7.out.size))
    rw [← HY.out.1, ← HY.out.2.1, ← HY.out.2.2]
    obtain ⟨k0, k1, k2⟩ := res_boxes w9 (.int .i64 liy) (.int .i64 coy) 27 29 #[.int .i64 y0, .int .i64 y1, .string y2, .slice ya yl yc, .slice yd ye yf]
    have HKy := Lib.hid k1
    replace HB := Lib.hid (HB.out.trans (k2.mono HB.out.size))
    replace HB7 := Lib.hid (HB7.out.trans (k2.mono HB7.out.size))
    clear hb k0 k1 k2
    obtain ⟨p0, p1⟩ := two_cells HKy.out
    go_wp2_with fail
    generalize (w9.alloc (.cells #[.int .i64 y0, .int .i64 y1, .string y2, .slice ya yl yc, .slice yd ye yf] 27)).alloc (.cells #[.int .i64 liy, .int .i64 coy] 29) = wa at *
    refine (HJ2.out _ _ (slice_front hn hnc hca hbl7 HTA7.out (j + 1) hjl _ HB7.out)).mono ?_
    rintro e wb ⟨rfl, hb⟩
    clear p0 p1
    replace HB := Lib.hid (HB.out.trans (hb.mono HB.out.size))
    replace HB7 := Lib.hid (HB7.out.trans (hb.mono HB7.out.size))
    clear hb
    go_wp2_with fail
    refine (HP2.out _).mono ?_
    rintro e wc ⟨⟨v, rfl, ht⟩, hb⟩
    obtain ⟨z0, z1, z2, za, zl, zc, zd, ze, zf, rfl⟩ := tree_open ht
    clear ht
    replace HB := Lib.hid (HB.out.trans (hb.mono HB.out.size))
    rw [← HZ.out.1, ← HZ.out.2.1, HZ.out.2.2]
    obtain ⟨k0, k1, k2⟩ := res_boxes wc (.int .i64 liz) (.int .i64 coz) 27 29 #[.int .i64 z0, .int .i64 z1, .string z2, .slice za zl zc, .slice zd ze zf]
    have HKz := Lib.hid k1
    replace HB := Lib.hid (HB.out.trans (k2.mono HB.out.size))
    clear hb k0 k1 k2
    obtain ⟨gu1, gu2⟩ := HZZ.out
    go_wp2_with fail
    generalize (wc.alloc (.cells #[.int .i64 z0, .int .i64 z1, .string z2, .slice za zl zc, .slice zd ze zf] 27)).alloc (.cells #[.int .i64 liz, .int .i64 coz] 29) = wd at *
    refine (HP3.out _).mono ?_
    rintro e we ⟨⟨v, rfl, ht⟩, hb⟩
    obtain ⟨t0, t1, t2, ta, tl, tc, td, te, tf, rfl⟩ := tree_open ht
    clear ht
    replace HKz := Lib.hid (HKz.out.of_eq (hb.block _ HKz.out.lt))
    replace HB := Lib.hid (HB.out.trans (hb.mono HB.out.size))
    rw [← HV.out.1, ← HV.out.2.1, ← HV.out.2.2]
    obtain ⟨k0, k1, k2⟩ := res_boxes we (.int .i64 lit) (.int .i64 cot) 27 29 #[.int .i64 t0, .int .i64 t1, .string t2, .slice ta tl tc, .slice td te tf]
    have HKt := Lib.hid k1
    replace HKz := Lib.hid (HKz.out.of_eq (k2.block _ HKz.out.lt))
    replace HB := Lib.hid (HB.out.trans (k2.mono HB.out.size))
    clear hb k0 k1 k2
    go_wp2_with fail
    generalize (we.alloc (.cells #[.int .i64 t0, .int .i64 t1, .string t2, .slice ta tl tc, .slice td te tf] 27)).alloc (.cells #[.int .i64 lit, .int .i64 cot] 29) = wf at *
    refine (HT3.out _).mono ?_
    rintro e wg (⟨he, ⟨v, rfl, hts⟩, hb⟩ | ⟨he, -, rfl, hb⟩)
    · obtain ⟨q1, q2, q3⟩ := HG5.out he
      obtain ⟨va, vc, rfl, -⟩ := hts.form
      replace HB := Lib.hid (HB.out.trans (hb.mono HB.out.size))
      have hbp : Below wg.heap.size wg (wg.alloc (.cells #[.int .i64 0, .int .i64 0] 29)) := (Below.refl _ _).alloc (Nat.le_refl _) _
      replace HB := Lib.hid (HB.out.trans (hbp.mono HB.out.size))
      replace HKz := Lib.hid (HKz.out.of_eq (hb.block _ HKz.out.lt))
      replace HKt := Lib.hid (HKt.out.of_eq (hb.block _ HKt.out.lt))
      replace HKz := Lib.hid (HKz.out.of_eq (hbp.block _ HKz.out.lt))
      replace HKt := Lib.hid (HKt.out.of_eq (hbp.block _ HKt.out.lt))
      obtain ⟨r0, r1⟩ := two_cells HKz.out
      obtain ⟨r2, r3⟩ := two_cells HKt.out
      rw [q1]
      rw [q2] at r2
      rw [q3] at r3
      clear hb hbp hts he q1 q2 q3
      go_wp2_with fail
      go_ret
      exact ⟨rfl, HB.out⟩
    · have hq := HG4.out he
      replace HB := Lib.hid (HB.out.trans (hb.mono HB.out.size))
      obtain ⟨eo, heo⟩ : ∃ q, q = Q.err := ⟨_, rfl⟩
      obtain ⟨lo, hlo⟩ : ∃ q, q = Q.line := ⟨_, rfl⟩
      obtain ⟨co, hco⟩ : ∃ q, q = Q.col := ⟨_, rfl⟩
      have hbp : Below wg.heap.size wg (wg.alloc (.cells #[.int .i64 lo, .int .i64 co] 29)) := (Below.refl _ _).alloc (Nat.le_refl _) _
      replace HB := Lib.hid (HB.out.trans (hbp.mono HB.out.size))
      have q0 : (eo != 0) = true := by rw [heo]; simpa using he
      rw [hq, ← heo, ← hlo, ← hco]
      clear hb hbp he hq heo hlo hco
      go_wp2_with fail
      go_ret
      exact ⟨rfl, HB.out⟩
end Go.Proofs.YtjedahcpkcgpeaaGreatDoor
