/-
  Walks and plain mathematics, several texts in one (Lo Lp Sa Ca Cb).
-/
import Derived.Test.YtjedahcpkcgpeaaGreatDoorH5
import Derived.RegionTactic
import Derived.ChangeAlike
import Derived.Test.YtjedahcpkcgpeaaGreatDoorH1
/-
  Walks of layer 2: the reader's tokens, and Tokens.
-/
namespace Go.Proofs.YtjedahcpkcgpeaaGreatDoor
open Go.RowKit
theorem RdAt.next {w : World} {b : Nat} {s : ByteArray} {j n : Nat} {lim : Int} (h : Rd w b s ((j + n : Nat) : Int) (Pl.lineAt s.toList j) (Pl.startAt s.toList j) lim) (hn : j + n ≤ s.size) (hx : 10 ∉ (s.toList.drop j).take n) : RdAt w b s (j + n) lim := by
  obtain ⟨e1, e2⟩ := Pl.at_on s.toList j n (by rw [Pl.len_size]; exact hn) hx
  unfold RdAt
  rw [e1, e2]; exact h
theorem place_from (b : Nat) (s : ByteArray) (j n m : Nat) (lim : Int) (w : World) (h : Rd w b s m (Pl.lineAt s.toList j) (Pl.startAt s.toList j) lim) (hs : s.size ≤ 100000) (hn : j + n ≤ s.size) (hx : 10 ∉ (s.toList.drop j).take n) :
    Calls Tryz.prog 42 #[.pointer (some ⟨b, 0, none⟩), .int .i64 ((j + n : Nat) : Int)] w fun e w' => e = .returned (.agg #[.int .i64 (Pl.lineAt s.toList (j + n)), .int .i64 (Pl.colAt s.toList (j + n))]) ∧ Below w.heap.size w w' := by
  obtain ⟨e1, e2⟩ := Pl.at_on s.toList j n (by rw [Pl.len_size]; exact hn) hx
  have hr := Pl.startAt_range s.toList j
  have := place_any b s m _ _ lim ((j + n : Nat) : Int) w h hr.1 (by omega) (by omega)
  rw [show (((j + n : Nat) : Int)) - Pl.startAt s.toList j + 1 = Pl.colAt s.toList (j + n) from by rw [← e2]; unfold Pl.startAt; omega, ← e1] at this
  exact this
set_option maxRecDepth 100000 in
set_option maxHeartbeats 4000000 in
theorem tokens_any (b : Nat) (s : ByteArray) (w : World) (O : Pl.Out) (h : RdAt w b s 0 20000) (hs : s.size ≤ 16384) (hO : Pl.toksF (s.size + 1) s.toList 0 [] = O) :
    Calls Tryz.prog 25 #[.pointer (some ⟨b, 0, none⟩)] w (OutPost b w O) := by
  obtain ⟨i9, hi, hz0, hz1, hz2⟩ := info_parts tokenInfo
  have hr := Rd.alloc h (.cells #[.int .i64 0, .int .i64 0] 29)
  have hk := blk_new w #[.int .i64 0, .int .i64 0] 29
  have ho : Only b w (w.alloc (.cells #[.int .i64 0, .int .i64 0] 29)) := (Only.refl b w).alloc _
  have hlt := Rd.lt h
  have hsz : (w.alloc (.cells #[.int .i64 0, .int .i64 0] 29)).heap.size = w.heap.size + 1 := by simp
  have hne : b ≠ w.heap.size := Nat.ne_of_lt hlt
  have hls := Pl.len_size s
  have HI := Lib.hid (And.intro hi (And.intro hz0 (And.intro hz1 hz2)))
  have HOUT := Lib.hid hO
  have HLS := Lib.hid hls
  clear h hi hz0 hz1 hz2 hO hls
  go_enter Tryz.func25, Tryz.ntmps25
  go_wp2
  generalize w.alloc (.cells #[.int .i64 0, .int .i64 0] 29) = w0 at hr hk ho hsz ⊢
  have HT0 : Hid (TS b s w w0 0 (.slice none 0 0) []) := ⟨hlt, hr, hk, World.ownsRow_nil _ _ _ _, ho, by omega⟩
  clear hr hk ho hsz
  go_loopg [5] (s.size + 1) (fun g v wr => ∃ (i : Nat) (acc : List Pl.Tok), Pl.Ok g s.toList i acc O ∧ TS b s w wr i v acc)
  case atStart => exact ⟨0, [], ⟨by rw [HLS.out]; omega, Nat.zero_le _, Nat.zero_le _, HOUT.out⟩, HT0.out⟩
  case round =>
    obtain ⟨i, acc, hok, hts⟩ := hrel
    obtain ⟨A, cp, rfl⟩ := hts.form
    have HOK := Lib.hid hok
    have HTS := Lib.hid hts
    have hi1 : i ≤ s.size := by rw [← HLS.out]; exact hok.2.1
    have hacc : acc.length ≤ i := hok.2.2.1
    have hgap := gap_any b s i 20000 wr hts.rd hi1 (by omega)
    have hbd := Pl.gap_bound s i hi1
    cases hg : (Pl.gap (s.toList.drop i)).2
    · have HG := Lib.hid hgap
      have hgv : gapVal s.toList i (Pl.gap (s.toList.drop i)) = .tuple #[.agg #[.int .i64 0, .int .i64 0], .int .i64 0] := by unfold gapVal; rw [hg]; rfl
      have HGV := Lib.hid hgv
      have HGG := Lib.hid hg
      clear hgv hg hgap hok hts
      go_wp2_with fail
      refine HG.out.mono ?_
      rintro e w1 ⟨m, hm1, hm2, he, hr1, ho1⟩
      rw [HGV.out] at he
      subst he
      obtain rfl := hm2 HGG.out
      clear hm2 hm1
      have hra := Rd.alloc hr1 (.cells #[.int .i64 0, .int .i64 0] 29)
      have hoa := ho1.alloc (.cells #[.int .i64 0, .int .i64 0] 29)
      have c1 := hra.c1
      generalize hj : i + (Pl.gap (s.toList.drop i)).1 = j at *
      have HJ := Lib.hid hj
      have HRA := Lib.hid hra
      have HOA := Lib.hid hoa
      clear hra hoa hr1 ho1 hj
      go_wp2_with fail
      refine (place_at b s j 20000 _ HRA.out (by omega) hbd).mono ?_
      rintro e w2 ⟨rfl, hb2⟩
      clear c1
      have HR2 : Hid (RdAt w2 b s j 20000) := Rd.below HRA.out hb2 (Rd.lt HRA.out)
      have HO2 := Lib.hid (HOA.out.below hb2 HOA.out.size)
      clear hb2
      generalize hli : Pl.lineAt s.toList j = li
      generalize hco : Pl.colAt s.toList j = co
      have HLI := Lib.hid hli
      have HCO := Lib.hid hco
      clear hli hco
      go_wp2
      have hrb := Rd.alloc HR2.out (.cells #[.int .i64 li, .int .i64 co] 29)
      have hob := HO2.out.alloc (.cells #[.int .i64 li, .int .i64 co] 29)
      have hkb := blk_new w2 #[.int .i64 li, .int .i64 co] 29
      have hsb : w2.heap.size < (w2.alloc (.cells #[.int .i64 li, .int .i64 co] 29)).heap.size := by simp
      have hw2 := HO2.out.size
      have hne2 : b ≠ w2.heap.size := Nat.ne_of_lt (Rd.lt HR2.out)
      generalize w2.alloc (.cells #[.int .i64 li, .int .i64 co] 29) = wB at hrb hob hkb hsb ⊢
      have c0 := hrb.c0
      have c1 := hrb.c1
      have HRB : Hid (RdAt wB b s j 20000) := hrb
      have HOB := Lib.hid hob
      have HKB := Lib.hid hkb
      clear hrb hob hkb
      by_cases hend : j = s.size
      · have q1 : ((j : Int) == (s.size : Int)) = true := beq_iff_eq.2 (by omega)
        have ho := Pl.ok_end _ _ _ _ _ HOK.out HGG.out (by rw [HJ.out, HLS.out]; exact hend)
        rw [HJ.out, HLI.out, HCO.out] at ho
        have HO := Lib.hid ho
        clear hend ho
        go_quiet (fail)
        clear c0 c1
        obtain ⟨d0, d1, e0, e1⟩ := psAt_of HKB.out
        have hts2 := HTS.out.step (HOB.out.drewN nq) (HRB.out.drewN nq)
        go_wp2_with (at_builtin; refine wpList_append_own _ rfl _ _ 33 rfl (w.heap.size + 1) 45 i9 (.agg #[.int .i64 0, .string ⟨#[]⟩, .int .i64 0, .int .i64 0]) 4 40 Tryz.underlying33 HI.out.1 HI.out.2.1 HI.out.2.2.1 HI.out.2.2.2 rfl (by decide) _ _ _ rfl (hts2.own.alloc _) ⟨wB.heap.size, 0, none⟩ 1 1 (tokCells ⟨8, [], li, co⟩) rfl rfl ?c1 ?c2 ?c3 ?c4 ?c5 ?_)
        case c1 =>
          intro q u hq
          match q, hq with
          | 0, hq => obtain rfl := Option.some.inj hq; exact (blk_new (wB.drewN nq) #[.int .i64 8, .string ⟨#[]⟩, .int .i64 li, .int .i64 co] 45).cell 0 _ rfl
          | 1, hq => obtain rfl := Option.some.inj hq; exact (blk_new (wB.drewN nq) #[.int .i64 8, .string ⟨#[]⟩, .int .i64 li, .int .i64 co] 45).cell 1 _ rfl
          | 2, hq => obtain rfl := Option.some.inj hq; exact (blk_new (wB.drewN nq) #[.int .i64 8, .string ⟨#[]⟩, .int .i64 li, .int .i64 co] 45).cell 2 _ rfl
          | 3, hq => obtain rfl := Option.some.inj hq; exact (blk_new (wB.drewN nq) #[.int .i64 8, .string ⟨#[]⟩, .int .i64 li, .int .i64 co] 45).cell 3 _ rfl
        case c2 => exact tokCells_one _
        case c3 => unfold maxLen; omega
        case c4 => omega
        case c5 => have := HTS.out.size; have := HOB.out.size; simp; omega
        intro v' w4 hown' hgrow _
        have hts4 := HTS.out.grow ((HOB.out.drewN nq).alloc _) (Rd.alloc (HRB.out.drewN nq) _) hown' hgrow
        clear hown' hgrow hts2 d0 d1 e0 e1
        obtain ⟨d0, d1, e0, e1⟩ := psAt_of hts4.res
        have HT4 := Lib.hid hts4
        clear hts4
        go_wp2
        obtain ⟨f0, f1, -, -⟩ := psAt_of (ps_put HT4.out.res (.int .i64 0) (.int .i64 0))
        refine bodyPost_ret (v := .tuple #[v', .agg #[.int .i64 0, .int .i64 0], .int .i64 0]) (by simp [results, Tryz.results25, go_sem, f0, f1]) rfl ?_
        rw [HO.out]
        exact .inl ⟨rfl, ⟨v', rfl, ownsRow_setCell_below (ownsRow_setCell_below HT4.out.own (a := ⟨w.heap.size, 0, none⟩) (Nat.lt_succ_self _) _) (a := ⟨w.heap.size, 1, none⟩) (Nat.lt_succ_self _) _⟩, only_put2 HT4.out.only (Nat.le_refl _) _ _⟩
      · have q1 : ((j : Int) == (s.size : Int)) = false := beq_eq_false_iff_ne.2 (by omega)
        have q2 : ((acc.length : Int) == 20000) = false := beq_eq_false_iff_ne.2 (by omega)
        have hjl : j < s.size := by omega
        have hnil : s.toList.drop j ≠ [] := by
          intro h
          have := congrArg List.length h
          rw [List.length_drop, HLS.out] at this
          simp at this; omega
        have hfine := Pl.fine_tok _ hnil
        have htok := fun W (hW : RdAt W b s j 20000) => token_any b s j _ _ 20000 W hW hjl (by omega)
        have c4 := Rd.c4 HRB.out
        generalize hT : Pl.tok (s.toList.drop j) = T at hfine htok
        have HTK := Lib.hid htok
        have HF := Lib.hid hfine
        have HTT := Lib.hid hT
        clear hnil htok hfine hT
        go_quiet (fail)
        clear c0 c1
        go_wp2_with fail
        refine (HTK.out _ (HRB.out.drewN _)).mono ?_
        rintro e w3 ⟨m, p, hm, hp, rfl, hr3, ho3⟩
        by_cases he : T.err = 0
        · have t1 : (T.err != 0) = false := by rw [he]; rfl
          obtain rfl := hm he
          have HE := Lib.hid he
          clear hm hp he
          obtain ⟨hf1, hf2, hf3⟩ := HF.out.1 HE.out
          rw [List.length_drop, HLS.out] at hf2
          have hok2 := Pl.ok_next _ _ _ _ _ HOK.out (by rw [HLS.out]; omega) HGG.out (by rw [HJ.out, HLS.out]; omega) (by rw [HJ.out, HTT.out]; exact HE.out) (by rw [HJ.out, HTT.out]; exact hf1) (by rw [HJ.out, HTT.out, HLS.out]; omega)
          rw [HJ.out, HTT.out, HLI.out, HCO.out] at hok2
          have HOK2 := Lib.hid hok2
          have hr3b := RdAt.next hr3 (by omega) hf3
          have hts3 := HTS.out.step ((HOB.out.drewN nq).trans ho3) hr3b
          generalize hkd : T.kind = kd
          generalize htx : Pl.mk T.text = tx
          have HTC := Lib.hid (show tokCells ⟨T.kind, T.text, li, co⟩ = [.int .i64 kd, .string tx, .int .i64 li, .int .i64 co] from by rw [← hkd, ← htx]; rfl)
          clear hok2 hf3 hkd htx
          unfold tkc
          have hk3 := ho3.blk (HKB.out.drewN nq) hne2.symm
          obtain ⟨d0, d1, -, -⟩ := psAt_of hk3
          have hw23 : w2.heap.size < w3.heap.size := Nat.lt_of_lt_of_le hsb ho3.size
          have hbn := blk_new (w3.alloc (.cells #[.int .i64 kd, .string tx, .int .i64 li, .int .i64 co] 45)) #[.int .i64 kd, .string tx, .int .i64 li, .int .i64 co] 45
          rw [World.size_alloc] at hbn
          have HR3 := Lib.hid hr3b
          have HO3 := Lib.hid ((HOB.out.drewN nq).trans ho3)
          have hsz3 : w.heap.size + 1 ≤ w3.heap.size := hts3.size
          clear hk3 hr3 ho3 hr3b
          go_wp2_with (at_builtin; refine wpList_append_own _ rfl _ _ 33 rfl (w.heap.size + 1) 45 i9 (.agg #[.int .i64 0, .string ⟨#[]⟩, .int .i64 0, .int .i64 0]) 4 40 Tryz.underlying33 HI.out.1 HI.out.2.1 HI.out.2.2.1 HI.out.2.2.2 rfl (by decide) _ _ _ rfl ((hts3.own.alloc _).alloc _) ⟨w3.heap.size + 1, 0, none⟩ 1 1 [.int .i64 kd, .string tx, .int .i64 li, .int .i64 co] rfl rfl ?g1 ?g2 ?g3 ?g4 ?g5 ?_)
          case g1 =>
            intro q u hq
            match q, hq with
            | 0, hq => obtain rfl := Option.some.inj hq; exact hbn.cell 0 _ rfl
            | 1, hq => obtain rfl := Option.some.inj hq; exact hbn.cell 1 _ rfl
            | 2, hq => obtain rfl := Option.some.inj hq; exact hbn.cell 2 _ rfl
            | 3, hq => obtain rfl := Option.some.inj hq; exact hbn.cell 3 _ rfl
          case g2 =>
            intro u hu
            rw [← HTC.out] at hu
            exact tokCells_one _ u hu
          case g3 => unfold maxLen; omega
          case g4 => omega
          case g5 => simp; omega
          intro v' w4 hown' hgrow _
          rw [← HTC.out] at hown'
          have HT4 := Lib.hid (HTS.out.grow ((HO3.out.alloc _).alloc _) (Rd.alloc (Rd.alloc HR3.out _) _) hown' hgrow)
          clear hown' hgrow hts3 d0 d1 hbn
          go_wp2
          have hgk := HOK.out.1
          have hgk2 := HOK.out.2.1
          go_roundg (gk - 1)
          case measure => omega
          case rel => exact ⟨j + T.len, _, HOK2.out, HT4.out⟩
        · have t1 : (T.err != 0) = true := by simpa using he
          obtain rfl := hp he
          obtain ⟨hf1, hf2⟩ := HF.out.2 he
          rw [List.length_drop, HLS.out] at hf1
          have ho := Pl.ok_bad _ _ _ _ _ HOK.out (by rw [HLS.out]; omega) HGG.out (by rw [HJ.out, HLS.out]; omega) (by rw [HJ.out, HTT.out]; exact he)
          rw [HJ.out, HTT.out] at ho
          have HO := Lib.hid ho
          have hts3 := (HOB.out.drewN nq).trans ho3
          have hk3 := ho3.blk ((HOB.out.drewN nq).blk HTS.out.res hne.symm) hne.symm
          have hw3 := hts3.size
          have hw4 := HTS.out.size
          generalize hkd : T.kind = kd
          generalize htx : Pl.mk T.text = tx
          have HE := Lib.hid he
          have HR3 := Lib.hid (Rd.alloc hr3 (.cells #[.int .i64 kd, .string tx, .int .i64 0, .int .i64 0] 45))
          have HK3 := Lib.hid (hk3.alloc (.cells #[.int .i64 kd, .string tx, .int .i64 0, .int .i64 0] 45))
          have HO3 := Lib.hid ((HTS.out.only.trans hts3).alloc (.cells #[.int .i64 kd, .string tx, .int .i64 0, .int .i64 0] 45))
          have HF2 := Lib.hid hf2
          clear hm hp he ho hkd htx hk3 hts3 hr3 ho3 hf2
          unfold tkc
          go_wp2_with fail
          refine (place_from b s j T.pos m 20000 _ HR3.out (by omega) (by omega) HF2.out).mono ?_
          rintro e w5 ⟨rfl, hb5⟩
          generalize Pl.lineAt s.toList (j + T.pos) = li2 at HO ⊢
          generalize Pl.colAt s.toList (j + T.pos) = co2 at HO ⊢
          have HK5 := Lib.hid (HK3.out.below hb5 (by simp; omega))
          have HO5 := Lib.hid (HO3.out.below hb5 (by simp; omega))
          clear hb5
          obtain ⟨d0, d1, e0, e1⟩ := psAt_of HK5.out
          go_wp2
          obtain ⟨f0, f1, -, -⟩ := psAt_of (ps_put HK5.out (.int .i64 li2) (.int .i64 co2))
          refine bodyPost_ret (v := .tuple #[.slice none 0 0, .agg #[.int .i64 li2, .int .i64 co2], .int .i64 T.err]) (by simp [results, Tryz.results25, go_sem, f0, f1]) rfl ?_
          rw [HO.out]
          exact .inr ⟨HE.out, rfl, rfl, only_put2 HO5.out (Nat.le_refl _) _ _⟩
    · have HO := Lib.hid (Pl.ok_open _ _ _ _ _ hok hg)
      have HG := Lib.hid hgap
      have hgv : gapVal s.toList i (Pl.gap (s.toList.drop i)) = .tuple #[.agg #[.int .i64 (Pl.lineAt s.toList (i + (Pl.gap (s.toList.drop i)).1)), .int .i64 (Pl.colAt s.toList (i + (Pl.gap (s.toList.drop i)).1))], .int .i64 4] := by unfold gapVal; rw [hg]; rfl
      have HGV := Lib.hid hgv
      clear hgv hg hgap hok hts
      go_wp2_with fail
      refine HG.out.mono ?_
      rintro e w1 ⟨m, hm1, hm2, he, hr1, ho1⟩
      rw [HGV.out] at he
      subst he
      generalize Pl.lineAt s.toList (i + (Pl.gap (s.toList.drop i)).1) = li at HO
      generalize Pl.colAt s.toList (i + (Pl.gap (s.toList.drop i)).1) = co at HO
      have hres := (ho1.blk HTS.out.res hne.symm).alloc (.cells #[.int .i64 li, .int .i64 co] 29)
      have hwr := blk_new w1 #[.int .i64 li, .int .i64 co] 29
      have honly := (HTS.out.only.trans ho1).alloc (.cells #[.int .i64 li, .int .i64 co] 29)
      have hne3 : w.heap.size ≠ w1.heap.size := by have := HTS.out.size; have := ho1.size; omega
      clear hr1 ho1 hm2
      go_wp2
      generalize w1.alloc (.cells #[.int .i64 li, .int .i64 co] 29) = wd at hres hwr honly ⊢
      obtain ⟨d0, d1, e0, e1⟩ := psAt_of hres
      obtain ⟨g0, g1, -, -⟩ := psAt_of hwr
      have HRES := Lib.hid hres
      have HONLY := Lib.hid honly
      clear hres hwr honly
      go_region
      all_goals
        go_wp2
        obtain ⟨f0, f1, -, -⟩ := psAt_of (ps_put HRES.out (.int .i64 li) (.int .i64 co))
        refine bodyPost_ret (v := .tuple #[.slice none 0 0, .agg #[.int .i64 li, .int .i64 co], .int .i64 4]) (by simp [results, Tryz.results25, go_sem, f0, f1]) rfl ?_
        rw [HO.out]
        exact .inr ⟨show ¬ (4 : Int) = 0 by decide, rfl, rfl, (only_put2 HONLY.out (Nat.le_refl _) _ _).drew⟩
end Go.Proofs.YtjedahcpkcgpeaaGreatDoor

/-
  Walks of layer 2: Tokens, and the examples that every law begins with.
-/
namespace Go.Proofs.YtjedahcpkcgpeaaGreatDoor
open Go.RowKit
def TokAt (w : World) (b off : Nat) (t : Pl.Tok) : Prop :=
  w.cell? ⟨b, off, none⟩ = some (.int .i64 t.kind) ∧ w.cell? ⟨b, off + 1, none⟩ = some (.string (Pl.mk t.text)) ∧ w.cell? ⟨b, off + 2, none⟩ = some (.int .i64 t.line) ∧ w.cell? ⟨b, off + 3, none⟩ = some (.int .i64 t.col)
def TokSlice (w : World) (v : Value) (ts : List Pl.Tok) : Prop :=
  (ts = [] ∧ ∃ a c, v = .slice a 0 c) ∨
  ∃ b off c, v = .slice (some ⟨b, off, none⟩) ts.length c ∧ 1 ≤ ts.length ∧ ts.length ≤ c ∧ c ≤ maxLen ∧ b < w.heap.size ∧ ∀ j (hj : j < ts.length), TokAt w b (off + 4 * j) ts[j]
theorem TokAt.below {w w' : World} {b off B : Nat} {t : Pl.Tok} (h : TokAt w b off t) (hb : Below B w w') (hB : b < B) : TokAt w' b off t := by
  obtain ⟨h1, h2, h3, h4⟩ := h
  refine ⟨?_, ?_, ?_, ?_⟩
  · rw [hb.cell (p := ⟨b, off, none⟩) hB]; exact h1
  · rw [hb.cell (p := ⟨b, off + 1, none⟩) hB]; exact h2
  · rw [hb.cell (p := ⟨b, off + 2, none⟩) hB]; exact h3
  · rw [hb.cell (p := ⟨b, off + 3, none⟩) hB]; exact h4
theorem cells_at : ∀ (l : List Pl.Tok) (j : Nat) (hj : j < l.length), (cells l)[4 * j]? = some (.int .i64 (l[j]).kind) ∧ (cells l)[4 * j + 1]? = some (.string (Pl.mk (l[j]).text)) ∧ (cells l)[4 * j + 2]? = some (.int .i64 (l[j]).line) ∧ (cells l)[4 * j + 3]? = some (.int .i64 (l[j]).col) := by
  intro l
  induction l with
  | nil => intro j hj; exact absurd hj (Nat.not_lt_zero _)
  | cons t r ih =>
    intro j hj
    have hc : cells (t :: r) = tokCells t ++ cells r := by unfold cells; rw [List.flatMap_cons]
    have hl : (tokCells t).length = 4 := rfl
    cases j with
    | zero => rw [hc]; exact ⟨rfl, rfl, rfl, rfl⟩
    | succ j =>
      have := ih j (by simpa using hj)
      have e : ∀ q, (tokCells t ++ cells r)[4 * (j + 1) + q]? = (cells r)[4 * j + q]? := fun q => by
        rw [List.getElem?_append_right (by rw [hl]; omega), hl]
        congr 1; omega
      rw [hc]
      refine ⟨(e 0).trans this.1, (e 1).trans this.2.1, (e 2).trans this.2.2.1, (e 3).trans this.2.2.2⟩
theorem tokSlice_owns {w : World} {base : Nat} {v : Value} {ts : List Pl.Tok} (h : w.ownsRow base 45 4 v ts.length (cells ts)) : TokSlice w v ts := by
  have hf := h.2
  rcases hf with ⟨hv, h0⟩ | ⟨g, cap, cur, rfl, _, hg, hn, hm, _, _⟩
  · exact .inl ⟨List.eq_nil_of_length_eq_zero h0, none, 0, hv⟩
  · rcases Nat.eq_zero_or_pos ts.length with h0 | h1
    · exact .inl ⟨List.eq_nil_of_length_eq_zero h0, _, _, by rw [h0]⟩
    · have hlt : g < w.heap.size := by
        rcases Nat.lt_or_ge g w.heap.size with hb | hb
        · exact hb
        · have hx : w.heap[g]? = none := by simp; omega
          rw [hx] at hg; cases hg
      refine .inr ⟨g, 0, cap, rfl, h1, hn, hm, hlt, fun j hj => ?_⟩
      obtain ⟨e1, e2, e3, e4⟩ := cells_at ts j hj
      rw [Nat.zero_add]
      have hlen := cells_length ts
      refine ⟨?_, ?_, ?_, ?_⟩
      · rw [h.cellAt _ (by omega)]; exact e1
      · rw [h.cellAt _ (by omega)]; exact e2
      · rw [h.cellAt _ (by omega)]; exact e3
      · rw [h.cellAt _ (by omega)]; exact e4
def TokensPost (w : World) (O : Pl.Out) (e : Ending) (w' : World) : Prop :=
  (O.err = 0 ∧ (∃ v, e = .returned (.tuple #[v, .agg #[.int .i64 0, .int .i64 0], .int .i64 0]) ∧ TokSlice w' v O.toks) ∧ Below w.heap.size w w') ∨
  (O.err ≠ 0 ∧ O.toks = [] ∧ e = .returned (.tuple #[.slice none 0 0, .agg #[.int .i64 O.line, .int .i64 O.col], .int .i64 O.err]) ∧ Below w.heap.size w w')
set_option maxRecDepth 100000 in
set_option maxHeartbeats 1000000 in
theorem lexTokens_any (s : ByteArray) (w : World) (hs : s.size ≤ maxLen) :
    Calls Tryz.prog 9 #[.string s] w (TokensPost w (Pl.tokens s.toList)) := by
  unfold maxLen at hs
  have hb0 : Below w.heap.size w (w.alloc (.cells #[.int .i64 0, .int .i64 0] 29)) := (Below.refl _ _).alloc (Nat.le_refl _) _
  have hk0 := blk_new w #[.int .i64 0, .int .i64 0] 29
  have hsz0 : (w.alloc (.cells #[.int .i64 0, .int .i64 0] 29)).heap.size = w.heap.size + 1 := by simp
  by_cases hl : 16384 < s.size
  · have hl2 : decide ((16384 : Int) < (s.size : Int)) = true := by simp; omega
    have HO := Lib.hid (show Pl.tokens s.toList = ⟨[], 0, 0, 5⟩ from by unfold Pl.tokens; rw [if_pos (by rw [Pl.len_size]; exact hl)])
    have HB := Lib.hid hb0
    clear hk0 hsz0 hb0
    go_enter Tryz.func9, Tryz.ntmps9
    go_wp2
    refine bodyPost_ret (v := .tuple #[.slice none 0 0, .agg #[.int .i64 0, .int .i64 0], .int .i64 5]) (by simp [results, Tryz.results9, go_sem]) rfl ?_
    rw [HO.out]
    exact .inr ⟨show ¬ (5 : Int) = 0 by decide, rfl, rfl, HB.out⟩
  · have hl2 : decide ((16384 : Int) < (s.size : Int)) = false := by simp; omega
    have hO : Pl.tokens s.toList = Pl.toksF (s.size + 1) s.toList 0 [] := by unfold Pl.tokens; rw [if_neg (by rw [Pl.len_size]; exact hl), Pl.len_size]
    generalize hT : Pl.toksF (s.size + 1) s.toList 0 [] = O at hO
    rw [hO]
    have HT := Lib.hid hT
    clear hO hT
    go_enter Tryz.func9, Tryz.ntmps9
    go_wp2_with fail
    have hrd := blk_new (w.alloc (.cells #[.int .i64 0, .int .i64 0] 29)) #[.string s, .int .i64 0, .int .i64 1, .int .i64 0, .int .i64 20000] 57
    have hk1 := hk0.alloc (.cells #[.string s, .int .i64 0, .int .i64 1, .int .i64 0, .int .i64 20000] 57)
    have hb1 := hb0.alloc (by simp) (.cells #[.string s, .int .i64 0, .int .i64 1, .int .i64 0, .int .i64 20000] 57)
    have hsz1 : ((w.alloc (.cells #[.int .i64 0, .int .i64 0] 29)).alloc (.cells #[.string s, .int .i64 0, .int .i64 1, .int .i64 0, .int .i64 20000] 57)).heap.size = w.heap.size + 2 := by simp
    rw [hsz0] at hrd
    generalize (w.alloc (.cells #[.int .i64 0, .int .i64 0] 29)).alloc (.cells #[.string s, .int .i64 0, .int .i64 1, .int .i64 0, .int .i64 20000] 57) = w1 at hrd hk1 hb1 hsz1 ⊢
    have hat : RdAt w1 (w.heap.size + 1) s 0 20000 := hrd
    refine (tokens_any (w.heap.size + 1) s w1 O hat (by omega) HT.out).mono ?_
    rintro e w2 (⟨he, ⟨v, rfl, hown⟩, ho⟩ | ⟨he, htk, rfl, ho⟩)
    · have hs2 := tokSlice_owns hown
      have hb2 := ho.to (B := w.heap.size + 1) (Nat.le_refl _) (by omega)
      have hk2 := hk1.below hb2 (Nat.lt_succ_self _)
      obtain ⟨d0, d1, e0, e1⟩ := psAt_of hk2
      have HK2 := Lib.hid hk2
      have HB2 := Lib.hid (hb1.trans (hb2.mono (Nat.le_succ _)))
      have HOW := Lib.hid hown
      have HE := Lib.hid he
      have HSZ := Lib.hid hsz1
      clear hs2 hb2 hk2 hb1 hk1 hb0 hk0 hrd hat ho hown he hsz0 hsz1
      go_wp2
      obtain ⟨f0, f1, -, -⟩ := psAt_of (ps_put HK2.out (.int .i64 0) (.int .i64 0))
      refine bodyPost_ret (v := .tuple #[v, .agg #[.int .i64 0, .int .i64 0], .int .i64 0]) (by simp [results, Tryz.results9, go_sem, f0, f1]) rfl ?_
      refine .inl ⟨HE.out, ⟨v, rfl, tokSlice_owns (ownsRow_setCell_below (ownsRow_setCell_below HOW.out (a := ⟨w.heap.size, 0, none⟩) ?_ _) (a := ⟨w.heap.size, 1, none⟩) ?_ _)⟩, (HB2.out.setCell (Nat.le_refl _) _).setCell (Nat.le_refl _) _⟩
      · show w.heap.size < w1.heap.size + 1; rw [HSZ.out]; omega
      · show w.heap.size < w1.heap.size + 1; rw [HSZ.out]; omega
    · have hb2 := ho.to (B := w.heap.size + 1) (Nat.le_refl _) (by omega)
      have hk2 := hk1.below hb2 (Nat.lt_succ_self _)
      obtain ⟨d0, d1, e0, e1⟩ := psAt_of hk2
      have HK2 := Lib.hid hk2
      have HB2 := Lib.hid (hb1.trans (hb2.mono (Nat.le_succ _)))
      have HE := Lib.hid he
      have HTK := Lib.hid htk
      clear hb2 hk2 hb1 hk1 hb0 hk0 hrd hat ho he htk hsz0 hsz1
      go_wp2
      obtain ⟨f0, f1, -, -⟩ := psAt_of (ps_put HK2.out (.int .i64 O.line) (.int .i64 O.col))
      refine bodyPost_ret (v := .tuple #[.slice none 0 0, .agg #[.int .i64 O.line, .int .i64 O.col], .int .i64 O.err]) (by simp [results, Tryz.results9, go_sem, f0, f1]) rfl ?_
      exact .inr ⟨HE.out, HTK.out, rfl, (HB2.out.setCell (Nat.le_refl _) _).setCell (Nat.le_refl _) _⟩
end Go.Proofs.YtjedahcpkcgpeaaGreatDoor

/-
  Plain mathematics of layer 3: trees, their sizes and depths, and what a tree holds. No program.
-/
namespace Go.Proofs.YtjedahcpkcgpeaaGreatDoor.Pl
open Go
structure Syn where
  op : Int
  n : Int
  s : ByteArray
  names : List ByteArray
  l : List Syn
instance : Inhabited Syn := ⟨⟨0, 0, ByteArray.empty, [], []⟩⟩
def none0 : Syn := ⟨0, 0, ByteArray.empty, [], []⟩
mutual
def Syn.size : Syn → Nat
  | ⟨_, _, _, _, l⟩ => 1 + sizes l
def sizes : List Syn → Nat
  | [] => 0
  | t :: r => t.size + sizes r
end
mutual
def Syn.depth : Syn → Nat
  | ⟨_, _, _, _, l⟩ => depths l + 1
def depths : List Syn → Nat
  | [] => 0
  | t :: r => max t.depth (depths r)
end
mutual
def Syn.big : Syn → Nat
  | ⟨_, _, _, names, l⟩ => 1 + names.length + bigs l
def bigs : List Syn → Nat
  | [] => 0
  | t :: r => t.big + bigs r
end
theorem size_eq (t : Syn) : t.size = 1 + sizes t.l := by cases t; rw [Syn.size]
theorem depth_eq (t : Syn) : t.depth = depths t.l + 1 := by cases t; rw [Syn.depth]
theorem big_eq (t : Syn) : t.big = 1 + t.names.length + bigs t.l := by cases t; rw [Syn.big]
theorem sizes_nil : sizes [] = 0 := by rw [sizes]
theorem sizes_cons (t : Syn) (r : List Syn) : sizes (t :: r) = t.size + sizes r := by rw [sizes]
theorem depths_nil : depths [] = 0 := by rw [depths]
theorem depths_cons (t : Syn) (r : List Syn) : depths (t :: r) = max t.depth (depths r) := by rw [depths]
theorem bigs_nil : bigs [] = 0 := by rw [bigs]
theorem bigs_cons (t : Syn) (r : List Syn) : bigs (t :: r) = t.big + bigs r := by rw [bigs]
theorem bigs_app (a b : List Syn) : bigs (a ++ b) = bigs a + bigs b := by
  induction a with
  | nil => rw [bigs_nil]; simp
  | cons t r ih => rw [List.cons_append, bigs_cons, bigs_cons, ih]; omega
theorem size_pos (t : Syn) : 1 ≤ t.size := by rw [size_eq]; omega
theorem depth_pos (t : Syn) : 1 ≤ t.depth := by rw [depth_eq]; omega
theorem mem_size {t : Syn} {l : List Syn} (h : t ∈ l) : t.size ≤ sizes l := by
  induction l with
  | nil => cases h
  | cons a r ih =>
    rw [sizes_cons]
    cases h with
    | head => omega
    | tail _ h => have := ih h; omega
theorem mem_big {t : Syn} {l : List Syn} (h : t ∈ l) : t.big ≤ bigs l := by
  induction l with
  | nil => cases h
  | cons a r ih =>
    rw [bigs_cons]
    cases h with
    | head => omega
    | tail _ h => have := ih h; omega
theorem len_sizes (l : List Syn) : l.length ≤ sizes l := by
  induction l with
  | nil => rw [sizes_nil]; exact Nat.le_refl _
  | cons a r ih => rw [sizes_cons, List.length_cons]; have := size_pos a; omega
theorem sizes_bigs_of (l : List Syn) (h : ∀ t ∈ l, t.size ≤ t.big) : sizes l ≤ bigs l := by
  induction l with
  | nil => rw [sizes_nil, bigs_nil]; exact Nat.le_refl _
  | cons a r ih =>
    rw [sizes_cons, bigs_cons]
    have h1 := h a List.mem_cons_self
    have h2 := ih (fun t ht => h t (List.mem_cons_of_mem _ ht))
    omega
theorem Syn.ind {P : Syn → Prop} (h : ∀ t : Syn, (∀ x ∈ t.l, P x) → P t) : ∀ t, P t := by
  have main : ∀ (n : Nat) (t : Syn), t.size ≤ n → P t := by
    intro n
    induction n with
    | zero => intro t ht; have := size_pos t; omega
    | succ n ih =>
      intro t ht
      refine h t (fun x hx => ih x ?_)
      have := mem_size hx
      rw [size_eq] at ht
      omega
  exact fun t => main t.size t (Nat.le_refl _)
theorem size_big (t : Syn) : t.size ≤ t.big := by
  induction t using Syn.ind with
  | h t ih =>
    rw [size_eq, big_eq]
    have := sizes_bigs_of t.l ih
    omega
theorem len_big (t : Syn) : t.l.length + t.names.length < t.big := by
  rw [big_eq]
  have h1 := len_sizes t.l
  have h2 := sizes_bigs_of t.l (fun x _ => size_big x)
  omega
def hasPath (op : Int) : Bool := decide (op = 2 ∨ op = 5 ∨ op = 14 ∨ op = 23 ∨ op = 24 ∨ op = 34 ∨ op = 48 ∨ op = 49 ∨ op = 66 ∨ op = 72 ∨ op = 74 ∨ op = 82)
mutual
def Syn.paths : Syn → List (List ByteArray)
  | ⟨op, _, _, names, l⟩ => (if hasPath op then [names] else []) ++ pathss l
def pathss : List Syn → List (List ByteArray)
  | [] => []
  | t :: r => t.paths ++ pathss r
end
def put : List Int → Syn → Syn → Option Syn
  | [], _, by' => some by'
  | i :: r, t, by' => if h : 0 ≤ i ∧ i.toNat < t.l.length then (put r (t.l[i.toNat]'h.2) by').map (fun x => { t with l := t.l.set i.toNat x }) else none
end Go.Proofs.YtjedahcpkcgpeaaGreatDoor.Pl

/-
  Plain mathematics of layer 4: the parser, as functions on lists of tokens. No program.
-/
namespace Go.Proofs.YtjedahcpkcgpeaaGreatDoor.Pl
open Go
inductive PR (α : Type) where
  | ok (v : α) (i : Nat)
  | bad (i : Nat)
def PR.then {α β : Type} (r : PR α) (f : α → Nat → PR β) : PR β := match r with
  | .ok v i => f v i
  | .bad i => .bad i
theorem PR.then_ok {α β : Type} (v : α) (i : Nat) (f : α → Nat → PR β) : (PR.ok v i).then f = f v i := rfl
theorem PR.then_bad {α β : Type} (i : Nat) (f : α → Nat → PR β) : (PR.bad i : PR α).then f = .bad i := rfl
theorem PR.then_then {α β γ : Type} (r : PR α) (f : α → Nat → PR β) (g : β → Nat → PR γ) : (r.then f).then g = r.then fun v i => (f v i).then g := by cases r <;> rfl
def tkAt (l : List Tok) (i : Nat) : Tok := l.getD i ⟨8, [], 0, 0⟩
def fixedT (t : Tok) : Bytes := if t.kind = 6 ∨ t.kind = 7 then t.text else []
def passes (l : List Tok) (i : Nat) (b : Bytes) : Bool := fixedT (tkAt l i) == b
def takeK (l : List Tok) (k : Int) (i : Nat) : PR Bytes := if (tkAt l i).kind = k then .ok (tkAt l i).text (i + 1) else .bad i
def needT (l : List Tok) (b : Bytes) (i : Nat) : PR Unit := if passes l i b then .ok () (i + 1) else .bad i
def nd (op : Int) (l : List Syn) : Syn := ⟨op, 0, ByteArray.empty, [], l⟩
def ndNames (op : Int) (names : List ByteArray) (l : List Syn) : Syn := ⟨op, 0, ByteArray.empty, names, l⟩
def ndText (op : Int) (s : Bytes) : Syn := ⟨op, 0, mk s, [], []⟩
def ndNum (op n : Int) : Syn := ⟨op, n, ByteArray.empty, [], []⟩
def tupleOf (op : Int) (l : List Syn) : Syn := match l with
  | [t] => t
  | _ => nd op l
def mpMore (l : List Tok) : Nat → List ByteArray → Nat → PR (List ByteArray)
  | 0, _, i => .bad i
  | n + 1, acc, i => if passes l i [46] then (takeK l 2 (i + 1)).then fun s j => mpMore l n (acc ++ [mk s]) j else .ok acc i
def mpath (l : List Tok) (i : Nat) : PR (List ByteArray) := (takeK l 2 i).then fun s j => mpMore l (l.length + 1) [mk s] j
def tpMore (l : List Tok) : Nat → List ByteArray → Nat → PR (List ByteArray)
  | 0, _, i => .bad i
  | n + 1, acc, i => if (tkAt l i).kind = 2 then (needT l [46] (i + 1)).then fun _ j => tpMore l n (acc ++ [mk (tkAt l i).text]) j else (takeK l 1 i).then fun s j => .ok (acc ++ [mk s]) j
def tpath (l : List Tok) (i : Nat) : PR (List ByteArray) := tpMore l (l.length + 1) [] i
def vpMore (l : List Tok) : Nat → List ByteArray → Nat → PR Syn
  | 0, _, i => .bad i
  | n + 1, acc, i => if (tkAt l i).kind = 2 then (if passes l (i + 1) [46] then vpMore l n (acc ++ [mk (tkAt l i).text]) (i + 2) else .ok (ndNames 24 (acc ++ [mk (tkAt l i).text]) []) (i + 1))
    else (takeK l 1 i).then fun s j => .ok (ndNames 23 (acc ++ [mk s]) []) j
def vpath (l : List Tok) (i : Nat) : PR Syn := vpMore l (l.length + 1) [] i
def sepMore (l : List Tok) (b : Bytes) (read : Nat → PR Syn) : Nat → List Syn → Nat → PR (List Syn)
  | 0, _, i => .bad i
  | n + 1, acc, i => if passes l i b then (read (i + 1)).then fun t j => sepMore l b read n (acc ++ [t]) j else .ok acc i
def sepd (l : List Tok) (b : Bytes) (read : Nat → PR Syn) (i : Nat) : PR (List Syn) := (read i).then fun t j => sepMore l b read (l.length + 1) [t] j
def sigOf (l : List Tok) (i : Nat) : PR Syn := (mpath l i).then fun ns j => .ok (ndNames 72 ns []) j
structure Fs where
  typ : Nat → PR Syn
  prod : Nat → PR Syn
  post : Nat → PR Syn
  simp : Nat → PR (List Syn)
  brack : Nat → PR (List Syn)
  pat : Nat → PR Syn
  arg : Nat → PR Syn
  comps : Nat → PR Syn
  expr : Nat → PR Syn
  oper : Nat → Nat → PR Syn
  neg : Nat → PR Syn
  app : Nat → PR Syn
  atom : Nat → PR Syn
  encl : Nat → PR Syn
  cont : Nat → PR Syn
  letE : Nat → PR Syn
  matchE : Nat → PR Syn
  rule : Nat → PR Syn
  decl : Nat → PR Syn
  named : Nat → PR Syn
  unpk : Nat → PR Syn
section
variable (l : List Tok) (num : Bytes → Int) (F : Fs)
def typB (i : Nat) : PR Syn := (F.prod i).then fun t j => if passes l j [45, 62] then (F.typ (j + 1)).then fun u k => .ok (nd 3 [t, u]) k else .ok t j
def prodB (i : Nat) : PR Syn := (sepd l [42] F.post i).then fun ts j => .ok (tupleOf 4 ts) j
def postMore (l : List Tok) : Nat → List Syn → Nat → PR Syn
  | 0, _, i => .bad i
  | n + 1, ts, i => if 1 < ts.length ∨ (tkAt l i).kind = 1 ∨ (tkAt l i).kind = 2 then (tpath l i).then fun ns j => postMore l n [ndNames 2 ns ts] j else .ok (ts.headD none0) i
def postB (i : Nat) : PR Syn := (F.simp i).then fun ts j => postMore l (l.length + 2) ts j
def simpB (i : Nat) : PR (List Syn) :=
  if (tkAt l i).kind = 3 then .ok [ndText 1 (tkAt l i).text] (i + 1)
  else if passes l i [40] then (F.brack (i + 1)).then fun ts j => (needT l [41] j).then fun _ k => .ok ts k
  else (tpath l i).then fun ns j => .ok [ndNames 2 ns []] j
def brackB (i : Nat) : PR (List Syn) := if passes l i [109, 111, 100, 117, 108, 101] then (mpath l (i + 1)).then fun ns j => .ok [ndNames 5 ns []] j else sepd l [44] F.typ i
def begArg (t : Tok) : Bool := decide (t.kind = 1) || decide (t.kind = 2) || decide (t.kind = 4) || fixedT t == [95] || fixedT t == [126] || fixedT t == [40]
def patB (i : Nat) : PR Syn := if (tkAt l i).kind ≠ 2 then F.arg i else (mpath l i).then fun ns j => if begArg (tkAt l j) then (F.arg j).then fun u k => .ok (ndNames 14 ns [u]) k else .ok (ndNames 14 ns []) j
def argB (i : Nat) : PR Syn :=
  if (tkAt l i).kind = 2 then (mpath l i).then fun ns j => .ok (ndNames 14 ns []) j
  else if (tkAt l i).kind = 4 then .ok (ndNum 13 (num (tkAt l i).text)) (i + 1)
  else if passes l i [95] then .ok (nd 11 []) (i + 1)
  else if passes l i [126] then (takeK l 4 (i + 1)).then fun s j => .ok (ndNum 13 (-(num s))) j
  else if passes l i [40] then F.comps (i + 1)
  else (takeK l 1 i).then fun s j => .ok (ndText 12 s) j
def compsB (i : Nat) : PR Syn := if passes l i [41] then .ok (nd 15 []) (i + 1) else (sepd l [44] F.pat i).then fun ts j => (needT l [41] j).then fun _ k => .ok (tupleOf 15 ts) k
def fnB (i : Nat) : PR Syn :=
  if passes l i [95] then (needT l [61, 62] (i + 1)).then fun _ k => (F.expr k).then fun t m => .ok (nd 25 [t]) m
  else (takeK l 1 i).then fun s j => (needT l [61, 62] j).then fun _ k => (F.expr k).then fun t m => .ok ⟨25, 0, mk s, [], [t]⟩ m
def ifB (i : Nat) : PR Syn :=
  (F.expr i).then fun a j => (needT l [116, 104, 101, 110] j).then fun _ j => (F.expr j).then fun b k => (needT l [101, 108, 115, 101] k).then fun _ k => (F.expr k).then fun c m => .ok (nd 28 [a, b, c]) m
def exprB (i : Nat) : PR Syn := if passes l i [102, 110] then fnB l F (i + 1) else if passes l i [105, 102] then ifB l F (i + 1) else F.oper 1 i
def opOf (t : Tok) : Int × Nat :=
  if fixedT t = [111, 114, 101, 108, 115, 101] then (1, 1)
  else if fixedT t = [97, 110, 100, 97, 108, 115, 111] then (2, 2)
  else if fixedT t = [61] then (3, 3)
  else if fixedT t = [60] then (4, 3)
  else if fixedT t = [60, 61] then (5, 3)
  else if fixedT t = [94] then (6, 4)
  else if fixedT t = [43] then (7, 5)
  else if fixedT t = [45] then (8, 5)
  else if fixedT t = [42] then (9, 6)
  else if fixedT t = [100, 105, 118] then (10, 6)
  else if fixedT t = [109, 111, 100] then (11, 6)
  else (0, 0)
def sideOf (at' : Nat) : Nat × Nat := if at' = 5 ∨ at' = 6 then (at' + 1, at') else if at' = 3 then (at' + 1, at' - 1) else (at', at' - 1)
def operMore : Nat → Nat → Nat → Syn → Nat → PR Syn
  | 0, _, _, _, i => .bad i
  | n + 1, level, most, t, i =>
    if (opOf (tkAt l i)).2 < level ∨ most < (opOf (tkAt l i)).2 then .ok t i
    else (F.oper (sideOf (opOf (tkAt l i)).2).1 (i + 1)).then fun u j => operMore n level (sideOf (opOf (tkAt l i)).2).2 ⟨32, (opOf (tkAt l i)).1, ByteArray.empty, [], [t, u]⟩ j
def operB (level i : Nat) : PR Syn := (F.neg i).then fun t j => operMore l F (l.length + 1) level 6 t j
def negB (i : Nat) : PR Syn := if passes l i [126] then (F.neg (i + 1)).then fun t j => .ok ⟨32, 12, ByteArray.empty, [], [t]⟩ j else F.app i
def begAtom (t : Tok) : Bool := decide (t.kind = 1) || decide (t.kind = 2) || decide (t.kind = 4) || decide (t.kind = 5) || fixedT t == [40] || fixedT t == [108, 101, 116] || fixedT t == [99, 97, 115, 101]
def appMore : Nat → Syn → Nat → PR Syn
  | 0, _, i => .bad i
  | n + 1, t, i => if begAtom (tkAt l i) then (F.atom i).then fun u j => appMore n (nd 26 [t, u]) j else .ok t i
def appB (i : Nat) : PR Syn := (F.atom i).then fun t j => appMore l F (l.length + 1) t j
def atomB (i : Nat) : PR Syn :=
  if (tkAt l i).kind = 4 then .ok (ndNum 21 (num (tkAt l i).text)) (i + 1)
  else if (tkAt l i).kind = 5 then .ok (ndText 22 (tkAt l i).text) (i + 1)
  else if passes l i [40] then F.encl (i + 1)
  else if passes l i [108, 101, 116] then F.letE (i + 1)
  else if passes l i [99, 97, 115, 101] then F.matchE (i + 1)
  else vpath l i
def enclB (i : Nat) : PR Syn := if passes l i [41] then .ok (nd 27 []) (i + 1) else (F.cont i).then fun t j => (needT l [41] j).then fun _ k => .ok t k
def contB (i : Nat) : PR Syn :=
  if passes l i [112, 97, 99, 107] then (mpath l (i + 1)).then fun ns j => (needT l [58] j).then fun _ k => (sigOf l k).then fun g m => .ok (ndNames 34 ns [g]) m
  else (sepd l [44] F.expr i).then fun ts j => if ts.length = 1 ∧ passes l j [58] = true then (F.typ (j + 1)).then fun u k => .ok (nd 33 (ts ++ [u])) k else .ok (tupleOf 27 ts) j
def declMore : Nat → List Syn → Nat → PR (List Syn)
  | 0, _, i => .bad i
  | n + 1, acc, i => if passes l i [105, 110] then .ok acc (i + 1) else (F.decl i).then fun t j => declMore n (acc ++ [t]) j
def letB (i : Nat) : PR Syn := (declMore l F (l.length + 1) [] i).then fun ts j => (F.expr j).then fun t k => (needT l [101, 110, 100] k).then fun _ m => .ok (nd 31 (ts ++ [t])) m
def matchB (i : Nat) : PR Syn := (F.expr i).then fun t j => (needT l [111, 102] j).then fun _ k => (sepd l [124] F.rule k).then fun ts m => (needT l [101, 110, 100] m).then fun _ q => .ok (nd 29 (t :: ts)) q
def ruleB (i : Nat) : PR Syn := (F.pat i).then fun t j => (needT l [61, 62] j).then fun _ k => (F.expr k).then fun u m => .ok (nd 30 [t, u]) m
def declB (i : Nat) : PR Syn :=
  if passes l i [118, 97, 108] then (takeK l 1 (i + 1)).then fun s j => (needT l [61] j).then fun _ k => (F.expr k).then fun t m => .ok ⟨41, 0, mk s, [], [t]⟩ m
  else if passes l i [102, 117, 110] then F.named (i + 1)
  else (needT l [115, 116, 114, 117, 99, 116, 117, 114, 101] i).then fun _ j => F.unpk j
def namesMore (l : List Tok) : Nat → List ByteArray → Nat → PR (List ByteArray)
  | 0, _, i => .bad i
  | n + 1, acc, i => if passes l i [61] then .ok acc (i + 1) else (takeK l 1 i).then fun s j => namesMore l n (acc ++ [mk s]) j
def namedB (i : Nat) : PR Syn := (takeK l 1 i).then fun s j => (takeK l 1 j).then fun a k => (namesMore l (l.length + 1) [mk a] k).then fun ns m => (F.expr m).then fun t q => .ok ⟨42, 0, mk s, ns, [t]⟩ q
def unpkB (i : Nat) : PR Syn := (takeK l 2 i).then fun s j => (needT l [61] j).then fun _ k => (needT l [117, 110, 112, 97, 99, 107] k).then fun _ m => (F.atom m).then fun t q => (needT l [58] q).then fun _ r => (sigOf l r).then fun g u => .ok ⟨50, 0, mk s, [], [t, g]⟩ u
def deeper : Fs := ⟨typB l F, prodB l F, postB l F, simpB l F, brackB l F, patB l F, argB l num F, compsB l F, exprB l F, operB l F, negB l F, appB l F, atomB l num F, enclB l F, contB l F, letB l F, matchB l F, ruleB l F, declB l F, namedB l F, unpkB l F⟩
end
def noFs : Fs := ⟨.bad, .bad, .bad, .bad, .bad, .bad, .bad, .bad, .bad, fun _ => .bad, .bad, .bad, .bad, .bad, .bad, .bad, .bad, .bad, .bad, .bad, .bad⟩
def depthFs (l : List Tok) (num : Bytes → Int) : Nat → Fs
  | 0 => noFs
  | n + 1 => deeper l num (depthFs l num n)
end Go.Proofs.YtjedahcpkcgpeaaGreatDoor.Pl

/-
  Plain mathematics of layer 4: the reference reads operators level by level, the program by one loop; both read the same. No program.
-/
namespace Go.Proofs.YtjedahcpkcgpeaaGreatDoor.Pl
open Go
section
variable (l : List Tok) (lev : Nat → Nat → PR Syn)
end
theorem opOf_le (t : Tok) : (opOf t).2 ≤ 6 := by
  unfold opOf
  repeat' split
  all_goals decide
theorem opOf_lt {l : List Tok} {i : Nat} (h : (opOf (tkAt l i)).2 ≠ 0) : i < l.length := by
  rcases Nat.lt_or_ge i l.length with h1 | h1
  · exact h1
  · exfalso
    apply h
    have : tkAt l i = ⟨8, [], 0, 0⟩ := by unfold tkAt; simp [List.getD, List.getElem?_eq_none h1]
    rw [this]
    decide
end Go.Proofs.YtjedahcpkcgpeaaGreatDoor.Pl
