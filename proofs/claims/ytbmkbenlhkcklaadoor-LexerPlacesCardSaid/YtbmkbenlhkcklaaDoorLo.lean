/-
  Walks of layer 2: the reader's tokens, and Tokens.
-/
import Derived.Test.YtbmkbenlhkcklaaDoorLn
import Derived.RegionTactic
import Derived.ChangeAlike
namespace Go.Proofs.YtbmkbenlhkcklaaDoor
open Go.RowKit

theorem RdAt.next {w : World} {b : Nat} {s : ByteArray} {j n : Nat} {lim : Int} (h : Rd w b s ((j + n : Nat) : Int) (Pl.lineAt s.toList j) (Pl.startAt s.toList j) lim) (hn : j + n ≤ s.size) (hx : 10 ∉ (s.toList.drop j).take n) : RdAt w b s (j + n) lim := by
  obtain ⟨e1, e2⟩ := Pl.at_on s.toList j n (by rw [Pl.len_size]; exact hn) hx
  unfold RdAt
  rw [e1, e2]; exact h
/-- the place of a byte on the line of the reader -/
theorem place_from (b : Nat) (s : ByteArray) (j n m : Nat) (lim : Int) (w : World) (h : Rd w b s m (Pl.lineAt s.toList j) (Pl.startAt s.toList j) lim) (hs : s.size ≤ 100000) (hn : j + n ≤ s.size) (hx : 10 ∉ (s.toList.drop j).take n) :
    Calls Tryd.prog 16 #[.pointer (some ⟨b, 0, none⟩), .int .i64 ((j + n : Nat) : Int)] w fun e w' => e = .returned (.agg #[.int .i64 (Pl.lineAt s.toList (j + n)), .int .i64 (Pl.colAt s.toList (j + n))]) ∧ Below w.heap.size w w' := by
  obtain ⟨e1, e2⟩ := Pl.at_on s.toList j n (by rw [Pl.len_size]; exact hn) hx
  have hr := Pl.startAt_range s.toList j
  have := place_any b s m _ _ lim ((j + n : Nat) : Int) w h hr.1 (by omega) (by omega)
  rw [show (((j + n : Nat) : Int)) - Pl.startAt s.toList j + 1 = Pl.colAt s.toList (j + n) from by rw [← e2]; unfold Pl.startAt; omega, ← e1] at this
  exact this
set_option maxRecDepth 100000 in
set_option maxHeartbeats 4000000 in
theorem tokens_any (b : Nat) (s : ByteArray) (w : World) (O : Pl.Out) (h : RdAt w b s 0 20000) (hs : s.size ≤ 16384) (hO : Pl.toksF (s.size + 1) s.toList 0 [] = O) :
    Calls Tryd.prog 10 #[.pointer (some ⟨b, 0, none⟩)] w (OutPost b w O) := by
  obtain ⟨i9, hi, hz0, hz1, hz2⟩ := info_parts tokenInfo
  have hr := Rd.alloc h (.cells #[.int .i64 0, .int .i64 0] 25)
  have hk := blk_new w #[.int .i64 0, .int .i64 0] 25
  have ho : Only b w (w.alloc (.cells #[.int .i64 0, .int .i64 0] 25)) := (Only.refl b w).alloc _
  have hlt := Rd.lt h
  have hsz : (w.alloc (.cells #[.int .i64 0, .int .i64 0] 25)).heap.size = w.heap.size + 1 := by simp
  have hne : b ≠ w.heap.size := Nat.ne_of_lt hlt
  have hls := Pl.len_size s
  have HI := Lib.hid (And.intro hi (And.intro hz0 (And.intro hz1 hz2)))
  have HOUT := Lib.hid hO
  have HLS := Lib.hid hls
  clear h hi hz0 hz1 hz2 hO hls
  go_enter Tryd.func10, Tryd.ntmps10
  go_wp2
  generalize w.alloc (.cells #[.int .i64 0, .int .i64 0] 25) = w0 at hr hk ho hsz ⊢
  have HT0 : Hid (TS b s w w0 0 (.slice none 0 0) []) := ⟨hlt, hr, hk, World.ownsRow_nil _ _ _ _, ho, by omega⟩
  clear hr hk ho hsz
  go_loopg [5] (s.size + 1) (fun g v wr => ∃ (i : Nat) (acc : List Pl.Tok), Pl.Ok g s.toList i acc O ∧ TS b s w wr i v acc)
  case atStart => exact ⟨0, [], ⟨by rw [HLS.out]; omega, Nat.zero_le _, Nat.zero_le _, HOUT.out⟩, HT0.out⟩
  case round =>
    obtain ⟨i, acc, hok, hts⟩ := hrel
    obtain ⟨A, cp, rfl⟩ := hts.form
    have HOK := Lib.hid hok
    have HTS := Lib.hid hts
    have hi1 : i ≤ s.size := by rw [← HLS.out]; exact hok.2.1
    have hacc : acc.length ≤ i := hok.2.2.1
    have hgap := gap_any b s i 20000 wr hts.rd hi1 (by omega)
    have hbd := Pl.gap_bound s i hi1
    cases hg : (Pl.gap (s.toList.drop i)).2
    · have HG := Lib.hid hgap
      have hgv : gapVal s.toList i (Pl.gap (s.toList.drop i)) = .tuple #[.agg #[.int .i64 0, .int .i64 0], .int .i64 0] := by unfold gapVal; rw [hg]; rfl
      have HGV := Lib.hid hgv
      have HGG := Lib.hid hg
      clear hgv hg hgap hok hts
      go_wp2_with fail
      refine HG.out.mono ?_
      rintro e w1 ⟨m, hm1, hm2, he, hr1, ho1⟩
      rw [HGV.out] at he
      subst he
      obtain rfl := hm2 HGG.out
      clear hm2 hm1
      have hra := Rd.alloc hr1 (.cells #[.int .i64 0, .int .i64 0] 25)
      have hoa := ho1.alloc (.cells #[.int .i64 0, .int .i64 0] 25)
      have c1 := hra.c1
      generalize hj : i + (Pl.gap (s.toList.drop i)).1 = j at *
      have HJ := Lib.hid hj
      have HRA := Lib.hid hra
      have HOA := Lib.hid hoa
      clear hra hoa hr1 ho1 hj
      go_wp2_with fail
      refine (place_at b s j 20000 _ HRA.out (by omega) hbd).mono ?_
      rintro e w2 ⟨rfl, hb2⟩
      clear c1
      have HR2 : Hid (RdAt w2 b s j 20000) := Rd.below HRA.out hb2 (Rd.lt HRA.out)
      have HO2 := Lib.hid (HOA.out.below hb2 HOA.out.size)
      clear hb2
      generalize hli : Pl.lineAt s.toList j = li
      generalize hco : Pl.colAt s.toList j = co
      have HLI := Lib.hid hli
      have HCO := Lib.hid hco
      clear hli hco
      go_wp2
      have hrb := Rd.alloc HR2.out (.cells #[.int .i64 li, .int .i64 co] 25)
      have hob := HO2.out.alloc (.cells #[.int .i64 li, .int .i64 co] 25)
      have hkb := blk_new w2 #[.int .i64 li, .int .i64 co] 25
      have hsb : w2.heap.size < (w2.alloc (.cells #[.int .i64 li, .int .i64 co] 25)).heap.size := by simp
      have hw2 := HO2.out.size
      have hne2 : b ≠ w2.heap.size := Nat.ne_of_lt (Rd.lt HR2.out)
      generalize w2.alloc (.cells #[.int .i64 li, .int .i64 co] 25) = wB at hrb hob hkb hsb ⊢
      have c0 := hrb.c0
      have c1 := hrb.c1
      have HRB : Hid (RdAt wB b s j 20000) := hrb
      have HOB := Lib.hid hob
      have HKB := Lib.hid hkb
      clear hrb hob hkb
      by_cases hend : j = s.size
      · have q1 : ((j : Int) == (s.size : Int)) = true := beq_iff_eq.2 (by omega)
        have ho := Pl.ok_end _ _ _ _ _ HOK.out HGG.out (by rw [HJ.out, HLS.out]; exact hend)
        rw [HJ.out, HLI.out, HCO.out] at ho
        have HO := Lib.hid ho
        clear hend ho
        go_quiet (fail)
        clear c0 c1
        obtain ⟨d0, d1, e0, e1⟩ := psAt_of HKB.out
        have hts2 := HTS.out.step (HOB.out.drewN nq) (HRB.out.drewN nq)
        go_wp2_with (at_builtin; refine wpList_append_own _ rfl _ _ 23 rfl (w.heap.size + 1) 34 i9 (.agg #[.int .i64 0, .string ⟨#[]⟩, .int .i64 0, .int .i64 0]) 4 40 Tryd.underlying23 HI.out.1 HI.out.2.1 HI.out.2.2.1 HI.out.2.2.2 rfl (by decide) _ _ _ rfl (hts2.own.alloc _) ⟨wB.heap.size, 0, none⟩ 1 1 (tokCells ⟨8, [], li, co⟩) rfl rfl ?c1 ?c2 ?c3 ?c4 ?c5 ?_)
        case c1 =>
          intro q u hq
          match q, hq with
          | 0, hq => obtain rfl := Option.some.inj hq; exact (blk_new (wB.drewN nq) #[.int .i64 8, .string ⟨#[]⟩, .int .i64 li, .int .i64 co] 34).cell 0 _ rfl
          | 1, hq => obtain rfl := Option.some.inj hq; exact (blk_new (wB.drewN nq) #[.int .i64 8, .string ⟨#[]⟩, .int .i64 li, .int .i64 co] 34).cell 1 _ rfl
          | 2, hq => obtain rfl := Option.some.inj hq; exact (blk_new (wB.drewN nq) #[.int .i64 8, .string ⟨#[]⟩, .int .i64 li, .int .i64 co] 34).cell 2 _ rfl
          | 3, hq => obtain rfl := Option.some.inj hq; exact (blk_new (wB.drewN nq) #[.int .i64 8, .string ⟨#[]⟩, .int .i64 li, .int .i64 co] 34).cell 3 _ rfl
        case c2 => exact tokCells_one _
        case c3 => unfold maxLen; omega
        case c4 => omega
        case c5 => have := HTS.out.size; have := HOB.out.size; simp; omega
        intro v' w4 hown' hgrow _
        have hts4 := HTS.out.grow ((HOB.out.drewN nq).alloc _) (Rd.alloc (HRB.out.drewN nq) _) hown' hgrow
        clear hown' hgrow hts2 d0 d1 e0 e1
        obtain ⟨d0, d1, e0, e1⟩ := psAt_of hts4.res
        have HT4 := Lib.hid hts4
        clear hts4
        go_wp2
        obtain ⟨f0, f1, -, -⟩ := psAt_of (ps_put HT4.out.res (.int .i64 0) (.int .i64 0))
        refine bodyPost_ret (v := .tuple #[v', .agg #[.int .i64 0, .int .i64 0], .int .i64 0]) (by simp [results, Tryd.results10, go_sem, f0, f1]) rfl ?_
        rw [HO.out]
        exact .inl ⟨rfl, ⟨v', rfl, ownsRow_setCell_below (ownsRow_setCell_below HT4.out.own (a := ⟨w.heap.size, 0, none⟩) (Nat.lt_succ_self _) _) (a := ⟨w.heap.size, 1, none⟩) (Nat.lt_succ_self _) _⟩, only_put2 HT4.out.only (Nat.le_refl _) _ _⟩
      · have q1 : ((j : Int) == (s.size : Int)) = false := beq_eq_false_iff_ne.2 (by omega)
        have q2 : ((acc.length : Int) == 20000) = false := beq_eq_false_iff_ne.2 (by omega)
        have hjl : j < s.size := by omega
        have hnil : s.toList.drop j ≠ [] := by
          intro h
          have := congrArg List.length h
          rw [List.length_drop, HLS.out] at this
          simp at this; omega
        have hfine := Pl.fine_tok _ hnil
        have htok := fun W (hW : RdAt W b s j 20000) => token_any b s j _ _ 20000 W hW hjl (by omega)
        have c4 := Rd.c4 HRB.out
        generalize hT : Pl.tok (s.toList.drop j) = T at hfine htok
        have HTK := Lib.hid htok
        have HF := Lib.hid hfine
        have HTT := Lib.hid hT
        clear hnil htok hfine hT
        go_quiet (fail)
        clear c0 c1
        go_wp2_with fail
        refine (HTK.out _ (HRB.out.drewN _)).mono ?_
        rintro e w3 ⟨m, p, hm, hp, rfl, hr3, ho3⟩
        by_cases he : T.err = 0
        · have t1 : (T.err != 0) = false := by rw [he]; rfl
          obtain rfl := hm he
          have HE := Lib.hid he
          clear hm hp he
          obtain ⟨hf1, hf2, hf3⟩ := HF.out.1 HE.out
          rw [List.length_drop, HLS.out] at hf2
          have hok2 := Pl.ok_next _ _ _ _ _ HOK.out (by rw [HLS.out]; omega) HGG.out (by rw [HJ.out, HLS.out]; omega) (by rw [HJ.out, HTT.out]; exact HE.out) (by rw [HJ.out, HTT.out]; exact hf1) (by rw [HJ.out, HTT.out, HLS.out]; omega)
          rw [HJ.out, HTT.out, HLI.out, HCO.out] at hok2
          have HOK2 := Lib.hid hok2
          have hr3b := RdAt.next hr3 (by omega) hf3
          have hts3 := HTS.out.step ((HOB.out.drewN nq).trans ho3) hr3b
          generalize hkd : T.kind = kd
          generalize htx : Pl.mk T.text = tx
          have HTC := Lib.hid (show tokCells ⟨T.kind, T.text, li, co⟩ = [.int .i64 kd, .string tx, .int .i64 li, .int .i64 co] from by rw [← hkd, ← htx]; rfl)
          clear hok2 hf3 hkd htx
          unfold tkc
          have hk3 := ho3.blk (HKB.out.drewN nq) hne2.symm
          obtain ⟨d0, d1, -, -⟩ := psAt_of hk3
          have hw23 : w2.heap.size < w3.heap.size := Nat.lt_of_lt_of_le hsb ho3.size
          have hbn := blk_new (w3.alloc (.cells #[.int .i64 kd, .string tx, .int .i64 li, .int .i64 co] 34)) #[.int .i64 kd, .string tx, .int .i64 li, .int .i64 co] 34
          rw [World.size_alloc] at hbn
          have HR3 := Lib.hid hr3b
          have HO3 := Lib.hid ((HOB.out.drewN nq).trans ho3)
          have hsz3 : w.heap.size + 1 ≤ w3.heap.size := hts3.size
          clear hk3 hr3 ho3 hr3b
          go_wp2_with (at_builtin; refine wpList_append_own _ rfl _ _ 23 rfl (w.heap.size + 1) 34 i9 (.agg #[.int .i64 0, .string ⟨#[]⟩, .int .i64 0, .int .i64 0]) 4 40 Tryd.underlying23 HI.out.1 HI.out.2.1 HI.out.2.2.1 HI.out.2.2.2 rfl (by decide) _ _ _ rfl ((hts3.own.alloc _).alloc _) ⟨w3.heap.size + 1, 0, none⟩ 1 1 [.int .i64 kd, .string tx, .int .i64 li, .int .i64 co] rfl rfl ?g1 ?g2 ?g3 ?g4 ?g5 ?_)
          case g1 =>
            intro q u hq
            match q, hq with
            | 0, hq => obtain rfl := Option.some.inj hq; exact hbn.cell 0 _ rfl
            | 1, hq => obtain rfl := Option.some.inj hq; exact hbn.cell 1 _ rfl
            | 2, hq => obtain rfl := Option.some.inj hq; exact hbn.cell 2 _ rfl
            | 3, hq => obtain rfl := Option.some.inj hq; exact hbn.cell 3 _ rfl
          case g2 =>
            intro u hu
            rw [← HTC.out] at hu
            exact tokCells_one _ u hu
          case g3 => unfold maxLen; omega
          case g4 => omega
          case g5 => simp; omega
          intro v' w4 hown' hgrow _
          rw [← HTC.out] at hown'
          have HT4 := Lib.hid (HTS.out.grow ((HO3.out.alloc _).alloc _) (Rd.alloc (Rd.alloc HR3.out _) _) hown' hgrow)
          clear hown' hgrow hts3 d0 d1 hbn
          go_wp2
          have hgk := HOK.out.1
          have hgk2 := HOK.out.2.1
          go_roundg (gk - 1)
          case measure => omega
          case rel => exact ⟨j + T.len, _, HOK2.out, HT4.out⟩
        · have t1 : (T.err != 0) = true := by simpa using he
          obtain rfl := hp he
          obtain ⟨hf1, hf2⟩ := HF.out.2 he
          rw [List.length_drop, HLS.out] at hf1
          have ho := Pl.ok_bad _ _ _ _ _ HOK.out (by rw [HLS.out]; omega) HGG.out (by rw [HJ.out, HLS.out]; omega) (by rw [HJ.out, HTT.out]; exact he)
          rw [HJ.out, HTT.out] at ho
          have HO := Lib.hid ho
          have hts3 := (HOB.out.drewN nq).trans ho3
          have hk3 := ho3.blk ((HOB.out.drewN nq).blk HTS.out.res hne.symm) hne.symm
          have hw3 := hts3.size
          have hw4 := HTS.out.size
          generalize hkd : T.kind = kd
          generalize htx : Pl.mk T.text = tx
          have HE := Lib.hid he
          have HR3 := Lib.hid (Rd.alloc hr3 (.cells #[.int .i64 kd, .string tx, .int .i64 0, .int .i64 0] 34))
          have HK3 := Lib.hid (hk3.alloc (.cells #[.int .i64 kd, .string tx, .int .i64 0, .int .i64 0] 34))
          have HO3 := Lib.hid ((HTS.out.only.trans hts3).alloc (.cells #[.int .i64 kd, .string tx, .int .i64 0, .int .i64 0] 34))
          have HF2 := Lib.hid hf2
          clear hm hp he ho hkd htx hk3 hts3 hr3 ho3 hf2
          unfold tkc
          go_wp2_with fail
          refine (place_from b s j T.pos m 20000 _ HR3.out (by omega) (by omega) HF2.out).mono ?_
          rintro e w5 ⟨rfl, hb5⟩
          generalize Pl.lineAt s.toList (j + T.pos) = li2 at HO ⊢
          generalize Pl.colAt s.toList (j + T.pos) = co2 at HO ⊢
          have HK5 := Lib.hid (HK3.out.below hb5 (by simp; omega))
          have HO5 := Lib.hid (HO3.out.below hb5 (by simp; omega))
          clear hb5
          obtain ⟨d0, d1, e0, e1⟩ := psAt_of HK5.out
          go_wp2
          obtain ⟨f0, f1, -, -⟩ := psAt_of (ps_put HK5.out (.int .i64 li2) (.int .i64 co2))
          refine bodyPost_ret (v := .tuple #[.slice none 0 0, .agg #[.int .i64 li2, .int .i64 co2], .int .i64 T.err]) (by simp [results, Tryd.results10, go_sem, f0, f1]) rfl ?_
          rw [HO.out]
          exact .inr ⟨HE.out, rfl, rfl, only_put2 HO5.out (Nat.le_refl _) _ _⟩
    · have HO := Lib.hid (Pl.ok_open _ _ _ _ _ hok hg)
      have HG := Lib.hid hgap
      have hgv : gapVal s.toList i (Pl.gap (s.toList.drop i)) = .tuple #[.agg #[.int .i64 (Pl.lineAt s.toList (i + (Pl.gap (s.toList.drop i)).1)), .int .i64 (Pl.colAt s.toList (i + (Pl.gap (s.toList.drop i)).1))], .int .i64 4] := by unfold gapVal; rw [hg]; rfl
      have HGV := Lib.hid hgv
      clear hgv hg hgap hok hts
      go_wp2_with fail
      refine HG.out.mono ?_
      rintro e w1 ⟨m, hm1, hm2, he, hr1, ho1⟩
      rw [HGV.out] at he
      subst he
      generalize Pl.lineAt s.toList (i + (Pl.gap (s.toList.drop i)).1) = li at HO
      generalize Pl.colAt s.toList (i + (Pl.gap (s.toList.drop i)).1) = co at HO
      have hres := (ho1.blk HTS.out.res hne.symm).alloc (.cells #[.int .i64 li, .int .i64 co] 25)
      have hwr := blk_new w1 #[.int .i64 li, .int .i64 co] 25
      have honly := (HTS.out.only.trans ho1).alloc (.cells #[.int .i64 li, .int .i64 co] 25)
      have hne3 : w.heap.size ≠ w1.heap.size := by have := HTS.out.size; have := ho1.size; omega
      clear hr1 ho1 hm2
      go_wp2
      generalize w1.alloc (.cells #[.int .i64 li, .int .i64 co] 25) = wd at hres hwr honly ⊢
      obtain ⟨d0, d1, e0, e1⟩ := psAt_of hres
      obtain ⟨g0, g1, -, -⟩ := psAt_of hwr
      have HRES := Lib.hid hres
      have HONLY := Lib.hid honly
      clear hres hwr honly
      go_region
      all_goals
        go_wp2
        obtain ⟨f0, f1, -, -⟩ := psAt_of (ps_put HRES.out (.int .i64 li) (.int .i64 co))
        refine bodyPost_ret (v := .tuple #[.slice none 0 0, .agg #[.int .i64 li, .int .i64 co], .int .i64 4]) (by simp [results, Tryd.results10, go_sem, f0, f1]) rfl ?_
        rw [HO.out]
        exact .inr ⟨show ¬ (4 : Int) = 0 by decide, rfl, rfl, (only_put2 HONLY.out (Nat.le_refl _) _ _).drew⟩
end Go.Proofs.YtbmkbenlhkcklaaDoor
