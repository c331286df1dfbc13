/-
  Walks of layer 2: the reference's Tokens.
-/
import Derived.Test.YtbmkbenlhkcklaaMa
namespace Go.Proofs.Ytbmkbenlhkcklaa
open Go.RowKit

/-- the state at the head of a round of the reference -/
structure RS (w wr : World) (v : Value) (acc : List Pl.Tok) : Prop where
  res : Blk wr w.heap.size 26 #[.int .i64 0, .int .i64 0]
  own : wr.ownsRow (w.heap.size + 1) 43 4 v acc.length (cells acc)
  only : Only w.heap.size w wr
  size : w.heap.size + 1 ≤ wr.heap.size
theorem RS.step {w wr w2 : World} {v : Value} {acc : List Pl.Tok} (h : RS w wr v acc) (hb : Below wr.heap.size wr w2) : RS w w2 v acc :=
  ⟨h.res.below hb h.res.lt, h.own.kept ((Only.refl w.heap.size wr).below hb (Nat.le_refl _)) (by
    cases hv : v.ownBlock with
    | none => exact .inl rfl
    | some k => exact .inr (fun e => by injection e with e; have := (h.own.lt k hv).1; omega)), h.only.below hb (by have := h.size; omega), Nat.le_trans h.size hb.size⟩
theorem RS.form {w wr : World} {v : Value} {acc : List Pl.Tok} (h : RS w wr v acc) : ∃ A c, v = .slice A acc.length c := by
  rcases h.own.2 with ⟨hv, h0⟩ | ⟨g, cap, cur, hv, _⟩
  · exact ⟨none, 0, by rw [hv, h0]⟩
  · exact ⟨_, _, hv⟩
theorem RS.grow {w wr w1 w2 : World} {v v' : Value} {acc : List Pl.Tok} {t : Pl.Tok} (h : RS w wr v acc) (hb : Below wr.heap.size wr w1)
    (hown : w2.ownsRow (w.heap.size + 1) 43 4 v' (acc.length + 1) (cells acc ++ tokCells t)) (hg : w1.grownBy w2 v.ownBlock) : RS w w2 v' (acc ++ [t]) := by
  have h1 := h.step hb
  have hk : ∀ k, v.ownBlock = some k → w.heap.size + 1 ≤ k := fun k hk => (h1.own.lt k hk).1
  refine ⟨(World.grownBy.block hg w.heap.size h1.res.lt (fun e => by have := hk _ e.symm; omega)).trans h1.res, ?_, ?_, Nat.le_trans h1.size (World.grownBy.size hg)⟩
  · rw [List.length_append, cells_snoc]; exact hown
  · obtain ⟨o1, o2, o3, o4, o5⟩ := (show w.grownBy w1 (some w.heap.size) from h1.only)
    exact ⟨(World.grownBy.os hg).trans o1, (World.grownBy.tape hg).trans o2, (World.grownBy.output hg).trans o3, Nat.le_trans o4 (World.grownBy.size hg), fun k hk1 hne =>
      (World.grownBy.block hg k (Nat.lt_of_lt_of_le hk1 o4) (fun e => by have := hk k e.symm; omega)).trans (o5 k hk1 hne)⟩
/-- an answer that is an error -/
theorem rbad_end {w wr : World} {v : Value} {acc : List Pl.Tok} {O : Pl.Out} {li co er : Int} (h : RS w wr v acc) (hO : O = ⟨[], li, co, er⟩) (he : er ≠ 0) :
    TokensPost w O (.returned (.tuple #[.slice none 0 0, .agg #[.int .i64 li, .int .i64 co], .int .i64 er])) ((wr.setCell ⟨w.heap.size, 0, none⟩ (.int .i64 li)).setCell ⟨w.heap.size, 1, none⟩ (.int .i64 co)) := by
  subst hO
  exact .inr ⟨he, rfl, rfl, (only_put2 h.only (Nat.le_refl _) _ _).to (Nat.le_refl _) (Nat.le_refl _)⟩
set_option maxRecDepth 100000 in
set_option maxHeartbeats 4000000 in
theorem rTokens_any (s : ByteArray) (w : World) (hs : s.size ≤ maxLen) :
    Calls Try.prog 12 #[.string s] w (TokensPost w (Pl.tokens s.toList)) := by
  unfold maxLen at hs
  obtain ⟨i9, hi, hz0, hz1, hz2⟩ := info_parts tokenInfo
  have hk0 := blk_new w #[.int .i64 0, .int .i64 0] 26
  have ho0 : Only w.heap.size w (w.alloc (.cells #[.int .i64 0, .int .i64 0] 26)) := (Only.refl _ w).alloc _
  have hsz0 : (w.alloc (.cells #[.int .i64 0, .int .i64 0] 26)).heap.size = w.heap.size + 1 := by simp
  have HRS0 : Hid (RS w (w.alloc (.cells #[.int .i64 0, .int .i64 0] 26)) (.slice none 0 0) []) := ⟨hk0, World.ownsRow_nil _ _ _ _, ho0, by omega⟩
  have HI := Lib.hid (And.intro hi (And.intro hz0 (And.intro hz1 hz2)))
  have HLS := Lib.hid (Pl.len_size s)
  clear hk0 ho0 hsz0 hi hz0 hz1 hz2
  by_cases hl : 16384 < s.size
  · have hl2 : decide ((16384 : Int) < (s.size : Int)) = true := by simp; omega
    have HO := Lib.hid (show Pl.tokens s.toList = ⟨[], 0, 0, 5⟩ from by unfold Pl.tokens; rw [if_pos (by rw [Pl.len_size]; exact hl)])
    go_enter Try.func12, Try.ntmps12
    go_wp2_with fail
    refine bodyPost_ret (v := .tuple #[.slice none 0 0, .agg #[.int .i64 0, .int .i64 0], .int .i64 5]) (by simp [results, Try.results12, go_sem]) rfl ?_
    rw [HO.out]
    exact .inr ⟨show ¬ (5 : Int) = 0 by decide, rfl, rfl, HRS0.out.only.to (Nat.le_refl _) (Nat.le_refl _)⟩
  · have hl2 : decide ((16384 : Int) < (s.size : Int)) = false := by simp; omega
    have hs2 : s.size ≤ 16384 := by omega
    have hO : Pl.tokens s.toList = Pl.toksF (s.size + 1) s.toList 0 [] := by unfold Pl.tokens; rw [if_neg (by rw [Pl.len_size]; exact hl), Pl.len_size]
    generalize Pl.tokens s.toList = O at hO ⊢
    have HOUT := Lib.hid hO.symm
    clear hO hl hs
    go_enter Try.func12, Try.ntmps12
    go_wp2_with fail
    generalize w.alloc (.cells #[.int .i64 0, .int .i64 0] 26) = w0 at HRS0 ⊢
    go_loopg [5, 6] (s.size + 1) (fun g v iv wr => ∃ (i : Nat) (acc : List Pl.Tok), iv = .int .i64 i ∧ Pl.Ok g s.toList i acc O ∧ RS w wr v acc)
    case atStart => exact ⟨0, [], rfl, ⟨by rw [HLS.out]; omega, Nat.zero_le _, Nat.zero_le _, HOUT.out⟩, HRS0.out⟩
    case round =>
      obtain ⟨i, acc, rfl, hok, hrs⟩ := hrel
      obtain ⟨A, cp, rfl⟩ := hrs.form
      have HOK := Lib.hid hok
      have HRS := Lib.hid hrs
      have hi1 : i ≤ s.size := by rw [← HLS.out]; exact hok.2.1
      have hacc : acc.length ≤ i := hok.2.2.1
      have hbd := Pl.gap_bound s i hi1
      have hsk : ∀ W, Calls Try.prog 30 #[.string (s.extract i s.size)] W fun e w' => e = .returned (.tuple #[.int .i64 (Pl.gap (s.toList.drop i)).1, .bool (Pl.gap (s.toList.drop i)).2]) ∧ W = w' := fun W => by
        have := rSkip_any (s.extract i s.size) W (by rw [ByteArray.size_extract]; omega)
        rw [Pl.extract_end] at this; exact this
      have hpl : ∀ W, Calls Try.prog 31 #[.string s, .int .i64 ((i : Int) + ((Pl.gap (s.toList.drop i)).1 : Int))] W fun e w' => e = .returned (.agg #[.int .i64 (Pl.lineAt s.toList (i + (Pl.gap (s.toList.drop i)).1)), .int .i64 (Pl.colAt s.toList (i + (Pl.gap (s.toList.drop i)).1))]) ∧ Below W.heap.size W w' := fun W => by
        have := rPlace_any s (i + (Pl.gap (s.toList.drop i)).1) W hbd (by omega)
        rw [Int.natCast_add] at this; exact this
      cases hg : (Pl.gap (s.toList.drop i)).2
      · have hend := Pl.ok_end _ _ _ _ _ hok hg
        have hbad := Pl.ok_bad _ _ _ _ _ hok (by rw [HLS.out]; omega) hg
        have hnext := Pl.ok_next _ _ _ _ _ hok (by rw [HLS.out]; omega) hg
        rw [hg] at hsk
        generalize (Pl.gap (s.toList.drop i)).1 = g1 at hsk hpl hend hbad hnext hbd
        have HSK := Lib.hid hsk
        have HPL := Lib.hid hpl
        have HEND := Lib.hid hend
        have HBAD := Lib.hid hbad
        have HNEXT := Lib.hid hnext
        clear hsk hpl hend hbad hnext hg hok hrs
        go_wp2_with fail
        refine (HSK.out _).mono ?_
        rintro e w' ⟨rfl, rfl⟩
        by_cases he : i + g1 = s.size
        · have q1 : (((i : Int) + (g1 : Int)) == (s.size : Int)) = true := beq_iff_eq.2 (by omega)
          have HO := Lib.hid (HEND.out (by rw [HLS.out]; exact he))
          clear he
          go_wp2_with fail
          refine (HPL.out _).mono ?_
          rintro e w2 ⟨rfl, hb2⟩
          generalize Pl.lineAt s.toList (i + g1) = li at HO ⊢
          generalize Pl.colAt s.toList (i + g1) = co at HO ⊢
          have hrs2 := HRS.out.step hb2
          have HRS2 := Lib.hid hrs2
          have hz2 : w.heap.size + 1 ≤ w2.heap.size := hrs2.size
          clear hb2 hrs2
          go_wp2_with (at_builtin; refine wpList_append_own _ rfl _ _ 24 rfl (w.heap.size + 1) 43 i9 (.agg #[.int .i64 0, .string ⟨#[]⟩, .int .i64 0, .int .i64 0]) 4 40 Try.underlying24 HI.out.1 HI.out.2.1 HI.out.2.2.1 HI.out.2.2.2 rfl (by decide) _ _ _ rfl (HRS2.out.own.alloc _) ⟨w2.heap.size, 0, none⟩ 1 1 (tokCells ⟨8, [], li, co⟩) rfl rfl ?c1 ?c2 ?c3 ?c4 ?c5 ?_)
          case c1 =>
            intro q u hq
            match q, hq with
            | 0, hq => obtain rfl := Option.some.inj hq; exact (blk_new w2 #[.int .i64 8, .string ⟨#[]⟩, .int .i64 li, .int .i64 co] 43).cell 0 _ rfl
            | 1, hq => obtain rfl := Option.some.inj hq; exact (blk_new w2 #[.int .i64 8, .string ⟨#[]⟩, .int .i64 li, .int .i64 co] 43).cell 1 _ rfl
            | 2, hq => obtain rfl := Option.some.inj hq; exact (blk_new w2 #[.int .i64 8, .string ⟨#[]⟩, .int .i64 li, .int .i64 co] 43).cell 2 _ rfl
            | 3, hq => obtain rfl := Option.some.inj hq; exact (blk_new w2 #[.int .i64 8, .string ⟨#[]⟩, .int .i64 li, .int .i64 co] 43).cell 3 _ rfl
          case c2 => exact tokCells_one _
          case c3 => unfold maxLen; omega
          case c4 => omega
          case c5 => simp; omega
          intro v' w4 hown' hgrow _
          have hts4 := HRS2.out.grow ((Below.refl _ _).alloc (Nat.le_refl _) _) hown' hgrow
          clear hown' hgrow
          obtain ⟨d0, d1, e0, e1⟩ := psAt_of hts4.res
          have HT4 := Lib.hid hts4
          clear hts4
          go_wp2
          obtain ⟨f0, f1, -, -⟩ := psAt_of (ps_put HT4.out.res (.int .i64 0) (.int .i64 0))
          refine bodyPost_ret (v := .tuple #[v', .agg #[.int .i64 0, .int .i64 0], .int .i64 0]) (by simp [results, Try.results12, go_sem, f0, f1]) rfl ?_
          rw [HO.out]
          exact .inl ⟨rfl, ⟨v', rfl, tokSlice_owns (ownsRow_setCell_below (ownsRow_setCell_below HT4.out.own (a := ⟨w.heap.size, 0, none⟩) (Nat.lt_succ_self _) _) (a := ⟨w.heap.size, 1, none⟩) (Nat.lt_succ_self _) _)⟩, (only_put2 HT4.out.only (Nat.le_refl _) _ _).to (Nat.le_refl _) (Nat.le_refl _)⟩
        · have q1 : (((i : Int) + (g1 : Int)) == (s.size : Int)) = false := beq_eq_false_iff_ne.2 (by omega)
          have q2 : ((acc.length : Int) == 20000) = false := beq_eq_false_iff_ne.2 (by omega)
          have hlt : i + g1 < s.size := by omega
          have hx : (s.extract (i + g1) s.size).toList = s.toList.drop (i + g1) := Pl.extract_end s (i + g1)
          have hnil : s.toList.drop (i + g1) ≠ [] := by
            intro h
            have := congrArg List.length h
            rw [List.length_drop, HLS.out] at this
            simp at this; omega
          have hfine := Pl.fine_tok _ hnil
          have hnx : ∀ W, Calls Try.prog 32 #[.string (s.extract (i + g1) s.size)] W (RNext W (Pl.tok (s.toList.drop (i + g1)))) := fun W => by
            have := next_any (s.extract (i + g1) s.size) W (by rw [ByteArray.size_extract]; omega) (by rw [ByteArray.size_extract]; omega)
            rw [hx] at this; exact this
          have hbad := HBAD.out (by rw [HLS.out]; exact he)
          have hnext := HNEXT.out (by rw [HLS.out]; exact he)
          generalize Pl.tok (s.toList.drop (i + g1)) = T at hfine hnx hbad hnext
          have HNX := Lib.hid hnx
          have HFI := Lib.hid hfine
          have HBD := Lib.hid hbad
          have HNT := Lib.hid hnext
          clear he hx hnil hfine hnx hbad hnext
          go_wp2_with fail
          refine (HNX.out _).mono ?_
          rintro e w2 ⟨kd, tx, n, hT, rfl, hb2⟩
          by_cases hte : T.err = 0
          · have t1 : (T.err != 0) = false := by rw [hte]; rfl
            obtain ⟨rfl, rfl, rfl⟩ := hT hte
            obtain ⟨hf1, hf2, hf3⟩ := HFI.out.1 hte
            rw [List.length_drop, HLS.out] at hf2
            have HOK2 := Lib.hid (HNT.out hte hf1 (by rw [HLS.out]; omega))
            have hrs2 := HRS.out.step hb2
            have hz2 : w.heap.size + 1 ≤ w2.heap.size := hrs2.size
            have HRS2 := Lib.hid hrs2
            generalize hli : Pl.lineAt s.toList (i + g1) = li at HOK2
            generalize hco : Pl.colAt s.toList (i + g1) = co at HOK2
            have HLI := Lib.hid hli
            have HCO := Lib.hid hco
            generalize hkd : T.kind = kd
            generalize htx : Pl.mk T.text = tx
            have HTC := Lib.hid (show tokCells ⟨T.kind, T.text, li, co⟩ = [.int .i64 kd, .string tx, .int .i64 li, .int .i64 co] from by rw [← hkd, ← htx]; rfl)
            clear hT hb2 hrs2 hte hli hco hkd htx hf3
            unfold tkc
            go_wp2_with fail
            have hkn := blk_new w2 #[.int .i64 kd, .string tx, .int .i64 0, .int .i64 0] 43
            have hbn : Below w2.heap.size w2 (w2.alloc (.cells #[.int .i64 kd, .string tx, .int .i64 0, .int .i64 0] 43)) := (Below.refl _ _).alloc (Nat.le_refl _) _
            generalize w2.alloc (.cells #[.int .i64 kd, .string tx, .int .i64 0, .int .i64 0] 43) = w3 at hkn hbn ⊢
            refine (HPL.out _).mono ?_
            rintro e w4 ⟨rfl, hb4⟩
            rw [HLI.out, HCO.out]
            have hkn4 := hkn.below hb4 hkn.lt
            have hb24 := hbn.trans (hb4.mono hbn.size)
            obtain ⟨d0, d1, d2, d3, e0, e1, e2, e3⟩ := tkAt_of hkn4
            have hfin := (hkn4.set 2 (.int .i64 li)).set 3 (.int .i64 co)
            have hb5 := (hb24.setCell (p := ⟨w2.heap.size, 2, none⟩) (Nat.le_refl _) (.int .i64 li)).setCell (p := ⟨w2.heap.size, 3, none⟩) (Nat.le_refl _) (.int .i64 co)
            obtain ⟨f0, f1, f2, f3, -, -, -, -⟩ := tkAt_of (show Blk _ _ _ #[.int .i64 kd, .string tx, .int .i64 li, .int .i64 co] from hfin)
            have HB5 := Lib.hid hb5
            have hz4 : w2.heap.size ≤ w4.heap.size := hb24.size
            clear hkn hbn hb4 hkn4 hb24 hfin hb5
            have hrs5 := HRS2.out.step HB5.out
            have hbl := blk_new ((w4.setCell ⟨w2.heap.size, 2, none⟩ (.int .i64 li)).setCell ⟨w2.heap.size, 3, none⟩ (.int .i64 co)) #[.int .i64 kd, .string tx, .int .i64 li, .int .i64 co] 43
            rw [show ((w4.setCell ⟨w2.heap.size, 2, none⟩ (.int .i64 li)).setCell ⟨w2.heap.size, 3, none⟩ (.int .i64 co)).heap.size = w4.heap.size from by simp [World.setCell]] at hbl
            go_wp2_with (at_builtin; refine wpList_append_own _ rfl _ _ 24 rfl (w.heap.size + 1) 43 i9 (.agg #[.int .i64 0, .string ⟨#[]⟩, .int .i64 0, .int .i64 0]) 4 40 Try.underlying24 HI.out.1 HI.out.2.1 HI.out.2.2.1 HI.out.2.2.2 rfl (by decide) _ _ _ rfl (hrs5.own.alloc _) ⟨w4.heap.size, 0, none⟩ 1 1 [.int .i64 kd, .string tx, .int .i64 li, .int .i64 co] rfl rfl ?g1 ?g2 ?g3 ?g4 ?g5 ?_)
            case g1 =>
              intro q u hq
              match q, hq with
              | 0, hq => obtain rfl := Option.some.inj hq; exact hbl.cell 0 _ rfl
              | 1, hq => obtain rfl := Option.some.inj hq; exact hbl.cell 1 _ rfl
              | 2, hq => obtain rfl := Option.some.inj hq; exact hbl.cell 2 _ rfl
              | 3, hq => obtain rfl := Option.some.inj hq; exact hbl.cell 3 _ rfl
            case g2 =>
              intro u hu
              rw [← HTC.out] at hu
              exact tokCells_one _ u hu
            case g3 => unfold maxLen; omega
            case g4 => omega
            case g5 => simp; omega
            intro v' w6 hown' hgrow _
            rw [← HTC.out] at hown'
            have HT6 := Lib.hid (hrs5.grow ((Below.refl _ _).alloc (Nat.le_refl _) _) hown' hgrow)
            clear hown' hgrow hrs5 hbl d0 d1 d2 d3 e0 e1 e2 e3 f0 f1 f2 f3
            go_wp2
            have hgk := HOK.out.1
            have hgk2 := HOK.out.2.1
            go_roundg (gk - 1)
            case measure => omega
            case rel => exact ⟨i + g1 + T.len, _, by go_num, HOK2.out, HT6.out⟩
          · have t1 : (T.err != 0) = true := by simpa using hte
            obtain ⟨hf1, -⟩ := HFI.out.2 hte
            rw [List.length_drop, HLS.out] at hf1
            have HO := Lib.hid (HBD.out hte)
            have hp2 : ∀ W, Calls Try.prog 31 #[.string s, .int .i64 ((i : Int) + (g1 : Int) + (T.pos : Int))] W fun e w' => e = .returned (.agg #[.int .i64 (Pl.lineAt s.toList (i + g1 + T.pos)), .int .i64 (Pl.colAt s.toList (i + g1 + T.pos))]) ∧ Below W.heap.size W w' := fun W => by
              have := rPlace_any s (i + g1 + T.pos) W (by omega) (by omega)
              rw [Int.natCast_add, Int.natCast_add] at this; exact this
            generalize Pl.lineAt s.toList (i + g1 + T.pos) = li at hp2 HO
            generalize Pl.colAt s.toList (i + g1 + T.pos) = co at hp2 HO
            have HP2 := Lib.hid hp2
            have hrs2 := HRS.out.step hb2
            have HRS2 := Lib.hid hrs2
            have HTE := Lib.hid hte
            generalize T.pos = po at hf1 HP2 ⊢
            generalize T.err = er at HO HTE t1 ⊢
            clear hT hb2 hrs2 hte hp2
            unfold tkc
            go_wp2_with fail
            have hbn : Below w2.heap.size w2 (w2.alloc (.cells #[.int .i64 kd, .string tx, .int .i64 0, .int .i64 0] 43)) := (Below.refl _ _).alloc (Nat.le_refl _) _
            generalize w2.alloc (.cells #[.int .i64 kd, .string tx, .int .i64 0, .int .i64 0] 43) = w3 at hbn ⊢
            refine (HP2.out _).mono ?_
            rintro e w4 ⟨rfl, hb4⟩
            have hrs4 := HRS2.out.step (hbn.trans (hb4.mono hbn.size))
            obtain ⟨d0, d1, e0, e1⟩ := psAt_of hrs4.res
            have HRS4 := Lib.hid hrs4
            clear hbn hb4 hrs4
            go_wp2
            obtain ⟨f0, f1, -, -⟩ := psAt_of (ps_put HRS4.out.res (.int .i64 li) (.int .i64 co))
            refine bodyPost_ret (v := .tuple #[.slice none 0 0, .agg #[.int .i64 li, .int .i64 co], .int .i64 er]) (by simp [results, Try.results12, go_sem, f0, f1]) rfl ?_
            exact rbad_end HRS4.out HO.out HTE.out
      · have hopen := Pl.ok_open _ _ _ _ _ hok hg
        rw [hg] at hsk
        generalize Pl.lineAt s.toList (i + (Pl.gap (s.toList.drop i)).1) = li at hpl hopen
        generalize Pl.colAt s.toList (i + (Pl.gap (s.toList.drop i)).1) = co at hpl hopen
        generalize (Pl.gap (s.toList.drop i)).1 = g1 at hsk hpl hbd
        have HSK := Lib.hid hsk
        have HPL := Lib.hid hpl
        have HO := Lib.hid hopen
        clear hsk hpl hopen hg hok hrs
        go_wp2_with fail
        refine (HSK.out _).mono ?_
        rintro e w' ⟨rfl, rfl⟩
        go_wp2_with fail
        refine (HPL.out _).mono ?_
        rintro e w4 ⟨rfl, hb4⟩
        have hrs4 := HRS.out.step hb4
        obtain ⟨d0, d1, e0, e1⟩ := psAt_of hrs4.res
        have HRS4 := Lib.hid hrs4
        clear hb4 hrs4
        go_wp2
        obtain ⟨f0, f1, -, -⟩ := psAt_of (ps_put HRS4.out.res (.int .i64 li) (.int .i64 co))
        refine bodyPost_ret (v := .tuple #[.slice none 0 0, .agg #[.int .i64 li, .int .i64 co], .int .i64 4]) (by simp [results, Try.results12, go_sem, f0, f1]) rfl ?_
        exact rbad_end HRS4.out HO.out (show ¬ (4 : Int) = 0 by decide)
end Go.Proofs.Ytbmkbenlhkcklaa
