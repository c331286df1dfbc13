/-
  Walks and plain mathematics, several texts in one (Df Dg).
-/
import Derived.Test.YtkmgnibopmpcjaaGreatDoorH14
/-
  Walks of layer 4: a VPATH or an MPATH.
-/
namespace Go.Proofs.YtkmgnibopmpcjaaGreatDoor
open Go Go.RowKit
set_option linter.unusedSimpArgs false
set_option maxRecDepth 100000 in
set_option maxHeartbeats 8000000 in
theorem ppath_any (s : Src) (g i : Nat) (w : World) (h : PAt w g s i) (hbig : s.ts.length ≤ 536870912) : Calls Tryz.prog 88 #[.pointer (some ⟨g, 0, none⟩)] w (TreeOut s g (Pl.vpath s.ts i) w) := by
  obtain ⟨i9, hi0, hz0, hz1, hz2⟩ := info3 infoStr1
  have HP := Lib.hid h
  have HGL := Lib.hid h.blk.lt
  have HTO := Lib.hid (fun W j (hW : PAt W g s j) => ptoken_any s g j W hW)
  have HTK := Lib.hid (fun k (hk : k ≠ 8) W j (hW : PAt W g s j) => ptake_any s g j k hk W hW)
  have HND := Lib.hid (fun W j (hW : PAt W g s j) => ppass_any s g j [46] (by decide) W hW)
  have HMP := Lib.hid (show Pl.vpath s.ts i = Pl.vpMore s.ts (s.ts.length + 1) [] i from rfl)
  generalize Pl.vpath s.ts i = r at *
  have HMM := Lib.hid (fun n ns j => show Pl.vpMore s.ts (n + 1) ns j = if (Pl.tkAt s.ts j).kind = 2 then (if Pl.passes s.ts (j + 1) [46] then Pl.vpMore s.ts n (ns ++ [Pl.mk (Pl.tkAt s.ts j).text]) (j + 2) else .ok (Pl.ndNames 24 (ns ++ [Pl.mk (Pl.tkAt s.ts j).text]) []) (j + 1)) else (Pl.takeK s.ts 1 j).then fun t k => .ok (Pl.ndNames 23 (ns ++ [Pl.mk t]) []) k from rfl)
  have HTE := Lib.hid (fun k j => show Pl.takeK s.ts k j = if (Pl.tkAt s.ts j).kind = k then .ok (Pl.tkAt s.ts j).text (j + 1) else .bad j from rfl)
  have HTL := Lib.hid (fun j => text_lens h.src j)
  have hmk : (Pl.mk [46] : ByteArray) = ⟨#[46]⟩ := rfl
  rw [hmk] at HND
  have HIN := Lib.hid h.inn
  clear hmk h
  go_enter Tryz.func88, Tryz.ntmps88
  go_wp2_with fail
  have HB0 := Lib.hid (show Below w.heap.size w (w.alloc (.cells #[.int .i64 0, .int .i64 0, .string ⟨#[]⟩, .slice none 0 0, .slice none 0 0] 28)) from (Below.refl _ _).alloc (Nat.le_refl _) _)
  have HX0 := Lib.hid (blk_new w #[.int .i64 0, .int .i64 0, .string ⟨#[]⟩, .slice none 0 0, .slice none 0 0] 28)
  have HN0 := Lib.hid (show NamesAt (w.alloc (.cells #[.int .i64 0, .int .i64 0, .string ⟨#[]⟩, .slice none 0 0, .slice none 0 0] 28)) (w.heap.size + 1) (.slice none 0 0) [] from ⟨World.ownsRow_nil _ _ _ _, fun z hz => (by cases hz)⟩)
  have HP0 := Lib.hid (HP.out.below HB0.out)
  have HB1 := Lib.hid (show g < w.heap.size + 1 from by have := HGL.out; omega)
  go_loopg [3] (s.ts.length + 1) (fun gk v wr => ∃ (j : Nat) (ns : List ByteArray), PAt wr g s j ∧ Fr (· = g) (· = g) w wr ∧ NamesAt wr (w.heap.size + 1) v ns ∧ Blk wr w.heap.size 28 #[.int .i64 0, .int .i64 0, .string ⟨#[]⟩, .slice none 0 0, .slice none 0 0] ∧ r = Pl.vpMore s.ts gk ns j ∧ s.ts.length + 1 ≤ gk + j ∧ ns.length ≤ j)
  case atStart => exact ⟨i, [], HP0.out, fr_below HB0.out, HN0.out, HX0.out, HMP.out, by omega, by simp⟩
  case round =>
    obtain ⟨j, ns, hp, hf, hn, hx, hr, hj, hnl⟩ := hrel
    have hjn := hp.inn
    have HF2 := Lib.hid hf
    have HN2 := Lib.hid hn
    have HX2 := Lib.hid hx
    obtain ⟨G, hG⟩ : ∃ G, gk = G + 1 := ⟨gk - 1, by omega⟩
    rw [hG, HMM.out G ns j] at hr
    have HRR := Lib.hid hr
    have HGJ := Lib.hid hG
    have HPJ := Lib.hid hp
    have hto := HTO.out _ _ hp
    unfold TokenOut at hto
    have HTT := Lib.hid hto
    clear hf hn hx hr hG hp hto
    go_wp2_with fail
    refine HTT.out.mono ?_
    rintro e w2 ⟨⟨li, co, rfl⟩, hb2⟩
    have HP3 := Lib.hid (HPJ.out.below hb2)
    have HF3 := Lib.hid (HF2.out.trans (fr_below hb2))
    have HN3 := Lib.hid (HN2.out.keep HB1.out (fr_below hb2))
    have HX3 := Lib.hid (HX2.out.of_eq (hb2.block _ HX2.out.lt))
    have htl := HTL.out j
    by_cases hk : (Pl.tkAt s.ts j).kind = 2
    · have HR3 := Lib.hid (HRR.out.trans (if_pos hk))
      have HT3 := Lib.hid (HTK.out 2 (by decide) _ _ HP3.out)
      rw [HTE.out 2 j, if_pos hk] at HT3
      rw [hk]
      generalize hzz : Pl.mk (Pl.tkAt s.ts j).text = zz at *
      have hfl : ∀ W, Sem.run Tryz.prog (Instr.field 41 (.agg #[.int .i64 2, .string zz, .int .i64 li, .int .i64 co]) 0) W = .ok (.int .i64 2) W := fun _ => rfl
      have HZZ := Lib.hid hzz
      have HZL := Lib.hid htl
      clear hb2 hk htl hzz
      go_wp2_with fail
      refine HT3.out.mono ?_
      rintro e w3 ⟨⟨rfl, hp4⟩, hf4⟩
      rw [HZZ.out]
      have HBA := Lib.hid (show Below w3.heap.size w3 (w3.alloc (.cells #[.string zz] 9)) from (Below.refl _ _).alloc (Nat.le_refl _) _)
      have HF4 := Lib.hid ((HF3.out.trans hf4).trans (fr_below HBA.out))
      have HN4 := Lib.hid ((HN3.out.keep HB1.out hf4).keep HB1.out (fr_below HBA.out))
      have HX3b := Lib.hid (HX3.out.of_eq (hf4.block HX3.out.lt (fun e => by have := HGL.out; omega)))
      have HX4 := Lib.hid (HX3b.out.of_eq (HBA.out.block _ HX3b.out.lt))
      have HP4 := Lib.hid (hp4.below HBA.out)
      clear hf4 hp4
      obtain ⟨nl, hnl2⟩ : ∃ nl, nl = ns.length := ⟨_, rfl⟩
      have HROW := Lib.hid (show (w3.alloc (.cells #[.string zz] 9)).ownsRow (w.heap.size + 1) 9 1 u3 nl (ns.map Value.string) from by rw [hnl2]; exact HN4.out.row)
      have HNL := Lib.hid hnl2
      rw [← hnl2] at hnl
      clear hnl2
      go_wp2_with (at_builtin; refine wpList_append_own _ rfl _ _ 25 rfl (w.heap.size + 1) 9 i9 (.string ⟨#[]⟩) 1 16 Tryz.underlying25 hi0 hz0 hz1 hz2 rfl (by decide) _ _ _ rfl HROW.out ⟨w3.heap.size, 0, none⟩ 1 1 [.string zz] rfl rfl ?c1 ?c2 ?c3 ?c4 ?c5 ?_)
      case c1 => exact World.news_of_block (cs := #[.string zz]) (t := 9) (fr := (0, 0)) (heap_alloc_new w3 _)
      case c2 => simp [Value.oneCell']
      case c3 => unfold maxLen; omega
      case c4 => omega
      case c5 => exact HX4.out.lt
      intro v' w4 hown hgrow _
      have hob : ∀ k, u3.ownBlock = some k → w.heap.size + 1 ≤ k := fun k hk => (HROW.out.lt k hk).1
      have HN5 := Lib.hid (show NamesAt w4 (w.heap.size + 1) v' (ns ++ [zz]) from ⟨by
        rw [List.length_append, List.map_append, ← HNL.out]
        exact hown, fun z hz => by
        rw [List.mem_append] at hz
        rcases hz with hz | hz
        · exact HN4.out.lens z hz
        · simp at hz; subst hz; exact HZL.out⟩)
      have HP5 := Lib.hid (HP4.out.grown hgrow (fun k hk => Nat.lt_of_lt_of_le HB1.out (hob k hk)))
      have HF5 := Lib.hid (fr_grown HF4.out hgrow (fun k hk => Nat.le_of_succ_le (hob k hk)))
      have HX5 := Lib.hid (HX4.out.of_eq (hgrow.block _ HX4.out.lt (fun e => by have := hob _ e.symm; omega)))
      have HNN := Lib.hid (show (ns ++ [zz]).length ≤ j + 1 from by rw [List.length_append, ← HNL.out]; simp; omega)
      have HN6 := Lib.hid (HND.out _ _ HP5.out)
      generalize Pl.passes s.ts (j + 1) [46] = pb at *
      clear hown hgrow hob
      go_wp2_with fail
      refine HN6.out.mono ?_
      rintro e w5 ⟨rfl, hp6, hf6⟩
      cases pb
      · have HR4 := Lib.hid (show r = .ok (Pl.ndNames 24 (ns ++ [zz]) []) (j + 1) from HR3.out)
        have HP6 := Lib.hid (show PAt w5 g s (j + 1) from hp6)
        have HF6 := Lib.hid (HF5.out.trans hf6)
        have HX6 := Lib.hid (HX5.out.of_eq (hf6.block HX5.out.lt (fun e => by have := HGL.out; omega)))
        have hn7 := HN5.out.keep HB1.out hf6
        obtain ⟨sa, sc, hv, -⟩ := id hn7.strs
        subst hv
        have HN7 := Lib.hid hn7
        generalize (ns ++ [zz]).length = ln at HN7 ⊢
        have HNS := Lib.hid HN7.out
        clear hp6 hf6 hn7
        obtain ⟨x0, x1, x2, x3, x4⟩ := five_cells HX6.out
        have y0 := HX6.out.thaw 0
        have y1 := HX6.out.thaw 1
        have y2 := HX6.out.thaw 2
        have y3 := HX6.out.thaw 3
        have y4 := HX6.out.thaw 4
        go_wp2_with fail
        have HEN := putFive_blk HX6.out (.int .i64 24) (.int .i64 0) (.string ⟨#[]⟩) (.slice sa ln sc) (.slice none 0 0)
        have HFI := tree_box 24 HGL.out HF6.out HNS.out.strs (Nat.lt_succ_self w.heap.size) HP6.out (.int .i64 24) (.int .i64 0) (.string ⟨#[]⟩) (.slice sa ln sc) (.slice none 0 0)
        unfold putFive at HEN HFI
        obtain ⟨k0, k1, k2, k3, k4⟩ := five_cells HEN
        refine bodyPost_ret (v := .agg #[.int .i64 24, .int .i64 0, .string ⟨#[]⟩, .slice sa ln sc, .slice none 0 0]) (by simp [results, Tryz.results88, go_sem, k0, k1, k2, k3, k4]) rfl ?_
        unfold TreeOut
        rw [HR4.out]
        exact HFI
      · have HR4 := Lib.hid (show r = Pl.vpMore s.ts G (ns ++ [zz]) (j + 2) from HR3.out)
        have HP6 := Lib.hid (show PAt w5 g s (j + 2) from hp6)
        have HF6 := Lib.hid (HF5.out.trans hf6)
        have HX6 := Lib.hid (HX5.out.of_eq (hf6.block HX5.out.lt (fun e => by have := HGL.out; omega)))
        have HN7 := Lib.hid (HN5.out.keep HB1.out hf6)
        have hle := HP6.out.inn
        clear hp6 hf6
        go_wp2
        go_roundg G
        case measure => have := HGJ.out; omega
        case rel => exact ⟨j + 2, ns ++ [zz], HP6.out, HF6.out, HN7.out, HX6.out, HR4.out, by have := HGJ.out; omega, by have := HNN.out; omega⟩
    · have HR3 := Lib.hid (HRR.out.trans (if_neg hk))
      have HT3 := Lib.hid (HTK.out 1 (by decide) _ _ HP3.out)
      have hte := HTE.out 1 j
      rw [hte] at HT3 HR3
      clear hte
      by_cases hk1 : (Pl.tkAt s.ts j).kind = 1
      · rw [if_pos hk1] at HT3 HR3
        rw [Pl.PR.then_ok] at HR3
        rw [hk1]
        generalize hzz : Pl.mk (Pl.tkAt s.ts j).text = zz at *
        have hfl : ∀ W, Sem.run Tryz.prog (Instr.field 41 (.agg #[.int .i64 1, .string zz, .int .i64 li, .int .i64 co]) 0) W = .ok (.int .i64 1) W := fun _ => rfl
        have HZZ := Lib.hid hzz
        have HZL := Lib.hid htl
        clear hb2 hk htl hzz hk1
        go_wp2_with fail
        refine HT3.out.mono ?_
        rintro e w3 ⟨⟨rfl, hp4⟩, hf4⟩
        rw [HZZ.out]
        have HBA := Lib.hid (show Below w3.heap.size w3 (w3.alloc (.cells #[.string zz] 9)) from (Below.refl _ _).alloc (Nat.le_refl _) _)
        have HF4 := Lib.hid ((HF3.out.trans hf4).trans (fr_below HBA.out))
        have HN4 := Lib.hid ((HN3.out.keep HB1.out hf4).keep HB1.out (fr_below HBA.out))
        have HX3b := Lib.hid (HX3.out.of_eq (hf4.block HX3.out.lt (fun e => by have := HGL.out; omega)))
        have HX4 := Lib.hid (HX3b.out.of_eq (HBA.out.block _ HX3b.out.lt))
        have HP4 := Lib.hid (hp4.below HBA.out)
        clear hf4 hp4
        obtain ⟨nl, hnl2⟩ : ∃ nl, nl = ns.length := ⟨_, rfl⟩
        have HROW := Lib.hid (show (w3.alloc (.cells #[.string zz] 9)).ownsRow (w.heap.size + 1) 9 1 u3 nl (ns.map Value.string) from by rw [hnl2]; exact HN4.out.row)
        have HNL := Lib.hid hnl2
        rw [← hnl2] at hnl
        clear hnl2
        go_wp2_with (at_builtin; refine wpList_append_own _ rfl _ _ 25 rfl (w.heap.size + 1) 9 i9 (.string ⟨#[]⟩) 1 16 Tryz.underlying25 hi0 hz0 hz1 hz2 rfl (by decide) _ _ _ rfl HROW.out ⟨w3.heap.size, 0, none⟩ 1 1 [.string zz] rfl rfl ?c1 ?c2 ?c3 ?c4 ?c5 ?_)
        case c1 => exact World.news_of_block (cs := #[.string zz]) (t := 9) (fr := (0, 0)) (heap_alloc_new w3 _)
        case c2 => simp [Value.oneCell']
        case c3 => unfold maxLen; omega
        case c4 => omega
        case c5 => exact HX4.out.lt
        intro v' w4 hown hgrow _
        have hob : ∀ k, u3.ownBlock = some k → w.heap.size + 1 ≤ k := fun k hk => (HROW.out.lt k hk).1
        have hn5 : NamesAt w4 (w.heap.size + 1) v' (ns ++ [zz]) := ⟨by
          rw [List.length_append, List.map_append, ← HNL.out]
          exact hown, fun z hz => by
          rw [List.mem_append] at hz
          rcases hz with hz | hz
          · exact HN4.out.lens z hz
          · simp at hz; subst hz; exact HZL.out⟩
        have HP5 := Lib.hid (HP4.out.grown hgrow (fun k hk => Nat.lt_of_lt_of_le HB1.out (hob k hk)))
        have HF5 := Lib.hid (fr_grown HF4.out hgrow (fun k hk => Nat.le_of_succ_le (hob k hk)))
        have HX5 := Lib.hid (HX4.out.of_eq (hgrow.block _ HX4.out.lt (fun e => by have := hob _ e.symm; omega)))
        clear hgrow hob hown
        obtain ⟨sa, sc, hv, -⟩ := id hn5.strs
        subst hv
        have HN5 := Lib.hid hn5
        generalize (ns ++ [zz]).length = ln at HN5 ⊢
        clear hn5
        obtain ⟨x0, x1, x2, x3, x4⟩ := five_cells HX5.out
        have y0 := HX5.out.thaw 0
        have y1 := HX5.out.thaw 1
        have y2 := HX5.out.thaw 2
        have y3 := HX5.out.thaw 3
        have y4 := HX5.out.thaw 4
        go_wp2_with fail
        have HEN := putFive_blk HX5.out (.int .i64 23) (.int .i64 0) (.string ⟨#[]⟩) (.slice sa ln sc) (.slice none 0 0)
        have HFI := tree_box 23 HGL.out HF5.out HN5.out.strs (Nat.lt_succ_self w.heap.size) HP5.out (.int .i64 23) (.int .i64 0) (.string ⟨#[]⟩) (.slice sa ln sc) (.slice none 0 0)
        unfold putFive at HEN HFI
        obtain ⟨k0, k1, k2, k3, k4⟩ := five_cells HEN
        refine bodyPost_ret (v := .agg #[.int .i64 23, .int .i64 0, .string ⟨#[]⟩, .slice sa ln sc, .slice none 0 0]) (by simp [results, Tryz.results88, go_sem, k0, k1, k2, k3, k4]) rfl ?_
        unfold TreeOut
        rw [HR3.out]
        exact HFI
      · rw [if_neg hk1] at HT3 HR3
        rw [Pl.PR.then_bad] at HR3
        generalize htt : (Pl.tkAt s.ts j).kind = tt at *
        generalize Pl.mk (Pl.tkAt s.ts j).text = zz at *
        have hfl : ∀ W, Sem.run Tryz.prog (Instr.field 41 (.agg #[.int .i64 tt, .string zz, .int .i64 li, .int .i64 co]) 0) W = .ok (.int .i64 tt) W := fun _ => rfl
        have hne : (tt == 2) = false := by simpa using hk
        clear hb2 hk htl hk1 htt
        go_wp2_with fail
        refine HT3.out.mono ?_
        rintro e w3 ⟨rfl, hf4⟩
        refine ⟨rfl, ?_⟩
        unfold TreeOut
        rw [HR3.out]
        exact ⟨rfl, HF3.out.trans hf4⟩
end Go.Proofs.YtkmgnibopmpcjaaGreatDoor

/-
  Walks of layer 4: the only tree of a list, or its tuple.
-/
namespace Go.Proofs.YtkmgnibopmpcjaaGreatDoor
open Go Go.RowKit
set_option linter.unusedSimpArgs false
theorem synV_list {w : World} {P : Nat → Prop} {lv : Value} {l : List Pl.Syn} (op : Int) (h : SynSl w P lv l) : SynV w P (Pl.nd op l) (.agg #[.int .i64 op, .int .i64 0, .string ⟨#[]⟩, .slice none 0 0, lv]) :=
  (synV_iff _ _ _ _).2 ⟨Nat.zero_le _, _, lv, rfl, ⟨none, 0, rfl, Nat.le_refl _, Nat.zero_le _, fun _ => rfl, fun z hz => (by cases hz), Or.inl rfl⟩, h⟩
def TupOut (P : Nat → Prop) (t : Pl.Syn) (w : World) (e : Ending) (w' : World) : Prop := (∃ u, e = .returned u ∧ SynV w' P t u) ∧ Below w.heap.size w w'
set_option maxRecDepth 100000 in
set_option maxHeartbeats 4000000 in
theorem ptuple_one (op : Int) (P : Nat → Prop) (t : Pl.Syn) (v : Value) (w : World) (hP : ∀ i, P i → i < w.heap.size) (h : SynSl w P v [t]) : Calls Tryz.prog 142 #[.int .i64 op, v] w (TupOut P t w) := by
  have HB0 := Lib.hid (show Below w.heap.size w (w.alloc (.cells #[.int .i64 0, .int .i64 0, .string ⟨#[]⟩, .slice none 0 0, .slice none 0 0] 28)) from (Below.refl _ _).alloc (Nat.le_refl _) _)
  have h := h.keep (Same.of_below HB0.out hP)
  obtain ⟨a, c, rfl, hc, hm, -, hk⟩ := h
  rcases hk with hk | ⟨b, off, rfl, hb, hk⟩
  · cases hk
  obtain ⟨u, hn, ht⟩ := (kidsAt_iff _ _ _ _ _).1 hk 0 (by simp)
  obtain ⟨x0, x1, x2, x3, x4, rfl, t0, t1, t2, t3, t4⟩ := hn
  have HT := Lib.hid (show SynV _ P t _ from ht)
  obtain ⟨-, nv, lv, he, hnv, hlv⟩ := (synV_iff _ _ _ _).1 HT.out
  obtain ⟨na, nc, rfl, -⟩ := hnv
  obtain ⟨la, lc, rfl, -⟩ := hlv
  injection he with he
  simp only [Array.mk.injEq, List.cons.injEq, and_true] at he
  obtain ⟨rfl, rfl, rfl, rfl, rfl⟩ := he
  generalize hnl : t.names.length = nl at *
  generalize hll : t.l.length = ll at *
  generalize ht0 : t.op = z0 at *
  generalize ht1 : t.n = z1 at *
  generalize ht2 : t.s = z2 at *
  simp only [List.length_singleton, Nat.zero_mul, Nat.add_zero] at hc t0 t1 t2 t3 t4 ⊢
  clear ht hk h hnl hll ht0 ht1 ht2
  go_enter Tryz.func142, Tryz.ntmps142
  go_wp2_with fail
  have HBE := Lib.hid (show Below w.heap.size w (w.alloc (.cells #[.int .i64 z0, .int .i64 z1, .string z2, .slice na nl nc, .slice la ll lc] 28)) from (Below.refl _ _).alloc (Nat.le_refl _) _)
  obtain ⟨k0, k1, k2, k3, k4⟩ := five_cells (blk_new w #[.int .i64 z0, .int .i64 z1, .string z2, .slice na nl nc, .slice la ll lc] 28)
  refine bodyPost_ret (v := .agg #[.int .i64 z0, .int .i64 z1, .string z2, .slice na nl nc, .slice la ll lc]) (by simp [results, Tryz.results142, go_sem, k0, k1, k2, k3, k4]) rfl ?_
  exact ⟨⟨_, rfl, HT.out.keep (fun b hb => (HBE.out.block b (hP b hb)).trans (HB0.out.block b (hP b hb)).symm)⟩, HBE.out⟩
set_option maxRecDepth 100000 in
set_option maxHeartbeats 4000000 in
theorem ptuple_more (op : Int) (P : Nat → Prop) (l : List Pl.Syn) (v : Value) (w : World) (hP : ∀ i, P i → i < w.heap.size) (h : SynSl w P v l) (h1 : l.length ≠ 1) : Calls Tryz.prog 142 #[.int .i64 op, v] w (TupOut P (Pl.nd op l) w) := by
  have HS := Lib.hid h
  obtain ⟨a, c, rfl, hc, hm, -, -⟩ := h
  have HPP := Lib.hid hP
  have hne : ((l.length : Int) == 1) = false := by rw [beq_eq_false_iff_ne]; omega
  generalize hln : l.length = ln at *
  have HLN := Lib.hid hln
  clear hln h1
  go_enter Tryz.func142, Tryz.ntmps142
  go_wp2_with fail
  have HB0 := Lib.hid (show Below w.heap.size w (w.alloc (.cells #[.int .i64 op, .int .i64 0, .string ⟨#[]⟩, .slice none 0 0, .slice a ln c] 28)) from (Below.refl _ _).alloc (Nat.le_refl _) _)
  obtain ⟨k0, k1, k2, k3, k4⟩ := five_cells (blk_new w #[.int .i64 op, .int .i64 0, .string ⟨#[]⟩, .slice none 0 0, .slice a ln c] 28)
  refine bodyPost_ret (v := .agg #[.int .i64 op, .int .i64 0, .string ⟨#[]⟩, .slice none 0 0, .slice a ln c]) (by simp [results, Tryz.results142, go_sem, k0, k1, k2, k3, k4]) rfl ?_
  exact ⟨⟨_, rfl, synV_list op (HS.out.keep (Same.of_below HB0.out HPP.out))⟩, HB0.out⟩
theorem ptuple_any (op : Int) (P : Nat → Prop) (l : List Pl.Syn) (v : Value) (w : World) (hP : ∀ i, P i → i < w.heap.size) (h : SynSl w P v l) : Calls Tryz.prog 142 #[.int .i64 op, v] w (TupOut P (Pl.tupleOf op l) w) := by
  match l, h with
  | [], h => exact ptuple_more op P [] v w hP h (by simp)
  | [t], h => exact ptuple_one op P t v w hP h
  | a :: b :: r, h => exact ptuple_more op P (a :: b :: r) v w hP h (by simp)
end Go.Proofs.YtkmgnibopmpcjaaGreatDoor
