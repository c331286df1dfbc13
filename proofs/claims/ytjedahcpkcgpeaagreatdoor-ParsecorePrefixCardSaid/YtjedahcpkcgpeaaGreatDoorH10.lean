/-
  Walks and plain mathematics, several texts in one (Dd De Df Dg).
-/
import Derived.Test.YtjedahcpkcgpeaaGreatDoorH9
/-
  Walks of layer 4: what is needed; a TPATH.
-/
namespace Go.Proofs.YtjedahcpkcgpeaaGreatDoor
open Go Go.RowKit
set_option linter.unusedSimpArgs false
def NeedOut (s : Src) (g : Nat) (r : Pl.PR Unit) (w : World) (e : Ending) (w' : World) : Prop :=
  (match r with
    | .ok _ j => (∃ v, e = .returned v) ∧ PAt w' g s j
    | .bad j => e = faultAt s j) ∧ Fr (· = g) (· = g) w w'
set_option maxRecDepth 100000 in
set_option maxHeartbeats 4000000 in
theorem pneed_any (s : Src) (g i : Nat) (b : Pl.Bytes) (hb : b ≠ []) (w : World) (h : PAt w g s i) : Calls Tryz.prog 109 #[.pointer (some ⟨g, 0, none⟩), .string (Pl.mk b)] w (NeedOut s g (Pl.needT s.ts b i) w) := by
  have HPS := Lib.hid (ppass_any s g i b hb w h)
  have HND := Lib.hid (show Pl.needT s.ts b i = if Pl.passes s.ts i b = true then .ok () (i + 1) else .bad i from rfl)
  generalize Pl.needT s.ts b i = r at *
  have HRF := Lib.hid (fun W (hW : PAt W g s i) => prefuse_any s g i W hW)
  generalize Pl.passes s.ts i b = pb at *
  generalize Pl.mk b = bb at *
  clear h
  go_enter Tryz.func109, Tryz.ntmps109
  go_wp2_with fail
  refine HPS.out.mono ?_
  rintro e w1 ⟨rfl, hp1, hf1⟩
  cases pb
  · have hp1' : PAt w1 g s i := hp1
    go_wp2_with fail
    refine (HRF.out _ hp1').mono ?_
    rintro e w2 ⟨rfl, hb2⟩
    refine ⟨rfl, ?_⟩
    unfold NeedOut
    rw [HND.out, if_neg (by decide)]
    exact ⟨rfl, hf1.trans (fr_below hb2)⟩
  · have HP1 := Lib.hid (show PAt w1 g s (i + 1) from hp1)
    have HF1 := Lib.hid hf1
    clear hp1 hf1
    go_wp2
    refine bodyPost_ret (v := .tuple #[]) (by simp [results, Tryz.results109, go_sem]) rfl ?_
    unfold NeedOut
    rw [HND.out, if_pos (by first | rfl | trivial)]
    exact ⟨⟨⟨_, rfl⟩, HP1.out⟩, HF1.out⟩
set_option maxRecDepth 100000 in
set_option maxHeartbeats 8000000 in
theorem ptypePath_any (s : Src) (g i : Nat) (w : World) (h : PAt w g s i) (hbig : s.ts.length ≤ 536870912) : Calls Tryz.prog 140 #[.pointer (some ⟨g, 0, none⟩)] w (NamesOut s g (Pl.tpath s.ts i) w) := by
  obtain ⟨i9, hi0, hz0, hz1, hz2⟩ := info3 infoStr1
  have HP := Lib.hid h
  have HGL := Lib.hid h.blk.lt
  have HTO := Lib.hid (fun W j (hW : PAt W g s j) => ptoken_any s g j W hW)
  have HTK := Lib.hid (fun k (hk : k ≠ 8) W j (hW : PAt W g s j) => ptake_any s g j k hk W hW)
  have HND := Lib.hid (fun W j (hW : PAt W g s j) => pneed_any s g j [46] (by decide) W hW)
  have HMP := Lib.hid (show Pl.tpath s.ts i = Pl.tpMore s.ts (s.ts.length + 1) [] i from rfl)
  generalize Pl.tpath s.ts i = r at *
  have HMM := Lib.hid (fun n ns j => show Pl.tpMore s.ts (n + 1) ns j = if (Pl.tkAt s.ts j).kind = 2 then (Pl.needT s.ts [46] (j + 1)).then fun _ k => Pl.tpMore s.ts n (ns ++ [Pl.mk (Pl.tkAt s.ts j).text]) k else (Pl.takeK s.ts 1 j).then fun t k => .ok (ns ++ [Pl.mk t]) k from rfl)
  have HTE := Lib.hid (fun k j => show Pl.takeK s.ts k j = if (Pl.tkAt s.ts j).kind = k then .ok (Pl.tkAt s.ts j).text (j + 1) else .bad j from rfl)
  have HTL := Lib.hid (fun j => text_lens h.src j)
  have hmk : (Pl.mk [46] : ByteArray) = ⟨#[46]⟩ := rfl
  rw [hmk] at HND
  have HN0 := Lib.hid (show NamesAt w w.heap.size (.slice none 0 0) [] from ⟨World.ownsRow_nil _ _ _ _, fun z hz => (by cases hz)⟩)
  have HIN := Lib.hid h.inn
  clear hmk h
  go_enter Tryz.func140, Tryz.ntmps140
  go_wp2_with fail
  go_loopg [3] (s.ts.length + 1) (fun gk v wr => ∃ (j : Nat) (ns : List ByteArray), PAt wr g s j ∧ Fr (· = g) (· = g) w wr ∧ NamesAt wr w.heap.size v ns ∧ r = Pl.tpMore s.ts gk ns j ∧ s.ts.length + 1 ≤ gk + j ∧ ns.length ≤ j)
  case atStart => exact ⟨i, [], HP.out, Fr.refl _ _, HN0.out, HMP.out, by omega, by simp⟩
  case round =>
    obtain ⟨j, ns, hp, hf, hn, hr, hj, hnl⟩ := hrel
    have hjn := hp.inn
    have HF2 := Lib.hid hf
    have HN2 := Lib.hid hn
    obtain ⟨G, hG⟩ : ∃ G, gk = G + 1 := ⟨gk - 1, by omega⟩
    rw [hG, HMM.out G ns j] at hr
    have HRR := Lib.hid hr
    have HGJ := Lib.hid hG
    have HPJ := Lib.hid hp
    have hto := HTO.out _ _ hp
    unfold TokenOut at hto
    have HTT := Lib.hid hto
    clear hf hn hr hG hp hto
    go_wp2_with fail
    refine HTT.out.mono ?_
    rintro e w2 ⟨⟨li, co, rfl⟩, hb2⟩
    have HP3 := Lib.hid (HPJ.out.below hb2)
    have HF3 := Lib.hid (HF2.out.trans (fr_below hb2))
    have HN3 := Lib.hid (HN2.out.keep HGL.out (fr_below hb2))
    have htl := HTL.out j
    by_cases hk : (Pl.tkAt s.ts j).kind = 2
    · have HR3 := Lib.hid (HRR.out.trans (if_pos hk))
      have HT3 := Lib.hid (HTK.out 2 (by decide) _ _ HP3.out)
      rw [HTE.out 2 j, if_pos hk] at HT3
      rw [hk]
      generalize hzz : Pl.mk (Pl.tkAt s.ts j).text = zz at *
      have hfl : ∀ W, Sem.run Tryz.prog (Instr.field 45 (.agg #[.int .i64 2, .string zz, .int .i64 li, .int .i64 co]) 0) W = .ok (.int .i64 2) W := fun _ => rfl
      have HZZ := Lib.hid hzz
      have HZL := Lib.hid htl
      clear hb2 hk htl hzz
      go_wp2_with fail
      refine HT3.out.mono ?_
      rintro e w3 ⟨⟨rfl, hp4⟩, hf4⟩
      rw [HZZ.out]
      have HBA := Lib.hid (show Below w3.heap.size w3 (w3.alloc (.cells #[.string zz] 9)) from (Below.refl _ _).alloc (Nat.le_refl _) _)
      have HF4 := Lib.hid ((HF3.out.trans hf4).trans (fr_below HBA.out))
      have HN4 := Lib.hid ((HN3.out.keep HGL.out hf4).keep HGL.out (fr_below HBA.out))
      have HP4 := Lib.hid (hp4.below HBA.out)
      clear hf4 hp4
      obtain ⟨nl, hnl2⟩ : ∃ nl, nl = ns.length := ⟨_, rfl⟩
      have HROW := Lib.hid (show (w3.alloc (.cells #[.string zz] 9)).ownsRow w.heap.size 9 1 u3 nl (ns.map Value.string) from by rw [hnl2]; exact HN4.out.row)
      have HNL := Lib.hid hnl2
      rw [← hnl2] at hnl
      clear hnl2
      go_wp2_with (at_builtin; refine wpList_append_own _ rfl _ _ 24 rfl w.heap.size 9 i9 (.string ⟨#[]⟩) 1 16 Tryz.underlying24 hi0 hz0 hz1 hz2 rfl (by decide) _ _ _ rfl HROW.out ⟨w3.heap.size, 0, none⟩ 1 1 [.string zz] rfl rfl ?c1 ?c2 ?c3 ?c4 ?c5 ?_)
      case c1 => exact World.news_of_block (cs := #[.string zz]) (t := 9) (fr := (0, 0)) (heap_alloc_new w3 _)
      case c2 => simp [Value.oneCell']
      case c3 => unfold maxLen; omega
      case c4 => omega
      case c5 => exact HF4.out.size
      intro v' w4 hown hgrow _
      have hob : ∀ k, u3.ownBlock = some k → w.heap.size ≤ k := fun k hk => (HROW.out.lt k hk).1
      have HN5 := Lib.hid (show NamesAt w4 w.heap.size v' (ns ++ [zz]) from ⟨by
        rw [List.length_append, List.map_append, ← HNL.out]
        exact hown, fun z hz => by
        rw [List.mem_append] at hz
        rcases hz with hz | hz
        · exact HN4.out.lens z hz
        · simp at hz; subst hz; exact HZL.out⟩)
      have HP5 := Lib.hid (HP4.out.grown hgrow (fun k hk => Nat.lt_of_lt_of_le HGL.out (hob k hk)))
      have HF5 := Lib.hid (fr_grown HF4.out hgrow hob)
      have HNN := Lib.hid (show (ns ++ [zz]).length ≤ j + 1 from by rw [List.length_append, ← HNL.out]; simp; omega)
      have HN6 := Lib.hid (HND.out _ _ HP5.out)
      have hnt := show Pl.needT s.ts [46] (j + 1) = if Pl.passes s.ts (j + 1) [46] = true then .ok () (j + 1 + 1) else .bad (j + 1) from rfl
      rw [hnt] at HN6 HR3
      generalize Pl.passes s.ts (j + 1) [46] = pb at *
      clear hown hgrow hob hnt
      go_wp2_with fail
      refine HN6.out.mono ?_
      rintro e w5 ⟨hq, hf6⟩
      cases pb
      · rw [if_neg (by decide)] at hq HR3
        subst hq
        refine ⟨rfl, ?_⟩
        unfold NamesOut
        rw [HR3.out, Pl.PR.then_bad]
        exact ⟨rfl, HF5.out.trans hf6⟩
      · rw [if_pos (by first | rfl | trivial)] at hq HR3
        obtain ⟨⟨nv, rfl⟩, hp6⟩ := hq
        have HP6 := Lib.hid hp6
        have HF6 := Lib.hid (HF5.out.trans hf6)
        have HN7 := Lib.hid (HN5.out.keep HGL.out hf6)
        rw [Pl.PR.then_ok] at HR3
        have hle := hp6.inn
        clear hp6 hf6
        go_wp2
        go_roundg G
        case measure => have := HGJ.out; omega
        case rel => exact ⟨j + 1 + 1, ns ++ [zz], HP6.out, HF6.out, HN7.out, HR3.out, by have := HGJ.out; omega, by have := HNN.out; omega⟩
    · have HR3 := Lib.hid (HRR.out.trans (if_neg hk))
      have HT3 := Lib.hid (HTK.out 1 (by decide) _ _ HP3.out)
      have hte := HTE.out 1 j
      rw [hte] at HT3 HR3
      clear hte
      by_cases hk1 : (Pl.tkAt s.ts j).kind = 1
      · rw [if_pos hk1] at HT3 HR3
        rw [Pl.PR.then_ok] at HR3
        rw [hk1]
        generalize hzz : Pl.mk (Pl.tkAt s.ts j).text = zz at *
        have hfl : ∀ W, Sem.run Tryz.prog (Instr.field 45 (.agg #[.int .i64 1, .string zz, .int .i64 li, .int .i64 co]) 0) W = .ok (.int .i64 1) W := fun _ => rfl
        have HZZ := Lib.hid hzz
        have HZL := Lib.hid htl
        clear hb2 hk htl hzz hk1
        go_wp2_with fail
        refine HT3.out.mono ?_
        rintro e w3 ⟨⟨rfl, hp4⟩, hf4⟩
        rw [HZZ.out]
        have HBA := Lib.hid (show Below w3.heap.size w3 (w3.alloc (.cells #[.string zz] 9)) from (Below.refl _ _).alloc (Nat.le_refl _) _)
        have HF4 := Lib.hid ((HF3.out.trans hf4).trans (fr_below HBA.out))
        have HN4 := Lib.hid ((HN3.out.keep HGL.out hf4).keep HGL.out (fr_below HBA.out))
        have HP4 := Lib.hid (hp4.below HBA.out)
        clear hf4 hp4
        obtain ⟨nl, hnl2⟩ : ∃ nl, nl = ns.length := ⟨_, rfl⟩
        have HROW := Lib.hid (show (w3.alloc (.cells #[.string zz] 9)).ownsRow w.heap.size 9 1 u3 nl (ns.map Value.string) from by rw [hnl2]; exact HN4.out.row)
        have HNL := Lib.hid hnl2
        rw [← hnl2] at hnl
        clear hnl2
        go_wp2_with (at_builtin; refine wpList_append_own _ rfl _ _ 24 rfl w.heap.size 9 i9 (.string ⟨#[]⟩) 1 16 Tryz.underlying24 hi0 hz0 hz1 hz2 rfl (by decide) _ _ _ rfl HROW.out ⟨w3.heap.size, 0, none⟩ 1 1 [.string zz] rfl rfl ?c1 ?c2 ?c3 ?c4 ?c5 ?_)
        case c1 => exact World.news_of_block (cs := #[.string zz]) (t := 9) (fr := (0, 0)) (heap_alloc_new w3 _)
        case c2 => simp [Value.oneCell']
        case c3 => unfold maxLen; omega
        case c4 => omega
        case c5 => exact HF4.out.size
        intro v' w4 hown hgrow _
        have hob : ∀ k, u3.ownBlock = some k → w.heap.size ≤ k := fun k hk => (HROW.out.lt k hk).1
        have HS5 := Lib.hid (show NamesAt w4 w.heap.size v' (ns ++ [zz]) from ⟨by
          rw [List.length_append, List.map_append, ← HNL.out]
          exact hown, fun z hz => by
          rw [List.mem_append] at hz
          rcases hz with hz | hz
          · exact HN4.out.lens z hz
          · simp at hz; subst hz; exact HZL.out⟩).strs
        have HP5 := Lib.hid (HP4.out.grown hgrow (fun k hk => Nat.lt_of_lt_of_le HGL.out (hob k hk)))
        have HF5 := Lib.hid (fr_grown HF4.out hgrow hob)
        clear hown hgrow hob
        go_wp2
        go_ret
        unfold NamesOut
        rw [HR3.out]
        exact ⟨⟨_, rfl, HS5.out, HP5.out⟩, HF5.out⟩
      · rw [if_neg hk1] at HT3 HR3
        rw [Pl.PR.then_bad] at HR3
        generalize htt : (Pl.tkAt s.ts j).kind = tt at *
        generalize Pl.mk (Pl.tkAt s.ts j).text = zz at *
        have hfl : ∀ W, Sem.run Tryz.prog (Instr.field 45 (.agg #[.int .i64 tt, .string zz, .int .i64 li, .int .i64 co]) 0) W = .ok (.int .i64 tt) W := fun _ => rfl
        have hne : (tt == 2) = false := by simpa using hk
        clear hb2 hk htl hk1 htt
        go_wp2_with fail
        refine HT3.out.mono ?_
        rintro e w3 ⟨rfl, hf4⟩
        refine ⟨rfl, ?_⟩
        unfold NamesOut
        rw [HR3.out]
        exact ⟨rfl, HF3.out.trans hf4⟩
end Go.Proofs.YtjedahcpkcgpeaaGreatDoor

/-
  Walks of layer 4: trees of names alone: a signature's path, a VPATH or an MPATH.
-/
namespace Go.Proofs.YtjedahcpkcgpeaaGreatDoor
open Go Go.RowKit
set_option linter.unusedSimpArgs false
theorem five_cells {w : World} {g : Nat} {T : TypeId} {a b c d e : Value} (h : Blk w g T #[a, b, c, d, e]) : w.cell? ⟨g, 0, none⟩ = some a ∧ w.cell? ⟨g, 1, none⟩ = some b ∧ w.cell? ⟨g, 2, none⟩ = some c ∧ w.cell? ⟨g, 3, none⟩ = some d ∧ w.cell? ⟨g, 4, none⟩ = some e :=
  ⟨h.cell 0 _ rfl, h.cell 1 _ rfl, h.cell 2 _ rfl, h.cell 3 _ rfl, h.cell 4 _ rfl⟩
def TreeOut (s : Src) (g : Nat) (r : Pl.PR Pl.Syn) (w : World) (e : Ending) (w' : World) : Prop :=
  (match r with
    | .ok t j => ∃ v, e = .returned v ∧ SynV w' (fun b => w.heap.size ≤ b ∧ b < w'.heap.size) t v ∧ PAt w' g s j
    | .bad j => e = faultAt s j) ∧ Fr (· = g) (· = g) w w'
theorem synV_names {w : World} {P : Nat → Prop} {nv : Value} {ns : List ByteArray} (op : Int) (h : StrSl w P nv ns) : SynV w P (Pl.ndNames op ns []) (.agg #[.int .i64 op, .int .i64 0, .string ⟨#[]⟩, nv, .slice none 0 0]) :=
  (synV_iff _ _ _ _).2 ⟨Nat.zero_le _, nv, _, rfl, h, none, 0, rfl, Nat.le_refl _, Nat.zero_le _, fun _ => rfl, .inl rfl⟩
def putFive (w : World) (g : Nat) (x0 x1 x2 x3 x4 : Value) : World := ((((w.setCell ⟨g, 0, none⟩ x0).setCell ⟨g, 1, none⟩ x1).setCell ⟨g, 2, none⟩ x2).setCell ⟨g, 3, none⟩ x3).setCell ⟨g, 4, none⟩ x4
theorem putFive_below {B : Nat} {a w : World} (h : Below B a w) {g : Nat} (hg : B ≤ g) (x0 x1 x2 x3 x4 : Value) : Below B a (putFive w g x0 x1 x2 x3 x4) := ((((h.setCell hg _).setCell hg _).setCell hg _).setCell hg _).setCell hg _
theorem putFive_blk {w : World} {g : Nat} {T : TypeId} {a b c d e : Value} (h : Blk w g T #[a, b, c, d, e]) (x0 x1 x2 x3 x4 : Value) : Blk (putFive w g x0 x1 x2 x3 x4) g T #[x0, x1, x2, x3, x4] := by
  have := ((((h.set 0 x0).set 1 x1).set 2 x2).set 3 x3).set 4 x4
  unfold putFive
  simpa using this
theorem putFive_other (w : World) (g i : Nat) (hi : i ≠ g) (x0 x1 x2 x3 x4 : Value) : (putFive w g x0 x1 x2 x3 x4).heap[i]? = w.heap[i]? := by
  unfold putFive
  iterate 5 rw [Below.heap_setCell _ _ _ i hi]
theorem PAt.under {B : Nat} {w w' : World} {g i : Nat} {s : Src} (h : PAt w g s i) (hb : Below B w w') (hg : g < B) : PAt w' g s i :=
  ⟨h.blk.of_eq (hb.block _ hg), h.before, h.src.keep (hb.block _ (Nat.lt_trans h.before hg)), h.inn⟩
theorem fr_under {B : Nat} {o : Nat → Prop} {w w1 w2 : World} (h : Fr o o w w1) (hb : Below B w1 w2) (hB : w.heap.size ≤ B) : Fr o o w w2 :=
  ⟨hb.os.trans h.1, hb.tape.trans h.2.1, hb.output.trans h.2.2.1, Nat.le_trans h.size hb.size, fun i hi hn => (hb.block i (Nat.lt_of_lt_of_le hi hB)).trans (h.block hi hn), fun _ hi => .inl hi⟩
theorem tree_box {w w1 : World} {B : Nat} {s : Src} {g j : Nat} {sa : Option Addr} {ln sc : Nat} {ns : List ByteArray} (op : Int) (hg : g < w.heap.size) (hf : Fr (· = g) (· = g) w w1) (hs : StrSl w1 (fun b => B ≤ b ∧ b < w1.heap.size) (.slice sa ln sc) ns) (h0 : w.heap.size < B) (hp : PAt w1 g s j) (x0 x1 x2 x3 x4 : Value) :
    (∃ v, Ending.returned (.agg #[.int .i64 op, .int .i64 0, .string ⟨#[]⟩, .slice sa ln sc, .slice none 0 0]) = .returned v ∧ SynV (putFive w1 w.heap.size x0 x1 x2 x3 x4) (fun b => w.heap.size ≤ b ∧ b < (putFive w1 w.heap.size x0 x1 x2 x3 x4).heap.size) (Pl.ndNames op ns []) v ∧ PAt (putFive w1 w.heap.size x0 x1 x2 x3 x4) g s j) ∧ Fr (· = g) (· = g) w (putFive w1 w.heap.size x0 x1 x2 x3 x4) := by
  have hb := putFive_below (Below.refl w.heap.size w1) (Nat.le_refl _) x0 x1 x2 x3 x4
  refine ⟨⟨_, rfl, synV_names op ?_, hp.under hb hg⟩, fr_under hf hb (Nat.le_refl _)⟩
  refine (hs.keep ?_).mono ?_
  · intro b hb
    exact putFive_other _ _ _ (by omega) _ _ _ _ _
  · intro b hb1
    have := hb.size
    omega
set_option maxRecDepth 100000 in
set_option maxHeartbeats 4000000 in
theorem psignature_any (s : Src) (g i : Nat) (w : World) (h : PAt w g s i) (hbig : s.ts.length ≤ 536870912) : Calls Tryz.prog 169 #[.pointer (some ⟨g, 0, none⟩)] w (TreeOut s g (Pl.sigOf s.ts i) w) := by
  have HM := Lib.hid (fun W (hW : PAt W g s i) => pmodulePath_any s g i W hW hbig)
  have HP := Lib.hid h
  have HE := Lib.hid (show Pl.sigOf s.ts i = (Pl.mpath s.ts i).then fun ns j => .ok (Pl.ndNames 72 ns []) j from rfl)
  generalize Pl.sigOf s.ts i = r at *
  generalize Pl.mpath s.ts i = m at *
  clear h
  go_enter Tryz.func169, Tryz.ntmps169
  go_wp2_with fail
  have HB0 := Lib.hid (show Below w.heap.size w (w.alloc (.cells #[.int .i64 0, .int .i64 0, .string ⟨#[]⟩, .slice none 0 0, .slice none 0 0] 27)) from (Below.refl _ _).alloc (Nat.le_refl _) _)
  have HX0 := Lib.hid (blk_new w #[.int .i64 0, .int .i64 0, .string ⟨#[]⟩, .slice none 0 0, .slice none 0 0] 27)
  have HP0 := Lib.hid (HP.out.below HB0.out)
  have HG := Lib.hid HP.out.blk.lt
  have hmc := HM.out _ HP0.out
  generalize w.alloc (.cells #[.int .i64 0, .int .i64 0, .string ⟨#[]⟩, .slice none 0 0, .slice none 0 0] 27) = w0 at *
  refine hmc.mono ?_
  rintro e w1 ⟨hq, hf⟩
  have HF := Lib.hid ((fr_below (o := (· = g)) HB0.out).trans hf)
  have HX1 := Lib.hid (HX0.out.of_eq (hf.block HX0.out.lt (fun e => by have := HG.out; omega)))
  cases m with
  | bad j =>
    have hq' : e = faultAt s j := hq
    subst hq'
    refine ⟨rfl, ?_⟩
    unfold TreeOut
    rw [HE.out, Pl.PR.then_bad]
    exact ⟨rfl, HF.out⟩
  | ok ns j =>
    obtain ⟨v, rfl, hs, hp⟩ := hq
    obtain ⟨sa, sc, hv, -⟩ := id hs
    subst hv
    have HS := Lib.hid hs
    generalize ns.length = ln at HS ⊢
    have HPJ := Lib.hid hp
    have hsz := HB0.out.size
    have HSZ := Lib.hid hsz
    obtain ⟨x0, x1, x2, x3, x4⟩ := five_cells HX1.out
    have y0 := HX1.out.thaw 0
    have y1 := HX1.out.thaw 1
    have y2 := HX1.out.thaw 2
    have y3 := HX1.out.thaw 3
    have y4 := HX1.out.thaw 4
    clear hs hp hf hmc hsz
    go_wp2_with fail
    have HEN := putFive_blk HX1.out (.int .i64 72) (.int .i64 0) (.string ⟨#[]⟩) (.slice sa ln sc) (.slice none 0 0)
    have HFI := tree_box 72 HG.out HF.out HS.out HX0.out.lt HPJ.out (.int .i64 72) (.int .i64 0) (.string ⟨#[]⟩) (.slice sa ln sc) (.slice none 0 0)
    unfold putFive at HEN HFI
    obtain ⟨k0, k1, k2, k3, k4⟩ := five_cells HEN
    refine bodyPost_ret (v := .agg #[.int .i64 72, .int .i64 0, .string ⟨#[]⟩, .slice sa ln sc, .slice none 0 0]) (by simp [results, Tryz.results169, go_sem, k0, k1, k2, k3, k4]) rfl ?_
    unfold TreeOut
    rw [HE.out, Pl.PR.then_ok]
    exact HFI
end Go.Proofs.YtjedahcpkcgpeaaGreatDoor

/-
  Walks of layer 4: a VPATH or an MPATH.
-/
namespace Go.Proofs.YtjedahcpkcgpeaaGreatDoor
open Go Go.RowKit
set_option linter.unusedSimpArgs false
set_option maxRecDepth 100000 in
set_option maxHeartbeats 8000000 in
theorem ppath_any (s : Src) (g i : Nat) (w : World) (h : PAt w g s i) (hbig : s.ts.length ≤ 536870912) : Calls Tryz.prog 156 #[.pointer (some ⟨g, 0, none⟩)] w (TreeOut s g (Pl.vpath s.ts i) w) := by
  obtain ⟨i9, hi0, hz0, hz1, hz2⟩ := info3 infoStr1
  have HP := Lib.hid h
  have HGL := Lib.hid h.blk.lt
  have HTO := Lib.hid (fun W j (hW : PAt W g s j) => ptoken_any s g j W hW)
  have HTK := Lib.hid (fun k (hk : k ≠ 8) W j (hW : PAt W g s j) => ptake_any s g j k hk W hW)
  have HND := Lib.hid (fun W j (hW : PAt W g s j) => ppass_any s g j [46] (by decide) W hW)
  have HMP := Lib.hid (show Pl.vpath s.ts i = Pl.vpMore s.ts (s.ts.length + 1) [] i from rfl)
  generalize Pl.vpath s.ts i = r at *
  have HMM := Lib.hid (fun n ns j => show Pl.vpMore s.ts (n + 1) ns j = if (Pl.tkAt s.ts j).kind = 2 then (if Pl.passes s.ts (j + 1) [46] then Pl.vpMore s.ts n (ns ++ [Pl.mk (Pl.tkAt s.ts j).text]) (j + 2) else .ok (Pl.ndNames 24 (ns ++ [Pl.mk (Pl.tkAt s.ts j).text]) []) (j + 1)) else (Pl.takeK s.ts 1 j).then fun t k => .ok (Pl.ndNames 23 (ns ++ [Pl.mk t]) []) k from rfl)
  have HTE := Lib.hid (fun k j => show Pl.takeK s.ts k j = if (Pl.tkAt s.ts j).kind = k then .ok (Pl.tkAt s.ts j).text (j + 1) else .bad j from rfl)
  have HTL := Lib.hid (fun j => text_lens h.src j)
  have hmk : (Pl.mk [46] : ByteArray) = ⟨#[46]⟩ := rfl
  rw [hmk] at HND
  have HIN := Lib.hid h.inn
  clear hmk h
  go_enter Tryz.func156, Tryz.ntmps156
  go_wp2_with fail
  have HB0 := Lib.hid (show Below w.heap.size w (w.alloc (.cells #[.int .i64 0, .int .i64 0, .string ⟨#[]⟩, .slice none 0 0, .slice none 0 0] 27)) from (Below.refl _ _).alloc (Nat.le_refl _) _)
  have HX0 := Lib.hid (blk_new w #[.int .i64 0, .int .i64 0, .string ⟨#[]⟩, .slice none 0 0, .slice none 0 0] 27)
  have HN0 := Lib.hid (show NamesAt (w.alloc (.cells #[.int .i64 0, .int .i64 0, .string ⟨#[]⟩, .slice none 0 0, .slice none 0 0] 27)) (w.heap.size + 1) (.slice none 0 0) [] from ⟨World.ownsRow_nil _ _ _ _, fun z hz => (by cases hz)⟩)
  have HP0 := Lib.hid (HP.out.below HB0.out)
  have HB1 := Lib.hid (show g < w.heap.size + 1 from by have := HGL.out; omega)
  go_loopg [3] (s.ts.length + 1) (fun gk v wr => ∃ (j : Nat) (ns : List ByteArray), PAt wr g s j ∧ Fr (· = g) (· = g) w wr ∧ NamesAt wr (w.heap.size + 1) v ns ∧ Blk wr w.heap.size 27 #[.int .i64 0, .int .i64 0, .string ⟨#[]⟩, .slice none 0 0, .slice none 0 0] ∧ r = Pl.vpMore s.ts gk ns j ∧ s.ts.length + 1 ≤ gk + j ∧ ns.length ≤ j)
  case atStart => exact ⟨i, [], HP0.out, fr_below HB0.out, HN0.out, HX0.out, HMP.out, by omega, by simp⟩
  case round =>
    obtain ⟨j, ns, hp, hf, hn, hx, hr, hj, hnl⟩ := hrel
    have hjn := hp.inn
    have HF2 := Lib.hid hf
    have HN2 := Lib.hid hn
    have HX2 := Lib.hid hx
    obtain ⟨G, hG⟩ : ∃ G, gk = G + 1 := ⟨gk - 1, by omega⟩
    rw [hG, HMM.out G ns j] at hr
    have HRR := Lib.hid hr
    have HGJ := Lib.hid hG
    have HPJ := Lib.hid hp
    have hto := HTO.out _ _ hp
    unfold TokenOut at hto
    have HTT := Lib.hid hto
    clear hf hn hx hr hG hp hto
    go_wp2_with fail
    refine HTT.out.mono ?_
    rintro e w2 ⟨⟨li, co, rfl⟩, hb2⟩
    have HP3 := Lib.hid (HPJ.out.below hb2)
    have HF3 := Lib.hid (HF2.out.trans (fr_below hb2))
    have HN3 := Lib.hid (HN2.out.keep HB1.out (fr_below hb2))
    have HX3 := Lib.hid (HX2.out.of_eq (hb2.block _ HX2.out.lt))
    have htl := HTL.out j
    by_cases hk : (Pl.tkAt s.ts j).kind = 2
    · have HR3 := Lib.hid (HRR.out.trans (if_pos hk))
      have HT3 := Lib.hid (HTK.out 2 (by decide) _ _ HP3.out)
      rw [HTE.out 2 j, if_pos hk] at HT3
      rw [hk]
      generalize hzz : Pl.mk (Pl.tkAt s.ts j).text = zz at *
      have hfl : ∀ W, Sem.run Tryz.prog (Instr.field 45 (.agg #[.int .i64 2, .string zz, .int .i64 li, .int .i64 co]) 0) W = .ok (.int .i64 2) W := fun _ => rfl
      have HZZ := Lib.hid hzz
      have HZL := Lib.hid htl
      clear hb2 hk htl hzz
      go_wp2_with fail
      refine HT3.out.mono ?_
      rintro e w3 ⟨⟨rfl, hp4⟩, hf4⟩
      rw [HZZ.out]
      have HBA := Lib.hid (show Below w3.heap.size w3 (w3.alloc (.cells #[.string zz] 9)) from (Below.refl _ _).alloc (Nat.le_refl _) _)
      have HF4 := Lib.hid ((HF3.out.trans hf4).trans (fr_below HBA.out))
      have HN4 := Lib.hid ((HN3.out.keep HB1.out hf4).keep HB1.out (fr_below HBA.out))
      have HX3b := Lib.hid (HX3.out.of_eq (hf4.block HX3.out.lt (fun e => by have := HGL.out; omega)))
      have HX4 := Lib.hid (HX3b.out.of_eq (HBA.out.block _ HX3b.out.lt))
      have HP4 := Lib.hid (hp4.below HBA.out)
      clear hf4 hp4
      obtain ⟨nl, hnl2⟩ : ∃ nl, nl = ns.length := ⟨_, rfl⟩
      have HROW := Lib.hid (show (w3.alloc (.cells #[.string zz] 9)).ownsRow (w.heap.size + 1) 9 1 u3 nl (ns.map Value.string) from by rw [hnl2]; exact HN4.out.row)
      have HNL := Lib.hid hnl2
      rw [← hnl2] at hnl
      clear hnl2
      go_wp2_with (at_builtin; refine wpList_append_own _ rfl _ _ 24 rfl (w.heap.size + 1) 9 i9 (.string ⟨#[]⟩) 1 16 Tryz.underlying24 hi0 hz0 hz1 hz2 rfl (by decide) _ _ _ rfl HROW.out ⟨w3.heap.size, 0, none⟩ 1 1 [.string zz] rfl rfl ?c1 ?c2 ?c3 ?c4 ?c5 ?_)
      case c1 => exact World.news_of_block (cs := #[.string zz]) (t := 9) (fr := (0, 0)) (heap_alloc_new w3 _)
      case c2 => simp [Value.oneCell']
      case c3 => unfold maxLen; omega
      case c4 => omega
      case c5 => exact HX4.out.lt
      intro v' w4 hown hgrow _
      have hob : ∀ k, u3.ownBlock = some k → w.heap.size + 1 ≤ k := fun k hk => (HROW.out.lt k hk).1
      have HN5 := Lib.hid (show NamesAt w4 (w.heap.size + 1) v' (ns ++ [zz]) from ⟨by
        rw [List.length_append, List.map_append, ← HNL.out]
        exact hown, fun z hz => by
        rw [List.mem_append] at hz
        rcases hz with hz | hz
        · exact HN4.out.lens z hz
        · simp at hz; subst hz; exact HZL.out⟩)
      have HP5 := Lib.hid (HP4.out.grown hgrow (fun k hk => Nat.lt_of_lt_of_le HB1.out (hob k hk)))
      have HF5 := Lib.hid (fr_grown HF4.out hgrow (fun k hk => Nat.le_of_succ_le (hob k hk)))
      have HX5 := Lib.hid (HX4.out.of_eq (hgrow.block _ HX4.out.lt (fun e => by have := hob _ e.symm; omega)))
      have HNN := Lib.hid (show (ns ++ [zz]).length ≤ j + 1 from by rw [List.length_append, ← HNL.out]; simp; omega)
      have HN6 := Lib.hid (HND.out _ _ HP5.out)
      generalize Pl.passes s.ts (j + 1) [46] = pb at *
      clear hown hgrow hob
      go_wp2_with fail
      refine HN6.out.mono ?_
      rintro e w5 ⟨rfl, hp6, hf6⟩
      cases pb
      · have HR4 := Lib.hid (show r = .ok (Pl.ndNames 24 (ns ++ [zz]) []) (j + 1) from HR3.out)
        have HP6 := Lib.hid (show PAt w5 g s (j + 1) from hp6)
        have HF6 := Lib.hid (HF5.out.trans hf6)
        have HX6 := Lib.hid (HX5.out.of_eq (hf6.block HX5.out.lt (fun e => by have := HGL.out; omega)))
        have hn7 := HN5.out.keep HB1.out hf6
        obtain ⟨sa, sc, hv, -⟩ := id hn7.strs
        subst hv
        have HN7 := Lib.hid hn7
        generalize (ns ++ [zz]).length = ln at HN7 ⊢
        have HNS := Lib.hid HN7.out
        clear hp6 hf6 hn7
        obtain ⟨x0, x1, x2, x3, x4⟩ := five_cells HX6.out
        have y0 := HX6.out.thaw 0
        have y1 := HX6.out.thaw 1
        have y2 := HX6.out.thaw 2
        have y3 := HX6.out.thaw 3
        have y4 := HX6.out.thaw 4
        go_wp2_with fail
        have HEN := putFive_blk HX6.out (.int .i64 24) (.int .i64 0) (.string ⟨#[]⟩) (.slice sa ln sc) (.slice none 0 0)
        have HFI := tree_box 24 HGL.out HF6.out HNS.out.strs (Nat.lt_succ_self w.heap.size) HP6.out (.int .i64 24) (.int .i64 0) (.string ⟨#[]⟩) (.slice sa ln sc) (.slice none 0 0)
        unfold putFive at HEN HFI
        obtain ⟨k0, k1, k2, k3, k4⟩ := five_cells HEN
        refine bodyPost_ret (v := .agg #[.int .i64 24, .int .i64 0, .string ⟨#[]⟩, .slice sa ln sc, .slice none 0 0]) (by simp [results, Tryz.results156, go_sem, k0, k1, k2, k3, k4]) rfl ?_
        unfold TreeOut
        rw [HR4.out]
        exact HFI
      · have HR4 := Lib.hid (show r = Pl.vpMore s.ts G (ns ++ [zz]) (j + 2) from HR3.out)
        have HP6 := Lib.hid (show PAt w5 g s (j + 2) from hp6)
        have HF6 := Lib.hid (HF5.out.trans hf6)
        have HX6 := Lib.hid (HX5.out.of_eq (hf6.block HX5.out.lt (fun e => by have := HGL.out; omega)))
        have HN7 := Lib.hid (HN5.out.keep HB1.out hf6)
        have hle := HP6.out.inn
        clear hp6 hf6
        go_wp2
        go_roundg G
        case measure => have := HGJ.out; omega
        case rel => exact ⟨j + 2, ns ++ [zz], HP6.out, HF6.out, HN7.out, HX6.out, HR4.out, by have := HGJ.out; omega, by have := HNN.out; omega⟩
    · have HR3 := Lib.hid (HRR.out.trans (if_neg hk))
      have HT3 := Lib.hid (HTK.out 1 (by decide) _ _ HP3.out)
      have hte := HTE.out 1 j
      rw [hte] at HT3 HR3
      clear hte
      by_cases hk1 : (Pl.tkAt s.ts j).kind = 1
      · rw [if_pos hk1] at HT3 HR3
        rw [Pl.PR.then_ok] at HR3
        rw [hk1]
        generalize hzz : Pl.mk (Pl.tkAt s.ts j).text = zz at *
        have hfl : ∀ W, Sem.run Tryz.prog (Instr.field 45 (.agg #[.int .i64 1, .string zz, .int .i64 li, .int .i64 co]) 0) W = .ok (.int .i64 1) W := fun _ => rfl
        have HZZ := Lib.hid hzz
        have HZL := Lib.hid htl
        clear hb2 hk htl hzz hk1
        go_wp2_with fail
        refine HT3.out.mono ?_
        rintro e w3 ⟨⟨rfl, hp4⟩, hf4⟩
        rw [HZZ.out]
        have HBA := Lib.hid (show Below w3.heap.size w3 (w3.alloc (.cells #[.string zz] 9)) from (Below.refl _ _).alloc (Nat.le_refl _) _)
        have HF4 := Lib.hid ((HF3.out.trans hf4).trans (fr_below HBA.out))
        have HN4 := Lib.hid ((HN3.out.keep HB1.out hf4).keep HB1.out (fr_below HBA.out))
        have HX3b := Lib.hid (HX3.out.of_eq (hf4.block HX3.out.lt (fun e => by have := HGL.out; omega)))
        have HX4 := Lib.hid (HX3b.out.of_eq (HBA.out.block _ HX3b.out.lt))
        have HP4 := Lib.hid (hp4.below HBA.out)
        clear hf4 hp4
        obtain ⟨nl, hnl2⟩ : ∃ nl, nl = ns.length := ⟨_, rfl⟩
        have HROW := Lib.hid (show (w3.alloc (.cells #[.string zz] 9)).ownsRow (w.heap.size + 1) 9 1 u3 nl (ns.map Value.string) from by rw [hnl2]; exact HN4.out.row)
        have HNL := Lib.hid hnl2
        rw [← hnl2] at hnl
        clear hnl2
        go_wp2_with (at_builtin; refine wpList_append_own _ rfl _ _ 24 rfl (w.heap.size + 1) 9 i9 (.string ⟨#[]⟩) 1 16 Tryz.underlying24 hi0 hz0 hz1 hz2 rfl (by decide) _ _ _ rfl HROW.out ⟨w3.heap.size, 0, none⟩ 1 1 [.string zz] rfl rfl ?c1 ?c2 ?c3 ?c4 ?c5 ?_)
        case c1 => exact World.news_of_block (cs := #[.string zz]) (t := 9) (fr := (0, 0)) (heap_alloc_new w3 _)
        case c2 => simp [Value.oneCell']
        case c3 => unfold maxLen; omega
        case c4 => omega
        case c5 => exact HX4.out.lt
        intro v' w4 hown hgrow _
        have hob : ∀ k, u3.ownBlock = some k → w.heap.size + 1 ≤ k := fun k hk => (HROW.out.lt k hk).1
        have hn5 : NamesAt w4 (w.heap.size + 1) v' (ns ++ [zz]) := ⟨by
          rw [List.length_append, List.map_append, ← HNL.out]
          exact hown, fun z hz => by
          rw [List.mem_append] at hz
          rcases hz with hz | hz
          · exact HN4.out.lens z hz
          · simp at hz; subst hz; exact HZL.out⟩
        have HP5 := Lib.hid (HP4.out.grown hgrow (fun k hk => Nat.lt_of_lt_of_le HB1.out (hob k hk)))
        have HF5 := Lib.hid (fr_grown HF4.out hgrow (fun k hk => Nat.le_of_succ_le (hob k hk)))
        have HX5 := Lib.hid (HX4.out.of_eq (hgrow.block _ HX4.out.lt (fun e => by have := hob _ e.symm; omega)))
        clear hgrow hob hown
        obtain ⟨sa, sc, hv, -⟩ := id hn5.strs
        subst hv
        have HN5 := Lib.hid hn5
        generalize (ns ++ [zz]).length = ln at HN5 ⊢
        clear hn5
        obtain ⟨x0, x1, x2, x3, x4⟩ := five_cells HX5.out
        have y0 := HX5.out.thaw 0
        have y1 := HX5.out.thaw 1
        have y2 := HX5.out.thaw 2
        have y3 := HX5.out.thaw 3
        have y4 := HX5.out.thaw 4
        go_wp2_with fail
        have HEN := putFive_blk HX5.out (.int .i64 23) (.int .i64 0) (.string ⟨#[]⟩) (.slice sa ln sc) (.slice none 0 0)
        have HFI := tree_box 23 HGL.out HF5.out HN5.out.strs (Nat.lt_succ_self w.heap.size) HP5.out (.int .i64 23) (.int .i64 0) (.string ⟨#[]⟩) (.slice sa ln sc) (.slice none 0 0)
        unfold putFive at HEN HFI
        obtain ⟨k0, k1, k2, k3, k4⟩ := five_cells HEN
        refine bodyPost_ret (v := .agg #[.int .i64 23, .int .i64 0, .string ⟨#[]⟩, .slice sa ln sc, .slice none 0 0]) (by simp [results, Tryz.results156, go_sem, k0, k1, k2, k3, k4]) rfl ?_
        unfold TreeOut
        rw [HR3.out]
        exact HFI
      · rw [if_neg hk1] at HT3 HR3
        rw [Pl.PR.then_bad] at HR3
        generalize htt : (Pl.tkAt s.ts j).kind = tt at *
        generalize Pl.mk (Pl.tkAt s.ts j).text = zz at *
        have hfl : ∀ W, Sem.run Tryz.prog (Instr.field 45 (.agg #[.int .i64 tt, .string zz, .int .i64 li, .int .i64 co]) 0) W = .ok (.int .i64 tt) W := fun _ => rfl
        have hne : (tt == 2) = false := by simpa using hk
        clear hb2 hk htl hk1 htt
        go_wp2_with fail
        refine HT3.out.mono ?_
        rintro e w3 ⟨rfl, hf4⟩
        refine ⟨rfl, ?_⟩
        unfold TreeOut
        rw [HR3.out]
        exact ⟨rfl, HF3.out.trans hf4⟩
end Go.Proofs.YtjedahcpkcgpeaaGreatDoor

/-
  Walks of layer 4: the only tree of a list, or its tuple.
-/
namespace Go.Proofs.YtjedahcpkcgpeaaGreatDoor
open Go Go.RowKit
set_option linter.unusedSimpArgs false
theorem synV_list {w : World} {P : Nat → Prop} {lv : Value} {l : List Pl.Syn} (op : Int) (h : SynSl w P lv l) : SynV w P (Pl.nd op l) (.agg #[.int .i64 op, .int .i64 0, .string ⟨#[]⟩, .slice none 0 0, lv]) :=
  (synV_iff _ _ _ _).2 ⟨Nat.zero_le _, _, lv, rfl, ⟨none, 0, rfl, Nat.le_refl _, Nat.zero_le _, fun _ => rfl, fun z hz => (by cases hz), Or.inl rfl⟩, h⟩
def TupOut (P : Nat → Prop) (t : Pl.Syn) (w : World) (e : Ending) (w' : World) : Prop := (∃ u, e = .returned u ∧ SynV w' P t u) ∧ Below w.heap.size w w'
set_option maxRecDepth 100000 in
set_option maxHeartbeats 4000000 in
theorem ptuple_one (op : Int) (P : Nat → Prop) (t : Pl.Syn) (v : Value) (w : World) (hP : ∀ i, P i → i < w.heap.size) (h : SynSl w P v [t]) : Calls Tryz.prog 112 #[.int .i64 op, v] w (TupOut P t w) := by
  have HB0 := Lib.hid (show Below w.heap.size w (w.alloc (.cells #[.int .i64 0, .int .i64 0, .string ⟨#[]⟩, .slice none 0 0, .slice none 0 0] 27)) from (Below.refl _ _).alloc (Nat.le_refl _) _)
  have h := h.keep (Same.of_below HB0.out hP)
  obtain ⟨a, c, rfl, hc, hm, -, hk⟩ := h
  rcases hk with hk | ⟨b, off, rfl, hb, hk⟩
  · cases hk
  obtain ⟨u, hn, ht⟩ := (kidsAt_iff _ _ _ _ _).1 hk 0 (by simp)
  obtain ⟨x0, x1, x2, x3, x4, rfl, t0, t1, t2, t3, t4⟩ := hn
  have HT := Lib.hid (show SynV _ P t _ from ht)
  obtain ⟨-, nv, lv, he, hnv, hlv⟩ := (synV_iff _ _ _ _).1 HT.out
  obtain ⟨na, nc, rfl, -⟩ := hnv
  obtain ⟨la, lc, rfl, -⟩ := hlv
  injection he with he
  simp only [Array.mk.injEq, List.cons.injEq, and_true] at he
  obtain ⟨rfl, rfl, rfl, rfl, rfl⟩ := he
  generalize hnl : t.names.length = nl at *
  generalize hll : t.l.length = ll at *
  generalize ht0 : t.op = z0 at *
  generalize ht1 : t.n = z1 at *
  generalize ht2 : t.s = z2 at *
  simp only [List.length_singleton, Nat.zero_mul, Nat.add_zero] at hc t0 t1 t2 t3 t4 ⊢
  clear ht hk h hnl hll ht0 ht1 ht2
  go_enter Tryz.func112, Tryz.ntmps112
  go_wp2_with fail
  have HBE := Lib.hid (show Below w.heap.size w (w.alloc (.cells #[.int .i64 z0, .int .i64 z1, .string z2, .slice na nl nc, .slice la ll lc] 27)) from (Below.refl _ _).alloc (Nat.le_refl _) _)
  obtain ⟨k0, k1, k2, k3, k4⟩ := five_cells (blk_new w #[.int .i64 z0, .int .i64 z1, .string z2, .slice na nl nc, .slice la ll lc] 27)
  refine bodyPost_ret (v := .agg #[.int .i64 z0, .int .i64 z1, .string z2, .slice na nl nc, .slice la ll lc]) (by simp [results, Tryz.results112, go_sem, k0, k1, k2, k3, k4]) rfl ?_
  exact ⟨⟨_, rfl, HT.out.keep (fun b hb => (HBE.out.block b (hP b hb)).trans (HB0.out.block b (hP b hb)).symm)⟩, HBE.out⟩
set_option maxRecDepth 100000 in
set_option maxHeartbeats 4000000 in
theorem ptuple_more (op : Int) (P : Nat → Prop) (l : List Pl.Syn) (v : Value) (w : World) (hP : ∀ i, P i → i < w.heap.size) (h : SynSl w P v l) (h1 : l.length ≠ 1) : Calls Tryz.prog 112 #[.int .i64 op, v] w (TupOut P (Pl.nd op l) w) := by
  have HS := Lib.hid h
  obtain ⟨a, c, rfl, hc, hm, -, -⟩ := h
  have HPP := Lib.hid hP
  have hne : ((l.length : Int) == 1) = false := by rw [beq_eq_false_iff_ne]; omega
  generalize hln : l.length = ln at *
  have HLN := Lib.hid hln
  clear hln h1
  go_enter Tryz.func112, Tryz.ntmps112
  go_wp2_with fail
  have HB0 := Lib.hid (show Below w.heap.size w (w.alloc (.cells #[.int .i64 op, .int .i64 0, .string ⟨#[]⟩, .slice none 0 0, .slice a ln c] 27)) from (Below.refl _ _).alloc (Nat.le_refl _) _)
  obtain ⟨k0, k1, k2, k3, k4⟩ := five_cells (blk_new w #[.int .i64 op, .int .i64 0, .string ⟨#[]⟩, .slice none 0 0, .slice a ln c] 27)
  refine bodyPost_ret (v := .agg #[.int .i64 op, .int .i64 0, .string ⟨#[]⟩, .slice none 0 0, .slice a ln c]) (by simp [results, Tryz.results112, go_sem, k0, k1, k2, k3, k4]) rfl ?_
  exact ⟨⟨_, rfl, synV_list op (HS.out.keep (Same.of_below HB0.out HPP.out))⟩, HB0.out⟩
theorem ptuple_any (op : Int) (P : Nat → Prop) (l : List Pl.Syn) (v : Value) (w : World) (hP : ∀ i, P i → i < w.heap.size) (h : SynSl w P v l) : Calls Tryz.prog 112 #[.int .i64 op, v] w (TupOut P (Pl.tupleOf op l) w) := by
  match l, h with
  | [], h => exact ptuple_more op P [] v w hP h (by simp)
  | [t], h => exact ptuple_one op P t v w hP h
  | a :: b :: r, h => exact ptuple_more op P (a :: b :: r) v w hP h (by simp)
end Go.Proofs.YtjedahcpkcgpeaaGreatDoor
