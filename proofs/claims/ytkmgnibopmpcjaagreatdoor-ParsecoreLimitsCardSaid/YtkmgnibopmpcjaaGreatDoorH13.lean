/-
  Walks and plain mathematics, several texts in one (Da Db Dc).
-/
import Derived.Test.YtkmgnibopmpcjaaGreatDoorH9
import Derived.Test.YtkmgnibopmpcjaaGreatDoorH11
import Derived.Test.YtkmgnibopmpcjaaGreatDoorH12
import Derived.Deep.QuietTactic
import Derived.WalkLawsBesides
import Derived.Laws.OwnMore
import Derived.Deep.LoopGhost
import Derived.Deep.AppendLies
/-
  Walks of layer 4: the parser in memory, its token, and what it panics with.
-/
namespace Go.Proofs.YtkmgnibopmpcjaaGreatDoor
open Go Go.RowKit
set_option linter.unusedSimpArgs false
def store4 (w : World) (g : Nat) (x0 x1 x2 x3 : Value) : World := (((w.setCell ⟨g, 0, none⟩ x0).setCell ⟨g, 1, none⟩ x1).setCell ⟨g, 2, none⟩ x2).setCell ⟨g, 3, none⟩ x3
theorem store4_below {B : Nat} {a w : World} (h : Below B a w) {g : Nat} (hg : B ≤ g) (x0 x1 x2 x3 : Value) : Below B a (store4 w g x0 x1 x2 x3) := (((h.setCell hg _).setCell hg _).setCell hg _).setCell hg _
theorem store4_blk {w : World} {g : Nat} {T : TypeId} {a b c d : Value} (h : Blk w g T #[a, b, c, d]) (x0 x1 x2 x3 : Value) : Blk (store4 w g x0 x1 x2 x3) g T #[x0, x1, x2, x3] := by
  have := (((h.set 0 x0).set 1 x1).set 2 x2).set 3 x3
  unfold store4
  simpa using this
theorem four_cells {w : World} {g : Nat} {T : TypeId} {a b c d : Value} (h : Blk w g T #[a, b, c, d]) : w.cell? ⟨g, 0, none⟩ = some a ∧ w.cell? ⟨g, 1, none⟩ = some b ∧ w.cell? ⟨g, 2, none⟩ = some c ∧ w.cell? ⟨g, 3, none⟩ = some d := ⟨h.cell 0 _ rfl, h.cell 1 _ rfl, h.cell 2 _ rfl, h.cell 3 _ rfl⟩
structure Src where
  b : Nat
  off : Nat
  c : Nat
  ts : List Pl.Tok
  en : Pl.Tok
structure SrcAt (w : World) (s : Src) : Prop where
  room : s.ts.length + 1 ≤ s.c
  lim : s.c ≤ maxLen
  endk : s.en.kind = 8
  endt : s.en.text = []
  lens : ∀ t ∈ s.ts, t.text.length ≤ maxLen
  toks : ∀ j (hj : j < (s.ts ++ [s.en]).length), TokAt w s.b (s.off + 4 * j) (s.ts ++ [s.en])[j]
structure PAt (w : World) (g : Nat) (s : Src) (i : Nat) : Prop where
  blk : Blk w g 150 #[.slice (some ⟨s.b, s.off, none⟩) (s.ts.length + 1) s.c, .int .i64 i]
  before : s.b < g
  src : SrcAt w s
  inn : i ≤ s.ts.length
theorem SrcAt.keep {w w' : World} {s : Src} (h : SrcAt w s) (he : w'.heap[s.b]? = w.heap[s.b]?) : SrcAt w' s := by
  refine ⟨h.room, h.lim, h.endk, h.endt, h.lens, fun j hj => ?_⟩
  obtain ⟨h1, h2, h3, h4⟩ := h.toks j hj
  have e : ∀ o, w'.cell? ⟨s.b, o, none⟩ = w.cell? ⟨s.b, o, none⟩ := fun o => by simp only [World.cell?, he]
  exact ⟨(e _).trans h1, (e _).trans h2, (e _).trans h3, (e _).trans h4⟩
theorem PAt.below {w w' : World} {g i : Nat} {s : Src} (h : PAt w g s i) (hb : Below w.heap.size w w') : PAt w' g s i :=
  ⟨h.blk.of_eq (hb.block _ h.blk.lt), h.before, h.src.keep (hb.block _ (Nat.lt_trans h.before h.blk.lt)), h.inn⟩
theorem PAt.tok {w : World} {g i : Nat} {s : Src} (h : PAt w g s i) : ∃ li co, w.cell? ⟨s.b, s.off + i * 4, none⟩ = some (.int .i64 (Pl.tkAt s.ts i).kind) ∧ w.cell? ⟨s.b, s.off + i * 4 + 1, none⟩ = some (.string (Pl.mk (Pl.tkAt s.ts i).text)) ∧ w.cell? ⟨s.b, s.off + i * 4 + 2, none⟩ = some (.int .i64 li) ∧ w.cell? ⟨s.b, s.off + i * 4 + 3, none⟩ = some (.int .i64 co) := by
  have hj : i < (s.ts ++ [s.en]).length := by have := h.inn; simp; omega
  obtain ⟨h1, h2, h3, h4⟩ := h.src.toks i hj
  have hk : (s.ts ++ [s.en])[i].kind = (Pl.tkAt s.ts i).kind ∧ (s.ts ++ [s.en])[i].text = (Pl.tkAt s.ts i).text := by
    unfold Pl.tkAt
    rcases Nat.lt_or_ge i s.ts.length with hlt | hge
    · rw [List.getElem_append_left hlt]
      simp [List.getD, hlt]
    · rw [List.getElem_append_right hge]
      have : i = s.ts.length := by have := h.inn; omega
      subst this
      simp [List.getD, h.src.endk, h.src.endt]
  rw [hk.1] at h1
  rw [hk.2] at h2
  rw [Nat.mul_comm 4 i] at h1 h2 h3 h4
  exact ⟨_, _, h1, h2, h3, h4⟩
def faultAt (s : Src) (i : Nat) : Ending := .panicked [{ v := .iface 147 (.agg #[.int .i64 i, .int .i64 (if (Pl.tkAt s.ts i).kind = 8 then 4 else 3)]), recovered := false }]
def TokenOut (s : Src) (i : Nat) (w : World) (e : Ending) (w' : World) : Prop := (∃ li co, e = .returned (.agg #[.int .i64 (Pl.tkAt s.ts i).kind, .string (Pl.mk (Pl.tkAt s.ts i).text), .int .i64 li, .int .i64 co])) ∧ Below w.heap.size w w'
set_option maxRecDepth 100000 in
set_option maxHeartbeats 4000000 in
theorem ptoken_any (s : Src) (g i : Nat) (w : World) (h : PAt w g s i) : Calls Tryz.prog 82 #[.pointer (some ⟨g, 0, none⟩)] w (TokenOut s i w) := by
  have hb0 : Below w.heap.size w (w.alloc (.cells #[.int .i64 0, .string ⟨#[]⟩, .int .i64 0, .int .i64 0] 41)) := (Below.refl _ _).alloc (Nat.le_refl _) _
  have h0 := h.below hb0
  have bx := blk_new w #[.int .i64 0, .string ⟨#[]⟩, .int .i64 0, .int .i64 0] 41
  obtain ⟨li, co, t0, t1, t2, t3⟩ := h0.tok
  have g0 : World.cell? _ ⟨g, 0, none⟩ = some (.slice (some ⟨s.b, s.off, none⟩) (s.ts.length + 1) s.c) := h0.blk.cell 0 _ rfl
  have g1 : World.cell? _ ⟨g, 1, none⟩ = some (.int .i64 i) := h0.blk.cell 1 _ rfl
  obtain ⟨c0, c1, c2, c3⟩ := four_cells bx
  have x0 := bx.thaw 0
  have x1 := bx.thaw 1
  have x2 := bx.thaw 2
  have x3 := bx.thaw 3
  have hin := h.inn
  have hi1 : (0 : Int) ≤ (i : Int) := by omega
  have hi2 : (i : Int) < (s.ts.length : Int) + 1 := by omega
  have HB0 := Lib.hid hb0
  have HBX := Lib.hid bx
  unfold TokenOut
  generalize (Pl.tkAt s.ts i).kind = tk at *
  generalize Pl.mk (Pl.tkAt s.ts i).text = tt at *
  generalize s.ts.length = n at *
  clear h h0 hb0 bx hin
  go_enter Tryz.func82, Tryz.ntmps82
  go_wp2_with fail
  generalize w.alloc (.cells #[.int .i64 0, .string ⟨#[]⟩, .int .i64 0, .int .i64 0] 41) = w0 at *
  go_region
  all_goals
    go_wp2
    have HEND := (store4_below HB0.out (Nat.le_refl w.heap.size) (.int .i64 tk) (.string tt) (.int .i64 li) (.int .i64 co)).drew
    have HENB := store4_blk HBX.out (.int .i64 tk) (.string tt) (.int .i64 li) (.int .i64 co)
    unfold store4 at HEND HENB
    obtain ⟨k0, k1, k2, k3⟩ := four_cells HENB
    refine bodyPost_ret (v := .agg #[.int .i64 tk, .string tt, .int .i64 li, .int .i64 co]) (by simp [results, Tryz.results82, go_sem, k0, k1, k2, k3]) rfl ?_
    exact ⟨⟨li, co, rfl⟩, HEND⟩
end Go.Proofs.YtkmgnibopmpcjaaGreatDoor

/-
  Walks of layer 4: key words and symbols, what is taken, and what is refused.
-/
namespace Go.Proofs.YtkmgnibopmpcjaaGreatDoor
open Go Go.RowKit
set_option linter.unusedSimpArgs false
set_option maxRecDepth 100000 in
set_option maxHeartbeats 4000000 in
theorem pfixed_any (k : Int) (t : ByteArray) (li co : Int) (w : World) : Calls Tryz.prog 145 #[.agg #[.int .i64 k, .string t, .int .i64 li, .int .i64 co]] w fun e w' => e = .returned (.string (if k = 6 ∨ k = 7 then t else ⟨#[]⟩)) ∧ Below w.heap.size w w' := by
  have hb0 : Below w.heap.size w (w.alloc (.cells #[.int .i64 k, .string t, .int .i64 li, .int .i64 co] 41)) := (Below.refl _ _).alloc (Nat.le_refl _) _
  obtain ⟨c0, c1, c2, c3⟩ := four_cells (blk_new w #[.int .i64 k, .string t, .int .i64 li, .int .i64 co] 41)
  have HB0 := Lib.hid hb0
  clear hb0
  obtain ⟨b6, h6⟩ : ∃ b, (k == 6) = b := ⟨_, rfl⟩
  obtain ⟨b7, h7⟩ : ∃ b, (k == 7) = b := ⟨_, rfl⟩
  have HE := Lib.hid (show (if k = 6 ∨ k = 7 then t else (⟨#[]⟩ : ByteArray)) = if (b6 || b7) = true then t else ⟨#[]⟩ from by
    rw [← h6, ← h7]
    simp)
  generalize (if k = 6 ∨ k = 7 then t else (⟨#[]⟩ : ByteArray)) = rr at *
  go_enter Tryz.func145, Tryz.ntmps145
  cases b6 <;> cases b7
  all_goals
    go_wp2
    go_ret
    rw [HE.out]
    exact ⟨by first | rfl | simp, HB0.out⟩
set_option maxRecDepth 100000 in
set_option maxHeartbeats 4000000 in
theorem prefuse_any (s : Src) (g i : Nat) (w : World) (h : PAt w g s i) : Calls Tryz.prog 151 #[.pointer (some ⟨g, 0, none⟩)] w fun e w' => e = faultAt s i ∧ Below w.heap.size w w' := by
  have g1 : World.cell? _ ⟨g, 1, none⟩ = some (.int .i64 i) := h.blk.cell 1 _ rfl
  have HP := Lib.hid h
  have hfa : faultAt s i = .panicked [{ v := .iface 147 (.agg #[.int .i64 i, .int .i64 (if (Pl.tkAt s.ts i).kind = 8 then 4 else 3)]), recovered := false }] := rfl
  rw [hfa]
  have hb0 : Below w.heap.size w (w.alloc (.cells #[.int .i64 i, .int .i64 3] 147)) := (Below.refl _ _).alloc (Nat.le_refl _) _
  have HB0 := Lib.hid hb0
  have HX := Lib.hid (blk_new w #[.int .i64 i, .int .i64 3] 147)
  have HT := Lib.hid (ptoken_any s g i _ (h.below hb0))
  unfold TokenOut at HT
  clear h hb0 hfa
  generalize (Pl.tkAt s.ts i).kind = tk at *
  generalize Pl.mk (Pl.tkAt s.ts i).text = tt at *
  obtain ⟨b8, h8⟩ : ∃ b, (tk == 8) = b := ⟨_, rfl⟩
  have HE := Lib.hid (show (if tk = 8 then (4 : Int) else 3) = if b8 = true then 4 else 3 from by rw [← h8]; simp)
  generalize (if tk = 8 then (4 : Int) else 3) = code at *
  go_enter Tryz.func151, Tryz.ntmps151
  go_wp2_with fail
  refine HT.out.mono ?_
  rintro e w1 ⟨⟨li, co, rfl⟩, hb1⟩
  have HB1 := Lib.hid (show Below w.heap.size w w1 from HB0.out.trans (hb1.mono HB0.out.size))
  have hfl : ∀ W, Sem.run Tryz.prog (Instr.field 41 (.agg #[.int .i64 tk, .string tt, .int .i64 li, .int .i64 co]) 0) W = .ok (.int .i64 tk) W := fun _ => rfl
  have hx1 := HX.out.of_eq (hb1.block _ HX.out.lt)
  have x0 : World.cell? _ ⟨w.heap.size, 0, none⟩ = some (.int .i64 i) := hx1.cell 0 _ rfl
  have x1 : World.cell? _ ⟨w.heap.size, 1, none⟩ = some (.int .i64 3) := hx1.cell 1 _ rfl
  have f1 := hx1.thaw 1
  clear hb1 hx1 g1
  cases b8
  · go_wp2
    exact ⟨rfl, by rw [HE.out]; rfl, HB1.out⟩
  · go_wp2
    exact ⟨rfl, by rw [HE.out]; rfl, HB1.out.setCell (Nat.le_refl w.heap.size) _⟩
theorem fr_below {o : Nat → Prop} {w w' : World} (h : Below w.heap.size w w') : Fr o o w w' := ⟨h.os, h.tape, h.output, h.size, fun i hi _ => h.block i hi, fun _ hi => .inl hi⟩
theorem PAt.next {w : World} {g i : Nat} {s : Src} (h : PAt w g s i) (hk : (Pl.tkAt s.ts i).kind ≠ 8) : PAt (w.setCell ⟨g, 1, none⟩ (.int .i64 ((i : Int) + 1))) g s (i + 1) := by
  have hlt : i + 1 ≤ s.ts.length := Pl.kind_lt rfl hk
  refine ⟨?_, h.before, h.src.keep (Below.heap_setCell w ⟨g, 1, none⟩ _ s.b (fun e => by have := h.before; have e : s.b = g := e; omega)), hlt⟩
  have := h.blk.set 1 (.int .i64 ((i : Int) + 1))
  simpa using this
theorem fr_next {w w1 : World} {g : Nat} (v : Value) (hb : Below w.heap.size w w1) : Fr (· = g) (· = g) w (w1.setCell ⟨g, 1, none⟩ v) :=
  ⟨hb.os, hb.tape, hb.output, by simpa [World.setCell] using hb.size, fun i hi hn => (Below.heap_setCell w1 ⟨g, 1, none⟩ v i hn).trans (hb.block i hi), fun _ h => .inl h⟩
def TakeOut (s : Src) (g : Nat) (r : Pl.PR Pl.Bytes) (w : World) (e : Ending) (w' : World) : Prop :=
  (match r with
    | .ok t j => e = .returned (.string (Pl.mk t)) ∧ PAt w' g s j
    | .bad j => e = faultAt s j) ∧ Fr (· = g) (· = g) w w'
set_option maxRecDepth 100000 in
set_option maxHeartbeats 4000000 in
theorem ptake_any (s : Src) (g i : Nat) (k : Int) (hk8 : k ≠ 8) (w : World) (h : PAt w g s i) : Calls Tryz.prog 84 #[.pointer (some ⟨g, 0, none⟩), .int .i64 k] w (TakeOut s g (Pl.takeK s.ts k i) w) := by
  have HT := Lib.hid (ptoken_any s g i w h)
  have HP := Lib.hid h
  have HN := Lib.hid (fun W (hW : PAt W g s i) (hk : (Pl.tkAt s.ts i).kind = k) => hW.next (by rw [hk]; exact hk8))
  have HRF := Lib.hid (fun W (hW : PAt W g s i) => prefuse_any s g i W hW)
  have hin := h.inn
  have hlim : s.ts.length + 1 ≤ maxLen := Nat.le_trans h.src.room h.src.lim
  unfold maxLen at hlim
  unfold TokenOut at HT
  have HTK := Lib.hid (show Pl.takeK s.ts k i = if (Pl.tkAt s.ts i).kind = k then .ok (Pl.tkAt s.ts i).text (i + 1) else .bad i from rfl)
  generalize Pl.takeK s.ts k i = r at *
  generalize (Pl.tkAt s.ts i).kind = tk at *
  generalize (Pl.tkAt s.ts i).text = tt at *
  obtain ⟨bk, hbk⟩ : ∃ b, (tk != k) = b := ⟨_, rfl⟩
  have HBK := Lib.hid hbk
  clear h
  go_enter Tryz.func84, Tryz.ntmps84
  go_wp2_with fail
  refine HT.out.mono ?_
  rintro e w1 ⟨⟨li, co, rfl⟩, hb1⟩
  have HB1 := Lib.hid (show Below w.heap.size w (w1.alloc (.cells #[.int .i64 tk, .string (Pl.mk tt), .int .i64 li, .int .i64 co] 41)) from hb1.alloc hb1.size _)
  have HP1 := Lib.hid (HP.out.below HB1.out)
  obtain ⟨c0, c1, c2, c3⟩ := four_cells (blk_new w1 #[.int .i64 tk, .string (Pl.mk tt), .int .i64 li, .int .i64 co] 41)
  have g1 : World.cell? _ ⟨g, 1, none⟩ = some (.int .i64 i) := HP1.out.blk.cell 1 _ rfl
  have f1 := HP1.out.blk.thaw 1
  have hgl := HP1.out.blk.lt
  have hne : ¬ w1.heap.size = g := fun e => by
    have h1 := (HP.out.below hb1).blk.lt
    omega
  have hne2 : ¬ g = w1.heap.size := fun e => hne e.symm
  clear hb1 hgl
  cases bk
  · have hk : tk = k := by simpa using HBK.out
    have hk2 : (tk == k) = true := beq_iff_eq.2 hk
    have HK := Lib.hid hk
    clear hk
    go_wp2
    go_ret
    unfold TakeOut
    rw [HTK.out, if_pos HK.out]
    exact ⟨⟨rfl, HN.out _ HP1.out HK.out⟩, fr_next _ HB1.out⟩
  · have hk : ¬ tk = k := by simpa using HBK.out
    go_wp2_with fail
    refine (HRF.out _ HP1.out).mono ?_
    rintro e w2 ⟨rfl, hb2⟩
    refine ⟨rfl, ?_⟩
    unfold TakeOut
    rw [HTK.out, if_neg hk]
    exact ⟨rfl, fr_below (HB1.out.trans (hb2.mono HB1.out.size))⟩
def PassOut (s : Src) (g i : Nat) (b : Bool) (w : World) (e : Ending) (w' : World) : Prop := e = .returned (.bool b) ∧ PAt w' g s (if b = true then i + 1 else i) ∧ Fr (· = g) (· = g) w w'
theorem mk_toList (b : Pl.Bytes) : (Pl.mk b).toList = b := by rw [Pl.toList_eq]; rfl
theorem pass_kind {ts : List Pl.Tok} {i : Nat} {b : Pl.Bytes} (h : Pl.passes ts i b = true) (hb : b ≠ []) : (Pl.tkAt ts i).kind ≠ 8 := fun e => by
  have := Pl.pass_lt h hb
  unfold Pl.passes Pl.fixedT at h
  rw [if_neg (by rw [e]; decide)] at h
  exact hb (by simpa using h)
set_option maxRecDepth 100000 in
set_option maxHeartbeats 4000000 in
theorem ppass_any (s : Src) (g i : Nat) (b : Pl.Bytes) (hb : b ≠ []) (w : World) (h : PAt w g s i) : Calls Tryz.prog 77 #[.pointer (some ⟨g, 0, none⟩), .string (Pl.mk b)] w (PassOut s g i (Pl.passes s.ts i b) w) := by
  have HT := Lib.hid (ptoken_any s g i w h)
  have HP := Lib.hid h
  have HN := Lib.hid (fun W (hW : PAt W g s i) (hk : Pl.passes s.ts i b = true) => hW.next (pass_kind hk hb))
  have hin := h.inn
  have hlim : s.ts.length + 1 ≤ maxLen := Nat.le_trans h.src.room h.src.lim
  unfold maxLen at hlim
  unfold TokenOut at HT
  have HPS := Lib.hid (show ((if (Pl.tkAt s.ts i).kind = 6 ∨ (Pl.tkAt s.ts i).kind = 7 then Pl.mk (Pl.tkAt s.ts i).text else (⟨#[]⟩ : ByteArray)).toList != (Pl.mk b).toList) = !Pl.passes s.ts i b from by
    rw [mk_toList]
    have : (if (Pl.tkAt s.ts i).kind = 6 ∨ (Pl.tkAt s.ts i).kind = 7 then Pl.mk (Pl.tkAt s.ts i).text else (⟨#[]⟩ : ByteArray)).toList = Pl.fixedT (Pl.tkAt s.ts i) := by
      unfold Pl.fixedT
      split
      · exact mk_toList _
      · exact mk_toList []
    rw [this]
    rfl)
  generalize Pl.passes s.ts i b = r at *
  generalize (Pl.tkAt s.ts i).kind = tk at *
  generalize Pl.mk (Pl.tkAt s.ts i).text = tt at *
  have HF := Lib.hid (fun li co W => pfixed_any tk tt li co W)
  generalize (if tk = 6 ∨ tk = 7 then tt else (⟨#[]⟩ : ByteArray)) = fx at *
  generalize Pl.mk b = bb at *
  have hps := HPS.out
  clear h
  go_enter Tryz.func77, Tryz.ntmps77
  go_wp2_with fail
  refine HT.out.mono ?_
  rintro e w1 ⟨⟨li, co, rfl⟩, hb1⟩
  have HB1 := Lib.hid hb1
  clear hb1
  go_wp2_with fail
  refine (HF.out _ _ _).mono ?_
  rintro e w2 ⟨rfl, hb2⟩
  have HB2 := Lib.hid (show Below w.heap.size w w2 from HB1.out.trans (hb2.mono HB1.out.size))
  have HP2 := Lib.hid (HP.out.below HB2.out)
  have g1 : World.cell? _ ⟨g, 1, none⟩ = some (.int .i64 i) := HP2.out.blk.cell 1 _ rfl
  have f1 := HP2.out.blk.thaw 1
  clear hb2
  clear hps
  cases r
  · have q : (fx.toList == bb.toList) = false := by simpa using HPS.out
    go_wp2
    go_ret
    exact ⟨rfl, HP2.out, fr_below HB2.out⟩
  · have q : (fx.toList == bb.toList) = true := by simpa using HPS.out
    go_wp2
    go_ret
    exact ⟨rfl, HN.out _ HP2.out (by first | rfl | trivial), fr_next _ HB2.out⟩
end Go.Proofs.YtkmgnibopmpcjaaGreatDoor

/-
  Walks of layer 4: rows of names while they grow; an MPATH.
-/
namespace Go.Proofs.YtkmgnibopmpcjaaGreatDoor
open Go Go.RowKit
set_option linter.unusedSimpArgs false
theorem infoStr1 : (Tryz.prog.info? 9).map (fun i => (i.zero, i.size, i.bytes)) = some (some (.string ⟨#[]⟩), 1, 16) := by kernel_rfl
theorem info3 {P : Program} {t : TypeId} {z : Value} {n b : Nat} (h : (P.info? t).map (fun i => (i.zero, i.size, i.bytes)) = some (some z, n, b)) : ∃ i, P.info? t = some i ∧ i.zero = some z ∧ i.size = n ∧ i.bytes = b := by
  cases hi : P.info? t with
  | none => rw [hi] at h; cases h
  | some i =>
    rw [hi] at h
    simp only [Option.map_some, Option.some.injEq, Prod.mk.injEq] at h
    exact ⟨i, rfl, h.1, h.2.1, h.2.2⟩
structure NamesAt (w : World) (base : Nat) (v : Value) (ns : List ByteArray) : Prop where
  row : w.ownsRow base 9 1 v ns.length (ns.map Value.string)
  lens : ∀ z ∈ ns, z.size ≤ maxLen
theorem NamesAt.keep {w w' : World} {base g : Nat} {v : Value} {ns : List ByteArray} (h : NamesAt w base v ns) (hg : g < base) (hf : Fr (· = g) (· = g) w w') : NamesAt w' base v ns := by
  refine ⟨h.row.kept (row := some g) ⟨hf.1, hf.2.1, hf.2.2.1, hf.size, fun k hk hn => hf.block hk (fun e => hn (by rw [e]))⟩ ?_, h.lens⟩
  refine .inr fun e => ?_
  have := (h.row.lt g e).1
  omega
theorem NamesAt.strs {w : World} {base : Nat} {v : Value} {ns : List ByteArray} (h : NamesAt w base v ns) : StrSl w (fun b => base ≤ b ∧ b < w.heap.size) v ns := by
  have hr := h.row
  rcases h.row.2 with ⟨rfl, h0⟩ | ⟨g, cap, cur, rfl, hbg, hg, hnc, hcm, -, -⟩
  · obtain rfl := List.eq_nil_of_length_eq_zero h0
    exact ⟨none, 0, rfl, Nat.le_refl _, Nat.zero_le _, fun _ => rfl, h.lens, .inl rfl⟩
  · refine ⟨_, cap, rfl, hnc, hcm, (fun e => by cases e), h.lens, .inr ⟨g, 0, rfl, ⟨hbg, (hr.lt g rfl).2⟩, fun j hj => ?_⟩⟩
    have := hr.cellAt j (by omega)
    rw [Nat.zero_add, this, List.getElem?_map, List.getElem?_eq_getElem hj]
    rfl
def NamesOut (s : Src) (g : Nat) (r : Pl.PR (List ByteArray)) (w : World) (e : Ending) (w' : World) : Prop :=
  (match r with
    | .ok ns j => ∃ v, e = .returned v ∧ StrSl w' (fun b => w.heap.size ≤ b ∧ b < w'.heap.size) v ns ∧ PAt w' g s j
    | .bad j => e = faultAt s j) ∧ Fr (· = g) (· = g) w w'
theorem text_lens {s : Src} {w : World} (h : SrcAt w s) (i : Nat) : (Pl.mk (Pl.tkAt s.ts i).text).size ≤ maxLen := by
  show (Pl.tkAt s.ts i).text.toArray.size ≤ maxLen
  rw [List.size_toArray]
  unfold Pl.tkAt
  rcases Nat.lt_or_ge i s.ts.length with hlt | hge
  · simp only [List.getD, List.getElem?_eq_getElem hlt, Option.getD_some]
    exact h.lens _ (List.getElem_mem hlt)
  · simp [List.getD, List.getElem?_eq_none hge]
theorem PAt.grown {w w' : World} {g i : Nat} {s : Src} {row : Option Nat} (h : PAt w g s i) (hg : w.grownBy w' row) (hr : ∀ k, row = some k → g < k) : PAt w' g s i := by
  have h1 : w'.heap[g]? = w.heap[g]? := hg.block g h.blk.lt (fun e => by have := hr g e.symm; omega)
  have h2 : w'.heap[s.b]? = w.heap[s.b]? := hg.block s.b (Nat.lt_trans h.before h.blk.lt) (fun e => by have := hr s.b e.symm; have := h.before; omega)
  exact ⟨h.blk.of_eq h1, h.before, h.src.keep h2, h.inn⟩
theorem fr_grown {w w1 w2 : World} {g : Nat} {row : Option Nat} (h : Fr (· = g) (· = g) w w1) (hg : w1.grownBy w2 row) (hr : ∀ k, row = some k → w.heap.size ≤ k) : Fr (· = g) (· = g) w w2 :=
  ⟨hg.os.trans h.1, hg.tape.trans h.2.1, hg.output.trans h.2.2.1, Nat.le_trans h.size hg.size, fun i hi hn => (hg.block i (Nat.lt_of_lt_of_le hi h.size) (fun e => by have := hr i e.symm; omega)).trans (h.block hi hn), fun _ hi => .inl hi⟩
set_option maxRecDepth 100000 in
set_option maxHeartbeats 8000000 in
theorem pmodulePath_any (s : Src) (g i : Nat) (w : World) (h : PAt w g s i) (hbig : s.ts.length ≤ 536870912) : Calls Tryz.prog 123 #[.pointer (some ⟨g, 0, none⟩)] w (NamesOut s g (Pl.mpath s.ts i) w) := by
  obtain ⟨i9, hi0, hz0, hz1, hz2⟩ := info3 infoStr1
  have HP := Lib.hid h
  have HGL := Lib.hid h.blk.lt
  have HTK := Lib.hid (fun W j (hW : PAt W g s j) => ptake_any s g j 2 (by decide) W hW)
  have HPS := Lib.hid (fun W j (hW : PAt W g s j) => ppass_any s g j [46] (by decide) W hW)
  have HMP := Lib.hid (show Pl.mpath s.ts i = (Pl.takeK s.ts 2 i).then fun t j => Pl.mpMore s.ts (s.ts.length + 1) [Pl.mk t] j from rfl)
  generalize Pl.mpath s.ts i = r at *
  have HMM := Lib.hid (fun n ns j => show Pl.mpMore s.ts (n + 1) ns j = if Pl.passes s.ts j [46] then (Pl.takeK s.ts 2 (j + 1)).then fun t k => Pl.mpMore s.ts n (ns ++ [Pl.mk t]) k else .ok ns j from rfl)
  have HTE := Lib.hid (fun j => show Pl.takeK s.ts 2 j = if (Pl.tkAt s.ts j).kind = 2 then .ok (Pl.tkAt s.ts j).text (j + 1) else .bad j from rfl)
  have HTL := Lib.hid (fun j => text_lens h.src j)
  have hmk : (Pl.mk [46] : ByteArray) = ⟨#[46]⟩ := rfl
  rw [hmk] at HPS
  clear hmk
  go_enter Tryz.func123, Tryz.ntmps123
  go_wp2_with fail
  refine (HTK.out _ _ h).mono ?_
  rintro e w1 ⟨ht, hf1⟩
  clear h
  have htk := HTE.out i
  by_cases hk : (Pl.tkAt s.ts i).kind = 2
  · rw [htk, if_pos hk] at ht HMP
    obtain ⟨rfl, hp1⟩ := ht
    rw [Pl.PR.then_ok] at HMP
    have htl := HTL.out i
    generalize Pl.mk (Pl.tkAt s.ts i).text = tt at *
    have HF1 := Lib.hid hf1
    have HB1 := Lib.hid (show Below w1.heap.size w1 (w1.alloc (.cells #[.string tt] 9)) from (Below.refl _ _).alloc (Nat.le_refl _) _)
    have HN0 := Lib.hid (show NamesAt (w1.alloc (.cells #[.string tt] 9)) w.heap.size (.slice (some ⟨w1.heap.size, 0, none⟩) 1 1) [tt] from ⟨World.ownsRow_lit (base := w.heap.size) (e := 9) (size := 1) w1 #[.string tt] 1 hf1.size (by unfold maxLen; omega) rfl, fun z hz => by simp at hz; subst hz; exact htl⟩)
    have HP1 := Lib.hid (hp1.below HB1.out)
    clear hf1 hp1 htl htk hk
    go_wp2_with fail
    go_loopg [3] (s.ts.length + 1) (fun gk v wr => ∃ (j : Nat) (ns : List ByteArray), PAt wr g s j ∧ Fr (· = g) (· = g) w wr ∧ NamesAt wr w.heap.size v ns ∧ r = Pl.mpMore s.ts gk ns j ∧ s.ts.length + 2 ≤ gk + j ∧ ns.length ≤ j)
    case atStart => exact ⟨i + 1, [tt], HP1.out, HF1.out.trans (fr_below HB1.out), HN0.out, HMP.out, by omega, by simp⟩
    case round =>
      obtain ⟨j, ns, hp, hf, hn, hr, hj, hnl⟩ := hrel
      have hjn := hp.inn
      have HP2 := Lib.hid hp
      have HF2 := Lib.hid hf
      have HN2 := Lib.hid hn
      have HRR := Lib.hid hr
      obtain ⟨G, hG⟩ : ∃ G, gk = G + 1 := ⟨gk - 1, by omega⟩
      clear hf hn hr
      go_wp2_with fail
      refine (HPS.out _ _ hp).mono ?_
      rintro e w2 ⟨rfl, hp2, hf2⟩
      have hmm := HMM.out G ns j
      have hrr := HRR.out
      rw [hG, hmm] at hrr
      generalize Pl.passes s.ts j [46] = pb at *
      clear hp hmm
      cases pb
      · have HR2 := Lib.hid (show r = .ok ns j from hrr)
        have HS := Lib.hid (HN2.out.keep HGL.out hf2).strs
        have HPE := Lib.hid (show PAt w2 g s j from hp2)
        have HFE := Lib.hid (HF2.out.trans hf2)
        clear hrr hp2 hf2 hG
        go_wp2
        go_ret
        unfold NamesOut
        rw [HR2.out]
        exact ⟨⟨_, rfl, HS.out, HPE.out⟩, HFE.out⟩
      · have HR2 := Lib.hid (show r = (Pl.takeK s.ts 2 (j + 1)).then fun t k => Pl.mpMore s.ts G (ns ++ [Pl.mk t]) k from hrr)
        have hp2' : PAt w2 g s (j + 1) := hp2
        have HF3 := Lib.hid (HF2.out.trans hf2)
        have HN3 := Lib.hid (HN2.out.keep HGL.out hf2)
        clear hrr hp2 hf2
        go_wp2_with fail
        refine (HTK.out _ _ hp2').mono ?_
        rintro e w3 ⟨ht, hf3⟩
        have hin3 := hp2'.inn
        clear hp2'
        have htk := HTE.out (j + 1)
        by_cases hk2 : (Pl.tkAt s.ts (j + 1)).kind = 2
        · rw [htk, if_pos hk2] at ht HR2
          obtain ⟨rfl, hp3⟩ := ht
          rw [Pl.PR.then_ok] at HR2
          have htl := HTL.out (j + 1)
          generalize Pl.mk (Pl.tkAt s.ts (j + 1)).text = zz at *
          have HZL := Lib.hid htl
          have HBA := Lib.hid (show Below w3.heap.size w3 (w3.alloc (.cells #[.string zz] 9)) from (Below.refl _ _).alloc (Nat.le_refl _) _)
          have HF4 := Lib.hid ((HF3.out.trans hf3).trans (fr_below HBA.out))
          have HN4 := Lib.hid ((HN3.out.keep HGL.out hf3).keep HGL.out (fr_below HBA.out))
          have HP4 := Lib.hid (hp3.below HBA.out)
          have HGJ := Lib.hid hG
          clear hf3 hp3 htl htk hk2 hG
          obtain ⟨nl, hnl2⟩ : ∃ nl, nl = ns.length := ⟨_, rfl⟩
          have HROW := Lib.hid (show (w3.alloc (.cells #[.string zz] 9)).ownsRow w.heap.size 9 1 u3 nl (ns.map Value.string) from by rw [hnl2]; exact HN4.out.row)
          have HNL := Lib.hid hnl2
          rw [← hnl2] at hnl
          clear hnl2
          go_wp2_with (at_builtin; refine wpList_append_own _ rfl _ _ 25 rfl w.heap.size 9 i9 (.string ⟨#[]⟩) 1 16 Tryz.underlying25 hi0 hz0 hz1 hz2 rfl (by decide) _ _ _ rfl HROW.out ⟨w3.heap.size, 0, none⟩ 1 1 [.string zz] rfl rfl ?c1 ?c2 ?c3 ?c4 ?c5 ?_)
          case c1 => exact World.news_of_block (cs := #[.string zz]) (t := 9) (fr := (0, 0)) (heap_alloc_new w3 _)
          case c2 => simp [Value.oneCell']
          case c3 => unfold maxLen; omega
          case c4 => omega
          case c5 => exact HF4.out.size
          intro v' w4 hown hgrow _
          have hob : ∀ k, u3.ownBlock = some k → w.heap.size ≤ k := fun k hk => (HROW.out.lt k hk).1
          have HN5 := Lib.hid (show NamesAt w4 w.heap.size v' (ns ++ [zz]) from ⟨by
            rw [List.length_append, List.map_append, ← HNL.out]
            exact hown, fun z hz => by
            rw [List.mem_append] at hz
            rcases hz with hz | hz
            · exact HN4.out.lens z hz
            · simp at hz; subst hz; exact HZL.out⟩)
          have HP5 := Lib.hid (HP4.out.grown hgrow (fun k hk => Nat.lt_of_lt_of_le HGL.out (hob k hk)))
          have HF5 := Lib.hid (fr_grown HF4.out hgrow hob)
          have HNN := Lib.hid (show (ns ++ [zz]).length ≤ j + 1 + 1 from by rw [List.length_append, ← HNL.out]; simp; omega)
          clear hown hgrow hob
          go_wp2
          go_roundg G
          case measure => have := HGJ.out; omega
          case rel => exact ⟨j + 1 + 1, ns ++ [zz], HP5.out, HF5.out, HN5.out, HR2.out, by have := HGJ.out; omega, HNN.out⟩
        · rw [htk, if_neg hk2] at ht HR2
          subst ht
          refine ⟨rfl, ?_⟩
          unfold NamesOut
          rw [HR2.out, Pl.PR.then_bad]
          exact ⟨rfl, HF3.out.trans hf3⟩
  · rw [htk, if_neg hk] at ht HMP
    subst ht
    refine ⟨rfl, ?_⟩
    unfold NamesOut
    rw [HMP.out, Pl.PR.then_bad]
    exact ⟨rfl, hf1⟩
end Go.Proofs.YtkmgnibopmpcjaaGreatDoor
