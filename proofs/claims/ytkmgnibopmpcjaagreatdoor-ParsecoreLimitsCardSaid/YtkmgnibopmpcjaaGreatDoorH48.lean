/-
  Walks and plain mathematics, several texts in one (Fj Fk Lv Lw Lx Ly Lz Ma Mb Mc Me Mf Mg Mh Mi Mm Mn Mq Mr Ms).
-/
import Derived.Test.YtkmgnibopmpcjaaGreatDoorH47
import Derived.Test.YtkmgnibopmpcjaaGreatDoorH34
import Derived.Deep.RegionWith
/-
  Walks of layer 4: Type, Pattern, Expr.
-/
namespace Go.Proofs.YtkmgnibopmpcjaaGreatDoor
open Go Go.RowKit
set_option linter.unusedSimpArgs false
theorem res_boxes (w : World) (a b : Value) (T1 T2 : TypeId) (x : Array Value) :
    Blk ((w.alloc (.cells x T1)).alloc (.cells #[a, b] T2)) w.heap.size T1 x ∧ Blk ((w.alloc (.cells x T1)).alloc (.cells #[a, b] T2)) (w.heap.size + 1) T2 #[a, b] ∧ Below w.heap.size w ((w.alloc (.cells x T1)).alloc (.cells #[a, b] T2)) := by
  have e1 : (w.alloc (.cells x T1)).heap.size = w.heap.size + 1 := by simp
  have h1 := blk_new (w.alloc (.cells x T1)) #[a, b] T2
  rw [e1] at h1
  exact ⟨(blk_new w x T1).alloc _, h1, ((Below.refl _ _).alloc (Nat.le_refl _) _).alloc (by omega) _⟩
def exprP (l : Pl.Bytes) : SRes := sourceP 3 (fun ts => (Pl.full ts numOfText).expr 0) (Pl.tokens l)
set_option maxRecDepth 100000 in
set_option maxHeartbeats 4000000 in
theorem pExpr_any (str : ByteArray) (w : World) (hs : str.size ≤ maxLen) : Calls Tryz.prog 30 #[.string str] w (SourceOut (exprP str.toList) w) := by
  have hmf : ∀ (fn : Fn) (first cap : Array Value) (w : World), (Instr.makeFunc fn first cap).run Tryz.prog w = .ok (.func fn first cap) w := fun _ _ _ _ => rfl
  have H := Lib.hid (fun W => psource_any 44 3 (fun ts => (Pl.full ts numOfText).expr 0) str W hs
    (fun s g V hn hl hV => (reads_all s g 0 hn (by omega) (Nat.zero_le _)).expr V hV) (fun _ _ => rfl)
    (fun ts t j hl h => by
      have h1 := (Pl.full_small ts numOfText).expr 0 _ _ h
      have h2 := (Pl.full_ends ts numOfText).expr 0 _ _ h
      simp only [Pl.mT] at h1
      omega)
    (fun ts => (Pl.full_within ts numOfText).expr 0 (Nat.zero_le _)))
  unfold exprP
  obtain ⟨R, hR⟩ : ∃ R, R = sourceP 3 (fun ts => (Pl.full ts numOfText).expr 0) (Pl.tokens str.toList) := ⟨_, rfl⟩
  rw [← hR] at H ⊢
  clear hR
  obtain ⟨k0, k1, k2⟩ := res_boxes w (.int .i64 0) (.int .i64 0) 28 30 #[.int .i64 0, .int .i64 0, .string ⟨#[]⟩, .slice none 0 0, .slice none 0 0]
  have HK := Lib.hid (⟨k0, k1⟩ : Blk _ _ _ _ ∧ Blk _ _ _ _)
  have HB := Lib.hid k2
  clear k0 k1 k2
  go_enter Tryz.func30, Tryz.ntmps30
  go_wp2_with fail
  generalize (w.alloc (.cells #[.int .i64 0, .int .i64 0, .string ⟨#[]⟩, .slice none 0 0, .slice none 0 0] 28)).alloc (.cells #[.int .i64 0, .int .i64 0] 30) = w1 at *
  have h12 : w.heap.size < w.heap.size + 1 := Nat.lt_succ_self _
  generalize w.heap.size + 1 = b7 at *
  obtain ⟨b6, hb6⟩ : ∃ b6, b6 = w.heap.size := ⟨_, rfl⟩
  have HB6 := Lib.hid hb6
  rw [← hb6] at h12 HK
  rw [← hb6]
  clear hb6
  refine (H.out w1).mono ?_
  rintro e w2 ⟨⟨v, rfl, ht⟩, h21⟩
  obtain ⟨x0, x1, x2, xa, xl, xc, xd, xe, xf, rfl⟩ := tree_open ht
  have HK2 := Lib.hid (⟨HK.out.1.of_eq (h21.block _ HK.out.1.lt), HK.out.2.of_eq (h21.block _ HK.out.2.lt)⟩ : Blk _ _ _ _ ∧ Blk _ _ _ _)
  have HB2 := Lib.hid (HB.out.trans (h21.mono HB.out.size))
  have HT := Lib.hid ht
  obtain ⟨c0, c1, c2, c3, c4⟩ := five_cells HK2.out.1
  obtain ⟨c5, c6⟩ := two_cells HK2.out.2
  have f0 := HK2.out.1.thaw 0
  have f1 := HK2.out.1.thaw 1
  have f2 := HK2.out.1.thaw 2
  have f3 := HK2.out.1.thaw 3
  have f4 := HK2.out.1.thaw 4
  have f5 := HK2.out.2.thaw 0
  have f6 := HK2.out.2.thaw 1
  have n0 : ¬ b6 = b7 := by omega
  have n1 : ¬ b7 = b6 := by omega
  obtain ⟨li, hli⟩ : ∃ li, li = R.line := ⟨_, rfl⟩
  obtain ⟨co, hco⟩ : ∃ co, co = R.col := ⟨_, rfl⟩
  obtain ⟨er, her⟩ : ∃ er, er = R.err := ⟨_, rfl⟩
  rw [← hli, ← hco, ← her]
  have HRR := Lib.hid (⟨hli, hco, her⟩ : li = R.line ∧ co = R.col ∧ er = R.err)
  clear ht h21 hli hco her
  go_wp2_with fail
  obtain ⟨q0, q1, q2, q3⟩ := two_put h12 HK2.out.1 HK2.out.2 (.int .i64 x0) (.int .i64 x1) (.string x2) (.slice xa xl xc) (.slice xd xe xf) (.int .i64 li) (.int .i64 co)
  have HQ3 := Lib.hid ((HT.out.keep (fun b hb => q3 b (by have := hb.1; have := HK.out.1.lt; omega) (by have := hb.1; have := HK.out.2.lt; omega))).mono (Q := Own w.heap.size _) (fun b hb => ⟨by have := HB.out.size; have := hb.1; omega, Nat.lt_of_lt_of_le hb.2 (q2 0 (Nat.zero_le _)).size⟩))
  obtain ⟨W, hW⟩ : ∃ W, W = (((putFive w2 b6 (.int .i64 x0) (.int .i64 x1) (.string x2) (.slice xa xl xc) (.slice xd xe xf)).setCell ⟨b7, 0, none⟩ (.int .i64 li)).setCell ⟨b7, 1, none⟩ (.int .i64 co)) := ⟨_, rfl⟩
  have HQ2 := Lib.hid (q2 w.heap.size (by have := HB6.out; omega))
  have HQ0 := Lib.hid q0
  have HQ1 := Lib.hid q1
  rw [← hW] at HQ0 HQ1 HQ2 HQ3
  unfold putFive at hW
  rw [← hW]
  clear hW q0 q1 q2 q3
  obtain ⟨d0, d1, d2, d3, d4⟩ := five_cells HQ0.out
  obtain ⟨d5, d6⟩ := two_cells HQ1.out
  refine bodyPost_ret (v := .tuple #[.agg #[.int .i64 x0, .int .i64 x1, .string x2, .slice xa xl xc, .slice xd xe xf], .agg #[.int .i64 li, .int .i64 co], .int .i64 er]) (by simp [results, Tryz.results30, go_sem, d0, d1, d2, d3, d4, d5, d6]) rfl ?_
  rw [HRR.out.1, HRR.out.2.1, HRR.out.2.2]
  exact ⟨⟨_, rfl, HQ3.out⟩, HB2.out.trans HQ2.out⟩
end Go.Proofs.YtkmgnibopmpcjaaGreatDoor

/-
  Walks of layer 4: the examples of the chapter.
-/
namespace Go.Proofs.YtkmgnibopmpcjaaGreatDoor
open Go Go.RowKit
set_option linter.unusedSimpArgs false
def pex1 : Pl.Bytes := [49, 32, 43, 32, 50, 32, 42, 32, 120]
def pex2 : Pl.Bytes := [97, 32, 61, 32, 98, 32, 61, 32, 99]
def pex3 : Pl.Bytes := [105, 102, 32, 97, 32, 116, 104, 101, 110, 32, 98]
set_option maxRecDepth 100000 in
theorem ex2_res : (exprP pex2).err = 3 ∧ (exprP pex2).line = 1 ∧ (exprP pex2).col = 7 := by
  refine ⟨by kernel_rfl, by kernel_rfl, by kernel_rfl⟩
set_option maxRecDepth 100000 in
theorem ex3_res : (exprP pex3).err = 4 ∧ (exprP pex3).line = 1 ∧ (exprP pex3).col = 12 := by
  refine ⟨by kernel_rfl, by kernel_rfl, by kernel_rfl⟩
set_option maxRecDepth 100000 in
theorem ex1_err : (exprP pex1).err = 0 := by kernel_rfl
set_option maxRecDepth 100000 in
theorem ex1_tree : (exprP pex1).t = ⟨32, 7, ByteArray.empty, [], [⟨21, 1, ByteArray.empty, [], []⟩, ⟨32, 9, ByteArray.empty, [], [⟨21, 2, ByteArray.empty, [], []⟩, ⟨23, 0, ByteArray.empty, [⟨#[120]⟩], []⟩]⟩]⟩ := by kernel_rfl
theorem ex1_open {w : World} {P : Nat → Prop} {v : Value} (h : SynV w P (exprP pex1).t v) : ∃ na nl nc b off c, v = .agg #[.int .i64 32, .int .i64 7, .string ⟨#[]⟩, .slice na nl nc, .slice (some ⟨b, off, none⟩) 2 c] ∧ P b ∧ w.cell? ⟨b, off + 5, none⟩ = some (.int .i64 32) ∧ w.cell? ⟨b, off + 5 + 1, none⟩ = some (.int .i64 9) := by
  rw [ex1_tree] at h
  obtain ⟨-, nv, lv, rfl, hn, hl⟩ := (synV_iff _ _ _ _).1 h
  obtain ⟨na, nc, rfl, -⟩ := hn
  obtain ⟨a, c, rfl, hc, hm, -, hk⟩ := hl
  rcases hk with hk | ⟨b, off, rfl, hb, hk⟩
  · cases hk
  obtain ⟨u, hnd, ht⟩ := (kidsAt_iff _ _ _ _ _).1 hk 1 (by decide)
  obtain ⟨x0, x1, x2, x3, x4, rfl, t0, t1, -⟩ := hnd
  obtain ⟨-, nv2, lv2, he, -, -⟩ := (synV_iff _ _ _ _).1 ht
  injection he with he
  simp only [Array.mk.injEq, List.cons.injEq, and_true] at he
  obtain ⟨h0, h1, -⟩ := he
  rw [h0] at t0
  rw [h1] at t1
  exact ⟨na, _, nc, b, off, c, rfl, hb, t0, t1⟩
theorem awake1_4 (W : World) : Calls Tryz.prog 30 #[.string ⟨#[49, 32, 43, 32, 50, 32, 42, 32, 120]⟩] W fun e w' => (∃ na nl nc b off c li co, e = .returned (.tuple #[.agg #[.int .i64 32, .int .i64 7, .string ⟨#[]⟩, .slice na nl nc, .slice (some ⟨b, off, none⟩) 2 c], .agg #[.int .i64 li, .int .i64 co], .int .i64 0]) ∧ b < w'.heap.size ∧ w'.cell? ⟨b, off + 5, none⟩ = some (.int .i64 32) ∧ w'.cell? ⟨b, off + 5 + 1, none⟩ = some (.int .i64 9)) ∧ Below W.heap.size W w' := by
  have h := pExpr_any (Pl.mk pex1) W (by decide)
  rw [mk_toList] at h
  refine h.mono ?_
  rintro e w' ⟨⟨v, rfl, ht⟩, hb⟩
  obtain ⟨na, nl, nc, b, off, c, rfl, hP, h0, h1⟩ := ex1_open ht
  rw [ex1_err]
  exact ⟨⟨na, nl, nc, b, off, c, _, _, rfl, hP.2, h0, h1⟩, hb⟩
theorem awake2_4 (W : World) : Calls Tryz.prog 30 #[.string ⟨#[97, 32, 61, 32, 98, 32, 61, 32, 99]⟩] W fun e w' => (∃ x0 x1 x2 xa xl xc xd xe xf, e = .returned (.tuple #[.agg #[.int .i64 x0, .int .i64 x1, .string x2, .slice xa xl xc, .slice xd xe xf], .agg #[.int .i64 1, .int .i64 7], .int .i64 3])) ∧ Below W.heap.size W w' := by
  have h := pExpr_any (Pl.mk pex2) W (by decide)
  rw [mk_toList] at h
  refine h.mono ?_
  rintro e w' ⟨⟨v, rfl, ht⟩, hb⟩
  obtain ⟨x0, x1, x2, xa, xl, xc, xd, xe, xf, rfl⟩ := tree_open ht
  rw [ex2_res.1, ex2_res.2.1, ex2_res.2.2]
  exact ⟨⟨x0, x1, x2, xa, xl, xc, xd, xe, xf, rfl⟩, hb⟩
theorem awake3_4 (W : World) : Calls Tryz.prog 30 #[.string ⟨#[105, 102, 32, 97, 32, 116, 104, 101, 110, 32, 98]⟩] W fun e w' => (∃ x0 x1 x2 xa xl xc xd xe xf, e = .returned (.tuple #[.agg #[.int .i64 x0, .int .i64 x1, .string x2, .slice xa xl xc, .slice xd xe xf], .agg #[.int .i64 1, .int .i64 12], .int .i64 4])) ∧ Below W.heap.size W w' := by
  have h := pExpr_any (Pl.mk pex3) W (by decide)
  rw [mk_toList] at h
  refine h.mono ?_
  rintro e w' ⟨⟨v, rfl, ht⟩, hb⟩
  obtain ⟨x0, x1, x2, xa, xl, xc, xd, xe, xf, rfl⟩ := tree_open ht
  rw [ex3_res.1, ex3_res.2.1, ex3_res.2.2]
  exact ⟨⟨x0, x1, x2, xa, xl, xc, xd, xe, xf, rfl⟩, hb⟩
set_option maxRecDepth 100000 in
set_option maxHeartbeats 8000000 in
theorem awake_any4 (w : World) : Calls Tryz.prog 9 #[] w fun e w' => e = .returned (.bool true) ∧ Below w.heap.size w w' := by
  have H1 := Lib.hid awake1_4
  have H2 := Lib.hid awake2_4
  have H3 := Lib.hid awake3_4
  go_enter Tryz.func9, Tryz.ntmps9
  go_wp2_with fail
  refine (H1.out _).mono ?_
  rintro e w1 ⟨⟨na, nl, nc, b, off, c, li, co, rfl, hb1, t0, t1⟩, hw1⟩
  obtain ⟨k0, k1, k2⟩ := res_boxes w1 (.int .i64 li) (.int .i64 co) 28 30 #[.int .i64 32, .int .i64 7, .string ⟨#[]⟩, .slice na nl nc, .slice (some ⟨b, off, none⟩) 2 c]
  have HB := Lib.hid (hw1.trans (k2.mono hw1.size))
  have HX := Lib.hid k0
  have T0 := Lib.hid ((k2.cell (p := ⟨b, off + 5, none⟩) hb1).trans t0)
  have T1 := Lib.hid ((k2.cell (p := ⟨b, off + 5 + 1, none⟩) hb1).trans t1)
  have HBL := Lib.hid (Nat.lt_of_lt_of_le hb1 k2.size)
  clear k0 k1 k2 t0 t1 hb1 hw1
  go_wp2_with fail
  generalize (w1.alloc (.cells #[.int .i64 32, .int .i64 7, .string ⟨#[]⟩, .slice na nl nc, .slice (some ⟨b, off, none⟩) 2 c] 28)).alloc (.cells #[.int .i64 li, .int .i64 co] 30) = w2 at *
  refine (H2.out _).mono ?_
  rintro e w3 ⟨⟨x0, x1, x2, xa, xl, xc, xd, xe, xf, rfl⟩, hw3⟩
  obtain ⟨k0, k1, k2⟩ := res_boxes w3 (.int .i64 1) (.int .i64 7) 28 30 #[.int .i64 x0, .int .i64 x1, .string x2, .slice xa xl xc, .slice xd xe xf]
  have h32 := hw3.trans (k2.mono hw3.size)
  replace HB := Lib.hid (HB.out.trans (h32.mono HB.out.size))
  replace HX := Lib.hid (HX.out.of_eq (h32.block _ HX.out.lt))
  replace T0 := Lib.hid ((h32.cell (p := ⟨b, off + 5, none⟩) HBL.out).trans T0.out)
  replace T1 := Lib.hid ((h32.cell (p := ⟨b, off + 5 + 1, none⟩) HBL.out).trans T1.out)
  replace HBL := Lib.hid (Nat.lt_of_lt_of_le HBL.out h32.size)
  have HY := Lib.hid k1
  clear k0 k1 k2 h32 hw3
  go_wp2_with fail
  generalize (w3.alloc (.cells #[.int .i64 x0, .int .i64 x1, .string x2, .slice xa xl xc, .slice xd xe xf] 28)).alloc (.cells #[.int .i64 1, .int .i64 7] 30) = w4 at *
  refine (H3.out _).mono ?_
  rintro e w5 ⟨⟨y0, y1, y2, ya, yl, yc, yd, ye, yf, rfl⟩, hw5⟩
  obtain ⟨k0, k1, k2⟩ := res_boxes w5 (.int .i64 1) (.int .i64 12) 28 30 #[.int .i64 y0, .int .i64 y1, .string y2, .slice ya yl yc, .slice yd ye yf]
  have h54 := hw5.trans (k2.mono hw5.size)
  replace HB := Lib.hid (HB.out.trans (h54.mono HB.out.size))
  replace HX := Lib.hid (HX.out.of_eq (h54.block _ HX.out.lt))
  replace HY := Lib.hid (HY.out.of_eq (h54.block _ HY.out.lt))
  replace T0 := Lib.hid ((h54.cell (p := ⟨b, off + 5, none⟩) HBL.out).trans T0.out)
  replace T1 := Lib.hid ((h54.cell (p := ⟨b, off + 5 + 1, none⟩) HBL.out).trans T1.out)
  have HZ := Lib.hid k1
  clear k0 k1 k2 h54 hw5
  obtain ⟨c0, c1, c2, c3, c4⟩ := five_cells HX.out
  obtain ⟨d0, d1⟩ := two_cells HY.out
  obtain ⟨g0, g1⟩ := two_cells HZ.out
  have t0 := T0.out
  have t1 := T1.out
  go_wp2
  go_ret
  exact ⟨rfl, HB.out⟩
end Go.Proofs.YtkmgnibopmpcjaaGreatDoor

/-
  Walks of layer 2: the reference's texts and literals.
-/
namespace Go.Proofs.YtkmgnibopmpcjaaGreatDoor
open Go.RowKit
namespace Pl
end Pl
end Go.Proofs.YtkmgnibopmpcjaaGreatDoor

/-
  The law LexerParts, as a walk: each call returns true, and nothing that lay in memory before it turns.
-/
namespace Go.Proofs.YtkmgnibopmpcjaaGreatDoor
open Go.RowKit
end Go.Proofs.YtkmgnibopmpcjaaGreatDoor

/-
  Walks of layer 2: the reference's names, numbers, comments, blanks and places.
-/
namespace Go.Proofs.YtkmgnibopmpcjaaGreatDoor
open Go.RowKit
namespace Pl
end Pl
end Go.Proofs.YtkmgnibopmpcjaaGreatDoor

/-
  Walks of layer 2: the reference's Next.
-/
namespace Go.Proofs.YtkmgnibopmpcjaaGreatDoor
open Go.RowKit
end Go.Proofs.YtkmgnibopmpcjaaGreatDoor

/-
  Walks of layer 2: the reference's Next, the whole.
-/
namespace Go.Proofs.YtkmgnibopmpcjaaGreatDoor
open Go.RowKit
end Go.Proofs.YtkmgnibopmpcjaaGreatDoor

/-
  Walks of layer 2: the reference's Next at every text.
-/
namespace Go.Proofs.YtkmgnibopmpcjaaGreatDoor
open Go.RowKit
namespace Pl
end Pl
end Go.Proofs.YtkmgnibopmpcjaaGreatDoor

/-
  Walks of layer 2: the reference's Tokens.
-/
namespace Go.Proofs.YtkmgnibopmpcjaaGreatDoor
open Go.RowKit
structure RS (w wr : World) (v : Value) (acc : List Pl.Tok) : Prop where
  res : Blk wr w.heap.size 30 #[.int .i64 0, .int .i64 0]
  own : wr.ownsRow (w.heap.size + 1) 41 4 v acc.length (cells acc)
  only : Only w.heap.size w wr
  size : w.heap.size + 1 ≤ wr.heap.size
theorem RS.step {w wr w2 : World} {v : Value} {acc : List Pl.Tok} (h : RS w wr v acc) (hb : Below wr.heap.size wr w2) : RS w w2 v acc :=
  ⟨h.res.below hb h.res.lt, h.own.kept ((Only.refl w.heap.size wr).below hb (Nat.le_refl _)) (by
    cases hv : v.ownBlock with
    | none => exact .inl rfl
    | some k => exact .inr (fun e => by injection e with e; have := (h.own.lt k hv).1; omega)), h.only.below hb (by have := h.size; omega), Nat.le_trans h.size hb.size⟩
theorem RS.form {w wr : World} {v : Value} {acc : List Pl.Tok} (h : RS w wr v acc) : ∃ A c, v = .slice A acc.length c := by
  rcases h.own.2 with ⟨hv, h0⟩ | ⟨g, cap, cur, hv, _⟩
  · exact ⟨none, 0, by rw [hv, h0]⟩
  · exact ⟨_, _, hv⟩
theorem RS.grow {w wr w1 w2 : World} {v v' : Value} {acc : List Pl.Tok} {t : Pl.Tok} (h : RS w wr v acc) (hb : Below wr.heap.size wr w1)
    (hown : w2.ownsRow (w.heap.size + 1) 41 4 v' (acc.length + 1) (cells acc ++ tokCells t)) (hg : w1.grownBy w2 v.ownBlock) : RS w w2 v' (acc ++ [t]) := by
  have h1 := h.step hb
  have hk : ∀ k, v.ownBlock = some k → w.heap.size + 1 ≤ k := fun k hk => (h1.own.lt k hk).1
  refine ⟨(World.grownBy.block hg w.heap.size h1.res.lt (fun e => by have := hk _ e.symm; omega)).trans h1.res, ?_, ?_, Nat.le_trans h1.size (World.grownBy.size hg)⟩
  · rw [List.length_append, cells_snoc]; exact hown
  · obtain ⟨o1, o2, o3, o4, o5⟩ := (show w.grownBy w1 (some w.heap.size) from h1.only)
    exact ⟨(World.grownBy.os hg).trans o1, (World.grownBy.tape hg).trans o2, (World.grownBy.output hg).trans o3, Nat.le_trans o4 (World.grownBy.size hg), fun k hk1 hne =>
      (World.grownBy.block hg k (Nat.lt_of_lt_of_le hk1 o4) (fun e => by have := hk k e.symm; omega)).trans (o5 k hk1 hne)⟩
end Go.Proofs.YtkmgnibopmpcjaaGreatDoor

/-
  Walks of layer 2: the reference's Same, at equal lists.
-/
namespace Go.Proofs.YtkmgnibopmpcjaaGreatDoor
open Go.RowKit
end Go.Proofs.YtkmgnibopmpcjaaGreatDoor

/-
  Walks of layer 2: a token's end, and many.
-/
namespace Go.Proofs.YtkmgnibopmpcjaaGreatDoor
open Go.RowKit
end Go.Proofs.YtkmgnibopmpcjaaGreatDoor

/-
  Walks of layer 2: many.
-/
namespace Go.Proofs.YtkmgnibopmpcjaaGreatDoor
open Go.RowKit
theorem TokSlice.form {w : World} {v : Value} {ts : List Pl.Tok} (h : TokSlice w v ts) : ∃ a c, v = .slice a ts.length c ∧ ts.length ≤ maxLen := by
  rcases h with ⟨h0, a, c, rfl⟩ | ⟨b, off, c, rfl, h1, h2, h3, h4, h5⟩
  · exact ⟨a, c, by rw [h0]; rfl, by rw [h0]; exact Nat.zero_le _⟩
  · exact ⟨_, c, rfl, Nat.le_trans h2 h3⟩
end Go.Proofs.YtkmgnibopmpcjaaGreatDoor

/-
  Plain mathematics of layer 2: right tokens. No program.
-/
namespace Go.Proofs.YtkmgnibopmpcjaaGreatDoor.Pl
open Go
end Go.Proofs.YtkmgnibopmpcjaaGreatDoor.Pl

/-
  Walks of layer 2: isRight, and the reference's Right.
-/
namespace Go.Proofs.YtkmgnibopmpcjaaGreatDoor
open Go.RowKit
end Go.Proofs.YtkmgnibopmpcjaaGreatDoor

/-
  Walks of layer 2: tokens as they are written.
-/
namespace Go.Proofs.YtkmgnibopmpcjaaGreatDoor
open Go.RowKit
theorem Bld.below {B b : Nat} {l : List UInt8} {w w' : World} (h : Bld B b l w) (hb : Below w.heap.size w w') : Bld B b l w' := by
  have hlt := h.lt
  have key : ∀ q, Lib.BuilderAtF 87 5 B b q (Lib.byteCells l) w → Lib.BuilderAtF 87 5 B b q (Lib.byteCells l) w' := by
    rintro q ⟨hB, u, hbk, hown, hne⟩
    refine ⟨hB, u, (hb.block b hlt).trans hbk, ?_, hne⟩
    refine hown.kept (row := some w.heap.size) ⟨hb.os, hb.tape, hb.output, hb.size, fun k hk _ => hb.block k hk⟩ (.inr ?_)
    intro e
    have := (hown.lt _ e).2
    omega
  rcases h with h | h
  · exact .inl (key _ h)
  · exact .inr (key _ h)
theorem body_len (l : Pl.Bytes) : (Pl.body l).length ≤ 2 * l.length := by
  have := Pl.body_take_len (Pl.mk l) (Pl.mk l).size
  rw [Pl.take_all _ _ (Nat.le_refl _), Pl.mk_toList, Pl.mk_size] at this
  omega
end Go.Proofs.YtkmgnibopmpcjaaGreatDoor

/-
  Plain mathematics of layer 2: joined tokens are found again. No program.
-/
namespace Go.Proofs.YtkmgnibopmpcjaaGreatDoor
open Go Go.RowKit
namespace Pl
theorem take_len (l q : Bytes) : (l ++ q).take l.length = l := by simp
end Pl
end Go.Proofs.YtkmgnibopmpcjaaGreatDoor

/-
  Plain mathematics of layer 2: the tokens of what was joined. No program.
-/
namespace Go.Proofs.YtkmgnibopmpcjaaGreatDoor
open Go Go.RowKit
namespace Pl
end Pl
end Go.Proofs.YtkmgnibopmpcjaaGreatDoor

/-
  Plain mathematics of layer 2: the kinds and texts of a source's tokens, without places. No program.
-/
namespace Go.Proofs.YtkmgnibopmpcjaaGreatDoor
open Go Go.RowKit
namespace Pl
abbrev Kt := Int × Bytes
def kt (t : Tok) : Kt := (t.kind, t.text)
def scanF : Nat → Bytes → Option (List Kt)
  | 0, _ => none
  | f + 1, l =>
    if (gap l).2 then none
    else if l.drop (gap l).1 = [] then some []
    else if (tok (l.drop (gap l).1)).err = 0 then (scanF f ((l.drop (gap l).1).drop (tok (l.drop (gap l).1)).len)).map (List.cons ((tok (l.drop (gap l).1)).kind, (tok (l.drop (gap l).1)).text))
    else none
def scan (l : Bytes) : Option (List Kt) := scanF (l.length + 1) l
theorem scanF_fuel : ∀ (f g : Nat) (l : Bytes), l.length < f → l.length < g → scanF f l = scanF g l := by
  intro f
  induction f with
  | zero => intro g l h; exact absurd h (Nat.not_lt_zero _)
  | succ f ih =>
    intro g l hf hg
    obtain ⟨g, rfl⟩ : ∃ k, g = k + 1 := ⟨g - 1, by omega⟩
    rw [scanF, scanF]
    by_cases h1 : (gap l).2 = true
    · rw [if_pos h1, if_pos h1]
    · rw [if_neg h1, if_neg h1]
      by_cases h2 : l.drop (gap l).1 = []
      · rw [if_pos h2, if_pos h2]
      · rw [if_neg h2, if_neg h2]
        by_cases h3 : (tok (l.drop (gap l).1)).err = 0
        · rw [if_pos h3, if_pos h3]
          have hfi := (fine_tok _ h2).1 h3
          have hlen : ((l.drop (gap l).1).drop (tok (l.drop (gap l).1)).len).length < f ∧ ((l.drop (gap l).1).drop (tok (l.drop (gap l).1)).len).length < g := by
            have := hfi.1
            have := hfi.2.1
            rw [List.length_drop] at this ⊢
            rw [List.length_drop]
            omega
          rw [ih g _ hlen.1 hlen.2]
        · rw [if_neg h3, if_neg h3]
theorem scan_eq (l : Bytes) : scan l = if (gap l).2 then none
    else if l.drop (gap l).1 = [] then some []
    else if (tok (l.drop (gap l).1)).err = 0 then (scan ((l.drop (gap l).1).drop (tok (l.drop (gap l).1)).len)).map (List.cons ((tok (l.drop (gap l).1)).kind, (tok (l.drop (gap l).1)).text))
    else none := by
  unfold scan
  rw [scanF]
  by_cases h1 : (gap l).2 = true
  · rw [if_pos h1, if_pos h1]
  · rw [if_neg h1, if_neg h1]
    by_cases h2 : l.drop (gap l).1 = []
    · rw [if_pos h2, if_pos h2]
    · rw [if_neg h2, if_neg h2]
      by_cases h3 : (tok (l.drop (gap l).1)).err = 0
      · rw [if_pos h3, if_pos h3]
        have hfi := (fine_tok _ h2).1 h3
        have := hfi.1
        have := hfi.2.1
        rw [scanF_fuel l.length _ _ (by rw [List.length_drop, List.length_drop]; rw [List.length_drop] at this; omega) (Nat.lt_succ_self _)]
      · rw [if_neg h3, if_neg h3]
theorem toks_scan : ∀ (f : Nat) (l : Bytes) (i : Nat) (acc : List Tok) (O : Out), l.length < 20000 → Ok f l i acc O →
    (O.err = 0 → ∃ x, scan (l.drop i) = some x) ∧ (∀ x, scan (l.drop i) = some x → O.err = 0 ∧ O.toks.map kt = acc.map kt ++ (x ++ [(8, [])])) := by
  intro f
  induction f with
  | zero => intro l i acc O _ h; obtain ⟨h1, h2, _⟩ := h; omega
  | succ f ih =>
    intro l i acc O hl hok
    rw [scan_eq]
    cases hg : (gap (l.drop i)).2
    · rw [if_neg (by simp)]
      have hdd : (l.drop i).drop (gap (l.drop i)).1 = l.drop (i + (gap (l.drop i)).1) := by rw [List.drop_drop]
      have hgl := gap_le _ (l.drop i) (Nat.le_refl _)
      rw [List.length_drop] at hgl
      have hi := hok.2.1
      rw [hdd]
      by_cases he : i + (gap (l.drop i)).1 = l.length
      · rw [if_pos (by rw [he]; simp)]
        rw [ok_end _ _ _ _ _ hok hg he]
        refine ⟨fun _ => ⟨[], rfl⟩, fun x hx => ?_⟩
        obtain rfl := Option.some.inj hx
        exact ⟨rfl, by simp [kt]⟩
      · have hne : l.drop (i + (gap (l.drop i)).1) ≠ [] := by
          intro h
          have := congrArg List.length h
          rw [List.length_drop, List.length_nil] at this
          omega
        rw [if_neg hne]
        by_cases ht : (tok (l.drop (i + (gap (l.drop i)).1))).err = 0
        · rw [if_pos ht]
          have hfi := (fine_tok _ hne).1 ht
          have h1 := hfi.1
          have h2 := hfi.2.1
          rw [List.length_drop] at h2
          have hok2 := ok_next _ _ _ _ _ hok hl hg he ht h1 (by omega)
          obtain ⟨k1, k2⟩ := ih l _ _ O hl hok2
          rw [List.drop_drop]
          refine ⟨fun h => ?_, fun x hx => ?_⟩
          · obtain ⟨x, hx⟩ := k1 h
            exact ⟨_, by rw [hx]; rfl⟩
          · rw [Option.map_eq_some_iff] at hx
            obtain ⟨y, hy, rfl⟩ := hx
            obtain ⟨j1, j2⟩ := k2 y hy
            refine ⟨j1, ?_⟩
            rw [j2]; simp [kt]
        · rw [if_neg ht]
          rw [ok_bad _ _ _ _ _ hok hl hg he ht]
          exact ⟨fun h => absurd h ht, fun x hx => by cases hx⟩
    · rw [if_pos rfl]
      rw [ok_open _ _ _ _ _ hok hg]
      exact ⟨fun h => absurd h (show ¬ (4 : Int) = 0 by decide), fun x hx => by cases hx⟩
theorem tokens_scan (l : Bytes) (hl : l.length ≤ 16384) : ((tokens l).err = 0 → ∃ x, scan l = some x) ∧ (∀ x, scan l = some x → (tokens l).err = 0 ∧ (tokens l).toks.map kt = x ++ [(8, [])]) := by
  have := toks_scan (l.length + 1) l 0 [] (tokens l) (by omega) ⟨by omega, Nat.zero_le _, Nat.zero_le _, by unfold tokens; rw [if_neg (by omega)]⟩
  rw [List.drop_zero] at this
  simpa using this
end Pl
end Go.Proofs.YtkmgnibopmpcjaaGreatDoor

/-
  Plain mathematics of layer 2: a source with something behind it that ends a token. No program.
-/
namespace Go.Proofs.YtkmgnibopmpcjaaGreatDoor
open Go Go.RowKit
namespace Pl
end Pl
end Go.Proofs.YtkmgnibopmpcjaaGreatDoor

/-
  Plain mathematics of layer 2: two sources with blanks or a comment between them. No program.
-/
namespace Go.Proofs.YtkmgnibopmpcjaaGreatDoor
open Go Go.RowKit
namespace Pl
theorem scan_gap (u t : Bytes) (n : Nat) (hd : u.drop n = t) (hg : gap u = (n + (gap t).1, (gap t).2)) : scan u = scan t := by
  have hdd : u.drop (n + (gap t).1) = t.drop (gap t).1 := by rw [← List.drop_drop, hd]
  rw [scan_eq u, scan_eq t, hg]
  simp only [hdd]
def between : Nat → Bytes
  | 0 => [32]
  | 1 => [10]
  | 2 => [9, 10, 32]
  | 3 => [32, 40, 42, 42, 41, 32]
  | 4 => [40, 42, 32, 97, 32, 40, 42, 32, 34, 98, 32, 42, 41, 32, 39, 32, 42, 41]
  | _ => [40, 42, 42, 42, 41]
theorem scan_blank (b : UInt8) (t : Bytes) (ho : opens (b :: t) = false) (hb : headIs blank (b :: t) = true) : scan (b :: t) = scan t :=
  scan_gap (b :: t) t 1 rfl (gap_blank _ ho hb)
end Pl
end Go.Proofs.YtkmgnibopmpcjaaGreatDoor
