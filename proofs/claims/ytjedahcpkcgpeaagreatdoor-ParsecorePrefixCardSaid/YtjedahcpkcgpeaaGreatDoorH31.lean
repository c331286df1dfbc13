/-
  Walks and plain mathematics, several texts in one (Fk Fl).
-/
import Derived.Test.YtjedahcpkcgpeaaGreatDoorH30
import Derived.Test.YtjedahcpkcgpeaaGreatDoorH8
/-
  Walks of layer 4: the examples of the chapter.
-/
namespace Go.Proofs.YtjedahcpkcgpeaaGreatDoor
open Go Go.RowKit
set_option linter.unusedSimpArgs false
def pex1 : Pl.Bytes := [49, 32, 43, 32, 50, 32, 42, 32, 120]
def pex2 : Pl.Bytes := [97, 32, 61, 32, 98, 32, 61, 32, 99]
def pex3 : Pl.Bytes := [105, 102, 32, 97, 32, 116, 104, 101, 110, 32, 98]
set_option maxRecDepth 100000 in
theorem ex2_res : (exprP pex2).err = 3 ∧ (exprP pex2).line = 1 ∧ (exprP pex2).col = 7 := by
  refine ⟨by kernel_rfl, by kernel_rfl, by kernel_rfl⟩
set_option maxRecDepth 100000 in
theorem ex3_res : (exprP pex3).err = 4 ∧ (exprP pex3).line = 1 ∧ (exprP pex3).col = 12 := by
  refine ⟨by kernel_rfl, by kernel_rfl, by kernel_rfl⟩
set_option maxRecDepth 100000 in
theorem ex1_err : (exprP pex1).err = 0 := by kernel_rfl
set_option maxRecDepth 100000 in
theorem ex1_tree : (exprP pex1).t = ⟨32, 7, ByteArray.empty, [], [⟨21, 1, ByteArray.empty, [], []⟩, ⟨32, 9, ByteArray.empty, [], [⟨21, 2, ByteArray.empty, [], []⟩, ⟨23, 0, ByteArray.empty, [⟨#[120]⟩], []⟩]⟩]⟩ := by kernel_rfl
theorem ex1_open {w : World} {P : Nat → Prop} {v : Value} (h : SynV w P (exprP pex1).t v) : ∃ na nl nc b off c, v = .agg #[.int .i64 32, .int .i64 7, .string ⟨#[]⟩, .slice na nl nc, .slice (some ⟨b, off, none⟩) 2 c] ∧ P b ∧ w.cell? ⟨b, off + 5, none⟩ = some (.int .i64 32) ∧ w.cell? ⟨b, off + 5 + 1, none⟩ = some (.int .i64 9) := by
  rw [ex1_tree] at h
  obtain ⟨-, nv, lv, rfl, hn, hl⟩ := (synV_iff _ _ _ _).1 h
  obtain ⟨na, nc, rfl, -⟩ := hn
  obtain ⟨a, c, rfl, hc, hm, -, hk⟩ := hl
  rcases hk with hk | ⟨b, off, rfl, hb, hk⟩
  · cases hk
  obtain ⟨u, hnd, ht⟩ := (kidsAt_iff _ _ _ _ _).1 hk 1 (by decide)
  obtain ⟨x0, x1, x2, x3, x4, rfl, t0, t1, -⟩ := hnd
  obtain ⟨-, nv2, lv2, he, -, -⟩ := (synV_iff _ _ _ _).1 ht
  injection he with he
  simp only [Array.mk.injEq, List.cons.injEq, and_true] at he
  obtain ⟨h0, h1, -⟩ := he
  rw [h0] at t0
  rw [h1] at t1
  exact ⟨na, _, nc, b, off, c, rfl, hb, t0, t1⟩
theorem awake1_4 (W : World) : Calls Tryz.prog 18 #[.string ⟨#[49, 32, 43, 32, 50, 32, 42, 32, 120]⟩] W fun e w' => (∃ na nl nc b off c li co, e = .returned (.tuple #[.agg #[.int .i64 32, .int .i64 7, .string ⟨#[]⟩, .slice na nl nc, .slice (some ⟨b, off, none⟩) 2 c], .agg #[.int .i64 li, .int .i64 co], .int .i64 0]) ∧ b < w'.heap.size ∧ w'.cell? ⟨b, off + 5, none⟩ = some (.int .i64 32) ∧ w'.cell? ⟨b, off + 5 + 1, none⟩ = some (.int .i64 9)) ∧ Below W.heap.size W w' := by
  have h := pExpr_any (Pl.mk pex1) W (by decide)
  rw [mk_toList] at h
  refine h.mono ?_
  rintro e w' ⟨⟨v, rfl, ht⟩, hb⟩
  obtain ⟨na, nl, nc, b, off, c, rfl, hP, h0, h1⟩ := ex1_open ht
  rw [ex1_err]
  exact ⟨⟨na, nl, nc, b, off, c, _, _, rfl, hP.2, h0, h1⟩, hb⟩
theorem awake2_4 (W : World) : Calls Tryz.prog 18 #[.string ⟨#[97, 32, 61, 32, 98, 32, 61, 32, 99]⟩] W fun e w' => (∃ x0 x1 x2 xa xl xc xd xe xf, e = .returned (.tuple #[.agg #[.int .i64 x0, .int .i64 x1, .string x2, .slice xa xl xc, .slice xd xe xf], .agg #[.int .i64 1, .int .i64 7], .int .i64 3])) ∧ Below W.heap.size W w' := by
  have h := pExpr_any (Pl.mk pex2) W (by decide)
  rw [mk_toList] at h
  refine h.mono ?_
  rintro e w' ⟨⟨v, rfl, ht⟩, hb⟩
  obtain ⟨x0, x1, x2, xa, xl, xc, xd, xe, xf, rfl⟩ := tree_open ht
  rw [ex2_res.1, ex2_res.2.1, ex2_res.2.2]
  exact ⟨⟨x0, x1, x2, xa, xl, xc, xd, xe, xf, rfl⟩, hb⟩
theorem awake3_4 (W : World) : Calls Tryz.prog 18 #[.string ⟨#[105, 102, 32, 97, 32, 116, 104, 101, 110, 32, 98]⟩] W fun e w' => (∃ x0 x1 x2 xa xl xc xd xe xf, e = .returned (.tuple #[.agg #[.int .i64 x0, .int .i64 x1, .string x2, .slice xa xl xc, .slice xd xe xf], .agg #[.int .i64 1, .int .i64 12], .int .i64 4])) ∧ Below W.heap.size W w' := by
  have h := pExpr_any (Pl.mk pex3) W (by decide)
  rw [mk_toList] at h
  refine h.mono ?_
  rintro e w' ⟨⟨v, rfl, ht⟩, hb⟩
  obtain ⟨x0, x1, x2, xa, xl, xc, xd, xe, xf, rfl⟩ := tree_open ht
  rw [ex3_res.1, ex3_res.2.1, ex3_res.2.2]
  exact ⟨⟨x0, x1, x2, xa, xl, xc, xd, xe, xf, rfl⟩, hb⟩
set_option maxRecDepth 100000 in
set_option maxHeartbeats 8000000 in
theorem awake_any4 (w : World) : Calls Tryz.prog 6 #[] w fun e w' => e = .returned (.bool true) ∧ Below w.heap.size w w' := by
  have H1 := Lib.hid awake1_4
  have H2 := Lib.hid awake2_4
  have H3 := Lib.hid awake3_4
  go_enter Tryz.func6, Tryz.ntmps6
  go_wp2_with fail
  refine (H1.out _).mono ?_
  rintro e w1 ⟨⟨na, nl, nc, b, off, c, li, co, rfl, hb1, t0, t1⟩, hw1⟩
  obtain ⟨k0, k1, k2⟩ := res_boxes w1 (.int .i64 li) (.int .i64 co) 27 29 #[.int .i64 32, .int .i64 7, .string ⟨#[]⟩, .slice na nl nc, .slice (some ⟨b, off, none⟩) 2 c]
  have HB := Lib.hid (hw1.trans (k2.mono hw1.size))
  have HX := Lib.hid k0
  have T0 := Lib.hid ((k2.cell (p := ⟨b, off + 5, none⟩) hb1).trans t0)
  have T1 := Lib.hid ((k2.cell (p := ⟨b, off + 5 + 1, none⟩) hb1).trans t1)
  have HBL := Lib.hid (Nat.lt_of_lt_of_le hb1 k2.size)
  clear k0 k1 k2 t0 t1 hb1 hw1
  go_wp2_with fail
  generalize (w1.alloc (.cells #[.int .i64 32, .int .i64 7, .string ⟨#[]⟩, .slice na nl nc, .slice (some ⟨b, off, none⟩) 2 c] 27)).alloc (.cells #[.int .i64 li, .int .i64 co] 29) = w2 at *
  refine (H2.out _).mono ?_
  rintro e w3 ⟨⟨x0, x1, x2, xa, xl, xc, xd, xe, xf, rfl⟩, hw3⟩
  obtain ⟨k0, k1, k2⟩ := res_boxes w3 (.int .i64 1) (.int .i64 7) 27 29 #[.int .i64 x0, .int .i64 x1, .string x2, .slice xa xl xc, .slice xd xe xf]
  have h32 := hw3.trans (k2.mono hw3.size)
  replace HB := Lib.hid (HB.out.trans (h32.mono HB.out.size))
  replace HX := Lib.hid (HX.out.of_eq (h32.block _ HX.out.lt))
  replace T0 := Lib.hid ((h32.cell (p := ⟨b, off + 5, none⟩) HBL.out).trans T0.out)
  replace T1 := Lib.hid ((h32.cell (p := ⟨b, off + 5 + 1, none⟩) HBL.out).trans T1.out)
  replace HBL := Lib.hid (Nat.lt_of_lt_of_le HBL.out h32.size)
  have HY := Lib.hid k1
  clear k0 k1 k2 h32 hw3
  go_wp2_with fail
  generalize (w3.alloc (.cells #[.int .i64 x0, .int .i64 x1, .string x2, .slice xa xl xc, .slice xd xe xf] 27)).alloc (.cells #[.int .i64 1, .int .i64 7] 29) = w4 at *
  refine (H3.out _).mono ?_
  rintro e w5 ⟨⟨y0, y1, y2, ya, yl, yc, yd, ye, yf, rfl⟩, hw5⟩
  obtain ⟨k0, k1, k2⟩ := res_boxes w5 (.int .i64 1) (.int .i64 12) 27 29 #[.int .i64 y0, .int .i64 y1, .string y2, .slice ya yl yc, .slice yd ye yf]
  have h54 := hw5.trans (k2.mono hw5.size)
  replace HB := Lib.hid (HB.out.trans (h54.mono HB.out.size))
  replace HX := Lib.hid (HX.out.of_eq (h54.block _ HX.out.lt))
  replace HY := Lib.hid (HY.out.of_eq (h54.block _ HY.out.lt))
  replace T0 := Lib.hid ((h54.cell (p := ⟨b, off + 5, none⟩) HBL.out).trans T0.out)
  replace T1 := Lib.hid ((h54.cell (p := ⟨b, off + 5 + 1, none⟩) HBL.out).trans T1.out)
  have HZ := Lib.hid k1
  clear k0 k1 k2 h54 hw5
  obtain ⟨c0, c1, c2, c3, c4⟩ := five_cells HX.out
  obtain ⟨d0, d1⟩ := two_cells HY.out
  obtain ⟨g0, g1⟩ := two_cells HZ.out
  have t0 := T0.out
  have t1 := T1.out
  go_wp2
  go_ret
  exact ⟨rfl, HB.out⟩
end Go.Proofs.YtjedahcpkcgpeaaGreatDoor

/-
  Plain mathematics of layer 4: nothing is answered or refused ahead of where it began. No program.
-/
namespace Go.Proofs.YtjedahcpkcgpeaaGreatDoor.Pl
open Go
set_option linter.unusedSimpArgs false
def Lo {α : Type} (r : PR α) (a : Nat) : Prop := (∀ v j, r = .ok v j → a ≤ j) ∧ ∀ j, r = .bad j → a ≤ j
section
variable {α β : Type}
theorem Lo.bad {i a : Nat} (h : a ≤ i) : Lo (PR.bad i : PR α) a := ⟨fun _ _ h => (by cases h), fun j e => by injection e with e; omega⟩
theorem Lo.ok (v : α) {i a : Nat} (h : a ≤ i) : Lo (PR.ok v i) a := ⟨fun _ _ e => (by injection e with _ e2; omega), fun _ e => (by cases e)⟩
theorem Lo.mono {r : PR α} {a b : Nat} (h : Lo r b) (hab : a ≤ b) : Lo r a := ⟨fun v j e => Nat.le_trans hab (h.1 v j e), fun j e => Nat.le_trans hab (h.2 j e)⟩
theorem Lo.next {r : PR α} {f : α → Nat → PR β} {a : Nat} (h : Lo r a) (k : ∀ v j, a ≤ j → Lo (f v j) a) : Lo (r.then f) a := by
  cases r with
  | bad i => exact Lo.bad (h.2 i rfl)
  | ok v i => exact k v i (h.1 v i rfl)
theorem Lo.ite {p : Prop} [Decidable p] {r s : PR α} {a : Nat} (h : Lo r a) (k : Lo s a) : Lo (if p then r else s) a := by split <;> assumption
end
section
variable (l : List Tok)
theorem lo_take (k : Int) (i : Nat) : Lo (takeK l k i) i := by unfold takeK; exact (Lo.ok _ (by omega)).ite (Lo.bad (by omega))
theorem lo_need (b : Bytes) (i : Nat) : Lo (needT l b i) i := by unfold needT; exact (Lo.ok _ (by omega)).ite (Lo.bad (by omega))
theorem lo_mpMore : ∀ (n : Nat) (acc : List ByteArray) (i : Nat), Lo (mpMore l n acc i) i := by
  intro n
  induction n with
  | zero => intro acc i; rw [mpMore]; exact Lo.bad (by omega)
  | succ n ih =>
    intro acc i
    rw [mpMore]
    exact (((lo_take l 2 (i + 1)).mono (by omega)).next fun _ j hj => (ih _ j).mono hj).ite (Lo.ok _ (by omega))
theorem lo_mpath (i : Nat) : Lo (mpath l i) i := (lo_take l 2 i).next fun _ j hj => (lo_mpMore l _ _ j).mono hj
theorem lo_tpMore : ∀ (n : Nat) (acc : List ByteArray) (i : Nat), Lo (tpMore l n acc i) i := by
  intro n
  induction n with
  | zero => intro acc i; rw [tpMore]; exact Lo.bad (by omega)
  | succ n ih =>
    intro acc i
    rw [tpMore]
    exact (((lo_need l _ (i + 1)).mono (by omega)).next fun _ j hj => (ih _ j).mono hj).ite ((lo_take l 1 i).next fun _ _ hj => Lo.ok _ hj)
theorem lo_tpath (i : Nat) : Lo (tpath l i) i := lo_tpMore l _ _ i
theorem lo_vpMore : ∀ (n : Nat) (acc : List ByteArray) (i : Nat), Lo (vpMore l n acc i) i := by
  intro n
  induction n with
  | zero => intro acc i; rw [vpMore]; exact Lo.bad (by omega)
  | succ n ih =>
    intro acc i
    rw [vpMore]
    exact (((ih _ (i + 2)).mono (by omega)).ite (Lo.ok _ (by omega))).ite ((lo_take l 1 i).next fun _ _ hj => Lo.ok _ hj)
theorem lo_vpath (i : Nat) : Lo (vpath l i) i := lo_vpMore l _ _ i
theorem lo_sig (i : Nat) : Lo (sigOf l i) i := (lo_mpath l i).next fun _ _ hj => Lo.ok _ hj
theorem lo_namesMore : ∀ (n : Nat) (acc : List ByteArray) (i : Nat), Lo (namesMore l n acc i) i := by
  intro n
  induction n with
  | zero => intro acc i; rw [namesMore]; exact Lo.bad (by omega)
  | succ n ih =>
    intro acc i
    rw [namesMore]
    exact (Lo.ok _ (by omega)).ite ((lo_take l 1 i).next fun _ j hj => (ih _ j).mono hj)
theorem lo_sepMore (b : Bytes) {read : Nat → PR Syn} (hr : ∀ i, Lo (read i) i) : ∀ (n : Nat) (acc : List Syn) (i : Nat), Lo (sepMore l b read n acc i) i := by
  intro n
  induction n with
  | zero => intro acc i; rw [sepMore]; exact Lo.bad (by omega)
  | succ n ih =>
    intro acc i
    rw [sepMore]
    exact (((hr (i + 1)).mono (by omega)).next fun _ j hj => (ih _ j).mono hj).ite (Lo.ok _ (by omega))
theorem lo_sepd (b : Bytes) {read : Nat → PR Syn} (hr : ∀ i, Lo (read i) i) (i : Nat) : Lo (sepd l b read i) i := (hr i).next fun _ j hj => (lo_sepMore l b hr _ _ j).mono hj
end
structure Lows (F : Fs) : Prop where
  typ : ∀ i, Lo (F.typ i) i
  prod : ∀ i, Lo (F.prod i) i
  post : ∀ i, Lo (F.post i) i
  simp : ∀ i, Lo (F.simp i) i
  brack : ∀ i, Lo (F.brack i) i
  pat : ∀ i, Lo (F.pat i) i
  arg : ∀ i, Lo (F.arg i) i
  comps : ∀ i, Lo (F.comps i) i
  expr : ∀ i, Lo (F.expr i) i
  neg : ∀ i, Lo (F.neg i) i
  app : ∀ i, Lo (F.app i) i
  atom : ∀ i, Lo (F.atom i) i
  encl : ∀ i, Lo (F.encl i) i
  cont : ∀ i, Lo (F.cont i) i
  letE : ∀ i, Lo (F.letE i) i
  matchE : ∀ i, Lo (F.matchE i) i
  rule : ∀ i, Lo (F.rule i) i
  decl : ∀ i, Lo (F.decl i) i
  named : ∀ i, Lo (F.named i) i
  unpk : ∀ i, Lo (F.unpk i) i
  oper : ∀ q i, Lo (F.oper q i) i
section
variable {l : List Tok} {num : Bytes → Int} {F : Fs}
theorem lo_postMore : ∀ (n : Nat) (ts : List Syn) (i : Nat), Lo (postMore l n ts i) i := by
  intro n
  induction n with
  | zero => intro ts i; rw [postMore]; exact Lo.bad (by omega)
  | succ n ih =>
    intro ts i
    rw [postMore]
    exact ((lo_tpath l i).next fun _ j hj => (ih _ j).mono hj).ite (Lo.ok _ (by omega))
theorem lo_operMore (hF : Lows F) : ∀ (n lo most : Nat) (t : Syn) (i : Nat), Lo (operMore l F n lo most t i) i := by
  intro n
  induction n with
  | zero => intro lo most t i; rw [operMore]; exact Lo.bad (by omega)
  | succ n ih =>
    intro lo most t i
    rw [operMore]
    exact (Lo.ok _ (by omega)).ite (((hF.oper _ (i + 1)).mono (by omega)).next fun _ j hj => (ih _ _ _ j).mono hj)
theorem lo_appMore (hF : Lows F) : ∀ (n : Nat) (t : Syn) (i : Nat), Lo (appMore l F n t i) i := by
  intro n
  induction n with
  | zero => intro t i; rw [appMore]; exact Lo.bad (by omega)
  | succ n ih =>
    intro t i
    rw [appMore]
    exact ((hF.atom i).next fun _ j hj => (ih _ j).mono hj).ite (Lo.ok _ (by omega))
theorem lo_declMore (hF : Lows F) : ∀ (n : Nat) (ts : List Syn) (i : Nat), Lo (declMore l F n ts i) i := by
  intro n
  induction n with
  | zero => intro t i; rw [declMore]; exact Lo.bad (by omega)
  | succ n ih =>
    intro t i
    rw [declMore]
    exact (Lo.ok _ (by omega)).ite ((hF.decl i).next fun _ j hj => (ih _ j).mono hj)
theorem lo_fn (hF : Lows F) (i : Nat) : Lo (fnB l F i) i := by
  unfold fnB
  repeat' (first | assumption | exact Lo.ok _ (by omega) | exact Lo.bad (by omega) | (with_reducible refine Lo.ite ?_ ?_) | exact (lo_take _ _ _).mono (by omega) | exact (lo_need _ _ _).mono (by omega) | exact (lo_mpath _ _).mono (by omega) | exact (lo_tpath _ _).mono (by omega) | exact (lo_vpath _ _).mono (by omega) | exact (lo_sig _ _).mono (by omega) | exact (lo_namesMore _ _ _ _).mono (by omega) | exact (lo_postMore _ _ _).mono (by omega) | exact (lo_operMore hF _ _ _ _ _).mono (by omega) | exact (lo_appMore hF _ _ _).mono (by omega) | exact (lo_declMore hF _ _ _).mono (by omega) | exact (lo_sepd _ _ hF.post _).mono (by omega) | exact (lo_sepd _ _ hF.typ _).mono (by omega) | exact (lo_sepd _ _ hF.pat _).mono (by omega) | exact (lo_sepd _ _ hF.expr _).mono (by omega) | exact (lo_sepd _ _ hF.rule _).mono (by omega) | exact (hF.typ _).mono (by omega) | exact (hF.prod _).mono (by omega) | exact (hF.post _).mono (by omega) | exact (hF.simp _).mono (by omega) | exact (hF.brack _).mono (by omega) | exact (hF.pat _).mono (by omega) | exact (hF.arg _).mono (by omega) | exact (hF.comps _).mono (by omega) | exact (hF.expr _).mono (by omega) | exact (hF.neg _).mono (by omega) | exact (hF.app _).mono (by omega) | exact (hF.atom _).mono (by omega) | exact (hF.encl _).mono (by omega) | exact (hF.cont _).mono (by omega) | exact (hF.letE _).mono (by omega) | exact (hF.matchE _).mono (by omega) | exact (hF.rule _).mono (by omega) | exact (hF.decl _).mono (by omega) | exact (hF.named _).mono (by omega) | exact (hF.unpk _).mono (by omega) | exact (hF.oper _ _).mono (by omega) | (with_reducible refine Lo.next ?_ fun v j hj => ?_))
theorem lo_if (hF : Lows F) (i : Nat) : Lo (ifB l F i) i := by
  unfold ifB
  repeat' (first | assumption | exact Lo.ok _ (by omega) | exact Lo.bad (by omega) | (with_reducible refine Lo.ite ?_ ?_) | exact (lo_take _ _ _).mono (by omega) | exact (lo_need _ _ _).mono (by omega) | exact (lo_mpath _ _).mono (by omega) | exact (lo_tpath _ _).mono (by omega) | exact (lo_vpath _ _).mono (by omega) | exact (lo_sig _ _).mono (by omega) | exact (lo_namesMore _ _ _ _).mono (by omega) | exact (lo_postMore _ _ _).mono (by omega) | exact (lo_operMore hF _ _ _ _ _).mono (by omega) | exact (lo_appMore hF _ _ _).mono (by omega) | exact (lo_declMore hF _ _ _).mono (by omega) | exact (lo_sepd _ _ hF.post _).mono (by omega) | exact (lo_sepd _ _ hF.typ _).mono (by omega) | exact (lo_sepd _ _ hF.pat _).mono (by omega) | exact (lo_sepd _ _ hF.expr _).mono (by omega) | exact (lo_sepd _ _ hF.rule _).mono (by omega) | exact (hF.typ _).mono (by omega) | exact (hF.prod _).mono (by omega) | exact (hF.post _).mono (by omega) | exact (hF.simp _).mono (by omega) | exact (hF.brack _).mono (by omega) | exact (hF.pat _).mono (by omega) | exact (hF.arg _).mono (by omega) | exact (hF.comps _).mono (by omega) | exact (hF.expr _).mono (by omega) | exact (hF.neg _).mono (by omega) | exact (hF.app _).mono (by omega) | exact (hF.atom _).mono (by omega) | exact (hF.encl _).mono (by omega) | exact (hF.cont _).mono (by omega) | exact (hF.letE _).mono (by omega) | exact (hF.matchE _).mono (by omega) | exact (hF.rule _).mono (by omega) | exact (hF.decl _).mono (by omega) | exact (hF.named _).mono (by omega) | exact (hF.unpk _).mono (by omega) | exact (hF.oper _ _).mono (by omega) | (with_reducible refine Lo.next ?_ fun v j hj => ?_))
set_option maxHeartbeats 16000000 in
theorem lows_all (hF : Lows F) : (∀ i, Lo (typB l F i) i) ∧ (∀ i, Lo (prodB l F i) i) ∧ (∀ i, Lo (postB l F i) i) ∧ (∀ i, Lo (simpB l F i) i) ∧ (∀ i, Lo (brackB l F i) i) ∧ (∀ i, Lo (patB l F i) i) ∧ (∀ i, Lo (argB l num F i) i) ∧ (∀ i, Lo (compsB l F i) i) ∧ (∀ i, Lo (exprB l F i) i) ∧ (∀ i, Lo (negB l F i) i) ∧ (∀ i, Lo (appB l F i) i) ∧ (∀ i, Lo (atomB l num F i) i) ∧ (∀ i, Lo (enclB l F i) i) ∧ (∀ i, Lo (contB l F i) i) ∧ (∀ i, Lo (letB l F i) i) ∧ (∀ i, Lo (matchB l F i) i) ∧ (∀ i, Lo (ruleB l F i) i) ∧ (∀ i, Lo (declB l F i) i) ∧ (∀ i, Lo (namedB l F i) i) ∧ (∀ i, Lo (unpkB l F i) i) ∧ (∀ q i, Lo (operB l F q i) i) := by
  refine ⟨fun i => ?_, fun i => ?_, fun i => ?_, fun i => ?_, fun i => ?_, fun i => ?_, fun i => ?_, fun i => ?_, fun i => ?_, fun i => ?_, fun i => ?_, fun i => ?_, fun i => ?_, fun i => ?_, fun i => ?_, fun i => ?_, fun i => ?_, fun i => ?_, fun i => ?_, fun i => ?_, fun q i => ?_⟩
  all_goals first | unfold typB | unfold prodB | unfold postB | unfold simpB | unfold brackB | unfold patB | unfold argB | unfold compsB | unfold exprB | unfold negB | unfold appB | unfold atomB | unfold enclB | unfold contB | unfold letB | unfold matchB | unfold ruleB | unfold declB | unfold namedB | unfold unpkB | unfold operB
  all_goals repeat' (first | exact (lo_fn hF _).mono (by omega) | exact (lo_if hF _).mono (by omega) | assumption | exact Lo.ok _ (by omega) | exact Lo.bad (by omega) | (with_reducible refine Lo.ite ?_ ?_) | exact (lo_take _ _ _).mono (by omega) | exact (lo_need _ _ _).mono (by omega) | exact (lo_mpath _ _).mono (by omega) | exact (lo_tpath _ _).mono (by omega) | exact (lo_vpath _ _).mono (by omega) | exact (lo_sig _ _).mono (by omega) | exact (lo_namesMore _ _ _ _).mono (by omega) | exact (lo_postMore _ _ _).mono (by omega) | exact (lo_operMore hF _ _ _ _ _).mono (by omega) | exact (lo_appMore hF _ _ _).mono (by omega) | exact (lo_declMore hF _ _ _).mono (by omega) | exact (lo_sepd _ _ hF.post _).mono (by omega) | exact (lo_sepd _ _ hF.typ _).mono (by omega) | exact (lo_sepd _ _ hF.pat _).mono (by omega) | exact (lo_sepd _ _ hF.expr _).mono (by omega) | exact (lo_sepd _ _ hF.rule _).mono (by omega) | exact (hF.typ _).mono (by omega) | exact (hF.prod _).mono (by omega) | exact (hF.post _).mono (by omega) | exact (hF.simp _).mono (by omega) | exact (hF.brack _).mono (by omega) | exact (hF.pat _).mono (by omega) | exact (hF.arg _).mono (by omega) | exact (hF.comps _).mono (by omega) | exact (hF.expr _).mono (by omega) | exact (hF.neg _).mono (by omega) | exact (hF.app _).mono (by omega) | exact (hF.atom _).mono (by omega) | exact (hF.encl _).mono (by omega) | exact (hF.cont _).mono (by omega) | exact (hF.letE _).mono (by omega) | exact (hF.matchE _).mono (by omega) | exact (hF.rule _).mono (by omega) | exact (hF.decl _).mono (by omega) | exact (hF.named _).mono (by omega) | exact (hF.unpk _).mono (by omega) | exact (hF.oper _ _).mono (by omega) | (with_reducible refine Lo.next ?_ fun v j hj => ?_))
theorem Lows.deeper (hF : Lows F) : Lows (deeper l num F) := by
  obtain ⟨h0, h1, h2, h3, h4, h5, h6, h7, h8, h9, h10, h11, h12, h13, h14, h15, h16, h17, h18, h19, h20⟩ := lows_all (num := num) hF
  exact ⟨h0, h1, h2, h3, h4, h5, h6, h7, h8, h9, h10, h11, h12, h13, h14, h15, h16, h17, h18, h19, h20⟩
theorem Lows.none : Lows noFs := by
  constructor
  all_goals (intros; exact Lo.bad (by omega))
theorem lows_depth (l : List Tok) (num : Bytes → Int) : ∀ n, Lows (depthFs l num n) := by
  intro n
  induction n with
  | zero => exact Lows.none
  | succ n ih => exact ih.deeper
end
end Go.Proofs.YtjedahcpkcgpeaaGreatDoor.Pl
