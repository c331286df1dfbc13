/-
  Walks and plain mathematics, several texts in one (Yf Yg).
-/
import Derived.Test.YtkhpihacjhhklaaG18
/-
  Walks of layer 3: a tree with another one at a place, whole, where one number is left.
-/
namespace Go.Proofs.Ytkhpihacjhhklaa
open Go Go.RowKit
open Pl (Syn)
set_option linter.unusedSimpArgs false

set_option maxRecDepth 100000 in
set_option maxHeartbeats 8000000 in
theorem replaced_someB (op n : Int) (s : ByteArray) (na : Option Addr) (nn nc b off ln lc : Nat) (bop bn : Int) (bs : ByteArray) (ma : Option Addr) (mn mc : Nat) (ka : Option Addr) (kn kc ab ao : Nat) (m : Nat) (hm : m < ln) (xo xn : Int) (xs : ByteArray) (xna : Option Addr) (xnn xnc : Nat) (xla : Option Addr) (xln xlc : Nat) (w : World) (P Q : Nat → Prop) (l : List Syn) (y : Syn) (hl : l.length = ln) (hP : ∀ b, P b → b < w.heap.size) (hQ : ∀ b, Q b → b < w.heap.size) (habl : ab < w.heap.size) (hai : w.cell? ⟨ab, ao, none⟩ = some (.int .i64 (m : Int))) (hbl : b < w.heap.size)
    (e0 : w.cell? ⟨b, off + m * 5, none⟩ = some (.int .i64 xo)) (e1 : w.cell? ⟨b, off + m * 5 + 1, none⟩ = some (.int .i64 xn)) (e2 : w.cell? ⟨b, off + m * 5 + 2, none⟩ = some (.string xs)) (e3 : w.cell? ⟨b, off + m * 5 + 3, none⟩ = some (.slice xna xnn xnc)) (e4 : w.cell? ⟨b, off + m * 5 + 4, none⟩ = some (.slice xla xln xlc))
    (HI : ∀ W, Below w.heap.size w W → Calls Try.prog 46 #[.agg #[.int .i64 xo, .int .i64 xn, .string xs, .slice xna xnn xnc, .slice xla xln xlc], .slice (some ⟨ab, ao, none⟩) 0 0, .agg #[.int .i64 bop, .int .i64 bn, .string bs, .slice ma mn mc, .slice ka kn kc]] W fun e w' => (∃ v, e = .returned (.tuple #[v, .bool true]) ∧ SynV w' (fun b => P b ∨ Q b ∨ (W.heap.size ≤ b ∧ b < w'.heap.size)) y v) ∧ Below W.heap.size W w')
    (HCL : ∀ W, Below w.heap.size w W → Calls Try.prog 58 #[.slice (some ⟨b, off, none⟩) ln lc] W fun e w' => (∃ a n c, e = .returned (.slice a n c) ∧ FreshSl w' W.heap.size P (.slice a n c) l) ∧ Below W.heap.size W w') :
    Calls Try.prog 46 #[.agg #[.int .i64 op, .int .i64 n, .string s, .slice na nn nc, .slice (some ⟨b, off, none⟩) ln lc], .slice (some ⟨ab, ao, none⟩) 1 1, .agg #[.int .i64 bop, .int .i64 bn, .string bs, .slice ma mn mc, .slice ka kn kc]] w fun e w' => (∃ ga gc, e = .returned (.tuple #[.agg #[.int .i64 op, .int .i64 n, .string s, .slice na nn nc, .slice ga ln gc], .bool true]) ∧ SynSl w' (fun b => P b ∨ Q b ∨ (w.heap.size ≤ b ∧ b < w'.heap.size)) (.slice ga ln gc) (l.set m y)) ∧ Below w.heap.size w w' := by
  have hbx := boxes_new w #[.int .i64 op, .int .i64 n, .string s, .slice na nn nc, .slice (some ⟨b, off, none⟩) ln lc] #[.int .i64 bop, .int .i64 bn, .string bs, .slice ma mn mc, .slice ka kn kc]
  have hbz := blk_new ((w.alloc (.cells #[.int .i64 op, .int .i64 n, .string s, .slice na nn nc, .slice (some ⟨b, off, none⟩) ln lc] 25)).alloc (.cells #[.int .i64 bop, .int .i64 bn, .string bs, .slice ma mn mc, .slice ka kn kc] 25)) #[.int .i64 0, .int .i64 0, .string ⟨#[]⟩, .slice none 0 0, .slice none 0 0] 25
  rw [size_alloc, size_alloc] at hbz
  have HB0 := Lib.hid (show Below w.heap.size w (((w.alloc (.cells #[.int .i64 op, .int .i64 n, .string s, .slice na nn nc, .slice (some ⟨b, off, none⟩) ln lc] 25)).alloc (.cells #[.int .i64 bop, .int .i64 bn, .string bs, .slice ma mn mc, .slice ka kn kc] 25)).alloc (.cells #[.int .i64 0, .int .i64 0, .string ⟨#[]⟩, .slice none 0 0, .slice none 0 0] 25)) from (below2 w _ _).alloc (by simp; omega) _)
  have HT0 := Lib.hid (hbx.1.alloc (.cells #[.int .i64 0, .int .i64 0, .string ⟨#[]⟩, .slice none 0 0, .slice none 0 0] 25))
  have HY0 := Lib.hid (hbx.2.alloc (.cells #[.int .i64 0, .int .i64 0, .string ⟨#[]⟩, .slice none 0 0, .slice none 0 0] 25))
  have HZ0 := Lib.hid hbz
  have HSZ0 := Lib.hid (show (((w.alloc (.cells #[.int .i64 op, .int .i64 n, .string s, .slice na nn nc, .slice (some ⟨b, off, none⟩) ln lc] 25)).alloc (.cells #[.int .i64 bop, .int .i64 bn, .string bs, .slice ma mn mc, .slice ka kn kc] 25)).alloc (.cells #[.int .i64 0, .int .i64 0, .string ⟨#[]⟩, .slice none 0 0, .slice none 0 0] 25)).heap.size = w.heap.size + 3 by simp)
  have a0 := (HB0.out.cell (p := ⟨ab, ao, none⟩) habl).trans hai
  obtain ⟨x0, x1, x2, x3, x4⟩ := box_cells HT0.out
  obtain ⟨y0, y1, y2, y3, y4⟩ := box_cells HY0.out
  obtain ⟨z0, z1, z2, z3, z4⟩ := box_cells HZ0.out
  have t0 := HZ0.out.thaw 0
  have t1 := HZ0.out.thaw 1
  have t2 := HZ0.out.thaw 2
  have t3 := HZ0.out.thaw 3
  have t4 := HZ0.out.thaw 4
  clear hbx hbz hai habl
  have q1 : decide ((m : Int) < 0) = false := decide_eq_false (by omega)
  have q2 : decide ((m : Int) ≥ (ln : Int)) = false := decide_eq_false (by omega)
  have q3 : decide ((ln : Int) ≤ (m : Int)) = false := decide_eq_false (by omega)
  have HD0 := Lib.hid (fun p (hp : p < w.heap.size) o => (HB0.out.drew.cell (p := ⟨p, o, none⟩) hp))
  have HHI := Lib.hid HI
  have HHC := Lib.hid HCL
  have HP := Lib.hid hP
  have HQ := Lib.hid hQ
  have HLN := Lib.hid hl
  have ee0 := (HB0.out.cell (p := ⟨b, off + m * 5, none⟩) hbl).trans e0
  have ee1 := (HB0.out.cell (p := ⟨b, off + m * 5 + 1, none⟩) hbl).trans e1
  have ee2 := (HB0.out.cell (p := ⟨b, off + m * 5 + 2, none⟩) hbl).trans e2
  have ee3 := (HB0.out.cell (p := ⟨b, off + m * 5 + 3, none⟩) hbl).trans e3
  have ee4 := (HB0.out.cell (p := ⟨b, off + m * 5 + 4, none⟩) hbl).trans e4
  have HE5 := Lib.hid (And.intro e0 (And.intro e1 (And.intro e2 (And.intro e3 e4))))
  have HBL := Lib.hid hbl
  clear e0 e1 e2 e3 e4 hbl HI HCL hP hQ hl
  go_enter Try.func46, Try.ntmps46
  go_wp2
  generalize hw0 : ((w.alloc (.cells #[.int .i64 op, .int .i64 n, .string s, .slice na nn nc, .slice (some ⟨b, off, none⟩) ln lc] 25)).alloc (.cells #[.int .i64 bop, .int .i64 bn, .string bs, .slice ma mn mc, .slice ka kn kc] 25)).alloc (.cells #[.int .i64 0, .int .i64 0, .string ⟨#[]⟩, .slice none 0 0, .slice none 0 0] 25) = w0 at HB0 HT0 HY0 HZ0 HSZ0 HD0 HHI a0 x0 x1 x2 x3 x4 y0 y1 y2 y3 y4 z0 z1 z2 z3 z4 t0 t1 t2 t3 t4 ee0 ee1 ee2 ee3 ee4 ⊢
  clear hw0
  have HBA := Lib.hid HB0.out.drew
  have HBB := Lib.hid (show Below w.heap.size w (w0.alloc (.cells #[.int .i64 0, .int .i64 0, .string ⟨#[]⟩, .slice none 0 0, .slice none 0 0] 25)).drew from (HB0.out.alloc HB0.out.size _).drew)
  have HPB := Lib.hid (show Blk (w0.alloc (.cells #[.int .i64 0, .int .i64 0, .string ⟨#[]⟩, .slice none 0 0, .slice none 0 0] 25)).drew w0.heap.size 25 #[.int .i64 0, .int .i64 0, .string ⟨#[]⟩, .slice none 0 0, .slice none 0 0] from blk_new w0 _ _)
  have HYB := Lib.hid (show Blk (w0.alloc (.cells #[.int .i64 0, .int .i64 0, .string ⟨#[]⟩, .slice none 0 0, .slice none 0 0] 25)).drew (w.heap.size + 1) 25 #[.int .i64 bop, .int .i64 bn, .string bs, .slice ma mn mc, .slice ka kn kc] from HY0.out.alloc _)
  have HTB := Lib.hid (show Blk (w0.alloc (.cells #[.int .i64 0, .int .i64 0, .string ⟨#[]⟩, .slice none 0 0, .slice none 0 0] 25)).drew w.heap.size 25 #[.int .i64 op, .int .i64 n, .string s, .slice na nn nc, .slice (some ⟨b, off, none⟩) ln lc] from HT0.out.alloc _)
  obtain ⟨by0, by1, by2, by3, by4⟩ := box_cells HYB.out
  obtain ⟨bt0, bt1, bt2, bt3, bt4⟩ := box_cells HTB.out
  have be0 := (HBB.out.cell (p := ⟨b, off + m * 5, none⟩) HBL.out).trans HE5.out.1
  have be1 := (HBB.out.cell (p := ⟨b, off + m * 5 + 1, none⟩) HBL.out).trans HE5.out.2.1
  have be2 := (HBB.out.cell (p := ⟨b, off + m * 5 + 2, none⟩) HBL.out).trans HE5.out.2.2.1
  have be3 := (HBB.out.cell (p := ⟨b, off + m * 5 + 3, none⟩) HBL.out).trans HE5.out.2.2.2.1
  have be4 := (HBB.out.cell (p := ⟨b, off + m * 5 + 4, none⟩) HBL.out).trans HE5.out.2.2.2.2
  go_region_law (first
    | (go_simp; go_at_call 46; with_reducible refine (HHI.out _ HBA.out).mono ?_; rintro e w5 ⟨⟨v', rfl, hv'⟩, hb5⟩; have HW5 := Lib.hid (belowStep hb5 ((Below.refl w0.heap.size w0).drew)); have HB5 := Lib.hid (belowStep hb5 HBA.out); obtain ⟨qna, qnn, qnc, qla, qln, qlc, rfl⟩ := hv'.form; have HV5 := Lib.hid hv'; have HZ5 := Lib.hid (Blk.of_eq HZ0.out (HW5.out.block _ (Blk.lt HZ0.out))); have HT5 := Lib.hid (Blk.of_eq HT0.out (HW5.out.block _ (Blk.lt HT0.out))); clear hb5 hv')
    | (go_simp; go_at_call 46; with_reducible refine (HHI.out _ HBB.out).mono ?_; rintro e w5 ⟨⟨v', rfl, hv'⟩, hb5⟩; have HW5 := Lib.hid (belowStep hb5 (((Below.refl w0.heap.size w0).alloc (Nat.le_refl _) _).drew)); have hpb := Blk.of_eq HPB.out (hb5.block _ (Blk.lt HPB.out)); have HB5 := Lib.hid (belowStep hb5 HBB.out); obtain ⟨p0, p1, p2, p3, p4⟩ := box_cells hpb; have r0 := hpb.thaw 0; have r1 := hpb.thaw 1; have r2 := hpb.thaw 2; have r3 := hpb.thaw 3; have r4 := hpb.thaw 4; obtain ⟨qna, qnn, qnc, qla, qln, qlc, rfl⟩ := hv'.form; have HV5 := Lib.hid hv'; have HZ5 := Lib.hid (Blk.of_eq HZ0.out (HW5.out.block _ (Blk.lt HZ0.out))); have HT5 := Lib.hid (Blk.of_eq HT0.out (HW5.out.block _ (Blk.lt HT0.out))); clear hb5 hv'))
  all_goals
    first
      | (have HF := Lib.hid (show Fin w w5 ((((((w5.setCell ⟨w0.heap.size, 0, none⟩ (.int .i64 y.op)).setCell ⟨w0.heap.size, 1, none⟩ (.int .i64 y.n)).setCell ⟨w0.heap.size, 2, none⟩ (.string y.s)).setCell ⟨w0.heap.size, 3, none⟩ (.slice qna qnn qnc)).setCell ⟨w0.heap.size, 4, none⟩ (.slice qla qln qlc))) w0.heap.size #[.int .i64 y.op, .int .i64 y.n, .string y.s, .slice qna qnn qnc, .slice qla qln qlc] from fin_store (w := w) (w5 := w5) HB5.out hpb (by have := HSZ0.out; omega) (.int .i64 y.op) (.int .i64 y.n) (.string y.s) (.slice qna qnn qnc) (.slice qla qln qlc)); have hpp : w.heap.size + 2 < w0.heap.size := (by have := HSZ0.out; omega); have HS5 := Lib.hid (fun b (hb : (w0.alloc (.cells #[.int .i64 0, .int .i64 0, .string ⟨#[]⟩, .slice none 0 0, .slice none 0 0] 25)).drew.heap.size ≤ b ∧ b < w5.heap.size) => show w0.heap.size < b ∧ b < w5.heap.size ∧ b ≠ w0.heap.size from by have h1 : (w0.alloc (.cells #[.int .i64 0, .int .i64 0, .string ⟨#[]⟩, .slice none 0 0, .slice none 0 0] 25)).drew.heap.size = w0.heap.size + 1 := size_alloc w0 _; omega); generalize hwf : (((((w5.setCell ⟨w0.heap.size, 0, none⟩ (.int .i64 y.op)).setCell ⟨w0.heap.size, 1, none⟩ (.int .i64 y.n)).setCell ⟨w0.heap.size, 2, none⟩ (.string y.s)).setCell ⟨w0.heap.size, 3, none⟩ (.slice qna qnn qnc)).setCell ⟨w0.heap.size, 4, none⟩ (.slice qla qln qlc)) = wF at HF ⊢; generalize hpw : w0.heap.size = pb at HF hpp ⊢)
      | (have HF := Lib.hid (fin_alloc (w := w) (w5 := w5) HB5.out (by have := HW5.out.size; have := HSZ0.out; omega) #[.int .i64 y.op, .int .i64 y.n, .string y.s, .slice qna qnn qnc, .slice qla qln qlc]); have hpp : w.heap.size + 2 < w5.heap.size := (by have := HW5.out.size; have := HSZ0.out; omega); have HS5 := Lib.hid (fun b (hb : w0.drew.heap.size ≤ b ∧ b < w5.heap.size) => show w0.heap.size ≤ b ∧ b < w5.heap.size ∧ b ≠ w5.heap.size from by have h1 : w0.drew.heap.size = w0.heap.size := rfl; omega); generalize hwf : w5.alloc (.cells #[.int .i64 y.op, .int .i64 y.n, .string y.s, .slice qna qnn qnc, .slice qla qln qlc] 25) = wF at HF ⊢; generalize hpw : w5.heap.size = pb at HF hpp ⊢)
    have HVF := Lib.hid ((HV5.out.keep (fun b hb => HF.out.same b (by have h1 := HP.out b; have h2 := HQ.out b; have h3 := HSZ0.out; have h4 := HW5.out.size; rcases hb with hb | hb | hb; have := h1 hb; omega; have := h2 hb; omega; have hb1 := HS5.out b hb; omega) (by have h1 := HP.out b; have h2 := HQ.out b; have h3 := HB5.out.size; rcases hb with hb | hb | hb; have := h1 hb; omega; have := h2 hb; omega; exact hb.2))).mono (Q := fun b => P b ∨ Q b ∨ (w.heap.size + 3 ≤ b ∧ b < wF.heap.size ∧ b ≠ pb)) (fun b hb => by rcases hb with hb | hb | hb; exact .inl hb; exact .inr (.inl hb); exact .inr (.inr (by have hb1 := HS5.out b hb; have h3 := HSZ0.out; have h5 := HF.out.size; omega))))
    clear a0 x0 x1 x2 x3 x4 y0 y1 y2 y3 y4 z0 z1 z2 z3 z4 t0 t1 t2 t3 t4 ee0 ee1 ee2 ee3 ee4 by0 by1 by2 by3 by4 bt0 bt1 bt2 bt3 bt4 be0 be1 be2 be3 be4 q1 q2 q3
    try clear p0 p1 p2 p3 p4 r0 r1 r2 r3 r4 hpb
    have HTF := Lib.hid (Blk.of_eq HT5.out (HF.out.same _ (by omega) (Blk.lt HT5.out)))
    have HZF := Lib.hid (Blk.of_eq HZ5.out (HF.out.same _ (by omega) (Blk.lt HZ5.out)))
    clear hwf hpw
    obtain ⟨tb0, tb1, tb2, tb3, tb4⟩ := box_cells HTF.out
    go_wp2_with fail
    refine (HHC.out _ HF.out.below).mono ?_
    rintro e w6 ⟨⟨ga, gn, gc, rfl, hfr⟩, hb6⟩
    have HFR := Lib.hid hfr
    obtain ⟨ga', gc', hge, hfl, hfm, hfn, hfx⟩ := hfr
    injection hge with hg1 hg2 hg3
    subst hg1 hg3
    rw [HLN.out] at hg2 hfl
    subst hg2
    rcases hfx with h0 | ⟨g, cur, rfl, hgb, hblk, hcs, hkids⟩
    · have := HLN.out; rw [h0] at this; simp at this; omega
    have HB6 := Lib.hid (belowStep hb6 HF.out.below)
    have HT6 := Lib.hid (Blk.of_eq HTF.out (hb6.block _ (Blk.lt HTF.out)))
    have HZ6 := Lib.hid (Blk.of_eq HZF.out (hb6.block _ (Blk.lt HZF.out)))
    have HP6 := Lib.hid (Blk.of_eq HF.out.part (hb6.block _ (Blk.lt HF.out.part)))
    have HV6 := Lib.hid (HVF.out.keep (Same.of_below hb6 (fun b hb => by have h1 := HP.out b; have h2 := HQ.out b; have h3 := HF.out.below.size; rcases hb with hb | hb | hb; have := h1 hb; omega; have := h2 hb; omega; exact hb.2.1)))
    have HG6 := Lib.hid hblk
    have HGB := Lib.hid hgb
    have HPL := Lib.hid (Blk.lt HF.out.part)
    have HZL := Lib.hid (Blk.lt HZF.out)
    have HSF := Lib.hid hb6.size
    have hgn : w.heap.size + 3 ≤ g := by have := HZL.out; omega
    have hgp : g ≠ pb := by have := HPL.out; omega
    have hcl : m * 5 + 4 < cur.size := by rw [HLN.out] at hcs; omega
    clear tb0 tb1 tb2 tb3 tb4 hkids hb6
    obtain ⟨tb0, tb1, tb2, tb3, tb4⟩ := box_cells HT6.out
    obtain ⟨pf0, pf1, pf2, pf3, pf4⟩ := box_cells HP6.out
    obtain ⟨rz0, rz1, rz2, rz3, rz4⟩ := box_cells HZ6.out
    have s4 := HT6.out.thaw 4
    have g0 := HG6.out.cell (m * 5) _ (Array.getElem?_eq_getElem (by omega))
    have g1 := HG6.out.cell (m * 5 + 1) _ (Array.getElem?_eq_getElem (by omega))
    have g2 := HG6.out.cell (m * 5 + 2) _ (Array.getElem?_eq_getElem (by omega))
    have g3 := HG6.out.cell (m * 5 + 3) _ (Array.getElem?_eq_getElem (by omega))
    have g4 := HG6.out.cell (m * 5 + 4) _ (Array.getElem?_eq_getElem (by omega))
    have u0 := HG6.out.thaw (m * 5)
    have u1 := HG6.out.thaw (m * 5 + 1)
    have u2 := HG6.out.thaw (m * 5 + 2)
    have u3 := HG6.out.thaw (m * 5 + 3)
    have u4 := HG6.out.thaw (m * 5 + 4)
    have v0 := HZ6.out.thaw 0
    have v1 := HZ6.out.thaw 1
    have v2 := HZ6.out.thaw 2
    have v3 := HZ6.out.thaw 3
    have v4 := HZ6.out.thaw 4
    have n1 : ¬ g = w.heap.size := by omega
    have n2 : ¬ w.heap.size = g := by omega
    have n3 : ¬ pb = w.heap.size := by omega
    have n4 : ¬ w.heap.size = pb := by omega
    have n5 : ¬ g = pb := hgp
    have n6 : ¬ pb = g := fun e => hgp e.symm
    have n7 : ¬ w.heap.size + 1 + 1 = g := by omega
    have n8 : ¬ g = w.heap.size + 1 + 1 := by omega
    have HPB2 := Lib.hid hpp
    have HGN := Lib.hid hgn
    have HCL := Lib.hid hcl
    generalize cur[m * 5] = cc0 at *
    generalize cur[m * 5 + 1] = cc1 at *
    generalize cur[m * 5 + 2] = cc2 at *
    generalize cur[m * 5 + 3] = cc3 at *
    generalize cur[m * 5 + 4] = cc4 at *
    clear hgn hgp hcl hpp hgb hcs hblk hfl hfm hfn
    go_wp2
    have HEND := rep_end HP.out HQ.out HB6.out HFR.out (by have := HZL.out; have := HPB2.out; have := HPL.out; omega) (by rw [HLN.out]; exact hm) HV6.out (Blk.lt HG6.out) HGB.out HZ6.out (.slice (some ⟨g, 0, none⟩) gn gc) (.int .i64 op) (.int .i64 n) (.string s) (.slice na nn nc) (.slice (some ⟨g, 0, none⟩) gn gc)
    unfold store5 at HEND
    simp only [Nat.zero_add] at HEND
    obtain ⟨e1, e2, e3⟩ := HEND
    obtain ⟨k0, k1, k2, k3, k4⟩ := box_cells e3
    refine bodyPost_ret (v := .tuple #[.agg #[.int .i64 op, .int .i64 n, .string s, .slice na nn nc, .slice (some ⟨g, 0, none⟩) gn gc], .bool true]) (by simp [results, Try.results46, go_sem, k0, k1, k2, k3, k4]) rfl ?_
    exact ⟨⟨_, _, rfl, e1⟩, e2⟩
end Go.Proofs.Ytkhpihacjhhklaa

/-
  Walks of layer 3: replaced, at every place.
-/
namespace Go.Proofs.Ytkhpihacjhhklaa
open Go Go.RowKit
open Pl (Syn)
set_option linter.unusedSimpArgs false

namespace Pl
theorem put_in (r : List Int) (t by' : Syn) (m : Nat) (h : m < t.l.length) : put ((m : Int) :: r) t by' = (put r t.l[m] by').map (fun x => { t with l := t.l.set m x }) := by
  rw [put, dif_pos ⟨by omega, by simpa using h⟩]
  simp
theorem put_out (r : List Int) (t by' : Syn) (i : Int) (h : ¬ (0 ≤ i ∧ i.toNat < t.l.length)) : put (i :: r) t by' = none := by
  rw [put, dif_neg h]
end Pl
set_option maxRecDepth 100000 in
set_option maxHeartbeats 4000000 in
theorem replaced_nil (P Q : Nat → Prop) (t by' : Syn) (w : World) (tv av bv : Value) (hQ : ∀ b, Q b → b < w.heap.size) (ht : SynV w P t tv) (hb : SynV w Q by' bv) (ha : AtSl w av []) :
    Calls Try.prog 46 #[tv, av, bv] w (RepPost P Q (some by') w) := by
  have HBB := Lib.hid hb
  obtain ⟨na, nn, nc, la, ln, lc, rfl⟩ := ht.form
  obtain ⟨ma, mn, mc, ka, kn, kc, rfl⟩ := hb.form
  obtain ⟨aa, ac, rfl, -, -, -⟩ := ha
  have h1 := below2 w (.cells #[.int .i64 t.op, .int .i64 t.n, .string t.s, .slice na nn nc, .slice la ln lc] 25) (.cells #[.int .i64 by'.op, .int .i64 by'.n, .string by'.s, .slice ma mn mc, .slice ka kn kc] 25)
  have HQ := Lib.hid hQ
  clear ht hb hQ
  go_enter Try.func46, Try.ntmps46
  go_wp2_with fail
  have bx3 := blk_new ((w.alloc (.cells #[.int .i64 t.op, .int .i64 t.n, .string t.s, .slice na nn nc, .slice la ln lc] 25)).alloc (.cells #[.int .i64 by'.op, .int .i64 by'.n, .string by'.s, .slice ma mn mc, .slice ka kn kc] 25)) #[.int .i64 by'.op, .int .i64 by'.n, .string by'.s, .slice ma mn mc, .slice ka kn kc] 25
  rw [size_alloc, size_alloc] at bx3
  obtain ⟨z0, z1, z2, z3, z4⟩ := box_cells bx3
  have hbf : Below w.heap.size w (((w.alloc (.cells #[.int .i64 t.op, .int .i64 t.n, .string t.s, .slice na nn nc, .slice la ln lc] 25)).alloc (.cells #[.int .i64 by'.op, .int .i64 by'.n, .string by'.s, .slice ma mn mc, .slice ka kn kc] 25)).alloc (.cells #[.int .i64 by'.op, .int .i64 by'.n, .string by'.s, .slice ma mn mc, .slice ka kn kc] 25)) := h1.alloc (by simp; omega) _
  refine bodyPost_ret (v := .tuple #[.agg #[.int .i64 by'.op, .int .i64 by'.n, .string by'.s, .slice ma mn mc, .slice ka kn kc], .bool true]) (by simp [results, Try.results46, go_sem, z0, z1, z2, z3, z4]) rfl ?_
  exact ⟨⟨_, rfl, (HBB.out.keep (Same.of_below hbf HQ.out)).mono (fun b hb => .inr (.inl hb))⟩, hbf⟩
theorem replaced_any (P Q : Nat → Prop) (by' : Syn) (at' : List Int) : ∀ (t : Syn) (w : World) (tv av bv : Value), (∀ b, P b → b < w.heap.size) → (∀ b, Q b → b < w.heap.size) → SynV w P t tv → SynV w Q by' bv → AtSl w av at' → t.big ≤ 268435456 →
    Calls Try.prog 46 #[tv, av, bv] w (RepPost P Q (Pl.put at' t by') w) := by
  induction at' with
  | nil =>
    intro t w tv av bv hP hQ ht hb ha hbig
    exact replaced_nil P Q t by' w tv av bv hQ ht hb ha
  | cons i r ih =>
    intro t w tv av bv hP hQ ht hb ha hbig
    have hlb := Pl.len_big t
    have ht0 := ht
    rw [synV_iff] at ht
    obtain ⟨hs, nv, lv, rfl, hn, hl⟩ := ht
    obtain ⟨na, nc, rfl, hnm⟩ := hn.form
    obtain ⟨la, lc, rfl, hlmm⟩ := hl.form
    have hb0 := hb
    obtain ⟨ma, mn, mc, ka, kn, kc, rfl⟩ := hb.form
    obtain ⟨ab, ao, ac, rfl, hac, hacm, habl, hai, har⟩ := ha.head
    unfold maxLen at hacm
    by_cases hin : 0 ≤ i ∧ i.toNat < t.l.length
    · obtain ⟨m, rfl⟩ : ∃ m : Nat, i = m := ⟨i.toNat, by omega⟩
      have hm : m < t.l.length := by have := hin.2; simpa using this
      rw [Pl.put_in r t by' m hm]
      rcases SynSl.cases hl with ⟨hk0, -⟩ | ⟨b, off, n', c', hv, hnl, hn0, hnc, hcm, hPb, hka⟩
      · rw [hk0] at hm; simp at hm
      injection hv with hv1 hv2 hv3
      subst hv1 hv3
      obtain ⟨xo, xn, xs, xna, xnn, xnc, xla, xln, xlc, -, e0, e1, e2, e3, e4, hxs⟩ := hka.part m hm
      have hbx : t.l[m].big ≤ 268435456 := by have := Pl.mem_big (List.getElem_mem hm); have := Pl.big_eq t; omega
      have HCL : ∀ W, Below w.heap.size w W → Calls Try.prog 58 #[.slice (some ⟨b, off, none⟩) t.l.length lc] W fun e w' => (∃ a n c, e = .returned (.slice a n c) ∧ FreshSl w' W.heap.size P (.slice a n c) t.l) ∧ Below W.heap.size W w' := fun W hW => cloneSyn_any P _ t.l W (fun b hb => Nat.lt_of_lt_of_le (hP b hb) hW.size) (hl.keep (Same.of_below hW hP)) (by omega)
      have fin : ∀ (y : Syn) (e : Ending) (w' : World), ((∃ ga gc, e = .returned (.tuple #[.agg #[.int .i64 t.op, .int .i64 t.n, .string t.s, .slice na t.names.length nc, .slice ga t.l.length gc], .bool true]) ∧ SynSl w' (fun b => P b ∨ Q b ∨ (w.heap.size ≤ b ∧ b < w'.heap.size)) (.slice ga t.l.length gc) (t.l.set m y)) ∧ Below w.heap.size w w') → RepPost P Q (some { t with l := t.l.set m y }) w e w' := by
        rintro y e w' ⟨⟨ga, gc, rfl, hsl⟩, hbw⟩
        refine ⟨⟨_, rfl, ?_⟩, hbw⟩
        rw [synV_iff]
        exact ⟨hs, _, _, rfl, (hn.keep (Same.of_below hbw hP)).mono (fun b hb => .inl hb), hsl⟩
      by_cases hac1 : ac = 1
      · obtain rfl : r = [] := List.eq_nil_of_length_eq_zero (by omega)
        subst hac1
        have HI := fun W (hW : Below w.heap.size w W) => ih t.l[m] W _ (.slice (some ⟨ab, ao, none⟩) 0 0) _ (fun b hb => Nat.lt_of_lt_of_le (hP b hb) hW.size) (fun b hb => Nat.lt_of_lt_of_le (hQ b hb) hW.size) (hxs.keep (Same.of_below hW hP)) (hb0.keep (Same.of_below hW hQ)) ⟨_, 0, rfl, Nat.le_refl _, Nat.zero_le _, .inl rfl⟩ hbx
        cases hp : Pl.put [] t.l[m] by' with
        | none => rw [Pl.put] at hp; cases hp
        | some y =>
          rw [hp] at HI
          exact (replaced_someB t.op t.n t.s na t.names.length nc b off t.l.length lc by'.op by'.n by'.s ma mn mc ka kn kc ab ao m hm xo xn xs xna xnn xnc xla xln xlc w P Q t.l y rfl hP hQ habl hai (hP b hPb) e0 e1 e2 e3 e4 HI HCL).mono (fun e w' h => fin y e w' h)
      · have HI := fun W (hW : Below w.heap.size w W) => ih t.l[m] W _ _ _ (fun b hb => Nat.lt_of_lt_of_le (hP b hb) hW.size) (fun b hb => Nat.lt_of_lt_of_le (hQ b hb) hW.size) (hxs.keep (Same.of_below hW hP)) (hb0.keep (Same.of_below hW hQ)) (har.below hW) hbx
        cases hp : Pl.put r t.l[m] by' with
        | none =>
          rw [hp] at HI
          exact replaced_none t.op t.n t.s na t.names.length nc b off t.l.length lc by'.op by'.n by'.s ma mn mc ka kn kc ab ao r.length ac m hm xo xn xs xna xnn xnc xla xln xlc w habl hai hac1 (by omega) (hP b hPb) e0 e1 e2 e3 e4 HI
        | some y =>
          rw [hp] at HI
          exact (replaced_some t.op t.n t.s na t.names.length nc b off t.l.length lc by'.op by'.n by'.s ma mn mc ka kn kc ab ao r.length ac m hm xo xn xs xna xnn xnc xla xln xlc w P Q t.l y rfl hP hQ habl hai hac1 (by omega) (hP b hPb) e0 e1 e2 e3 e4 HI HCL).mono (fun e w' h => fin y e w' h)
    · rw [Pl.put_out r t by' i hin]
      exact replaced_out t.op t.n t.s na t.names.length nc la t.l.length lc by'.op by'.n by'.s ma mn mc ka kn kc ab ao r.length ac i w habl hai (by omega) (by omega)
end Go.Proofs.Ytkhpihacjhhklaa
