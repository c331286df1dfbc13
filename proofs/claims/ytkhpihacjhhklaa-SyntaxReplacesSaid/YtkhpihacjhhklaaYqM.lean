/-
  Walks of layer 3: the reference's put, where the place is in range and ends a slice of one.
-/
import Derived.Test.YtkhpihacjhhklaaG21
import Derived.Deep.QuietTactic
namespace Go.Proofs.Ytkhpihacjhhklaa
open Go Go.RowKit
open Pl (Syn)
set_option linter.unusedSimpArgs false

set_option maxRecDepth 100000 in
set_option maxHeartbeats 8000000 in
theorem rput_inB (op n : Int) (s : ByteArray) (na : Option Addr) (nn nc b off ln lc : Nat) (bop bn : Int) (bs : ByteArray) (ma : Option Addr) (mn mc : Nat) (ka : Option Addr) (kn kc ab ao : Nat) (m : Nat) (hm : m < ln) (w : World) (P Q : Nat → Prop) (l : List Syn) (r : List Int) (x : Option Syn) (hll : l.length = ln) (hrl : r = []) (hP : ∀ b, P b → b < w.heap.size) (hQ : ∀ b, Q b → b < w.heap.size) (hlc : lc ≤ maxLen) (hnl : ln ≤ lc) (hln : ln ≤ 268435456)
    (hat : AtSl w (.slice (some ⟨ab, ao, none⟩) 1 1) ((m : Int) :: r)) (hPb : P b) (hk : KidsAt w P l b off)
    (HI : ∀ W av', Below w.heap.size w W → AtSl W av' r → ∀ pv, SynV W P (l.getD m Pl.none0) pv → Calls Try.prog 49 #[pv, av', .agg #[.int .i64 bop, .int .i64 bn, .string bs, .slice ma mn mc, .slice ka kn kc]] W (RepPost P Q x W)) :
    Calls Try.prog 49 #[.agg #[.int .i64 op, .int .i64 n, .string s, .slice na nn nc, .slice (some ⟨b, off, none⟩) ln lc], .slice (some ⟨ab, ao, none⟩) 1 1, .agg #[.int .i64 bop, .int .i64 bn, .string bs, .slice ma mn mc, .slice ka kn kc]] w (PutPost P Q op n s na nn nc ln l m x w) := by
  obtain ⟨i25, hi0, hz0, hz1, hz2⟩ := info_parts infoSyn
  unfold maxLen at hlc
  have hbx := boxes_new w #[.int .i64 op, .int .i64 n, .string s, .slice na nn nc, .slice (some ⟨b, off, none⟩) ln lc] #[.int .i64 bop, .int .i64 bn, .string bs, .slice ma mn mc, .slice ka kn kc]
  have hbz := blk_new ((w.alloc (.cells #[.int .i64 op, .int .i64 n, .string s, .slice na nn nc, .slice (some ⟨b, off, none⟩) ln lc] 25)).alloc (.cells #[.int .i64 bop, .int .i64 bn, .string bs, .slice ma mn mc, .slice ka kn kc] 25)) #[.int .i64 0, .int .i64 0, .string ⟨#[]⟩, .slice none 0 0, .slice none 0 0] 25
  rw [size_alloc, size_alloc] at hbz
  have HB0 := Lib.hid (show Below w.heap.size w (((w.alloc (.cells #[.int .i64 op, .int .i64 n, .string s, .slice na nn nc, .slice (some ⟨b, off, none⟩) ln lc] 25)).alloc (.cells #[.int .i64 bop, .int .i64 bn, .string bs, .slice ma mn mc, .slice ka kn kc] 25)).alloc (.cells #[.int .i64 0, .int .i64 0, .string ⟨#[]⟩, .slice none 0 0, .slice none 0 0] 25)) from (below2 w _ _).alloc (by simp; omega) _)
  have HT0 := Lib.hid (hbx.1.alloc (.cells #[.int .i64 0, .int .i64 0, .string ⟨#[]⟩, .slice none 0 0, .slice none 0 0] 25))
  have HY0 := Lib.hid (hbx.2.alloc (.cells #[.int .i64 0, .int .i64 0, .string ⟨#[]⟩, .slice none 0 0, .slice none 0 0] 25))
  have HZ0 := Lib.hid hbz
  have HSZ0 := Lib.hid (show (((w.alloc (.cells #[.int .i64 op, .int .i64 n, .string s, .slice na nn nc, .slice (some ⟨b, off, none⟩) ln lc] 25)).alloc (.cells #[.int .i64 bop, .int .i64 bn, .string bs, .slice ma mn mc, .slice ka kn kc] 25)).alloc (.cells #[.int .i64 0, .int .i64 0, .string ⟨#[]⟩, .slice none 0 0, .slice none 0 0] 25)).heap.size = w.heap.size + 3 by simp)
  obtain ⟨b', off', c', he, -, -, habl, hai, har⟩ := hat.head
  injection he with he1 he2 he3
  injection he1 with he1
  injection he1 with he1 he4
  subst he1 he4 he3
  clear he2
  subst hrl
  have HAR := Lib.hid (show AtSl w (.slice (some ⟨ab, ao, none⟩) 0 0) [] from ⟨_, 0, rfl, Nat.le_refl _, Nat.zero_le _, .inl rfl⟩)
  have a0 := (HB0.out.cell (p := ⟨ab, ao, none⟩) habl).trans hai
  obtain ⟨x0, x1, x2, x3, x4⟩ := box_cells HT0.out
  have HAI := Lib.hid (fun W (hW : Below w.heap.size w W) => (hW.cell (p := ⟨ab, ao, none⟩) habl).trans hai)
  have HK := Lib.hid hk
  have HHI := Lib.hid HI
  have HP := Lib.hid hP
  have HQ := Lib.hid hQ
  have HPB := Lib.hid hPb
  have HLL := Lib.hid hll
  have q1 : decide ((m : Int) < 0) = false := decide_eq_false (by omega)
  have q2 : decide ((m : Int) ≥ (ln : Int)) = false := decide_eq_false (by omega)
  have q3 : decide ((ln : Int) ≤ (m : Int)) = false := decide_eq_false (by omega)
  clear hbx hbz hai habl hat hk HI hP hQ hPb hll har
  go_enter Try.func49, Try.ntmps49
  go_wp2
  generalize hw0 : (((w.alloc (.cells #[.int .i64 op, .int .i64 n, .string s, .slice na nn nc, .slice (some ⟨b, off, none⟩) ln lc] 25)).alloc (.cells #[.int .i64 bop, .int .i64 bn, .string bs, .slice ma mn mc, .slice ka kn kc] 25)).alloc (.cells #[.int .i64 0, .int .i64 0, .string ⟨#[]⟩, .slice none 0 0, .slice none 0 0] 25)) = w0 at HB0 HT0 HY0 HZ0 HSZ0 a0 x0 x1 x2 x3 x4 ⊢
  clear hw0
  go_quiet (fail)
  have q5 : decide (ln ≤ m) = false := decide_eq_false (by omega)
  have HBD := Lib.hid (below_drewN HB0.out nq)
  have HTD := Lib.hid (show Blk (w0.drewN nq) w.heap.size 25 #[.int .i64 op, .int .i64 n, .string s, .slice na nn nc, .slice (some ⟨b, off, none⟩) ln lc] from HT0.out)
  have HYD := Lib.hid (show Blk (w0.drewN nq) (w.heap.size + 1) 25 #[.int .i64 bop, .int .i64 bn, .string bs, .slice ma mn mc, .slice ka kn kc] from HY0.out)
  have HZD := Lib.hid (show Blk (w0.drewN nq) (w.heap.size + 1 + 1) 25 #[.int .i64 0, .int .i64 0, .string ⟨#[]⟩, .slice none 0 0, .slice none 0 0] from HZ0.out)
  have hsz : (w0.drewN nq).heap.size = w.heap.size + 1 + 1 + 1 := HSZ0.out
  clear a0 x0 x1 x2 x3 x4 HT0 HY0 HZ0 HB0 HSZ0
  generalize w0.drewN nq = wd at HBD HTD HYD HZD hsz ⊢
  obtain ⟨x0, x1, x2, x3, x4⟩ := box_cells HTD.out
  have ho := blk_new wd #[.int .i64 op, .int .i64 n, .string s, .slice na nn nc, .slice none 0 0] 25
  rw [hsz] at ho
  have HR0 := Lib.hid (show PutI w P Q #[.int .i64 op, .int .i64 n, .string s, .slice na nn nc, .slice (some ⟨b, off, none⟩) ln lc] #[.int .i64 bop, .int .i64 bn, .string bs, .slice ma mn mc, .slice ka kn kc] #[.int .i64 0, .int .i64 0, .string ⟨#[]⟩, .slice none 0 0, .slice none 0 0] (.int .i64 op) (.int .i64 n) (.string s) (.slice na nn nc) (wd.alloc (.cells #[.int .i64 op, .int .i64 n, .string s, .slice na nn nc, .slice none 0 0] 25)) (.slice none 0 0) ((l.set m (x.getD Pl.none0)).take 0) from
    ⟨HBD.out.alloc HBD.out.size _, HTD.out.alloc _, HYD.out.alloc _, HZD.out.alloc _, ho, [], fun _ => False, by rw [List.take_zero]; exact World.ownsRow_nil _ _ _ _, by rw [List.take_zero]; exact NodesOf.nil _ _, fun _ h => h.elim⟩)
  clear ho
  go_wp2_with fail
  have HLT := Lib.hid (show (l.set m (x.getD Pl.none0)).length = ln from by rw [List.length_set]; exact HLL.out)
  have HTA := Lib.hid (fun k (hk : k < ln) => show (l.set m (x.getD Pl.none0)).take (k + 1) = (l.set m (x.getD Pl.none0)).take k ++ [(l.set m (x.getD Pl.none0)).getD k Pl.none0] from by
    have hk' : k < (l.set m (x.getD Pl.none0)).length := by rw [HLT.out]; exact hk
    rw [List.take_succ_eq_append_getElem hk', synGetD _ hk'])
  have HTO := Lib.hid (fun k (hk : k < ln) (hne : k ≠ m) => show (l.set m (x.getD Pl.none0)).getD k Pl.none0 = l[k]'(by rw [HLL.out]; exact hk) from by
    have hk' : k < (l.set m (x.getD Pl.none0)).length := by rw [HLT.out]; exact hk
    rw [synGetD _ hk', List.getElem_set_ne (fun e => hne e.symm)])
  have HTM := Lib.hid (show (l.set m (x.getD Pl.none0)).getD m Pl.none0 = x.getD Pl.none0 from by
    have hk' : m < (l.set m (x.getD Pl.none0)).length := by rw [HLT.out]; exact hm
    rw [synGetD _ hk', List.getElem_set_self])
  have HTL := Lib.hid (fun k (hk : k ≤ ln) => show k = ((l.set m (x.getD Pl.none0)).take k).length from by rw [List.length_take, HLT.out]; omega)
  have HTE := Lib.hid (show (l.set m (x.getD Pl.none0)).take ln = l.set m (x.getD Pl.none0) from List.take_of_length_le (by rw [HLT.out]; exact Nat.le_refl _))
  generalize htt : l.set m (x.getD Pl.none0) = tt at HR0 HLT HTA HTO HTM HTL HTE ⊢
  have HTT := Lib.hid htt
  clear htt q1 q2 q3 q5
  generalize decide (ln ≤ m) = dd
  go_loopg [9, 10, 11] (ln + 1) (fun g iv bv ov wr => ∃ k : Nat, k ≤ ln ∧ iv = .int .i64 k ∧ g = ln + 1 - k ∧ (k ≤ m ∨ x ≠ none) ∧ ∃ v, PutI w P Q #[.int .i64 op, .int .i64 n, .string s, .slice na nn nc, .slice (some ⟨b, off, none⟩) ln lc] #[.int .i64 bop, .int .i64 bn, .string bs, .slice ma mn mc, .slice ka kn kc] #[.int .i64 0, .int .i64 0, .string ⟨#[]⟩, .slice none 0 0, .slice none 0 0] (.int .i64 op) (.int .i64 n) (.string s) (.slice na nn nc) wr v (tt.take k))
  case atStart => exact ⟨0, by omega, rfl, by omega, .inl (Nat.zero_le _), _, HR0.out⟩
  case round =>
    obtain ⟨k, hk, rfl, hg, hkm, v, hpi⟩ := hrel
    have HPI := Lib.hid hpi
    have HKM := Lib.hid hkm
    have HBW := Lib.hid hpi.below
    obtain ⟨y0, y1, y2, y3, y4⟩ := box_cells hpi.box
    obtain ⟨o0, o1, o2, o3, o4⟩ := box_cells hpi.obox
    have a0 := HAI.out _ hpi.below
    clear hpi hkm x0 x1 x2 x3 x4
    by_cases hlt : k < ln
    · have hkl : k < l.length := by rw [HLL.out]; exact hlt
      obtain ⟨us, R, hrows⟩ := HPI.out.rows (HTL.out k hk)
      have HROW := Lib.hid hrows
      obtain ⟨xo, xn, xs, xna, xnn, xnc, xla, xln, xlc, -, e0, e1, e2, e3, e4, hxs⟩ := (HK.out.keep (Same.of_below HBW.out HP.out) HPB.out).part k hkl
      have hxs2 := hxs
      rw [synV_iff] at hxs2
      obtain ⟨-, nv2, lv2, hve2, -, -⟩ := hxs2
      simp only [Value.agg.injEq, Array.mk.injEq, List.cons.injEq, and_true, Value.int.injEq, Value.string.injEq, true_and] at hve2
      obtain ⟨rfl, rfl, rfl, -, -⟩ := hve2
      have HXS := Lib.hid hxs
      have hne3 : v.ownBlock ≠ some (w.heap.size + 1 + 1 + 1) := (HROW.out _ (Below.refl _ _)).ne (by omega)
      have HNE3 := Lib.hid hne3
      have HOL := Lib.hid (Blk.lt HPI.out.obox)
      have HPW := Lib.hid (fun b (hb : P b) => Nat.lt_of_lt_of_le (HP.out b hb) HBW.out.size)
      have HQW := Lib.hid (fun b (hb : Q b) => Nat.lt_of_lt_of_le (HQ.out b hb) HBW.out.size)
      have HNEP := Lib.hid (fun b (hb : b < w.heap.size) => (HROW.out _ (Below.refl _ _)).ne (show b < w.heap.size + 4 by omega))
      clear hxs hrows hne3
      by_cases hkm : k = m
      · have w1 : ((k : Int) != (m : Int)) = false := bne_eq_false_iff_eq.2 (by omega)
        have hpart : l.getD m Pl.none0 = l[k] := by rw [← hkm]; exact synGetD _ hkl
        have HBA := Lib.hid HBW.out.drew
        have HBB := Lib.hid (show Below w.heap.size w (wr.alloc (.cells #[.int .i64 0, .int .i64 0, .string ⟨#[]⟩, .slice none 0 0, .slice none 0 0] 25)).drew from (HBW.out.alloc HBW.out.size _).drew)
        have hca := HHI.out wr.drew (.slice (some ⟨ab, ao, none⟩) 0 0) HBA.out (HAR.out.below HBA.out) (.agg #[.int .i64 l[k].op, .int .i64 l[k].n, .string l[k].s, .slice xna xnn xnc, .slice xla xln xlc]) (by rw [hpart]; exact HXS.out.keep (show Same P wr wr.drew from fun _ _ => rfl))
        have hcb := HHI.out (wr.alloc (.cells #[.int .i64 0, .int .i64 0, .string ⟨#[]⟩, .slice none 0 0, .slice none 0 0] 25)).drew (.slice (some ⟨ab, ao, none⟩) 0 0) HBB.out (HAR.out.below HBB.out) (.agg #[.int .i64 l[k].op, .int .i64 l[k].n, .string l[k].s, .slice xna xnn xnc, .slice xla xln xlc]) (by rw [hpart]; exact HXS.out.keep (Same.of_below (((Below.refl wr.heap.size wr).alloc (Nat.le_refl _) _).drew) HPW.out))
        have HPB2 := Lib.hid (show Blk (wr.alloc (.cells #[.int .i64 0, .int .i64 0, .string ⟨#[]⟩, .slice none 0 0, .slice none 0 0] 25)).drew wr.heap.size 25 #[.int .i64 0, .int .i64 0, .string ⟨#[]⟩, .slice none 0 0, .slice none 0 0] from blk_new wr _ _)
        have hTb := HPI.out.box.alloc (.cells #[.int .i64 0, .int .i64 0, .string ⟨#[]⟩, .slice none 0 0, .slice none 0 0] 25)
        have hYb := HPI.out.ybox.alloc (.cells #[.int .i64 0, .int .i64 0, .string ⟨#[]⟩, .slice none 0 0, .slice none 0 0] 25)
        obtain ⟨ya0, ya1, ya2, ya3, ya4⟩ := box_cells HPI.out.ybox
        obtain ⟨tb0, tb1, tb2, tb3, tb4⟩ := box_cells hTb
        obtain ⟨yb0, yb1, yb2, yb3, yb4⟩ := box_cells hYb
        have HAL := Lib.hid (show Below wr.heap.size wr (wr.alloc (.cells #[.int .i64 0, .int .i64 0, .string ⟨#[]⟩, .slice none 0 0, .slice none 0 0] 25)) from (Below.refl _ _).alloc (Nat.le_refl _) _)
        have hbl := HPW.out b HPB.out
        have be0 := (HAL.out.cell (p := ⟨b, off + k * 5, none⟩) hbl).trans e0
        have be1 := (HAL.out.cell (p := ⟨b, off + k * 5 + 1, none⟩) hbl).trans e1
        have be2 := (HAL.out.cell (p := ⟨b, off + k * 5 + 2, none⟩) hbl).trans e2
        have be3 := (HAL.out.cell (p := ⟨b, off + k * 5 + 3, none⟩) hbl).trans e3
        have be4 := (HAL.out.cell (p := ⟨b, off + k * 5 + 4, none⟩) hbl).trans e4
        have HTK := Lib.hid ((HTA.out k hlt).trans (by rw [show tt.getD k Pl.none0 = x.getD Pl.none0 from by rw [hkm]; exact HTM.out]))
        obtain ⟨ws, hws⟩ : ∃ ws, ws = wr.heap.size := ⟨_, rfl⟩
        have HWS := Lib.hid hws
        have HKM2 := Lib.hid hkm
        clear hTb hYb hpart hkm hbl hws
        generalize hyy : l[k] = yy at *
        clear hyy
        cases x with
        | none =>
          have HCA := Lib.hid (hca.mono fun _ _ (h : RepPost P Q none _ _ _) => (show _ = Ending.returned (.tuple #[.agg #[.int .i64 0, .int .i64 0, .string ⟨#[]⟩, .slice none 0 0, .slice none 0 0], .bool false]) ∧ _ from h))
          have HCB := Lib.hid (hcb.mono fun _ _ (h : RepPost P Q none _ _ _) => (show _ = Ending.returned (.tuple #[.agg #[.int .i64 0, .int .i64 0, .string ⟨#[]⟩, .slice none 0 0, .slice none 0 0], .bool false]) ∧ _ from h))
          clear hca hcb
          go_wp2_with fail
          go_region_law (first | (go_simp; go_at_call 49; with_reducible refine HCA.out.mono ?_; rintro e w5 ⟨rfl, hb5⟩; have HW5 := Lib.hid (show Below wr.heap.size wr w5 from belowStep hb5 (Below.refl wr.heap.size wr).drew); clear hb5) | (go_simp; go_at_call 49; with_reducible refine HCB.out.mono ?_; rintro e w5 ⟨rfl, hb5⟩; have HW5 := Lib.hid (show Below wr.heap.size wr w5 from belowStep hb5 ((Below.refl wr.heap.size wr).alloc (Nat.le_refl _) _).drew); have hpb := Blk.of_eq HPB2.out (hb5.block _ (Blk.lt HPB2.out)); obtain ⟨p0, p1, p2, p3, p4⟩ := box_cells hpb; have r0 := hpb.thaw 0; have r1 := hpb.thaw 1; have r2 := hpb.thaw 2; have r3 := hpb.thaw 3; have r4 := hpb.thaw 4; clear hb5))
          all_goals
            first
              | (have HF := Lib.hid (show FinX wr w5 (((((w5.setCell ⟨wr.heap.size, 0, none⟩ (.int .i64 0)).setCell ⟨wr.heap.size, 1, none⟩ (.int .i64 0)).setCell ⟨wr.heap.size, 2, none⟩ (.string ⟨#[]⟩)).setCell ⟨wr.heap.size, 3, none⟩ (.slice none 0 0)).setCell ⟨wr.heap.size, 4, none⟩ (.slice none 0 0)) wr.heap.size #[.int .i64 0, .int .i64 0, .string ⟨#[]⟩, .slice none 0 0, .slice none 0 0] from finX_store HW5.out hpb (Nat.le_refl _) (.int .i64 0) (.int .i64 0) (.string ⟨#[]⟩) (.slice none 0 0) (.slice none 0 0)); generalize hwf : ((((w5.setCell ⟨wr.heap.size, 0, none⟩ (.int .i64 0)).setCell ⟨wr.heap.size, 1, none⟩ (.int .i64 0)).setCell ⟨wr.heap.size, 2, none⟩ (.string ⟨#[]⟩)).setCell ⟨wr.heap.size, 3, none⟩ (.slice none 0 0)).setCell ⟨wr.heap.size, 4, none⟩ (.slice none 0 0) = wF at HF ⊢; generalize hpbb : wr.heap.size = pb at HF ⊢)
              | (have HF := Lib.hid (finX_alloc (wr := wr) HW5.out #[.int .i64 0, .int .i64 0, .string ⟨#[]⟩, .slice none 0 0, .slice none 0 0]); generalize hwf : (w5.alloc (.cells #[.int .i64 0, .int .i64 0, .string ⟨#[]⟩, .slice none 0 0, .slice none 0 0] 25)) = wF at HF ⊢; generalize hpbb : w5.heap.size = pb at HF ⊢)
            clear hwf hpbb
            clear a0 y0 y1 y2 y3 y4 o0 o1 o2 o3 o4 e0 e1 e2 e3 e4 be0 be1 be2 be3 be4 ya0 ya1 ya2 ya3 ya4 tb0 tb1 tb2 tb3 tb4 yb0 yb1 yb2 yb3 yb4
            try clear p0 p1 p2 p3 p4 r0 r1 r2 r3 r4 hpb
            have HIF := Lib.hid (HPI.out.step HF.out.below)
            obtain ⟨f0, f1, f2, f3, f4⟩ := box_cells HIF.out.zbox
            have h0 := HIF.out.zbox.thaw 0
            have h1 := HIF.out.zbox.thaw 1
            have h2 := HIF.out.zbox.thaw 2
            have h3 := HIF.out.zbox.thaw 3
            have h4 := HIF.out.zbox.thaw 4
            go_wp2
            have HEND := (store5_below HIF.out.below (w.heap.size + 1 + 1) 0 (.int .i64 0) (.int .i64 0) (.string ⟨#[]⟩) (.slice none 0 0) (.slice none 0 0) (by omega))
            have HENB := (store5_blk HIF.out.zbox 0 (.int .i64 0) (.int .i64 0) (.string ⟨#[]⟩) (.slice none 0 0) (.slice none 0 0))
            unfold store5 at HEND HENB
            simp only [Nat.zero_add] at HEND HENB
            obtain ⟨k0, k1, k2, k3, k4⟩ := box_cells (by simpa [put5] using HENB)
            refine bodyPost_ret (v := .tuple #[zeroSyn, .bool false]) (by simp [results, Try.results49, go_sem, k0, k1, k2, k3, k4, zeroSyn]; try rfl) rfl ?_
            exact ⟨rfl, HEND⟩
        | some y =>
          have conv : ∀ (W : World) (e : Ending) (w' : World), RepPost P Q (some y) W e w' → ∃ zna znn znc zla zln zlc, e = Ending.returned (.tuple #[.agg #[.int .i64 y.op, .int .i64 y.n, .string y.s, .slice zna znn znc, .slice zla zln zlc], .bool true]) ∧ SynV w' (fun b => P b ∨ Q b ∨ (W.heap.size ≤ b ∧ b < w'.heap.size)) y (.agg #[.int .i64 y.op, .int .i64 y.n, .string y.s, .slice zna znn znc, .slice zla zln zlc]) ∧ Below W.heap.size W w' := by
            rintro W e w' ⟨⟨v, rfl, hv⟩, hb⟩
            obtain ⟨zna, znn, znc, zla, zln, zlc, rfl⟩ := hv.form
            exact ⟨zna, znn, znc, zla, zln, zlc, rfl, hv, hb⟩
          have HCA := Lib.hid (hca.mono (conv _))
          have HCB := Lib.hid (hcb.mono (conv _))
          clear hca hcb conv
          go_wp2_with fail
          go_region_law (first | (go_simp; go_at_call 49; with_reducible refine HCA.out.mono ?_; rintro e w5 ⟨zna, znn, znc, zla, zln, zlc, rfl, hv5, hb5⟩; have HV5 := Lib.hid hv5; clear hv5; have HW5 := Lib.hid (show Below wr.heap.size wr w5 from belowStep hb5 (Below.refl wr.heap.size wr).drew); clear hb5) | (go_simp; go_at_call 49; with_reducible refine HCB.out.mono ?_; rintro e w5 ⟨zna, znn, znc, zla, zln, zlc, rfl, hv5, hb5⟩; have HV5 := Lib.hid hv5; clear hv5; have HW5 := Lib.hid (show Below wr.heap.size wr w5 from belowStep hb5 ((Below.refl wr.heap.size wr).alloc (Nat.le_refl _) _).drew); have hpb := Blk.of_eq HPB2.out (hb5.block _ (Blk.lt HPB2.out)); obtain ⟨p0, p1, p2, p3, p4⟩ := box_cells hpb; have r0 := hpb.thaw 0; have r1 := hpb.thaw 1; have r2 := hpb.thaw 2; have r3 := hpb.thaw 3; have r4 := hpb.thaw 4; clear hb5))
          all_goals
            first
              | (have HF := Lib.hid (show FinX wr w5 (((((w5.setCell ⟨wr.heap.size, 0, none⟩ (.int .i64 y.op)).setCell ⟨wr.heap.size, 1, none⟩ (.int .i64 y.n)).setCell ⟨wr.heap.size, 2, none⟩ (.string y.s)).setCell ⟨wr.heap.size, 3, none⟩ (.slice zna znn znc)).setCell ⟨wr.heap.size, 4, none⟩ (.slice zla zln zlc)) wr.heap.size #[.int .i64 y.op, .int .i64 y.n, .string y.s, .slice zna znn znc, .slice zla zln zlc] from finX_store HW5.out hpb (Nat.le_refl _) (.int .i64 y.op) (.int .i64 y.n) (.string y.s) (.slice zna znn znc) (.slice zla zln zlc)); have HSF := Lib.hid (HF.out.syn HWS.out HV5.out (by simp) (.inl (by simp)) HPW.out HQW.out); generalize hwf : ((((w5.setCell ⟨wr.heap.size, 0, none⟩ (.int .i64 y.op)).setCell ⟨wr.heap.size, 1, none⟩ (.int .i64 y.n)).setCell ⟨wr.heap.size, 2, none⟩ (.string y.s)).setCell ⟨wr.heap.size, 3, none⟩ (.slice zna znn znc)).setCell ⟨wr.heap.size, 4, none⟩ (.slice zla zln zlc) = wF at HF HSF ⊢; generalize hpbb : wr.heap.size = pb at HF HSF ⊢)
              | (have HF := Lib.hid (finX_alloc (wr := wr) HW5.out #[.int .i64 y.op, .int .i64 y.n, .string y.s, .slice zna znn znc, .slice zla zln zlc]); have HSF := Lib.hid (HF.out.syn HWS.out HV5.out (Nat.le_refl _) (.inr (Nat.le_refl _)) HPW.out HQW.out); generalize hwf : (w5.alloc (.cells #[.int .i64 y.op, .int .i64 y.n, .string y.s, .slice zna znn znc, .slice zla zln zlc] 25)) = wF at HF HSF ⊢; generalize hpbb : w5.heap.size = pb at HF HSF ⊢)
            clear hwf hpbb
            clear a0 y0 y1 y2 y3 y4 o0 o1 o2 o3 o4 e0 e1 e2 e3 e4 be0 be1 be2 be3 be4 ya0 ya1 ya2 ya3 ya4 tb0 tb1 tb2 tb3 tb4 yb0 yb1 yb2 yb3 yb4
            try clear p0 p1 p2 p3 p4 r0 r1 r2 r3 r4 hpb
            have HIF := Lib.hid (HPI.out.step HF.out.below)
            have HA2 := Lib.hid (show Below wF.heap.size wF (wF.alloc (.cells #[.int .i64 y.op, .int .i64 y.n, .string y.s, .slice zna znn znc, .slice zla zln zlc] 25)) from (Below.refl _ _).alloc (Nat.le_refl _) _)
            have HB2 := Lib.hid (belowStep HA2.out HF.out.below)
            have HRF := Lib.hid (HROW.out _ HB2.out)
            have HSZF := Lib.hid (show wr.heap.size ≤ wF.heap.size from HF.out.below.size)
            have HOWN := Lib.hid (fun b (hb : ws ≤ b) => show v.ownBlock ≠ some b from fun e => by have := ((HROW.out _ (Below.refl _ _)).1.lt b e).2; have := HWS.out; omega)
            obtain ⟨f0, f1, f2, f3, f4⟩ := box_cells HIF.out.obox
            obtain ⟨p0, p1, p2, p3, p4⟩ := box_cells HF.out.part
            go_wp2_with (at_builtin; refine wpList_append_lies _ rfl _ _ 23 rfl (w.heap.size + 4) 25 i25 (.agg #[.int .i64 0, .int .i64 0, .string ByteArray.empty, .slice none 0 0, .slice none 0 0]) 5 80 Try.underlying23 hi0 hz0 hz1 hz2 rfl (by decide) v k us rfl HRF.out.1 ⟨wF.heap.size, 0, none⟩ 1 1 [.int .i64 y.op, .int .i64 y.n, .string y.s, .slice zna znn znc, .slice zla zln zlc] rfl rfl ?c1 ?c2 (by decide) ?c3 ?c4 ?c5 (wF.heap.size + 1) (by simp) ?_)
            case c1 => exact World.news_of_block (cs := #[.int .i64 y.op, .int .i64 y.n, .string y.s, .slice zna znn znc, .slice zla zln zlc]) (t := 25) (fr := (0, 0)) (heap_alloc_new wF _)
            case c2 => simp [Value.oneCell']
            case c3 => unfold maxLen; omega
            case c4 => omega
            case c5 => have := HOL.out; have := HSZF.out; simp; omega
            intro gg cap w1 hown1 hgrow hat hlt1
            have hb1 : Blk w1 (w.heap.size + 1 + 1 + 1) 25 #[.int .i64 op, .int .i64 n, .string s, .slice na nn nc, v] := grown_blk hgrow (HIF.out.obox.alloc _) HNE3.out
            have g4 := hb1.cell 4 _ rfl
            have t4 := hb1.thaw 4
            have HP1 := Lib.hid (PutI.push HP.out HQ.out (HPI.out.step HB2.out) (HSF.out.keep (Same.of_below HA2.out (fun b hb => by
                rcases hb with hb | hb | hb
                · exact Nat.lt_of_lt_of_le (HPW.out b hb) HSZF.out
                · exact Nat.lt_of_lt_of_le (HQW.out b hb) HSZF.out
                · exact hb.2.1))) (fun b hb => by
                rcases hb with hb | hb | hb
                · exact ⟨.inl hb, Nat.lt_of_lt_of_le (HPW.out b hb) HB2.out.size, HNEP.out b (HP.out b hb)⟩
                · exact ⟨.inr (.inl hb), Nat.lt_of_lt_of_le (HQW.out b hb) HB2.out.size, HNEP.out b (HQ.out b hb)⟩
                · exact ⟨.inr (.inr (by have := HOL.out; have := HWS.out; omega)), Nat.lt_of_lt_of_le hb.2.1 HA2.out.size, HOWN.out b hb.1⟩) HRF.out hown1 hgrow (by simpa using hat))
            clear hb1 hown1 hgrow hat hlt1 f0 f1 f2 f3 f4 p0 p1 p2 p3 p4
            go_wp2
            go_roundg (gk - 1)
            case measure => omega
            case rel => exact ⟨k + 1, by omega, by go_num, by omega, .inr (by simp), _, by rw [HTK.out]; exact HP1.out⟩
      · have w1 : ((k : Int) != (m : Int)) = true := by rw [bne_iff_ne]; omega
        have HTK := Lib.hid ((HTA.out k hlt).trans (by rw [HTO.out k hlt hkm]))
        have HKM2 := Lib.hid hkm
        generalize hyy : l[k] = yy at *
        have HD := Lib.hid (Below.refl wr.heap.size wr).drew
        have o4b := (HPI.out.obox.alloc (.cells #[.int .i64 yy.op, .int .i64 yy.n, .string yy.s, .slice xna xnn xnc, .slice xla xln xlc] 25)).cell 4 _ rfl
        have y4b := (HPI.out.box.alloc (.cells #[.int .i64 yy.op, .int .i64 yy.n, .string yy.s, .slice xna xnn xnc, .slice xla xln xlc] 25)).cell 4 _ rfl
        have HKK := Lib.hid (show k + 1 ≤ m ∨ x ≠ none from HKM.out.elim (fun h => .inl (by have := HKM2.out; omega)) .inr)
        clear hkm
        go_wp2_with fail
        go_region_law (refine step_append_lies _ (by rfl) _ _ _ (by rfl) (w.heap.size + 4) 25 i25 _ 5 80 Try.underlying23 hi0 hz0 hz1 hz2 rfl (by omega) v k us (by rfl) (HROW.out _ (HD.out.alloc (Nat.le_refl _) _)).1 ⟨wr.heap.size, 0, none⟩ 1 1 [.int .i64 yy.op, .int .i64 yy.n, .string yy.s, .slice xna xnn xnc, .slice xla xln xlc] (by rfl) (by rfl) (World.news_of_block (cs := #[.int .i64 yy.op, .int .i64 yy.n, .string yy.s, .slice xna xnn xnc, .slice xla xln xlc]) (t := 25) (fr := (0, 0)) (heap_alloc_new wr.drew _)) (by simp [Value.oneCell']) (by omega) (by unfold maxLen; omega) (by omega) (by have := HOL.out; simp; omega) (wr.heap.size + 1) (by simp) ?_; intro gg cap w1 hown1 hgrow hat hlt1; have hb1 : Blk w1 (w.heap.size + 1 + 1 + 1) 25 #[.int .i64 op, .int .i64 n, .string s, .slice na nn nc, v] := grown_blk hgrow (HPI.out.obox.alloc _) HNE3.out; have g4 := hb1.cell 4 _ rfl; have f4 := hb1.thaw 4; have HP1 := Lib.hid (PutI.push HP.out HQ.out (HPI.out.step (HD.out.alloc (Nat.le_refl _) _)) (S := P) (HXS.out.keep (Same.of_below (HD.out.alloc (Nat.le_refl _) _) HPW.out)) (fun b hb => ⟨.inl hb, Nat.lt_of_lt_of_le (HPW.out b hb) (HD.out.alloc (Nat.le_refl _) _).size, HNEP.out b (HP.out b hb)⟩) (HROW.out _ (HD.out.alloc (Nat.le_refl _) _)) hown1 hgrow (by simpa using hat)); clear hb1 hown1 hgrow hat hlt1)
        all_goals
          go_wp2
          go_roundg (gk - 1)
          case measure => omega
          case rel => exact ⟨k + 1, by omega, by go_num, by omega, HKK.out, _, by rw [HTK.out]; exact HP1.out⟩
    · have hkk : k = ln := by omega
      have hxn : x ≠ none := HKM.out.elim (fun h => by omega) id
      have hsy := HPI.out.syns
      have hzb := HPI.out.zbox
      rw [hkk, HTE.out] at hsy
      cases x with
      | none => exact absurd rfl hxn
      | some y =>
        rw [← HTT.out] at hsy
        have hsl := hsy
        obtain ⟨ga, gc, rfl, -⟩ := hsl
        have HSY := Lib.hid hsy
        have HZB := Lib.hid hzb
        have HNL := Lib.hid (show (l.set m y).length = ln from by rw [List.length_set]; exact HLL.out)
        have h0 := hzb.thaw 0
        have h1 := hzb.thaw 1
        have h2 := hzb.thaw 2
        have h3 := hzb.thaw 3
        have h4 := hzb.thaw 4
        obtain ⟨z0, z1, z2, z3, z4⟩ := box_cells hzb
        have n1 : ¬ w.heap.size + 1 + 1 = w.heap.size + 1 + 1 + 1 := by omega
        clear hsy hzb hxn
        have hnl2 : (l.set m ((some y).getD Pl.none0)).length = ln := HNL.out
        rw [hnl2] at o4
        generalize hgl : (l.set m ((some y).getD Pl.none0)).length = gl at *
        subst hkk
        go_wp2
        have hgk : gl = k := hgl.symm.trans HNL.out
        have hsy2 := HSY.out
        rw [hgk] at hsy2
        have hblk : ∀ b, (P b ∨ Q b ∨ (w.heap.size + 4 ≤ b ∧ b < wr.heap.size)) → b ≠ w.heap.size + 1 + 1 := fun b hb => by
          rcases hb with hb | hb | hb
          · have := HP.out b hb; omega
          · have := HQ.out b hb; omega
          · omega
        have HEND := (store5_below HPI.out.below (w.heap.size + 1 + 1) 0 (.int .i64 op) (.int .i64 n) (.string s) (.slice na nn nc) (.slice ga k gc) (by omega))
        have HENB := (store5_blk HZB.out 0 (.int .i64 op) (.int .i64 n) (.string s) (.slice na nn nc) (.slice ga k gc))
        have HESZ := store5_size wr (w.heap.size + 1 + 1) 0 (.int .i64 op) (.int .i64 n) (.string s) (.slice na nn nc) (.slice ga k gc)
        have HENV := (hsy2.keep (w' := store5 wr (w.heap.size + 1 + 1) 0 (.int .i64 op) (.int .i64 n) (.string s) (.slice na nn nc) (.slice ga k gc)) (fun b hb => store5_other wr (w.heap.size + 1 + 1) 0 (.int .i64 op) (.int .i64 n) (.string s) (.slice na nn nc) (.slice ga k gc) b (hblk b hb))).mono (Q := fun b => P b ∨ Q b ∨ (w.heap.size ≤ b ∧ b < (store5 wr (w.heap.size + 1 + 1) 0 (.int .i64 op) (.int .i64 n) (.string s) (.slice na nn nc) (.slice ga k gc)).heap.size)) (fun b hb => by
          rcases hb with hb | hb | hb
          · exact .inl hb
          · exact .inr (.inl hb)
          · exact .inr (.inr ⟨by omega, by rw [HESZ]; exact hb.2⟩))
        clear HESZ
        unfold store5 at HEND HENB HENV
        simp only [Nat.zero_add] at HEND HENB HENV
        obtain ⟨k0, k1, k2, k3, k4⟩ := box_cells (by simpa [put5] using HENB)
        refine bodyPost_ret (v := .tuple #[.agg #[.int .i64 op, .int .i64 n, .string s, .slice na nn nc, .slice ga k gc], .bool true]) (by simp [results, Try.results49, go_sem, k0, k1, k2, k3, k4]; try rfl) rfl ?_
        exact ⟨⟨ga, gc, rfl, HENV⟩, HEND⟩
end Go.Proofs.Ytkhpihacjhhklaa
