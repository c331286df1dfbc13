/-
  Walks and plain mathematics, several texts in one (En).
-/
import Derived.Test.YtkmgnibopmpcjaaGreatDoorH25
import Derived.Deep.LoopGhost
import Derived.Deep.RegionLaw
/-
  Walks of layer 4: an application.
-/
namespace Go.Proofs.YtkmgnibopmpcjaaGreatDoor
open Go Go.RowKit
set_option linter.unusedSimpArgs false
abbrev OwnX (B Z : Nat) (W : World) : Nat → Prop := fun b => B ≤ b ∧ b < W.heap.size ∧ b ≠ Z
theorem treex_fr {W W' : World} {B Z o : Nat} {t : Pl.Syn} {v : Value} (h : SynV W (OwnX B Z W) t v) (ho : o < B ∨ o = Z) (hf : Fr (· = o) (· = o) W W') : SynV W' (OwnX B Z W') t v :=
  (h.keep (fun b hb => hf.block hb.2.1 (fun e => by have e : b = o := e; have := hb.1; have := hb.2.2; omega))).mono (fun b hb => ⟨hb.1, Nat.lt_of_lt_of_le hb.2.1 hf.size, hb.2.2⟩)
theorem trees_two_in {W : World} {P : Nat → Prop} {t u : Pl.Syn} {x0 x1 x2 x3 x4 y0 y1 y2 y3 y4 : Value} (hP : ∀ b, P b → b < W.heap.size) (hx : SynV W P t (.agg #[x0, x1, x2, x3, x4])) (hy : SynV W P u (.agg #[y0, y1, y2, y3, y4])) :
    SynSl (W.alloc (.cells #[x0, x1, x2, x3, x4, y0, y1, y2, y3, y4] 28)) (fun b => P b ∨ b = W.heap.size) (.slice (some ⟨W.heap.size, 0, none⟩) 2 2) [t, u] := by
  have hb : Below W.heap.size W (W.alloc (.cells #[x0, x1, x2, x3, x4, y0, y1, y2, y3, y4] 28)) := (Below.refl _ _).alloc (Nat.le_refl _) _
  have hk := blk_new W #[x0, x1, x2, x3, x4, y0, y1, y2, y3, y4] 28
  have up : ∀ {a : Pl.Syn} {v : Value}, SynV W P a v → SynV (W.alloc (.cells #[x0, x1, x2, x3, x4, y0, y1, y2, y3, y4] 28)) (fun b => P b ∨ b = W.heap.size) a v := fun h => (h.keep (fun b h => hb.block b (hP b h))).mono (fun b h => .inl h)
  refine ⟨_, 2, rfl, Nat.le_refl _, by unfold maxLen; omega, fun h => (by cases h), Or.inr ⟨W.heap.size, 0, rfl, .inr rfl, (kidsAt_iff _ _ _ _ _).2 fun j hj => ?_⟩⟩
  match j, hj with
  | 0, _ => exact ⟨_, ⟨x0, x1, x2, x3, x4, rfl, hk.cell 0 _ rfl, hk.cell 1 _ rfl, hk.cell 2 _ rfl, hk.cell 3 _ rfl, hk.cell 4 _ rfl⟩, up hx⟩
  | 1, _ => exact ⟨_, ⟨y0, y1, y2, y3, y4, rfl, hk.cell 5 _ rfl, hk.cell 6 _ rfl, hk.cell 7 _ rfl, hk.cell 8 _ rfl, hk.cell 9 _ rfl⟩, up hy⟩
theorem node_two {W V : World} {B Z : Nat} {t u : Pl.Syn} {op n : Int} {x0 x1 x2 x3 x4 y0 y1 y2 y3 y4 z0 z1 z2 z3 z4 : Value} (hB : B ≤ V.heap.size) (hZ : Z < V.heap.size) (hW : V.heap.size ≤ W.heap.size) (hx : SynV W (OwnX B Z W) t (.agg #[x0, x1, x2, x3, x4])) (hy : SynV W (fun b => V.heap.size ≤ b ∧ b < W.heap.size) u (.agg #[y0, y1, y2, y3, y4])) :
    SynV (putFive (W.alloc (.cells #[x0, x1, x2, x3, x4, y0, y1, y2, y3, y4] 28)) Z z0 z1 z2 z3 z4) (OwnX B Z (putFive (W.alloc (.cells #[x0, x1, x2, x3, x4, y0, y1, y2, y3, y4] 28)) Z z0 z1 z2 z3 z4)) ⟨op, n, ByteArray.empty, [], [t, u]⟩ (.agg #[.int .i64 op, .int .i64 n, .string ⟨#[]⟩, .slice none 0 0, .slice (some ⟨W.heap.size, 0, none⟩) 2 2]) := by
  have hl := trees_two_in (P := OwnX B Z W) (fun b hb => hb.2.1) hx (hy.mono fun b hb => ⟨by omega, hb.2, by omega⟩)
  have hsz : (W.alloc (.cells #[x0, x1, x2, x3, x4, y0, y1, y2, y3, y4] 28)).heap.size = W.heap.size + 1 := by simp
  have h := synV_make (op := op) (n := n) (tx := ByteArray.empty) (ns := []) (Nat.zero_le _) (strs_none _ _) (hl.mono (Q := OwnX B Z (W.alloc (.cells #[x0, x1, x2, x3, x4, y0, y1, y2, y3, y4] 28))) (fun b hb => by
    rcases hb with hb | hb
    · exact ⟨hb.1, by omega, hb.2.2⟩
    · exact ⟨by omega, by omega, by omega⟩))
  exact treex_fr h (.inr rfl) (fr_putFive _ _ _ _ _ _ _)
set_option maxRecDepth 100000 in
set_option maxHeartbeats 8000000 in
theorem papplication_any (s : Src) (g i : Nat) (F : Pl.Fs) (hat : ∀ W j, i ≤ j → PAt W g s j → Calls Tryz.prog 47 #[.pointer (some ⟨g, 0, none⟩)] W (TreeOut s g (F.atom j) W)) (hgo : Pl.Goes F) (w : World) (h : PAt w g s i) :
    Calls Tryz.prog 202 #[.pointer (some ⟨g, 0, none⟩)] w (TreeOut s g (Pl.appB s.ts F i) w) := by
  have HP := Lib.hid h
  have HG := Lib.hid h.blk.lt
  have Hat := Lib.hid hat
  have Hgo := Lib.hid hgo
  obtain ⟨r, hr⟩ : ∃ r, r = Pl.appB s.ts F i := ⟨_, rfl⟩
  rw [← hr]
  have HR := Lib.hid hr
  rw [Pl.appB] at HR
  have HF := Lib.hid (Fr.refl (· = g) w)
  obtain ⟨B, hB⟩ : ∃ B, B = w.heap.size + 1 := ⟨_, rfl⟩
  have HGB := Lib.hid (show g < B from by have := HG.out; omega)
  have HXB := Lib.hid (show w.heap.size < B from by omega)
  have HX := Lib.hid (blk_new w #[.int .i64 0, .int .i64 0, .string ⟨#[]⟩, .slice none 0 0, .slice none 0 0] 28)
  have HXL := Lib.hid (Nat.le_refl w.heap.size)
  have hn := fr_new g w (.cells #[.int .i64 0, .int .i64 0, .string ⟨#[]⟩, .slice none 0 0, .slice none 0 0] 28)
  replace HF := Lib.hid (HF.out.trans hn)
  have HW := Lib.hid (show B ≤ (w.alloc (.cells #[.int .i64 0, .int .i64 0, .string ⟨#[]⟩, .slice none 0 0, .slice none 0 0] 28)).heap.size from by rw [hB]; simp)
  replace HP := Lib.hid (HP.out.below ((Below.refl _ _).alloc (Nat.le_refl _) (.cells #[.int .i64 0, .int .i64 0, .string ⟨#[]⟩, .slice none 0 0, .slice none 0 0] 28)))
  clear h hr hn hB hat hgo
  have HMM := Lib.hid (fun n t j => show Pl.appMore s.ts F (n + 1) t j = if Pl.begAtom (Pl.tkAt s.ts j) then (F.atom j).then fun u k => Pl.appMore s.ts F n (Pl.nd 26 [t, u]) k else .ok t j from rfl)
  go_enter Tryz.func202, Tryz.ntmps202
  go_wp2_with fail
  generalize w.alloc (.cells #[.int .i64 0, .int .i64 0, .string ⟨#[]⟩, .slice none 0 0, .slice none 0 0] 28) = w1 at *
  refine (Hat.out _ _ (Nat.le_refl _) HP.out).mono ?_
  rintro e w2 ho
  rcases TreeOut.split ho with ⟨q1, hri1, rfl, hf⟩ | ⟨tx, q1, x0, x1, x2, xa, xl, xc, xd, xe, xf, hri1, rfl, ht, hp, hf⟩
  · exact ⟨rfl, tree_bad (HR.out.trans (by rw [hri1, Pl.PR.then_bad])) (HF.out.trans hf)⟩
  have hgo1 := Hgo.out.atom _ _ _ hri1
  rw [hri1, Pl.PR.then_ok] at HR
  have HTx := Lib.hid (ht.mono (own_low HW.out))
  replace HF := Lib.hid (HF.out.trans hf)
  replace HW := Lib.hid (Nat.le_trans HW.out (Fr.size hf))
  replace HX := Lib.hid (blk_fr HX.out (by have := HXL.out; have := HG.out; omega) hf)
  replace HP := Lib.hid (hp)
  clear ho hp hf ht hri1
  have HTX := Lib.hid (HTx.out.mono (Q := OwnX B w2.heap.size w2) (fun b hb => ⟨hb.1, hb.2, Nat.ne_of_lt hb.2⟩))
  clear HTx
  have HZL := Lib.hid (show w.heap.size < w2.heap.size from Nat.lt_of_lt_of_le HXB.out HW.out)
  have HZW := Lib.hid HW.out
  have hz := blk_new w2 #[.int .i64 x0, .int .i64 x1, .string x2, .slice xa xl xc, .slice xd xe xf] 28
  have hn := fr_new g w2 (.cells #[.int .i64 x0, .int .i64 x1, .string x2, .slice xa xl xc, .slice xd xe xf] 28)
  replace HF := Lib.hid (HF.out.trans hn)
  replace HW := Lib.hid (Nat.le_trans HW.out (Fr.size hn))
  replace HX := Lib.hid (blk_fr HX.out (by have := HXL.out; have := HG.out; omega) hn)
  replace HP := Lib.hid (HP.out.below ((Below.refl _ _).alloc (Nat.le_refl _) (.cells #[.int .i64 x0, .int .i64 x1, .string x2, .slice xa xl xc, .slice xd xe xf] 28)))
  clear hn
  replace HTX := Lib.hid (treex_fr HTX.out (.inl HGB.out) (fr_new g w2 (.cells #[.int .i64 x0, .int .i64 x1, .string x2, .slice xa xl xc, .slice xd xe xf] 28)))
  have HZ := Lib.hid hz
  clear hz
  go_wp2_with fail
  generalize (w2.alloc (.cells #[.int .i64 x0, .int .i64 x1, .string x2, .slice xa xl xc, .slice xd xe xf] 28)) = wz at *
  generalize w2.heap.size = z at *
  go_loopg [] (s.ts.length + 1) (fun gk wr => ∃ (j : Nat) (t : Pl.Syn) (x0 x1 : Int) (x2 : ByteArray) (xa : Option Addr) (xl xc : Nat) (xd : Option Addr) (xe xf : Nat), PAt wr g s j ∧ Fr (· = g) (· = g) w wr ∧ Blk wr w.heap.size 28 #[.int .i64 0, .int .i64 0, .string ⟨#[]⟩, .slice none 0 0, .slice none 0 0] ∧ Blk wr z 28 #[.int .i64 x0, .int .i64 x1, .string x2, .slice xa xl xc, .slice xd xe xf] ∧ SynV wr (OwnX B z wr) t (.agg #[.int .i64 x0, .int .i64 x1, .string x2, .slice xa xl xc, .slice xd xe xf]) ∧ z < wr.heap.size ∧ r = Pl.appMore s.ts F gk t j ∧ s.ts.length + 1 ≤ gk + j ∧ i ≤ j)
  case atStart => exact ⟨q1, tx, x0, x1, x2, xa, xl, xc, xd, xe, xf, HP.out, HF.out, HX.out, HZ.out, HTX.out, HZ.out.lt, HR.out, by omega, by omega⟩
  case round =>
    clear HTX HZ
    obtain ⟨j, t, x0, x1, x2, xa, xl, xc, xd, xe, xf, hp, hf, hx, hz, ht, hzl, hr, hj, hij⟩ := hrel
    have hjn := hp.inn
    obtain ⟨G, hG⟩ : ∃ G, gk = G + 1 := ⟨gk - 1, by omega⟩
    rw [hG] at hr
    replace HP := Lib.hid hp
    replace HF := Lib.hid hf
    replace HX := Lib.hid hx
    have HZ := Lib.hid hz
    have HTX := Lib.hid ht
    replace HR := Lib.hid hr
    have HGJ := Lib.hid hG
    clear hp hf hx hz ht hr hG hzl
    rw [HMM.out G t j] at HR
    go_wp2_with fail
    refine (ptoken_any s g j _ HP.out).mono ?_
    rintro e w3 ho
    obtain ⟨li, co, rfl, hp, hf⟩ := TokenOut.split ho HP.out
    replace HF := Lib.hid (HF.out.trans hf)
    replace HX := Lib.hid (blk_fr HX.out (by have := HG.out; omega) hf)
    replace HZ := Lib.hid (blk_fr HZ.out (by have := HZL.out; have := HG.out; omega) hf)
    replace HTX := Lib.hid (treex_fr HTX.out (.inl HGB.out) hf)
    replace HP := Lib.hid (hp)
    clear ho hp hf
    go_wp2_with fail
    have hc := pbegAtom_at s j li co w3
    cases hbg2 : Pl.begAtom (Pl.tkAt s.ts j)
    · rw [hbg2] at hc
      rw [hbg2, if_neg Bool.false_ne_true] at HR
      refine hc.mono ?_
      rintro e w4 ⟨rfl, hb⟩
      have hf := fr_below (o := (· = g)) hb
      replace HF := Lib.hid (HF.out.trans hf)
      replace HX := Lib.hid (blk_fr HX.out (by have := HG.out; omega) hf)
      replace HZ := Lib.hid (blk_fr HZ.out (by have := HZL.out; have := HG.out; omega) hf)
      replace HTX := Lib.hid (treex_fr HTX.out (.inl HGB.out) hf)
      replace HP := Lib.hid (HP.out.below hb)
      clear hb hf hc
      have HU := Lib.hid (HTX.out.mono (Q := Own B w4) (fun b hb => ⟨hb.1, hb.2.1⟩))
      have hzx : ¬ z = w.heap.size := by have := HZL.out; omega
      have hxz : ¬ w.heap.size = z := by have := HZL.out; omega
      obtain ⟨hxc0, hxc1, hxc2, hxc3, hxc4⟩ := five_cells HX.out
      have hxf0 := HX.out.thaw 0
      have hxf1 := HX.out.thaw 1
      have hxf2 := HX.out.thaw 2
      have hxf3 := HX.out.thaw 3
      have hxf4 := HX.out.thaw 4
      obtain ⟨hzc0, hzc1, hzc2, hzc3, hzc4⟩ := five_cells HZ.out
      go_wp2_with fail
      have HEN := putFive_blk HX.out (.int .i64 x0) (.int .i64 x1) (.string x2) (.slice xa xl xc) (.slice xd xe xf)
      have HFI := tree_fin HG.out HF.out HU.out HXB.out HP.out (.int .i64 x0) (.int .i64 x1) (.string x2) (.slice xa xl xc) (.slice xd xe xf)
      unfold putFive at HEN HFI
      obtain ⟨k0, k1, k2, k3, k4⟩ := five_cells HEN
      refine bodyPost_ret (v := .agg #[.int .i64 x0, .int .i64 x1, .string x2, .slice xa xl xc, .slice xd xe xf]) (by simp [results, Tryz.results202, go_sem, k0, k1, k2, k3, k4]) rfl ?_
      exact tree_ok HR.out HFI
    · rw [hbg2] at hc
      rw [hbg2, if_pos rfl] at HR
      refine hc.mono ?_
      rintro e w4 ⟨rfl, hb⟩
      have hf := fr_below (o := (· = g)) hb
      replace HF := Lib.hid (HF.out.trans hf)
      replace HX := Lib.hid (blk_fr HX.out (by have := HG.out; omega) hf)
      replace HZ := Lib.hid (blk_fr HZ.out (by have := HZL.out; have := HG.out; omega) hf)
      replace HTX := Lib.hid (treex_fr HTX.out (.inl HGB.out) hf)
      replace HP := Lib.hid (HP.out.below hb)
      clear hb hf hc
      go_wp2_with fail
      have HPD := Lib.hid (HP.out.below (Below.refl w4.heap.size w4).drew)
      have HZLT := Lib.hid HZ.out.lt
      have hzx : ¬ z = w.heap.size := by have := HZL.out; omega
      have hxz : ¬ w.heap.size = z := by have := HZL.out; omega
      obtain ⟨hzc0, hzc1, hzc2, hzc3, hzc4⟩ := five_cells HZ.out
      go_region_law (go_simp; go_at_call 47; refine (Hat.out _ _ (by omega) HPD.out).mono ?_; rintro e w5 ho; rcases TreeOut.split ho with ⟨q, hri, rfl, hf⟩ | ⟨ty, q, y0, y1, y2, ya, yl, yc, yd, ye, yf, hri, rfl, ht, hp, hf⟩; exact ⟨rfl, tree_bad (HR.out.trans (by rw [hri, Pl.PR.then_bad])) (HF.out.trans ((fr_drew g w4).trans hf))⟩; have HRI := Lib.hid hri; have HYT := Lib.hid ht; have HF5 := Lib.hid ((fr_drew g w4).trans hf); have HP5 := Lib.hid hp; have HZ5 := Lib.hid (blk_fr HZ.out (by have := HZL.out; have := HG.out; omega) HF5.out); have HZ6 := Lib.hid (blk_fr HZ5.out (by have := HZL.out; have := HG.out; omega) (fr_new g w5 (.cells #[.int .i64 x0, .int .i64 x1, .string x2, .slice xa xl xc, .slice xd xe xf, .int .i64 y0, .int .i64 y1, .string y2, .slice ya yl yc, .slice yd ye yf] 28))); obtain ⟨r0, r1, r2, r3, r4⟩ := five_cells HZ5.out; obtain ⟨d0, d1, d2, d3, d4⟩ := five_cells HZ6.out; have f0 := HZ6.out.thaw 0; have f1 := HZ6.out.thaw 1; have f2 := HZ6.out.thaw 2; have f3 := HZ6.out.thaw 3; have f4 := HZ6.out.thaw 4; clear ho hri ht hp hf)
      all_goals
        have hgo := Hgo.out.atom _ _ _ HRI.out
        rw [HRI.out, Pl.PR.then_ok] at HR
        have hsz5 : (World.heap w4).size ≤ (World.heap w5).size := HF5.out.size
        have HN0 := Lib.hid (treex_fr HTX.out (.inl HGB.out) HF5.out)
        have HN1 := Lib.hid (node_two (V := w4) (op := 26) (n := 0) (z0 := (.int .i64 26)) (z1 := (.int .i64 0)) (z2 := (.string ⟨#[]⟩)) (z3 := (.slice none 0 0)) (z4 := (.slice (some ⟨w5.heap.size, 0, none⟩) 2 2)) (by have := HZW.out; have := HZLT.out; omega) HZLT.out hsz5 HN0.out HYT.out)
        have HN2 := Lib.hid (putFive_blk HZ6.out (.int .i64 26) (.int .i64 0) (.string ⟨#[]⟩) (.slice none 0 0) (.slice (some ⟨w5.heap.size, 0, none⟩) 2 2))
        have hf6 := fr_putFive (w5.alloc (.cells #[.int .i64 x0, .int .i64 x1, .string x2, .slice xa xl xc, .slice xd xe xf, .int .i64 y0, .int .i64 y1, .string y2, .slice ya yl yc, .slice yd ye yf] 28)) z (.int .i64 26) (.int .i64 0) (.string ⟨#[]⟩) (.slice none 0 0) (.slice (some ⟨w5.heap.size, 0, none⟩) 2 2)
        have HN3 := Lib.hid (fr_over ((HF.out.trans HF5.out).trans (fr_new g w5 (.cells #[.int .i64 x0, .int .i64 x1, .string x2, .slice xa xl xc, .slice xd xe xf, .int .i64 y0, .int .i64 y1, .string y2, .slice ya yl yc, .slice yd ye yf] 28))) (Nat.le_of_lt HZL.out) hf6)
        have HN4 := Lib.hid (pat_fr (HP5.out.below ((Below.refl _ _).alloc (Nat.le_refl _) (.cells #[.int .i64 x0, .int .i64 x1, .string x2, .slice xa xl xc, .slice xd xe xf, .int .i64 y0, .int .i64 y1, .string y2, .slice ya yl yc, .slice yd ye yf] 28))) (by have := HZL.out; have := HG.out; omega) hf6)
        have HN5 := Lib.hid (blk_fr (blk_fr (blk_fr HX.out (by have := HG.out; omega) HF5.out) (by have := HG.out; omega) (fr_new g w5 (.cells #[.int .i64 x0, .int .i64 x1, .string x2, .slice xa xl xc, .slice xd xe xf, .int .i64 y0, .int .i64 y1, .string y2, .slice ya yl yc, .slice yd ye yf] 28))) hxz hf6)
        have HN6 := Lib.hid HN2.out.lt
        have hqn := HP5.out.inn
        unfold putFive at HN1 HN2 HN3 HN4 HN5 HN6
        clear hf6
        go_wp2
        go_roundg G
        case measure => have := HGJ.out; omega
        case rel => exact ⟨q, _, 26, 0, _, none, 0, 0, some ⟨w5.heap.size, 0, none⟩, 2, 2, HN4.out, HN3.out, HN5.out, HN2.out, HN1.out, HN6.out, HR.out, by have := HGJ.out; omega, by omega⟩
end Go.Proofs.YtkmgnibopmpcjaaGreatDoor
