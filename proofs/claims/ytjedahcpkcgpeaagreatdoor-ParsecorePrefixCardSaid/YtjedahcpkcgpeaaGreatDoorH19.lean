/-
  Walks and plain mathematics, several texts in one (Eo).
-/
import Derived.Test.YtjedahcpkcgpeaaGreatDoorH18
/-
  Walks of layer 4: an operation.
-/
namespace Go.Proofs.YtjedahcpkcgpeaaGreatDoor
open Go Go.RowKit
set_option linter.unusedSimpArgs false
theorem poperator_at (s : Src) (j : Nat) (li co : Int) (w : World) : Calls Tryz.prog 111 #[.agg #[.int .i64 (Pl.tkAt s.ts j).kind, .string (Pl.mk (Pl.tkAt s.ts j).text), .int .i64 li, .int .i64 co]] w fun e w' => e = .returned (.tuple #[.int .i64 (Pl.opOf (Pl.tkAt s.ts j)).1, .int .i64 ((Pl.opOf (Pl.tkAt s.ts j)).2 : Int)]) ∧ Below w.heap.size w w' := poperator_any _ li co _ _ _ w
theorem opOf_kind {t : Pl.Tok} (h : 1 ≤ (Pl.opOf t).2) : t.kind ≠ 8 := fun e => by
  have hf : Pl.fixedT t = [] := by unfold Pl.fixedT; rw [if_neg (by rw [e]; decide)]
  unfold Pl.opOf at h
  rw [hf] at h
  exact absurd h (by decide)
set_option maxRecDepth 100000 in
set_option maxHeartbeats 8000000 in
theorem poperation_any (s : Src) (g i : Nat) (q : Nat) (F : Pl.Fs) (hne : ∀ W, PAt W g s i → Calls Tryz.prog 110 #[.pointer (some ⟨g, 0, none⟩)] W (TreeOut s g (F.neg i) W)) (hop : ∀ W (p j : Nat), i < j → 1 ≤ p → PAt W g s j → Calls Tryz.prog 67 #[.pointer (some ⟨g, 0, none⟩), .int .i64 (p : Int)] W (TreeOut s g (F.oper p j) W)) (hgo : Pl.Goes F) (hq : 1 ≤ q) (w : World) (h : PAt w g s i) :
    Calls Tryz.prog 67 #[.pointer (some ⟨g, 0, none⟩), .int .i64 (q : Int)] w (TreeOut s g (Pl.operB s.ts F q i) w) := by
  have HP := Lib.hid h
  have HG := Lib.hid h.blk.lt
  have Hne := Lib.hid hne
  have Hop := Lib.hid hop
  have Hgo := Lib.hid hgo
  have HQ := Lib.hid hq
  obtain ⟨r, hr⟩ : ∃ r, r = Pl.operB s.ts F q i := ⟨_, rfl⟩
  rw [← hr]
  have HR := Lib.hid hr
  rw [Pl.operB] at HR
  have HF := Lib.hid (Fr.refl (· = g) w)
  obtain ⟨B, hB⟩ : ∃ B, B = w.heap.size + 1 := ⟨_, rfl⟩
  have HGB := Lib.hid (show g < B from by have := HG.out; omega)
  have HXB := Lib.hid (show w.heap.size < B from by omega)
  have HX := Lib.hid (blk_new w #[.int .i64 0, .int .i64 0, .string ⟨#[]⟩, .slice none 0 0, .slice none 0 0] 27)
  have HXL := Lib.hid (Nat.le_refl w.heap.size)
  have hn := fr_new g w (.cells #[.int .i64 0, .int .i64 0, .string ⟨#[]⟩, .slice none 0 0, .slice none 0 0] 27)
  replace HF := Lib.hid (HF.out.trans hn)
  have HW := Lib.hid (show B ≤ (w.alloc (.cells #[.int .i64 0, .int .i64 0, .string ⟨#[]⟩, .slice none 0 0, .slice none 0 0] 27)).heap.size from by rw [hB]; simp)
  replace HP := Lib.hid (HP.out.below ((Below.refl _ _).alloc (Nat.le_refl _) (.cells #[.int .i64 0, .int .i64 0, .string ⟨#[]⟩, .slice none 0 0, .slice none 0 0] 27)))
  clear h hr hn hB hne hop hgo hq
  have hin := HP.out.inn
  have hlim : s.ts.length + 1 ≤ maxLen := Nat.le_trans HP.out.src.room HP.out.src.lim
  unfold maxLen at hlim
  have HMM := Lib.hid (fun n m t j => show Pl.operMore s.ts F (n + 1) q m t j = if (Pl.opOf (Pl.tkAt s.ts j)).2 < q ∨ m < (Pl.opOf (Pl.tkAt s.ts j)).2 then .ok t j else (F.oper (Pl.sideOf (Pl.opOf (Pl.tkAt s.ts j)).2).1 (j + 1)).then fun u k => Pl.operMore s.ts F n q (Pl.sideOf (Pl.opOf (Pl.tkAt s.ts j)).2).2 ⟨32, (Pl.opOf (Pl.tkAt s.ts j)).1, ByteArray.empty, [], [t, u]⟩ k from rfl)
  go_enter Tryz.func67, Tryz.ntmps67
  go_wp2_with fail
  generalize w.alloc (.cells #[.int .i64 0, .int .i64 0, .string ⟨#[]⟩, .slice none 0 0, .slice none 0 0] 27) = w1 at *
  refine (Hne.out _ HP.out).mono ?_
  rintro e w2 ho
  rcases TreeOut.split ho with ⟨q1, hri1, rfl, hf⟩ | ⟨tx, q1, x0, x1, x2, xa, xl, xc, xd, xe, xf, hri1, rfl, ht, hp, hf⟩
  · exact ⟨rfl, tree_bad (HR.out.trans (by rw [hri1, Pl.PR.then_bad])) (HF.out.trans hf)⟩
  have hgo1 := Hgo.out.neg _ _ _ hri1
  rw [hri1, Pl.PR.then_ok] at HR
  have HTx := Lib.hid (ht.mono (own_low HW.out))
  replace HF := Lib.hid (HF.out.trans hf)
  replace HW := Lib.hid (Nat.le_trans HW.out (Fr.size hf))
  replace HX := Lib.hid (blk_fr HX.out (by have := HXL.out; have := HG.out; omega) hf)
  replace HP := Lib.hid (hp)
  clear ho hp hf ht hri1
  have HTX := Lib.hid (HTx.out.mono (Q := OwnX B w2.heap.size w2) (fun b hb => ⟨hb.1, hb.2, Nat.ne_of_lt hb.2⟩))
  clear HTx
  have HZL := Lib.hid (show w.heap.size < w2.heap.size from Nat.lt_of_lt_of_le HXB.out HW.out)
  have HZW := Lib.hid HW.out
  have hz := blk_new w2 #[.int .i64 x0, .int .i64 x1, .string x2, .slice xa xl xc, .slice xd xe xf] 27
  have hn := fr_new g w2 (.cells #[.int .i64 x0, .int .i64 x1, .string x2, .slice xa xl xc, .slice xd xe xf] 27)
  replace HF := Lib.hid (HF.out.trans hn)
  replace HW := Lib.hid (Nat.le_trans HW.out (Fr.size hn))
  replace HX := Lib.hid (blk_fr HX.out (by have := HXL.out; have := HG.out; omega) hn)
  replace HP := Lib.hid (HP.out.below ((Below.refl _ _).alloc (Nat.le_refl _) (.cells #[.int .i64 x0, .int .i64 x1, .string x2, .slice xa xl xc, .slice xd xe xf] 27)))
  clear hn
  replace HTX := Lib.hid (treex_fr HTX.out (.inl HGB.out) (fr_new g w2 (.cells #[.int .i64 x0, .int .i64 x1, .string x2, .slice xa xl xc, .slice xd xe xf] 27)))
  have HZ := Lib.hid hz
  clear hz
  go_wp2_with fail
  generalize (w2.alloc (.cells #[.int .i64 x0, .int .i64 x1, .string x2, .slice xa xl xc, .slice xd xe xf] 27)) = wz at *
  generalize w2.heap.size = z at *
  go_loopg [6, 7, 8, 9, 38, 44] (s.ts.length + 1) (fun gk v6 v7 v8 v9 v38 v44 wr => ∃ (m j : Nat) (t : Pl.Syn) (x0 x1 : Int) (x2 : ByteArray) (xa : Option Addr) (xl xc : Nat) (xd : Option Addr) (xe xf : Nat), v6 = .int .i64 (m : Int) ∧ m ≤ 6 ∧ PAt wr g s j ∧ Fr (· = g) (· = g) w wr ∧ Blk wr w.heap.size 27 #[.int .i64 0, .int .i64 0, .string ⟨#[]⟩, .slice none 0 0, .slice none 0 0] ∧ Blk wr z 27 #[.int .i64 x0, .int .i64 x1, .string x2, .slice xa xl xc, .slice xd xe xf] ∧ SynV wr (OwnX B z wr) t (.agg #[.int .i64 x0, .int .i64 x1, .string x2, .slice xa xl xc, .slice xd xe xf]) ∧ z < wr.heap.size ∧ r = Pl.operMore s.ts F gk q m t j ∧ s.ts.length + 1 ≤ gk + j ∧ i ≤ j)
  case atStart => exact ⟨6, q1, tx, x0, x1, x2, xa, xl, xc, xd, xe, xf, rfl, Nat.le_refl _, HP.out, HF.out, HX.out, HZ.out, HTX.out, HZ.out.lt, HR.out, by omega, by omega⟩
  case round =>
    clear HTX HZ
    obtain ⟨m, j, t, x0, x1, x2, xa, xl, xc, xd, xe, xf, hm, hm6, hp, hf, hx, hz, ht, hzl, hr, hj, hij⟩ := hrel
    subst hm
    have hjn := hp.inn
    obtain ⟨G, hG⟩ : ∃ G, gk = G + 1 := ⟨gk - 1, by omega⟩
    rw [hG, HMM.out G m t j] at hr
    replace HP := Lib.hid hp
    replace HF := Lib.hid hf
    replace HX := Lib.hid hx
    have HZ := Lib.hid hz
    have HTX := Lib.hid ht
    replace HR := Lib.hid hr
    have HGJ := Lib.hid hG
    clear hp hf hx hz ht hr hG hzl
    go_wp2_with fail
    refine (ptoken_any s g j _ HP.out).mono ?_
    rintro e wa ho
    obtain ⟨li, co, rfl, hp, hf⟩ := TokenOut.split ho HP.out
    replace HF := Lib.hid (HF.out.trans hf)
    replace HX := Lib.hid (blk_fr HX.out (by have := HG.out; omega) hf)
    replace HZ := Lib.hid (blk_fr HZ.out (by have := HZL.out; have := HG.out; omega) hf)
    replace HTX := Lib.hid (treex_fr HTX.out (.inl HGB.out) hf)
    replace HP := Lib.hid (hp)
    clear ho hp hf
    go_wp2_with fail
    refine (poperator_at s j li co wa).mono ?_
    rintro e wb ⟨rfl, hb⟩
    have hf := fr_below (o := (· = g)) hb
    replace HF := Lib.hid (HF.out.trans hf)
    replace HX := Lib.hid (blk_fr HX.out (by have := HG.out; omega) hf)
    replace HZ := Lib.hid (blk_fr HZ.out (by have := HZL.out; have := HG.out; omega) hf)
    replace HTX := Lib.hid (treex_fr HTX.out (.inl HGB.out) hf)
    replace HP := Lib.hid (HP.out.below hb)
    clear hf hb
    have HK8 := Lib.hid (fun h => opOf_kind (t := Pl.tkAt s.ts j) h)
    obtain ⟨lv, hlv⟩ : ∃ lv, lv = (Pl.opOf (Pl.tkAt s.ts j)).2 := ⟨_, rfl⟩
    obtain ⟨on, hon⟩ : ∃ on, on = (Pl.opOf (Pl.tkAt s.ts j)).1 := ⟨_, rfl⟩
    have hl6 : lv ≤ 6 := by rw [hlv]; exact Pl.opOf_le _
    rw [← hlv] at HK8
    rw [← hlv, ← hon] at HR
    rw [← hlv, ← hon]
    clear hlv hon
    by_cases h1 : lv < q
    · rw [if_pos (.inl h1)] at HR
      have hi1 : (lv : Int) < (q : Int) := by omega
      have HU := Lib.hid (HTX.out.mono (Q := Own B wb) (fun b hb => ⟨hb.1, hb.2.1⟩))
      have hzx : ¬ z = w.heap.size := by have := HZL.out; omega
      have hxz : ¬ w.heap.size = z := by have := HZL.out; omega
      obtain ⟨hxc0, hxc1, hxc2, hxc3, hxc4⟩ := five_cells HX.out
      have hxf0 := HX.out.thaw 0
      have hxf1 := HX.out.thaw 1
      have hxf2 := HX.out.thaw 2
      have hxf3 := HX.out.thaw 3
      have hxf4 := HX.out.thaw 4
      obtain ⟨hzc0, hzc1, hzc2, hzc3, hzc4⟩ := five_cells HZ.out
      go_wp2_with fail
      have HEN := putFive_blk HX.out (.int .i64 x0) (.int .i64 x1) (.string x2) (.slice xa xl xc) (.slice xd xe xf)
      have HFI := tree_fin HG.out HF.out HU.out HXB.out HP.out (.int .i64 x0) (.int .i64 x1) (.string x2) (.slice xa xl xc) (.slice xd xe xf)
      unfold putFive at HEN HFI
      obtain ⟨k0, k1, k2, k3, k4⟩ := five_cells HEN
      refine bodyPost_ret (v := .agg #[.int .i64 x0, .int .i64 x1, .string x2, .slice xa xl xc, .slice xd xe xf]) (by simp [results, Tryz.results67, go_sem, k0, k1, k2, k3, k4]) rfl ?_
      exact tree_ok HR.out HFI
    · have hi1 : ¬ (lv : Int) < (q : Int) := by omega
      by_cases h2 : m < lv
      · rw [if_pos (.inr h2)] at HR
        have hi2 : (m : Int) < (lv : Int) := by omega
        have HU := Lib.hid (HTX.out.mono (Q := Own B wb) (fun b hb => ⟨hb.1, hb.2.1⟩))
        have hzx : ¬ z = w.heap.size := by have := HZL.out; omega
        have hxz : ¬ w.heap.size = z := by have := HZL.out; omega
        obtain ⟨hxc0, hxc1, hxc2, hxc3, hxc4⟩ := five_cells HX.out
        have hxf0 := HX.out.thaw 0
        have hxf1 := HX.out.thaw 1
        have hxf2 := HX.out.thaw 2
        have hxf3 := HX.out.thaw 3
        have hxf4 := HX.out.thaw 4
        obtain ⟨hzc0, hzc1, hzc2, hzc3, hzc4⟩ := five_cells HZ.out
        go_wp2_with fail
        have HEN := putFive_blk HX.out (.int .i64 x0) (.int .i64 x1) (.string x2) (.slice xa xl xc) (.slice xd xe xf)
        have HFI := tree_fin HG.out HF.out HU.out HXB.out HP.out (.int .i64 x0) (.int .i64 x1) (.string x2) (.slice xa xl xc) (.slice xd xe xf)
        unfold putFive at HEN HFI
        obtain ⟨k0, k1, k2, k3, k4⟩ := five_cells HEN
        refine bodyPost_ret (v := .agg #[.int .i64 x0, .int .i64 x1, .string x2, .slice xa xl xc, .slice xd xe xf]) (by simp [results, Tryz.results67, go_sem, k0, k1, k2, k3, k4]) rfl ?_
        exact tree_ok HR.out HFI
      · rw [if_neg (fun h => h.elim h1 h2)] at HR
        have hi2 : ¬ (m : Int) < (lv : Int) := by omega
        have hlt1 : 1 ≤ lv := by have := HQ.out; omega
        have hk8 := HK8.out hlt1
        have hlt2 := Pl.kind_lt rfl hk8
        have g1 : World.cell? _ ⟨g, 1, none⟩ = some (.int .i64 j) := HP.out.blk.cell 1 _ rfl
        have f1 := HP.out.blk.thaw 1
        have HPN := Lib.hid (HP.out.next hk8)
        have hfn := fr_next (g := g) (.int .i64 ((j : Int) + 1)) (Below.refl (World.heap wb).size wb)
        replace HF := Lib.hid (HF.out.trans hfn)
        replace HX := Lib.hid (blk_fr HX.out (by have := HG.out; omega) hfn)
        replace HZ := Lib.hid (blk_fr HZ.out (by have := HZL.out; have := HG.out; omega) hfn)
        replace HTX := Lib.hid (treex_fr HTX.out (.inl HGB.out) hfn)
        have HWN := Lib.hid (show (World.heap wb).size = (World.heap (World.setCell wb ⟨g, 1, none⟩ (.int .i64 ((j : Int) + 1)))).size from by simp [World.setCell])
        clear hk8 hfn
        have hcs : lv = 1 ∨ lv = 2 ∨ lv = 3 ∨ lv = 4 ∨ lv = 5 ∨ lv = 6 := by omega
        rcases hcs with rfl | rfl | rfl | rfl | rfl | rfl
        · rw [show Pl.sideOf 1 = (1, 0) from rfl] at HR
          go_wp2
          generalize World.setCell wb ⟨g, 1, none⟩ (.int .i64 ((j : Int) + 1)) = wc at *
          replace HP := Lib.hid HPN.out
          clear HPN g1 f1
          have HPD := Lib.hid (HP.out.below (Below.refl wc.heap.size wc).drew)
          have HZLT := Lib.hid HZ.out.lt
          have hzx : ¬ z = w.heap.size := by have := HZL.out; omega
          have hxz : ¬ w.heap.size = z := by have := HZL.out; omega
          obtain ⟨hzc0, hzc1, hzc2, hzc3, hzc4⟩ := five_cells HZ.out
          go_region_law (go_simp; go_at_call 67; refine (Hop.out _ 1 _ (by omega) (by omega) HPD.out).mono ?_; rintro e w5 ho; rcases TreeOut.split ho with ⟨q1, hri, rfl, hf⟩ | ⟨ty, q1, y0, y1, y2, ya, yl, yc, yd, ye, yf, hri, rfl, ht, hp, hf⟩; exact ⟨rfl, tree_bad (HR.out.trans (by rw [hri, Pl.PR.then_bad])) (HF.out.trans ((fr_drew g wc).trans hf))⟩; have HRI := Lib.hid hri; have HYT := Lib.hid ht; have HF5 := Lib.hid ((fr_drew g wc).trans hf); have HP5 := Lib.hid hp; have HZ5 := Lib.hid (blk_fr HZ.out (by have := HZL.out; have := HG.out; omega) HF5.out); have HZ6 := Lib.hid (blk_fr HZ5.out (by have := HZL.out; have := HG.out; omega) (fr_new g w5 (.cells #[.int .i64 x0, .int .i64 x1, .string x2, .slice xa xl xc, .slice xd xe xf, .int .i64 y0, .int .i64 y1, .string y2, .slice ya yl yc, .slice yd ye yf] 27))); obtain ⟨r0, r1, r2, r3, r4⟩ := five_cells HZ5.out; obtain ⟨d0, d1, d2, d3, d4⟩ := five_cells HZ6.out; have f0 := HZ6.out.thaw 0; have f1 := HZ6.out.thaw 1; have f2 := HZ6.out.thaw 2; have f3 := HZ6.out.thaw 3; have f4 := HZ6.out.thaw 4; clear ho hri ht hp hf)
          all_goals
            have hgo := Hgo.out.oper _ _ _ _ HRI.out
            rw [HRI.out, Pl.PR.then_ok] at HR
            have hsz5 : (World.heap wc).size ≤ (World.heap w5).size := HF5.out.size
            have HN0 := Lib.hid (treex_fr HTX.out (.inl HGB.out) HF5.out)
            have HN1 := Lib.hid (node_two (V := wc) (op := 32) (n := on) (z0 := (.int .i64 32)) (z1 := (.int .i64 on)) (z2 := (.string ⟨#[]⟩)) (z3 := (.slice none 0 0)) (z4 := (.slice (some ⟨w5.heap.size, 0, none⟩) 2 2)) (by have := HZW.out; have := HZLT.out; omega) HZLT.out hsz5 HN0.out HYT.out)
            have HN2 := Lib.hid (putFive_blk HZ6.out (.int .i64 32) (.int .i64 on) (.string ⟨#[]⟩) (.slice none 0 0) (.slice (some ⟨w5.heap.size, 0, none⟩) 2 2))
            have hf6 := fr_putFive (w5.alloc (.cells #[.int .i64 x0, .int .i64 x1, .string x2, .slice xa xl xc, .slice xd xe xf, .int .i64 y0, .int .i64 y1, .string y2, .slice ya yl yc, .slice yd ye yf] 27)) z (.int .i64 32) (.int .i64 on) (.string ⟨#[]⟩) (.slice none 0 0) (.slice (some ⟨w5.heap.size, 0, none⟩) 2 2)
            have HN3 := Lib.hid (fr_over ((HF.out.trans HF5.out).trans (fr_new g w5 (.cells #[.int .i64 x0, .int .i64 x1, .string x2, .slice xa xl xc, .slice xd xe xf, .int .i64 y0, .int .i64 y1, .string y2, .slice ya yl yc, .slice yd ye yf] 27))) (Nat.le_of_lt HZL.out) hf6)
            have HN4 := Lib.hid (pat_fr (HP5.out.below ((Below.refl _ _).alloc (Nat.le_refl _) (.cells #[.int .i64 x0, .int .i64 x1, .string x2, .slice xa xl xc, .slice xd xe xf, .int .i64 y0, .int .i64 y1, .string y2, .slice ya yl yc, .slice yd ye yf] 27))) (by have := HZL.out; have := HG.out; omega) hf6)
            have HN5 := Lib.hid (blk_fr (blk_fr (blk_fr HX.out (by have := HG.out; omega) HF5.out) (by have := HG.out; omega) (fr_new g w5 (.cells #[.int .i64 x0, .int .i64 x1, .string x2, .slice xa xl xc, .slice xd xe xf, .int .i64 y0, .int .i64 y1, .string y2, .slice ya yl yc, .slice yd ye yf] 27))) hxz hf6)
            have HN6 := Lib.hid HN2.out.lt
            have hqn := HP5.out.inn
            unfold putFive at HN1 HN2 HN3 HN4 HN5 HN6
            clear hf6
            go_wp2
            go_roundg G
            case measure => have := HGJ.out; omega
            case rel => exact ⟨0, q1, _, 32, on, _, none, 0, 0, some ⟨w5.heap.size, 0, none⟩, 2, 2, rfl, by omega, HN4.out, HN3.out, HN5.out, HN2.out, HN1.out, HN6.out, HR.out, by have := HGJ.out; omega, by omega⟩
        · rw [show Pl.sideOf 2 = (2, 1) from rfl] at HR
          go_wp2
          generalize World.setCell wb ⟨g, 1, none⟩ (.int .i64 ((j : Int) + 1)) = wc at *
          replace HP := Lib.hid HPN.out
          clear HPN g1 f1
          have HPD := Lib.hid (HP.out.below (Below.refl wc.heap.size wc).drew)
          have HZLT := Lib.hid HZ.out.lt
          have hzx : ¬ z = w.heap.size := by have := HZL.out; omega
          have hxz : ¬ w.heap.size = z := by have := HZL.out; omega
          obtain ⟨hzc0, hzc1, hzc2, hzc3, hzc4⟩ := five_cells HZ.out
          go_region_law (go_simp; go_at_call 67; refine (Hop.out _ 2 _ (by omega) (by omega) HPD.out).mono ?_; rintro e w5 ho; rcases TreeOut.split ho with ⟨q1, hri, rfl, hf⟩ | ⟨ty, q1, y0, y1, y2, ya, yl, yc, yd, ye, yf, hri, rfl, ht, hp, hf⟩; exact ⟨rfl, tree_bad (HR.out.trans (by rw [hri, Pl.PR.then_bad])) (HF.out.trans ((fr_drew g wc).trans hf))⟩; have HRI := Lib.hid hri; have HYT := Lib.hid ht; have HF5 := Lib.hid ((fr_drew g wc).trans hf); have HP5 := Lib.hid hp; have HZ5 := Lib.hid (blk_fr HZ.out (by have := HZL.out; have := HG.out; omega) HF5.out); have HZ6 := Lib.hid (blk_fr HZ5.out (by have := HZL.out; have := HG.out; omega) (fr_new g w5 (.cells #[.int .i64 x0, .int .i64 x1, .string x2, .slice xa xl xc, .slice xd xe xf, .int .i64 y0, .int .i64 y1, .string y2, .slice ya yl yc, .slice yd ye yf] 27))); obtain ⟨r0, r1, r2, r3, r4⟩ := five_cells HZ5.out; obtain ⟨d0, d1, d2, d3, d4⟩ := five_cells HZ6.out; have f0 := HZ6.out.thaw 0; have f1 := HZ6.out.thaw 1; have f2 := HZ6.out.thaw 2; have f3 := HZ6.out.thaw 3; have f4 := HZ6.out.thaw 4; clear ho hri ht hp hf)
          all_goals
            have hgo := Hgo.out.oper _ _ _ _ HRI.out
            rw [HRI.out, Pl.PR.then_ok] at HR
            have hsz5 : (World.heap wc).size ≤ (World.heap w5).size := HF5.out.size
            have HN0 := Lib.hid (treex_fr HTX.out (.inl HGB.out) HF5.out)
            have HN1 := Lib.hid (node_two (V := wc) (op := 32) (n := on) (z0 := (.int .i64 32)) (z1 := (.int .i64 on)) (z2 := (.string ⟨#[]⟩)) (z3 := (.slice none 0 0)) (z4 := (.slice (some ⟨w5.heap.size, 0, none⟩) 2 2)) (by have := HZW.out; have := HZLT.out; omega) HZLT.out hsz5 HN0.out HYT.out)
            have HN2 := Lib.hid (putFive_blk HZ6.out (.int .i64 32) (.int .i64 on) (.string ⟨#[]⟩) (.slice none 0 0) (.slice (some ⟨w5.heap.size, 0, none⟩) 2 2))
            have hf6 := fr_putFive (w5.alloc (.cells #[.int .i64 x0, .int .i64 x1, .string x2, .slice xa xl xc, .slice xd xe xf, .int .i64 y0, .int .i64 y1, .string y2, .slice ya yl yc, .slice yd ye yf] 27)) z (.int .i64 32) (.int .i64 on) (.string ⟨#[]⟩) (.slice none 0 0) (.slice (some ⟨w5.heap.size, 0, none⟩) 2 2)
            have HN3 := Lib.hid (fr_over ((HF.out.trans HF5.out).trans (fr_new g w5 (.cells #[.int .i64 x0, .int .i64 x1, .string x2, .slice xa xl xc, .slice xd xe xf, .int .i64 y0, .int .i64 y1, .string y2, .slice ya yl yc, .slice yd ye yf] 27))) (Nat.le_of_lt HZL.out) hf6)
            have HN4 := Lib.hid (pat_fr (HP5.out.below ((Below.refl _ _).alloc (Nat.le_refl _) (.cells #[.int .i64 x0, .int .i64 x1, .string x2, .slice xa xl xc, .slice xd xe xf, .int .i64 y0, .int .i64 y1, .string y2, .slice ya yl yc, .slice yd ye yf] 27))) (by have := HZL.out; have := HG.out; omega) hf6)
            have HN5 := Lib.hid (blk_fr (blk_fr (blk_fr HX.out (by have := HG.out; omega) HF5.out) (by have := HG.out; omega) (fr_new g w5 (.cells #[.int .i64 x0, .int .i64 x1, .string x2, .slice xa xl xc, .slice xd xe xf, .int .i64 y0, .int .i64 y1, .string y2, .slice ya yl yc, .slice yd ye yf] 27))) hxz hf6)
            have HN6 := Lib.hid HN2.out.lt
            have hqn := HP5.out.inn
            unfold putFive at HN1 HN2 HN3 HN4 HN5 HN6
            clear hf6
            go_wp2
            go_roundg G
            case measure => have := HGJ.out; omega
            case rel => exact ⟨1, q1, _, 32, on, _, none, 0, 0, some ⟨w5.heap.size, 0, none⟩, 2, 2, rfl, by omega, HN4.out, HN3.out, HN5.out, HN2.out, HN1.out, HN6.out, HR.out, by have := HGJ.out; omega, by omega⟩
        · rw [show Pl.sideOf 3 = (4, 2) from rfl] at HR
          go_wp2
          generalize World.setCell wb ⟨g, 1, none⟩ (.int .i64 ((j : Int) + 1)) = wc at *
          replace HP := Lib.hid HPN.out
          clear HPN g1 f1
          have HPD := Lib.hid (HP.out.below (Below.refl wc.heap.size wc).drew)
          have HZLT := Lib.hid HZ.out.lt
          have hzx : ¬ z = w.heap.size := by have := HZL.out; omega
          have hxz : ¬ w.heap.size = z := by have := HZL.out; omega
          obtain ⟨hzc0, hzc1, hzc2, hzc3, hzc4⟩ := five_cells HZ.out
          go_region_law (go_simp; go_at_call 67; refine (Hop.out _ 4 _ (by omega) (by omega) HPD.out).mono ?_; rintro e w5 ho; rcases TreeOut.split ho with ⟨q1, hri, rfl, hf⟩ | ⟨ty, q1, y0, y1, y2, ya, yl, yc, yd, ye, yf, hri, rfl, ht, hp, hf⟩; exact ⟨rfl, tree_bad (HR.out.trans (by rw [hri, Pl.PR.then_bad])) (HF.out.trans ((fr_drew g wc).trans hf))⟩; have HRI := Lib.hid hri; have HYT := Lib.hid ht; have HF5 := Lib.hid ((fr_drew g wc).trans hf); have HP5 := Lib.hid hp; have HZ5 := Lib.hid (blk_fr HZ.out (by have := HZL.out; have := HG.out; omega) HF5.out); have HZ6 := Lib.hid (blk_fr HZ5.out (by have := HZL.out; have := HG.out; omega) (fr_new g w5 (.cells #[.int .i64 x0, .int .i64 x1, .string x2, .slice xa xl xc, .slice xd xe xf, .int .i64 y0, .int .i64 y1, .string y2, .slice ya yl yc, .slice yd ye yf] 27))); obtain ⟨r0, r1, r2, r3, r4⟩ := five_cells HZ5.out; obtain ⟨d0, d1, d2, d3, d4⟩ := five_cells HZ6.out; have f0 := HZ6.out.thaw 0; have f1 := HZ6.out.thaw 1; have f2 := HZ6.out.thaw 2; have f3 := HZ6.out.thaw 3; have f4 := HZ6.out.thaw 4; clear ho hri ht hp hf)
          all_goals
            have hgo := Hgo.out.oper _ _ _ _ HRI.out
            rw [HRI.out, Pl.PR.then_ok] at HR
            have hsz5 : (World.heap wc).size ≤ (World.heap w5).size := HF5.out.size
            have HN0 := Lib.hid (treex_fr HTX.out (.inl HGB.out) HF5.out)
            have HN1 := Lib.hid (node_two (V := wc) (op := 32) (n := on) (z0 := (.int .i64 32)) (z1 := (.int .i64 on)) (z2 := (.string ⟨#[]⟩)) (z3 := (.slice none 0 0)) (z4 := (.slice (some ⟨w5.heap.size, 0, none⟩) 2 2)) (by have := HZW.out; have := HZLT.out; omega) HZLT.out hsz5 HN0.out HYT.out)
            have HN2 := Lib.hid (putFive_blk HZ6.out (.int .i64 32) (.int .i64 on) (.string ⟨#[]⟩) (.slice none 0 0) (.slice (some ⟨w5.heap.size, 0, none⟩) 2 2))
            have hf6 := fr_putFive (w5.alloc (.cells #[.int .i64 x0, .int .i64 x1, .string x2, .slice xa xl xc, .slice xd xe xf, .int .i64 y0, .int .i64 y1, .string y2, .slice ya yl yc, .slice yd ye yf] 27)) z (.int .i64 32) (.int .i64 on) (.string ⟨#[]⟩) (.slice none 0 0) (.slice (some ⟨w5.heap.size, 0, none⟩) 2 2)
            have HN3 := Lib.hid (fr_over ((HF.out.trans HF5.out).trans (fr_new g w5 (.cells #[.int .i64 x0, .int .i64 x1, .string x2, .slice xa xl xc, .slice xd xe xf, .int .i64 y0, .int .i64 y1, .string y2, .slice ya yl yc, .slice yd ye yf] 27))) (Nat.le_of_lt HZL.out) hf6)
            have HN4 := Lib.hid (pat_fr (HP5.out.below ((Below.refl _ _).alloc (Nat.le_refl _) (.cells #[.int .i64 x0, .int .i64 x1, .string x2, .slice xa xl xc, .slice xd xe xf, .int .i64 y0, .int .i64 y1, .string y2, .slice ya yl yc, .slice yd ye yf] 27))) (by have := HZL.out; have := HG.out; omega) hf6)
            have HN5 := Lib.hid (blk_fr (blk_fr (blk_fr HX.out (by have := HG.out; omega) HF5.out) (by have := HG.out; omega) (fr_new g w5 (.cells #[.int .i64 x0, .int .i64 x1, .string x2, .slice xa xl xc, .slice xd xe xf, .int .i64 y0, .int .i64 y1, .string y2, .slice ya yl yc, .slice yd ye yf] 27))) hxz hf6)
            have HN6 := Lib.hid HN2.out.lt
            have hqn := HP5.out.inn
            unfold putFive at HN1 HN2 HN3 HN4 HN5 HN6
            clear hf6
            go_wp2
            go_roundg G
            case measure => have := HGJ.out; omega
            case rel => exact ⟨2, q1, _, 32, on, _, none, 0, 0, some ⟨w5.heap.size, 0, none⟩, 2, 2, rfl, by omega, HN4.out, HN3.out, HN5.out, HN2.out, HN1.out, HN6.out, HR.out, by have := HGJ.out; omega, by omega⟩
        · rw [show Pl.sideOf 4 = (4, 3) from rfl] at HR
          go_wp2
          generalize World.setCell wb ⟨g, 1, none⟩ (.int .i64 ((j : Int) + 1)) = wc at *
          replace HP := Lib.hid HPN.out
          clear HPN g1 f1
          have HPD := Lib.hid (HP.out.below (Below.refl wc.heap.size wc).drew)
          have HZLT := Lib.hid HZ.out.lt
          have hzx : ¬ z = w.heap.size := by have := HZL.out; omega
          have hxz : ¬ w.heap.size = z := by have := HZL.out; omega
          obtain ⟨hzc0, hzc1, hzc2, hzc3, hzc4⟩ := five_cells HZ.out
          go_region_law (go_simp; go_at_call 67; refine (Hop.out _ 4 _ (by omega) (by omega) HPD.out).mono ?_; rintro e w5 ho; rcases TreeOut.split ho with ⟨q1, hri, rfl, hf⟩ | ⟨ty, q1, y0, y1, y2, ya, yl, yc, yd, ye, yf, hri, rfl, ht, hp, hf⟩; exact ⟨rfl, tree_bad (HR.out.trans (by rw [hri, Pl.PR.then_bad])) (HF.out.trans ((fr_drew g wc).trans hf))⟩; have HRI := Lib.hid hri; have HYT := Lib.hid ht; have HF5 := Lib.hid ((fr_drew g wc).trans hf); have HP5 := Lib.hid hp; have HZ5 := Lib.hid (blk_fr HZ.out (by have := HZL.out; have := HG.out; omega) HF5.out); have HZ6 := Lib.hid (blk_fr HZ5.out (by have := HZL.out; have := HG.out; omega) (fr_new g w5 (.cells #[.int .i64 x0, .int .i64 x1, .string x2, .slice xa xl xc, .slice xd xe xf, .int .i64 y0, .int .i64 y1, .string y2, .slice ya yl yc, .slice yd ye yf] 27))); obtain ⟨r0, r1, r2, r3, r4⟩ := five_cells HZ5.out; obtain ⟨d0, d1, d2, d3, d4⟩ := five_cells HZ6.out; have f0 := HZ6.out.thaw 0; have f1 := HZ6.out.thaw 1; have f2 := HZ6.out.thaw 2; have f3 := HZ6.out.thaw 3; have f4 := HZ6.out.thaw 4; clear ho hri ht hp hf)
          all_goals
            have hgo := Hgo.out.oper _ _ _ _ HRI.out
            rw [HRI.out, Pl.PR.then_ok] at HR
            have hsz5 : (World.heap wc).size ≤ (World.heap w5).size := HF5.out.size
            have HN0 := Lib.hid (treex_fr HTX.out (.inl HGB.out) HF5.out)
            have HN1 := Lib.hid (node_two (V := wc) (op := 32) (n := on) (z0 := (.int .i64 32)) (z1 := (.int .i64 on)) (z2 := (.string ⟨#[]⟩)) (z3 := (.slice none 0 0)) (z4 := (.slice (some ⟨w5.heap.size, 0, none⟩) 2 2)) (by have := HZW.out; have := HZLT.out; omega) HZLT.out hsz5 HN0.out HYT.out)
            have HN2 := Lib.hid (putFive_blk HZ6.out (.int .i64 32) (.int .i64 on) (.string ⟨#[]⟩) (.slice none 0 0) (.slice (some ⟨w5.heap.size, 0, none⟩) 2 2))
            have hf6 := fr_putFive (w5.alloc (.cells #[.int .i64 x0, .int .i64 x1, .string x2, .slice xa xl xc, .slice xd xe xf, .int .i64 y0, .int .i64 y1, .string y2, .slice ya yl yc, .slice yd ye yf] 27)) z (.int .i64 32) (.int .i64 on) (.string ⟨#[]⟩) (.slice none 0 0) (.slice (some ⟨w5.heap.size, 0, none⟩) 2 2)
            have HN3 := Lib.hid (fr_over ((HF.out.trans HF5.out).trans (fr_new g w5 (.cells #[.int .i64 x0, .int .i64 x1, .string x2, .slice xa xl xc, .slice xd xe xf, .int .i64 y0, .int .i64 y1, .string y2, .slice ya yl yc, .slice yd ye yf] 27))) (Nat.le_of_lt HZL.out) hf6)
            have HN4 := Lib.hid (pat_fr (HP5.out.below ((Below.refl _ _).alloc (Nat.le_refl _) (.cells #[.int .i64 x0, .int .i64 x1, .string x2, .slice xa xl xc, .slice xd xe xf, .int .i64 y0, .int .i64 y1, .string y2, .slice ya yl yc, .slice yd ye yf] 27))) (by have := HZL.out; have := HG.out; omega) hf6)
            have HN5 := Lib.hid (blk_fr (blk_fr (blk_fr HX.out (by have := HG.out; omega) HF5.out) (by have := HG.out; omega) (fr_new g w5 (.cells #[.int .i64 x0, .int .i64 x1, .string x2, .slice xa xl xc, .slice xd xe xf, .int .i64 y0, .int .i64 y1, .string y2, .slice ya yl yc, .slice yd ye yf] 27))) hxz hf6)
            have HN6 := Lib.hid HN2.out.lt
            have hqn := HP5.out.inn
            unfold putFive at HN1 HN2 HN3 HN4 HN5 HN6
            clear hf6
            go_wp2
            go_roundg G
            case measure => have := HGJ.out; omega
            case rel => exact ⟨3, q1, _, 32, on, _, none, 0, 0, some ⟨w5.heap.size, 0, none⟩, 2, 2, rfl, by omega, HN4.out, HN3.out, HN5.out, HN2.out, HN1.out, HN6.out, HR.out, by have := HGJ.out; omega, by omega⟩
        · rw [show Pl.sideOf 5 = (6, 5) from rfl] at HR
          go_wp2
          generalize World.setCell wb ⟨g, 1, none⟩ (.int .i64 ((j : Int) + 1)) = wc at *
          replace HP := Lib.hid HPN.out
          clear HPN g1 f1
          have HPD := Lib.hid (HP.out.below (Below.refl wc.heap.size wc).drew)
          have HZLT := Lib.hid HZ.out.lt
          have hzx : ¬ z = w.heap.size := by have := HZL.out; omega
          have hxz : ¬ w.heap.size = z := by have := HZL.out; omega
          obtain ⟨hzc0, hzc1, hzc2, hzc3, hzc4⟩ := five_cells HZ.out
          go_region_law (go_simp; go_at_call 67; refine (Hop.out _ 6 _ (by omega) (by omega) HPD.out).mono ?_; rintro e w5 ho; rcases TreeOut.split ho with ⟨q1, hri, rfl, hf⟩ | ⟨ty, q1, y0, y1, y2, ya, yl, yc, yd, ye, yf, hri, rfl, ht, hp, hf⟩; exact ⟨rfl, tree_bad (HR.out.trans (by rw [hri, Pl.PR.then_bad])) (HF.out.trans ((fr_drew g wc).trans hf))⟩; have HRI := Lib.hid hri; have HYT := Lib.hid ht; have HF5 := Lib.hid ((fr_drew g wc).trans hf); have HP5 := Lib.hid hp; have HZ5 := Lib.hid (blk_fr HZ.out (by have := HZL.out; have := HG.out; omega) HF5.out); have HZ6 := Lib.hid (blk_fr HZ5.out (by have := HZL.out; have := HG.out; omega) (fr_new g w5 (.cells #[.int .i64 x0, .int .i64 x1, .string x2, .slice xa xl xc, .slice xd xe xf, .int .i64 y0, .int .i64 y1, .string y2, .slice ya yl yc, .slice yd ye yf] 27))); obtain ⟨r0, r1, r2, r3, r4⟩ := five_cells HZ5.out; obtain ⟨d0, d1, d2, d3, d4⟩ := five_cells HZ6.out; have f0 := HZ6.out.thaw 0; have f1 := HZ6.out.thaw 1; have f2 := HZ6.out.thaw 2; have f3 := HZ6.out.thaw 3; have f4 := HZ6.out.thaw 4; clear ho hri ht hp hf)
          all_goals
            have hgo := Hgo.out.oper _ _ _ _ HRI.out
            rw [HRI.out, Pl.PR.then_ok] at HR
            have hsz5 : (World.heap wc).size ≤ (World.heap w5).size := HF5.out.size
            have HN0 := Lib.hid (treex_fr HTX.out (.inl HGB.out) HF5.out)
            have HN1 := Lib.hid (node_two (V := wc) (op := 32) (n := on) (z0 := (.int .i64 32)) (z1 := (.int .i64 on)) (z2 := (.string ⟨#[]⟩)) (z3 := (.slice none 0 0)) (z4 := (.slice (some ⟨w5.heap.size, 0, none⟩) 2 2)) (by have := HZW.out; have := HZLT.out; omega) HZLT.out hsz5 HN0.out HYT.out)
            have HN2 := Lib.hid (putFive_blk HZ6.out (.int .i64 32) (.int .i64 on) (.string ⟨#[]⟩) (.slice none 0 0) (.slice (some ⟨w5.heap.size, 0, none⟩) 2 2))
            have hf6 := fr_putFive (w5.alloc (.cells #[.int .i64 x0, .int .i64 x1, .string x2, .slice xa xl xc, .slice xd xe xf, .int .i64 y0, .int .i64 y1, .string y2, .slice ya yl yc, .slice yd ye yf] 27)) z (.int .i64 32) (.int .i64 on) (.string ⟨#[]⟩) (.slice none 0 0) (.slice (some ⟨w5.heap.size, 0, none⟩) 2 2)
            have HN3 := Lib.hid (fr_over ((HF.out.trans HF5.out).trans (fr_new g w5 (.cells #[.int .i64 x0, .int .i64 x1, .string x2, .slice xa xl xc, .slice xd xe xf, .int .i64 y0, .int .i64 y1, .string y2, .slice ya yl yc, .slice yd ye yf] 27))) (Nat.le_of_lt HZL.out) hf6)
            have HN4 := Lib.hid (pat_fr (HP5.out.below ((Below.refl _ _).alloc (Nat.le_refl _) (.cells #[.int .i64 x0, .int .i64 x1, .string x2, .slice xa xl xc, .slice xd xe xf, .int .i64 y0, .int .i64 y1, .string y2, .slice ya yl yc, .slice yd ye yf] 27))) (by have := HZL.out; have := HG.out; omega) hf6)
            have HN5 := Lib.hid (blk_fr (blk_fr (blk_fr HX.out (by have := HG.out; omega) HF5.out) (by have := HG.out; omega) (fr_new g w5 (.cells #[.int .i64 x0, .int .i64 x1, .string x2, .slice xa xl xc, .slice xd xe xf, .int .i64 y0, .int .i64 y1, .string y2, .slice ya yl yc, .slice yd ye yf] 27))) hxz hf6)
            have HN6 := Lib.hid HN2.out.lt
            have hqn := HP5.out.inn
            unfold putFive at HN1 HN2 HN3 HN4 HN5 HN6
            clear hf6
            go_wp2
            go_roundg G
            case measure => have := HGJ.out; omega
            case rel => exact ⟨5, q1, _, 32, on, _, none, 0, 0, some ⟨w5.heap.size, 0, none⟩, 2, 2, rfl, by omega, HN4.out, HN3.out, HN5.out, HN2.out, HN1.out, HN6.out, HR.out, by have := HGJ.out; omega, by omega⟩
        · rw [show Pl.sideOf 6 = (7, 6) from rfl] at HR
          go_wp2
          generalize World.setCell wb ⟨g, 1, none⟩ (.int .i64 ((j : Int) + 1)) = wc at *
          replace HP := Lib.hid HPN.out
          clear HPN g1 f1
          have HPD := Lib.hid (HP.out.below (Below.refl wc.heap.size wc).drew)
          have HZLT := Lib.hid HZ.out.lt
          have hzx : ¬ z = w.heap.size := by have := HZL.out; omega
          have hxz : ¬ w.heap.size = z := by have := HZL.out; omega
          obtain ⟨hzc0, hzc1, hzc2, hzc3, hzc4⟩ := five_cells HZ.out
          go_region_law (go_simp; go_at_call 67; refine (Hop.out _ 7 _ (by omega) (by omega) HPD.out).mono ?_; rintro e w5 ho; rcases TreeOut.split ho with ⟨q1, hri, rfl, hf⟩ | ⟨ty, q1, y0, y1, y2, ya, yl, yc, yd, ye, yf, hri, rfl, ht, hp, hf⟩; exact ⟨rfl, tree_bad (HR.out.trans (by rw [hri, Pl.PR.then_bad])) (HF.out.trans ((fr_drew g wc).trans hf))⟩; have HRI := Lib.hid hri; have HYT := Lib.hid ht; have HF5 := Lib.hid ((fr_drew g wc).trans hf); have HP5 := Lib.hid hp; have HZ5 := Lib.hid (blk_fr HZ.out (by have := HZL.out; have := HG.out; omega) HF5.out); have HZ6 := Lib.hid (blk_fr HZ5.out (by have := HZL.out; have := HG.out; omega) (fr_new g w5 (.cells #[.int .i64 x0, .int .i64 x1, .string x2, .slice xa xl xc, .slice xd xe xf, .int .i64 y0, .int .i64 y1, .string y2, .slice ya yl yc, .slice yd ye yf] 27))); obtain ⟨r0, r1, r2, r3, r4⟩ := five_cells HZ5.out; obtain ⟨d0, d1, d2, d3, d4⟩ := five_cells HZ6.out; have f0 := HZ6.out.thaw 0; have f1 := HZ6.out.thaw 1; have f2 := HZ6.out.thaw 2; have f3 := HZ6.out.thaw 3; have f4 := HZ6.out.thaw 4; clear ho hri ht hp hf)
          all_goals
            have hgo := Hgo.out.oper _ _ _ _ HRI.out
            rw [HRI.out, Pl.PR.then_ok] at HR
            have hsz5 : (World.heap wc).size ≤ (World.heap w5).size := HF5.out.size
            have HN0 := Lib.hid (treex_fr HTX.out (.inl HGB.out) HF5.out)
            have HN1 := Lib.hid (node_two (V := wc) (op := 32) (n := on) (z0 := (.int .i64 32)) (z1 := (.int .i64 on)) (z2 := (.string ⟨#[]⟩)) (z3 := (.slice none 0 0)) (z4 := (.slice (some ⟨w5.heap.size, 0, none⟩) 2 2)) (by have := HZW.out; have := HZLT.out; omega) HZLT.out hsz5 HN0.out HYT.out)
            have HN2 := Lib.hid (putFive_blk HZ6.out (.int .i64 32) (.int .i64 on) (.string ⟨#[]⟩) (.slice none 0 0) (.slice (some ⟨w5.heap.size, 0, none⟩) 2 2))
            have hf6 := fr_putFive (w5.alloc (.cells #[.int .i64 x0, .int .i64 x1, .string x2, .slice xa xl xc, .slice xd xe xf, .int .i64 y0, .int .i64 y1, .string y2, .slice ya yl yc, .slice yd ye yf] 27)) z (.int .i64 32) (.int .i64 on) (.string ⟨#[]⟩) (.slice none 0 0) (.slice (some ⟨w5.heap.size, 0, none⟩) 2 2)
            have HN3 := Lib.hid (fr_over ((HF.out.trans HF5.out).trans (fr_new g w5 (.cells #[.int .i64 x0, .int .i64 x1, .string x2, .slice xa xl xc, .slice xd xe xf, .int .i64 y0, .int .i64 y1, .string y2, .slice ya yl yc, .slice yd ye yf] 27))) (Nat.le_of_lt HZL.out) hf6)
            have HN4 := Lib.hid (pat_fr (HP5.out.below ((Below.refl _ _).alloc (Nat.le_refl _) (.cells #[.int .i64 x0, .int .i64 x1, .string x2, .slice xa xl xc, .slice xd xe xf, .int .i64 y0, .int .i64 y1, .string y2, .slice ya yl yc, .slice yd ye yf] 27))) (by have := HZL.out; have := HG.out; omega) hf6)
            have HN5 := Lib.hid (blk_fr (blk_fr (blk_fr HX.out (by have := HG.out; omega) HF5.out) (by have := HG.out; omega) (fr_new g w5 (.cells #[.int .i64 x0, .int .i64 x1, .string x2, .slice xa xl xc, .slice xd xe xf, .int .i64 y0, .int .i64 y1, .string y2, .slice ya yl yc, .slice yd ye yf] 27))) hxz hf6)
            have HN6 := Lib.hid HN2.out.lt
            have hqn := HP5.out.inn
            unfold putFive at HN1 HN2 HN3 HN4 HN5 HN6
            clear hf6
            go_wp2
            go_roundg G
            case measure => have := HGJ.out; omega
            case rel => exact ⟨6, q1, _, 32, on, _, none, 0, 0, some ⟨w5.heap.size, 0, none⟩, 2, 2, rfl, by omega, HN4.out, HN3.out, HN5.out, HN2.out, HN1.out, HN6.out, HR.out, by have := HGJ.out; omega, by omega⟩
end Go.Proofs.YtjedahcpkcgpeaaGreatDoor
