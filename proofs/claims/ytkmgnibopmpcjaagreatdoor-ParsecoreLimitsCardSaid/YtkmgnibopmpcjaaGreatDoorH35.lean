/-
  Walks and plain mathematics, several texts in one (Ss Tb Tc).
-/
import Derived.Test.YtkmgnibopmpcjaaGreatDoorH34
import Derived.Deep.QuietTactic
import Derived.StillTailTactics
/-
  Walks of layer 3: the reference's Equal.
-/
namespace Go.Proofs.YtkmgnibopmpcjaaGreatDoor
open Go Go.RowKit
open Pl (Syn)
theorem StrSl.at {w : World} {P : Nat → Prop} {v : Value} {zs : List ByteArray} (h : StrSl w P v zs) (k : Nat) (hk : k < zs.length) : ∃ b off c, v = .slice (some ⟨b, off, none⟩) zs.length c ∧ P b ∧ zs.length ≤ maxLen ∧ w.cell? ⟨b, off + k, none⟩ = some (.string zs[k]) := by
  obtain ⟨a, c, rfl, h1, h2, h3, h4, h5⟩ := h
  rcases h5 with h5 | ⟨b, off, rfl, h6, h7⟩
  · rw [h5] at hk; simp at hk
  · exact ⟨b, off, c, rfl, h6, Nat.le_trans h1 h2, h7 k hk⟩
theorem SynSl.at {w : World} {P : Nat → Prop} {v : Value} {l : List Syn} (h : SynSl w P v l) (k : Nat) (hk : k < l.length) : ∃ b off c, v = .slice (some ⟨b, off, none⟩) l.length c ∧ P b ∧ l.length ≤ maxLen ∧ KidsAt w P l b off := by
  obtain ⟨a, c, rfl, h1, h2, h3, h5⟩ := h
  rcases h5 with h5 | ⟨b, off, rfl, h6, h7⟩
  · rw [h5] at hk; simp at hk
  · exact ⟨b, off, c, rfl, h6, Nat.le_trans h1 h2, h7⟩
theorem SynSl.form {w : World} {P : Nat → Prop} {v : Value} {l : List Syn} (h : SynSl w P v l) : ∃ a c, v = .slice a l.length c ∧ l.length ≤ maxLen := by
  obtain ⟨a, c, rfl, h1, h2, _⟩ := h
  exact ⟨a, c, rfl, Nat.le_trans h1 h2⟩
theorem StrSl.form {w : World} {P : Nat → Prop} {v : Value} {l : List ByteArray} (h : StrSl w P v l) : ∃ a c, v = .slice a l.length c ∧ l.length ≤ maxLen := by
  obtain ⟨a, c, rfl, h1, h2, _⟩ := h
  exact ⟨a, c, rfl, Nat.le_trans h1 h2⟩
theorem takes_snoc {l m : List ByteArray} (k : Nat) (hl : k < l.length) (hm : k < m.length) (h : l.take k = m.take k) : l.take (k + 1) = m.take (k + 1) ↔ l[k] = m[k] := by
  rw [List.take_succ_eq_append_getElem hl, List.take_succ_eq_append_getElem hm, h]
  simp only [List.append_cancel_left_eq, List.cons.injEq, and_true]
theorem ne_lists {a b : ByteArray} (h : a ≠ b) : ¬ a.toList = b.toList := fun e => h ((Lib.bytes_beq_iff _ _).1 (by simp [e]))
def REqSpec (x : Syn) : Prop := ∀ (P Q : Nat → Prop) (y : Syn) (w : World) (v u : Value), (∀ b, P b → b < w.heap.size) → (∀ b, Q b → b < w.heap.size) → SynV w P x v → SynV w Q y u → Calls Tryz.prog 14 #[v, u] w (Tells (x = y) w)
def Boxes (g : Nat) (xs ys : Array Value) (w : World) : Prop := Blk w g 28 xs ∧ Blk w (g + 1) 28 ys
theorem Boxes.below {g : Nat} {xs ys : Array Value} {w w' : World} (h : Boxes g xs ys w) (hb : Below w.heap.size w w') : Boxes g xs ys w' := ⟨h.1.of_eq (hb.block _ h.1.lt), h.2.of_eq (hb.block _ h.2.lt)⟩
theorem boxes_new (w : World) (xs ys : Array Value) : Boxes w.heap.size xs ys ((w.alloc (.cells xs 28)).alloc (.cells ys 28)) := by
  have h := blk_new (w.alloc (.cells xs 28)) ys 28
  rw [size_alloc] at h
  exact ⟨(blk_new w xs 28).alloc _, h⟩
set_option maxRecDepth 100000 in
set_option maxHeartbeats 8000000 in
theorem requal_any (x : Syn) : REqSpec x := by
  induction x using Syn.ind with
  | h x ih =>
  intro P Q y w v u hP hQ hx hy
  rw [synV_iff] at hx hy
  obtain ⟨-, xnv, xlv, rfl, hxn, hxl⟩ := hx
  obtain ⟨-, ynv, ylv, rfl, hyn, hyl⟩ := hy
  have hpq := syn_ext (x := x) (y := y)
  have hb := below2 w (.cells #[.int .i64 x.op, .int .i64 x.n, .string x.s, xnv, xlv] 28) (.cells #[.int .i64 y.op, .int .i64 y.n, .string y.s, ynv, ylv] 28)
  have hbx := boxes_new w #[.int .i64 x.op, .int .i64 x.n, .string x.s, xnv, xlv] #[.int .i64 y.op, .int .i64 y.n, .string y.s, ynv, ylv]
  have HIH := Lib.hid ih
  have HB := Lib.hid hb
  have HP := Lib.hid hP
  have HQ := Lib.hid hQ
  have HXN := Lib.hid hxn
  have HXL := Lib.hid hxl
  have HYN := Lib.hid hyn
  have HYL := Lib.hid hyl
  clear hP hQ ih hb
  obtain ⟨na, nc, rfl, hnm⟩ := hxn.form
  obtain ⟨la, lc, rfl, hlm⟩ := hxl.form
  obtain ⟨ma, mc, rfl, hmm⟩ := hyn.form
  obtain ⟨ka, kc, rfl, hkm⟩ := hyl.form
  unfold maxLen at hnm hlm hmm hkm
  clear hxn hxl hyn hyl
  have x0 := hbx.1.cell 0 _ rfl
  have x1 := hbx.1.cell 1 _ rfl
  have x2 := hbx.1.cell 2 _ rfl
  have x3 := hbx.1.cell 3 _ rfl
  have x4 := hbx.1.cell 4 _ rfl
  have y0 := hbx.2.cell 0 _ rfl
  have y1 := hbx.2.cell 1 _ rfl
  have y2 := hbx.2.cell 2 _ rfl
  have y3 := hbx.2.cell 3 _ rfl
  have y4 := hbx.2.cell 4 _ rfl
  generalize hsn : x.names.length = sn at *
  generalize hsm : y.names.length = sm at *
  generalize hn : x.l.length = n at *
  generalize hm : y.l.length = m at *
  generalize x.op = xo at *
  generalize x.n = xn at *
  generalize x.s = xs at *
  generalize x.names = xm at *
  generalize x.l = xl at *
  generalize y.op = yo at *
  generalize y.n = yn at *
  generalize y.s = ys at *
  generalize y.names = ym at *
  generalize y.l = yl at *
  have HPQ := Lib.hid hpq
  have HBX := Lib.hid hbx
  have HSN := Lib.hid hsn
  have HSM := Lib.hid hsm
  have HN := Lib.hid hn
  have HM := Lib.hid hm
  clear hpq hbx hsn hsm hn hm
  by_cases h0 : xo = yo
  · have q0 : (xo != yo) = false := by simp [h0]
    have H0 := Lib.hid h0
    clear h0
    by_cases h1 : xn = yn
    · have q1 : (xn != yn) = false := by simp [h1]
      have H1 := Lib.hid h1
      clear h1
      by_cases h2 : xs = ys
      · subst h2
        by_cases h3 : sn = sm
        · by_cases h4 : n = m
          · subst h3 h4
            have q3 : ((sn : Int) != (sn : Int)) = false := by simp
            have q4 : ((n : Int) != (n : Int)) = false := by simp
            go_enter Tryz.func14, Tryz.ntmps14
            go_wp2_with fail
            clear x0 x1 x2 x3 x4 y0 y1 y2 y3 y4
            generalize ((w.alloc (.cells #[.int .i64 xo, .int .i64 xn, .string xs, .slice na sn nc, .slice la n lc] 28)).alloc (.cells #[.int .i64 yo, .int .i64 yn, .string xs, .slice ma sn mc, .slice ka n kc] 28)) = w2 at *
            generalize Value.slice na sn nc = g1
            generalize Value.slice la n lc = g2
            generalize Value.slice ma sn mc = g3
            generalize Value.slice ka n kc = g4
            go_loopg [5] (sn + 1) (fun g i wr => ∃ k : Nat, k ≤ sn ∧ i = .int .i64 k ∧ g = sn + 1 - k ∧ Below w2.heap.size w2 wr ∧ xm.take k = ym.take k)
            case atStart => exact ⟨0, by omega, rfl, by omega, Below.refl _ _, rfl⟩
            case round =>
              obtain ⟨k, hk, rfl, hg, hbw, htk⟩ := hrel
              have HTK := Lib.hid htk
              have HBW := Lib.hid hbw
              have hbx := HBX.out.below hbw
              have z3 := hbx.1.cell 3 _ rfl
              have u3 := hbx.2.cell 3 _ rfl
              have z4 := hbx.1.cell 4 _ rfl
              have hw0 : Below w.heap.size w wr := HB.out.trans (hbw.mono HB.out.size)
              by_cases hlt : k < sn
              · have hkl : k < xm.length := by rw [HSN.out]; exact hlt
                have hkm : k < ym.length := by rw [HSM.out]; exact hlt
                obtain ⟨b1, o1, c1, e1, hp1, -, cx⟩ := (HXN.out.keep (Same.of_below hw0 HP.out)).at k hkl
                obtain ⟨b2, o2, c2, e2, hp2, -, cy⟩ := (HYN.out.keep (Same.of_below hw0 HQ.out)).at k hkm
                have e1' : na = some ⟨b1, o1, none⟩ := by injection e1
                have e2' : ma = some ⟨b2, o2, none⟩ := by injection e2
                clear e1 e2
                subst e1' e2'
                have HS := Lib.hid (takes_snoc k hkl hkm htk)
                have HGE := Lib.hid (show xm = ym → xm[k] = ym[k] from fun h => by subst h; rfl)
                generalize xm[k] = zx at *
                generalize ym[k] = zy at *
                clear hbw htk hbx hw0 hp1 hp2
                by_cases he : zx = zy
                · subst he
                  go_wp2
                  go_quiet (fail)
                  go_wp2
                  go_roundg (gk - 1)
                  case measure => omega
                  case rel => exact ⟨k + 1, by omega, by go_num, by omega, below_drewN HBW.out _, HS.out.2 trivial⟩
                · have q5 : ¬ zx.toList = zy.toList := ne_lists he
                  have q6 : (zx.toList == zy.toList) = false := (Lib.bytes_beq_false_iff _ _).2 he
                  have HE := Lib.hid he
                  clear he
                  go_wp2
                  go_quiet (fail)
                  go_wp2
                  go_ret
                  exact tells_no (fun h => HE.out (HGE.out (HPQ.out.1 h).2.2.2.1)) (below_drewN (HB.out.trans (HBW.out.mono HB.out.size)) _)
              · have hkn : xm = ym := by
                  have := htk
                  rw [List.take_of_length_le (by rw [HSN.out]; omega), List.take_of_length_le (by rw [HSM.out]; omega)] at this
                  exact this
                have H3 := Lib.hid hkn
                clear hbw htk hkn hbx hw0
                rename World => wa
                go_wp2_with fail
                go_loopg [6] (n + 1) (fun g i wr => ∃ k : Nat, k ≤ n ∧ i = .int .i64 k ∧ g = n + 1 - k ∧ Below w2.heap.size w2 wr ∧ xl.take k = yl.take k)
                case atStart => exact ⟨0, by omega, rfl, by omega, HBW.out, rfl⟩
                case round =>
                  clear z3 u3 z4 HBW HTK hlt hk hg
                  obtain ⟨k, hk, rfl, hg, hbw, htk⟩ := hrel
                  have HTK := Lib.hid htk
                  have HBW := Lib.hid hbw
                  have hbx := HBX.out.below hbw
                  have z4 := hbx.1.cell 4 _ rfl
                  have u4 := hbx.2.cell 4 _ rfl
                  have hw0 : Below w.heap.size w wr := HB.out.trans (hbw.mono HB.out.size)
                  by_cases hlt : k < n
                  · have hkl : k < xl.length := by rw [HN.out]; exact hlt
                    have hkm : k < yl.length := by rw [HM.out]; exact hlt
                    obtain ⟨b1, o1, c1, e1, hp1, -, kx⟩ := (HXL.out.keep (Same.of_below hw0 HP.out)).at k hkl
                    obtain ⟨b2, o2, c2, e2, hp2, -, ky⟩ := (HYL.out.keep (Same.of_below hw0 HQ.out)).at k hkm
                    have e1' : la = some ⟨b1, o1, none⟩ := by injection e1
                    have e2' : ka = some ⟨b2, o2, none⟩ := by injection e2
                    clear e1 e2
                    subst e1' e2'
                    obtain ⟨po, pn, ps, pa, pl, pc, qa, ql, qc, -, a0, a1, a2, a3, a4, hxs⟩ := kx.part k hkl
                    obtain ⟨ro, rn, rs, ra, rl, rc, sa, sl, sc, -, f0, f1, f2, f3, f4, hys⟩ := ky.part k hkm
                    have HC := Lib.hid (fun W (hW : Below wr.heap.size wr W) => HIH.out _ (List.getElem_mem hkl) P Q yl[k] W _ _ (fun b hb => Nat.lt_of_lt_of_le (HP.out b hb) (Nat.le_trans hw0.size hW.size)) (fun b hb => Nat.lt_of_lt_of_le (HQ.out b hb) (Nat.le_trans hw0.size hW.size)) (hxs.keep (Same.of_below hW (fun b hb => Nat.lt_of_lt_of_le (HP.out b hb) hw0.size))) (hys.keep (Same.of_below hW (fun b hb => Nat.lt_of_lt_of_le (HQ.out b hb) hw0.size))))
                    have HS := Lib.hid (take_eq_snoc k hkl hkm htk)
                    have HGE := Lib.hid (show xl = yl → xl[k] = yl[k] from fun h => by subst h; rfl)
                    generalize xl[k] = zx at *
                    generalize yl[k] = zy at *
                    have hzl := hbx.1.lt
                    have hul := hbx.2.lt
                    have hl1 := Nat.lt_of_lt_of_le (HP.out _ hp1) hw0.size
                    have hl2 := Nat.lt_of_lt_of_le (HQ.out _ hp2) hw0.size
                    clear hbw htk hbx hw0 hp1 hp2 kx ky hxs hys
                    go_wp2
                    refine wp_region_still_tail 10 (by kernel_rfl) (by kernel_rfl) ?_
                    have hwd : Below wr.heap.size wr wr.drew := (Below.refl _ _).drew
                    have z4d := (hwd.cell (p := ⟨w.heap.size, 4, none⟩) hzl).trans z4
                    have u4d := (hwd.cell (p := ⟨w.heap.size + 1, 4, none⟩) hul).trans u4
                    have a0d := (hwd.cell (p := ⟨b1, o1 + k * 5, none⟩) hl1).trans a0
                    have a1d := (hwd.cell (p := ⟨b1, o1 + k * 5 + 1, none⟩) hl1).trans a1
                    have a2d := (hwd.cell (p := ⟨b1, o1 + k * 5 + 2, none⟩) hl1).trans a2
                    have a3d := (hwd.cell (p := ⟨b1, o1 + k * 5 + 3, none⟩) hl1).trans a3
                    have a4d := (hwd.cell (p := ⟨b1, o1 + k * 5 + 4, none⟩) hl1).trans a4
                    have f0d := (hwd.cell (p := ⟨b2, o2 + k * 5, none⟩) hl2).trans f0
                    have f1d := (hwd.cell (p := ⟨b2, o2 + k * 5 + 1, none⟩) hl2).trans f1
                    have f2d := (hwd.cell (p := ⟨b2, o2 + k * 5 + 2, none⟩) hl2).trans f2
                    have f3d := (hwd.cell (p := ⟨b2, o2 + k * 5 + 3, none⟩) hl2).trans f3
                    have f4d := (hwd.cell (p := ⟨b2, o2 + k * 5 + 4, none⟩) hl2).trans f4
                    have HWD := Lib.hid hwd
                    clear z4 u4 a0 a1 a2 a3 a4 f0 f1 f2 f3 f4 hwd
                    change wpStill _ _ wr.drew (fun a' => wpList _ _ _ _ a' wr.drew) _ _
                    generalize wr.drew = wd at *
                    simp only [List.take_succ_cons, List.take_zero, List.drop_succ_cons, List.drop_zero]
                    repeat still_step
                    refine wpStill_nil ?_
                    go_wp2_with fail
                    refine (HC.out _ HWD.out).mono ?_
                    rintro e w3 ⟨r, rfl, hr, hb3⟩
                    have HB3 := Lib.hid ((HBW.out.trans (HWD.out.mono HBW.out.size)).trans (hb3.mono (Nat.le_trans HBW.out.size HWD.out.size)))
                    have HRR := Lib.hid hr
                    clear hb3 hr a0d a1d a2d a3d a4d f0d f1d f2d f3d f4d z4d u4d
                    cases r
                    · go_wp2
                      go_ret
                      exact tells_no (fun h => absurd (HRR.out.2 (HGE.out (HPQ.out.1 h).2.2.2.2)) (by simp)) (HB.out.trans (HB3.out.mono HB.out.size))
                    · go_wp2
                      go_roundg (gk - 1)
                      case measure => omega
                      case rel => exact ⟨k + 1, by omega, by go_num, by omega, HB3.out, HS.out.2 (HRR.out.1 trivial)⟩
                  · have hkn : xl = yl := by
                      have := htk
                      rw [List.take_of_length_le (by rw [HN.out]; omega), List.take_of_length_le (by rw [HM.out]; omega)] at this
                      exact this
                    have H4 := Lib.hid hkn
                    have HW0 := Lib.hid hw0
                    clear hbw htk hkn hbx hw0
                    go_wp2
                    go_ret
                    exact tells_yes (HPQ.out.2 ⟨H0.out, H1.out, trivial, H3.out, H4.out⟩) HW0.out
          · subst h3
            have q3 : ((sn : Int) != (sn : Int)) = false := by simp
            have q4 : ((n : Int) != (m : Int)) = true := by simp; omega
            have HNE := Lib.hid (show ¬ xl = yl from fun h => h4 (by rw [← HN.out, ← HM.out, h]))
            go_enter Tryz.func14, Tryz.ntmps14
            go_wp2
            go_ret
            exact tells_no (fun h => HNE.out (HPQ.out.1 h).2.2.2.2) HB.out
        · have q3 : ((sn : Int) != (sm : Int)) = true := by simp; omega
          have HNE := Lib.hid (show ¬ xm = ym from fun h => h3 (by rw [← HSN.out, ← HSM.out, h]))
          go_enter Tryz.func14, Tryz.ntmps14
          go_wp2
          go_ret
          exact tells_no (fun h => HNE.out (HPQ.out.1 h).2.2.2.1) HB.out
      · have q2 : ¬ xs.toList = ys.toList := ne_lists h2
        have q6 : (xs.toList == ys.toList) = false := (Lib.bytes_beq_false_iff _ _).2 h2
        have HNE := Lib.hid h2
        clear h2
        go_enter Tryz.func14, Tryz.ntmps14
        go_wp2
        go_ret
        exact tells_no (fun h => HNE.out (HPQ.out.1 h).2.2.1) HB.out
    · have q1 : (xn != yn) = true := by simpa using h1
      have HNE := Lib.hid h1
      clear h1
      go_enter Tryz.func14, Tryz.ntmps14
      go_wp2
      go_ret
      exact tells_no (fun h => HNE.out (HPQ.out.1 h).2.1) HB.out
  · have q0 : (xo != yo) = true := by simpa using h0
    have HNE := Lib.hid h0
    clear h0
    go_enter Tryz.func14, Tryz.ntmps14
    go_wp2
    go_ret
    exact tells_no (fun h => HNE.out (HPQ.out.1 h).1) HB.out
end Go.Proofs.YtkmgnibopmpcjaaGreatDoor

/-
  Walks of layer 3: texts, numbers, lists of names.
-/
namespace Go.Proofs.YtkmgnibopmpcjaaGreatDoor
open Go Go.RowKit
open Pl (Syn)
set_option linter.unusedSimpArgs false
theorem okByte_iff (b : UInt8) : Pl.okByte b = true ↔ (b.toNat : Int) = 10 ∨ (32 ≤ (b.toNat : Int) ∧ (b.toNat : Int) ≤ 126) := by unfold Pl.okByte; rw [decide_eq_true_eq]
theorem okByte_no (b : UInt8) (h : ¬ ((b.toNat : Int) = 10 ∨ (32 ≤ (b.toNat : Int) ∧ (b.toNat : Int) ≤ 126))) : Pl.okByte b = false := by unfold Pl.okByte; exact decide_eq_false h
theorem text_big (s : ByteArray) (h : 16384 < s.size) : Pl.textS s = false := by unfold Pl.textS; rw [decide_eq_false (by omega)]; rfl
theorem text_bad (s : ByteArray) (k : Nat) (hk : k < s.size) (h : Pl.okByte s[k] = false) : Pl.textS s = false := by unfold Pl.textS; rw [Pl.all_false _ s k hk h, Bool.and_false]
theorem text_good (s : ByteArray) (h0 : s.size ≤ 16384) (h : (s.toList.take s.size).all Pl.okByte = true) : Pl.textS s = true := by
  unfold Pl.textS; rw [Pl.take_all s s.size (Nat.le_refl _)] at h; rw [h, decide_eq_true h0]; rfl
set_option maxRecDepth 100000 in
set_option maxHeartbeats 4000000 in
theorem isText3_any (s : ByteArray) (w : World) (hs : s.size ≤ maxLen) : Calls Tryz.prog 214 #[.string s] w fun e w' => e = .returned (.bool (Pl.textS s)) ∧ w = w' := by
  unfold maxLen at hs
  by_cases hb : 16384 < s.size
  · have HT := Lib.hid (text_big s hb)
    go_enter Tryz.func214, Tryz.ntmps214
    go_wp2
    go_ret
    exact ⟨ret_bool HT.out.symm, rfl⟩
  · go_enter Tryz.func214, Tryz.ntmps214
    go_wp2_with fail
    go_loop [10] (fun i => ∃ k : Nat, k ≤ s.size ∧ i = .int .i64 k ∧ (s.toList.take k).all Pl.okByte = true) (fun i => s.size - (intOf i).toNat)
    case atStart => exact ⟨0, by omega, rfl, by simp⟩
    case round =>
      obtain ⟨k, hk, rfl, hin⟩ := hrel
      have HI := Lib.hid hin
      clear hin
      by_cases hlt : k < s.size
      · have HY := Lib.hid (show Pl.okByte s[k] = true → (s.toList.take (k + 1)).all Pl.okByte = true from fun h => by rw [Pl.all_take _ s k hlt, HI.out, h]; rfl)
        have HN := Lib.hid (fun h => text_bad s k hlt h)
        have HO := Lib.hid (okByte_iff s[k])
        have HO2 := Lib.hid (okByte_no s[k])
        go_wp2
        all_goals
          (try simp only [beq_iff_eq, beq_eq_false_iff_ne, bne_iff_ne, ne_eq, bne_eq_false_iff_eq] at *)
          first
          | (go_ret; exact ⟨ret_bool (HN.out (HO2.out (by omega))).symm, rfl⟩)
          | (go_round
             case rel => exact ⟨k + 1, by omega, by go_num, HY.out (HO.out.2 (by omega))⟩
             case measure => simp [intOf]; omega)
      · obtain rfl : k = s.size := by omega
        go_wp2
        go_ret
        exact ⟨ret_bool (text_good s (by omega) HI.out).symm, rfl⟩
set_option maxRecDepth 100000 in
set_option maxHeartbeats 4000000 in
theorem numberFits_any (op n : Int) (s : ByteArray) (nv lv : Value) (w : World) : Calls Tryz.prog 181 #[.agg #[.int .i64 op, .int .i64 n, .string s, nv, lv]] w fun e w' => e = .returned (.bool (Pl.num op n)) ∧ Below w.heap.size w w' := by
  go_enter Tryz.func181, Tryz.ntmps181
  go_wp2
  all_goals
    go_ret
    refine ⟨ret_bool ?_, (Below.refl _ _).alloc (Nat.le_refl _) _⟩
    (try simp only [beq_iff_eq, beq_eq_false_iff_ne, bne_iff_ne, ne_eq, bne_eq_false_iff_eq] at *)
    unfold Pl.num
    repeat' (first | rw [if_pos (by omega)] | rw [if_neg (by omega)])
    first | (symm; rw [decide_eq_true_eq]; omega) | (symm; rw [decide_eq_false_iff_not]; omega) | (rw [Bool.eq_iff_iff]; simp; done) | (rw [Bool.eq_iff_iff]; simp; omega)
set_option maxRecDepth 100000 in
set_option maxHeartbeats 4000000 in
theorem textFits_any (op n around : Int) (s : ByteArray) (nv lv : Value) (w : World) (hs : s.size ≤ maxLen) : Calls Tryz.prog 182 #[.agg #[.int .i64 op, .int .i64 n, .string s, nv, lv], .int .i64 around] w fun e w' => e = .returned (.bool (Pl.stxt op around s)) ∧ Below w.heap.size w w' := by
  have HB := Lib.hid (show Below w.heap.size w (w.alloc (.cells #[.int .i64 op, .int .i64 n, .string s, nv, lv] 28)) from (Below.refl _ _).alloc (Nat.le_refl _) _)
  have HL := Lib.hid (show ∀ W, Calls Tryz.prog 100 #[.string s] W fun e w' => e = .returned (.bool (Pl.lowS s)) ∧ W = w' from fun W => isLower_any s W hs)
  have HU := Lib.hid (show ∀ W, Calls Tryz.prog 101 #[.string s] W fun e w' => e = .returned (.bool (Pl.upS s)) ∧ W = w' from fun W => isUpper_any s W hs)
  have HV := Lib.hid (show ∀ W, Calls Tryz.prog 102 #[.string s] W fun e w' => e = .returned (.bool (Pl.varS s)) ∧ W = w' from fun W => isVar_any s W hs)
  have HT := Lib.hid (fun W => isText3_any s W hs)
  have HE := Lib.hid (show s.toList.isEmpty = Pl.emptyS s from rfl)
  clear hs
  go_enter Tryz.func182, Tryz.ntmps182
  go_wp2_with (first
    | (go_at_call 100; refine (HL.out _).mono ?_; rintro e w' ⟨rfl, rfl⟩)
    | (go_at_call 101; refine (HU.out _).mono ?_; rintro e w' ⟨rfl, rfl⟩)
    | (go_at_call 102; refine (HV.out _).mono ?_; rintro e w' ⟨rfl, rfl⟩)
    | (go_at_call 214; refine (HT.out _).mono ?_; rintro e w' ⟨rfl, rfl⟩))
  all_goals
    go_ret
    refine ⟨ret_bool ?_, HB.out⟩
    (try simp only [beq_iff_eq, beq_eq_false_iff_ne, bne_iff_ne, ne_eq, bne_eq_false_iff_eq] at *)
    unfold Pl.stxt
    repeat' (first | rw [if_pos (by omega)] | rw [if_neg (by omega)])
    all_goals (try rw [← HE.out])
    all_goals first | rfl | simp_all
end Go.Proofs.YtkmgnibopmpcjaaGreatDoor

/-
  Walks of layer 3: paths, and lists of names, of the program and of the reference.
-/
namespace Go.Proofs.YtkmgnibopmpcjaaGreatDoor
open Go Go.RowKit
open Pl (Syn)
set_option linter.unusedSimpArgs false
structure NameFn where
  fid : FuncId
  p : ByteArray → Bool
  enter : ∀ (args : Array Value) (w : World), Sem.run Tryz.prog (callFunc fid args) w = .ok (.enter fid args) w
  calls : ∀ (s : ByteArray) (w : World), s.size ≤ maxLen → Calls Tryz.prog fid #[.string s] w fun e w' => e = .returned (.bool (p s)) ∧ w = w'
def lowFn : NameFn where
  fid := 100
  p := Pl.lowS
  enter := fun args w => by kernel_rfl
  calls := fun s w hs => isLower_any s w hs
def upFn : NameFn where
  fid := 101
  p := Pl.upS
  enter := fun args w => by kernel_rfl
  calls := fun s w hs => isUpper_any s w hs
def varFn : NameFn where
  fid := 102
  p := Pl.varS
  enter := fun args w => by kernel_rfl
  calls := fun s w hs => isVar_any s w hs
theorem all_false_at (p : ByteArray → Bool) (zs : List ByteArray) (k : Nat) (hk : k < zs.length) (h : p zs[k] = false) : zs.all p = false := by
  rw [List.all_eq_false]; exact ⟨zs[k], List.getElem_mem hk, by simp [h]⟩
theorem all_take_snoc (p : ByteArray → Bool) (zs : List ByteArray) (k : Nat) (hk : k < zs.length) : (zs.take (k + 1)).all p = ((zs.take k).all p && p zs[k]) := by
  rw [List.take_succ_eq_append_getElem hk, List.all_append]; simp
set_option maxRecDepth 100000 in
set_option maxHeartbeats 4000000 in
theorem allNames_any (F : NameFn) (P : Nat → Prop) (v : Value) (zs : List ByteArray) (w : World) (h : StrSl w P v zs) :
    Calls Tryz.prog 218 #[v, .func (.func F.fid) #[] #[]] w fun e w' => e = .returned (.bool (zs.all F.p)) ∧ w = w' := by
  obtain ⟨a, c, rfl, h1, h2, -, h4, h5⟩ := h
  unfold maxLen at h2
  rcases h5 with rfl | ⟨b, off, rfl, -, h5⟩
  · clear h4
    go_enter Tryz.func218, Tryz.ntmps218
    go_wp2_with fail
    go_loopg [9] 1 (fun g v wr => v = .int .i64 0 ∧ wr = w)
    case atStart => exact ⟨rfl, rfl⟩
    case round =>
      obtain ⟨rfl, rfl⟩ := hrel
      go_wp2
      go_ret
      exact ⟨rfl, rfl⟩
  · have H5 := Lib.hid h5
    have HZ := Lib.hid h4
    generalize hn : zs.length = n at *
    have HN := Lib.hid hn
    have HF := Lib.hid F.calls
    have HE := Lib.hid F.enter
    clear h4 h5 hn
    go_enter Tryz.func218, Tryz.ntmps218
    go_wp2_with fail
    go_loopg [9] (n + 1) (fun g v wr => ∃ k : Nat, k ≤ n ∧ v = .int .i64 k ∧ g = n + 1 - k ∧ wr = w ∧ (zs.take k).all F.p = true)
    case atStart => exact ⟨0, by omega, rfl, by omega, rfl, by simp⟩
    case round =>
      obtain ⟨k, hk, rfl, hg, rfl, hall⟩ := hrel
      have HA := Lib.hid hall
      clear hall
      by_cases hlt : k < n
      · have hkl : k < zs.length := by rw [HN.out]; exact hlt
        have a0 := H5.out k hkl
        have HC := Lib.hid (fun W => HF.out zs[k] W (HZ.out _ (List.getElem_mem hkl)))
        have HNO := Lib.hid (fun h => all_false_at F.p zs k hkl h)
        have HYS := Lib.hid (all_take_snoc F.p zs k hkl)
        generalize zs[k] = z at *
        go_wp2_with fail
        rw [HE.out, Oper.upon_enter]
        refine (HC.out _).mono ?_
        rintro e w2 ⟨rfl, rfl⟩
        generalize F.p z = r at *
        cases r
        · go_wp2
          go_ret
          exact ⟨ret_bool (HNO.out trivial).symm, rfl⟩
        · go_wp2
          go_roundg (gk - 1)
          case measure => omega
          case rel => exact ⟨k + 1, by omega, by go_num, by omega, rfl, by rw [HYS.out, HA.out]; rfl⟩
      · go_wp2
        go_ret
        have := HA.out
        rw [List.take_of_length_le (by rw [HN.out]; omega)] at this
        exact ⟨ret_bool this.symm, rfl⟩
theorem StrSl.sub {w : World} {P : Nat → Prop} {a : Option Addr} {n c : Nat} {zs : List ByteArray} (h : StrSl w P (.slice a n c) zs) (m : Nat) (hm : m ≤ n) : StrSl w P (.slice a m c) (zs.take m) := by
  obtain ⟨a', c', e, h1, h2, h3, h4, h5⟩ := h
  injection e with e1 e2 e3
  subst e1 e2 e3
  refine ⟨a, c, by rw [List.length_take, Nat.min_eq_left hm], by rw [List.length_take]; omega, h2, h3, fun z hz => h4 z (List.mem_of_mem_take hz), ?_⟩
  rcases h5 with rfl | ⟨b, off, rfl, h6, h7⟩
  · exact .inl (by simp)
  · refine .inr ⟨b, off, rfl, h6, fun j hj => ?_⟩
    rw [List.length_take] at hj
    rw [h7 j (by omega), List.getElem_take]
def pathG (p : ByteArray → Bool) (zs : List ByteArray) : Bool := decide (1 ≤ zs.length ∧ zs.length ≤ 8) && ((zs.take (zs.length - 1)).all Pl.upS && p (zs.getD (zs.length - 1) ByteArray.empty))
theorem path_G (low : Bool) (zs : List ByteArray) : Pl.path low zs = (decide (1 ≤ zs.length) && ((zs.take (zs.length - 1)).all Pl.upS && (if low then Pl.lowS else Pl.upS) (zs.getD (zs.length - 1) ByteArray.empty))) := by
  induction zs with
  | nil => rfl
  | cons z r ih =>
    cases r with
    | nil => cases low <;> simp [Pl.path]
    | cons y r =>
      rw [Pl.path, ih]
      have h1 : (z :: y :: r).length - 1 = (y :: r).length - 1 + 1 := by simp
      rw [h1, List.take_succ_cons, List.getD_cons_succ, List.all_cons]
      simp [Bool.and_assoc]
theorem pathOk_G (low : Bool) (zs : List ByteArray) : Pl.pathOk low zs = pathG (if low then Pl.lowS else Pl.upS) zs := by
  unfold Pl.pathOk pathG
  rw [path_G, Bool.decide_and]
  cases decide (zs.length ≤ 8) <;> simp
set_option maxRecDepth 100000 in
set_option maxHeartbeats 4000000 in
theorem isPath_any (F : NameFn) (P : Nat → Prop) (v : Value) (zs : List ByteArray) (w : World) (h : StrSl w P v zs) :
    Calls Tryz.prog 216 #[v, .func (.func F.fid) #[] #[]] w fun e w' => e = .returned (.bool (pathG F.p zs)) ∧ w = w' := by
  have h' := h
  obtain ⟨a, c, rfl, h1, h2, -, h4, h5⟩ := h
  unfold maxLen at h2
  by_cases hn : 1 ≤ zs.length ∧ zs.length ≤ 8
  · rcases h5 with rfl | ⟨b, off, rfl, -, h5⟩
    · simp at hn
    · have HS := Lib.hid (allNames_any upFn P _ _ w (h'.sub (zs.length - 1) (by omega)))
      have hkl : zs.length - 1 < zs.length := by omega
      have hg : zs.getD (zs.length - 1) ByteArray.empty = zs[zs.length - 1] := by simp [List.getD, hkl]
      have HG := Lib.hid (show pathG F.p zs = ((zs.take (zs.length - 1)).all Pl.upS && F.p zs[zs.length - 1]) from by unfold pathG; rw [decide_eq_true hn, hg]; rfl)
      have a0 := h5 (zs.length - 1) hkl
      have HC := Lib.hid (F.calls zs[zs.length - 1] w (h4 _ (List.getElem_mem hkl)))
      have HE := Lib.hid F.enter
      rw [show upFn.p = Pl.upS from rfl, show upFn.fid = 101 from rfl] at HS
      generalize zs[zs.length - 1] = z at *
      generalize (zs.take (zs.length - 1)).all Pl.upS = r1 at *
      generalize F.p z = r2 at *
      generalize pathG F.p zs = rr at *
      clear h' h4 h5 hg
      generalize hnn : zs.length = nn at *
      obtain ⟨n, rfl⟩ : ∃ n, nn = n + 1 := ⟨nn - 1, by omega⟩
      rw [show n + 1 - 1 = n from rfl] at *
      clear hnn hkl
      cases r1
      · go_enter Tryz.func216, Tryz.ntmps216
        go_wp2_with fail
        refine HS.out.mono ?_
        rintro e w2 ⟨rfl, rfl⟩
        go_wp2
        go_ret
        exact ⟨ret_bool HG.out.symm, rfl⟩
      · go_enter Tryz.func216, Tryz.ntmps216
        go_wp2_with fail
        refine HS.out.mono ?_
        rintro e w2 ⟨rfl, rfl⟩
        go_wp2_with fail
        rw [HE.out, Oper.upon_enter]
        refine HC.out.mono ?_
        rintro e w2 ⟨rfl, rfl⟩
        go_wp2
        go_ret
        exact ⟨ret_bool (by rw [HG.out]; rfl), rfl⟩
  · have HG := Lib.hid (show pathG F.p zs = false from by unfold pathG; rw [decide_eq_false hn]; rfl)
    generalize zs.length = n at *
    clear h' h4 h5
    by_cases h0 : n = 0
    · subst h0
      go_enter Tryz.func216, Tryz.ntmps216
      go_wp2
      go_ret
      exact ⟨ret_bool HG.out.symm, rfl⟩
    · have q : decide ((n : Int) - 1 < 8) = false := by simp; omega
      go_enter Tryz.func216, Tryz.ntmps216
      go_wp2
      go_ret
      exact ⟨ret_bool HG.out.symm, rfl⟩
end Go.Proofs.YtkmgnibopmpcjaaGreatDoor
