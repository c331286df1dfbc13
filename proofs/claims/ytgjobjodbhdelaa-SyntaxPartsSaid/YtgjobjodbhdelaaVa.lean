/-
  Walks of layer 3: SyntaxParts: the parts of a tree that has its form have theirs.
-/
import Derived.Test.YtgjobjodbhdelaaTu
namespace Go.Proofs.Ytgjobjodbhdelaa
open Go Go.RowKit
open Pl (Syn)
set_option linter.unusedSimpArgs false

namespace Pl
theorem ok_zero (x : Syn) (around : Int) (h : x.op = 43 → around ≠ 74) : x.ok around = x.ok 0 := by
  rw [nodes_ok x around false (fun e => ⟨fun h1 => absurd h1 (h e), fun h1 => (by cases h1)⟩), nodes_ok x 0 false (fun e => ⟨fun h1 => (by cases h1), fun h1 => (by cases h1)⟩)]
theorem ok_part (t : Syn) (around : Int) (h : t.ok around = true) (j : Nat) (hj : j < t.l.length) : t.l[j].ok t.op = true := by
  rw [ok_eq, Bool.and_eq_true, oks_all, List.all_eq_true] at h
  exact h.2 _ (List.getElem_mem hj)
theorem ok_valid (t : Syn) (around : Int) (h : t.ok around = true) (j : Nat) (hj : j < t.l.length) (hn : ¬ (t.op = 74 ∧ j = 1)) : t.l[j].ok 0 = true := by
  rw [← ok_zero _ t.op ?_]
  · exact ok_part t around h j hj
  · intro h43 h74
    rw [ok_eq, Bool.and_eq_true] at h
    obtain ⟨a, b, hl, ha, hb⟩ := with_parts t around h74 h.1
    have hj2 : j < 2 := by rw [hl] at hj; exact hj
    have h2 : t.l[j]? = some t.l[j] := List.getElem?_eq_getElem hj
    generalize t.l[j] = x at *
    rw [hl] at h2
    have : j = 0 := by omega
    subst this
    simp only [List.getElem?_cons_zero, Option.some.injEq] at h2
    rw [← h2] at h43
    exact ha h43
theorem bel_cat (op : Int) (h : cat op ≠ 0) : bel op (cat op) = true := by
  unfold bel
  split
  · next h1 =>
    have : cat op = 4 := by unfold cat; rcases h1 with rfl | rfl <;> decide
    rw [this]; rfl
  · rw [decide_eq_true_eq]; exact ⟨h, rfl⟩
end Pl
theorem validP_part (t : Syn) (around : Int) (h : t.ok around = true) (h1 : t.size ≤ 20000) (h2 : t.depth ≤ 400) (j : Nat) (hj : j < t.l.length) (hn : ¬ (t.op = 74 ∧ j = 1)) (hc : Pl.cat t.l[j].op ≠ 0) : validP (Pl.cat t.l[j].op) t.l[j] = true := by
  have g1 := Pl.mem_size (List.getElem_mem hj)
  have g2 := Pl.mem_depth (List.getElem_mem hj)
  have g3 := Pl.size_eq t
  have g4 := Pl.depth_eq t
  unfold validP
  rw [Pl.bel_cat _ hc, Pl.formed_ok, Pl.ok_valid t around h j hj hn, decide_eq_true (show t.l[j].size ≤ 20000 by omega), decide_eq_true (show t.l[j].depth ≤ 400 by omega)]
  rfl
/-- the closure's contract -/
def AllSpec (t : Syn) : Prop := ∀ (P : Nat → Prop) (w : World) (v : Value) (g : Nat) (around : Int), t.ok around = true → t.size ≤ 20000 → t.depth ≤ 400 → t.big ≤ 536870912 → SynV w P t v → (∀ b, P b → b < w.heap.size) →
  Blk w g 27 #[.func (.func 28) #[] #[.pointer (some ⟨g, 0, none⟩)]] →
  Calls Try.prog 28 #[v, .pointer (some ⟨g, 0, none⟩)] w fun e w' => e = .returned (.bool true) ∧ Below w.heap.size w w'
set_option maxRecDepth 100000 in
set_option maxHeartbeats 8000000 in
theorem all_any (t : Syn) : AllSpec t := by
  induction t using Syn.ind with
  | h t ih =>
  intro P w v g around hok hsz hdp hbig ht hP hg
  have HIH := Lib.hid ih
  clear ih
  have HT := Lib.hid ht
  have HG := Lib.hid hg
  have HP := Lib.hid hP
  have hbg := Pl.big_eq t
  have hse := Pl.size_eq t
  have hde := Pl.depth_eq t
  have hlen := Pl.len_sizes t.l
  have HV := Lib.hid (fun j hj hn hc => validP_part t around hok hsz hdp j hj hn hc)
  have HOK := Lib.hid (fun j hj => Pl.ok_part t around hok j hj)
  rw [synV_iff] at ht
  obtain ⟨hs, nv, lv, rfl, ⟨sa, sc, rfl, -⟩, hl⟩ := ht
  generalize hsn : t.names.length = sn at *
  have hbl : Pl.bigs t.l < t.big := by omega
  have hsl : Pl.sizes t.l < t.size := by omega
  have hdl : Pl.depths t.l < t.depth := by omega
  have HSE := Lib.hid hse
  have HDE := Lib.hid hde
  clear hs hsn hbg hse hde hok hg hP
  rcases hl.cases with ⟨hk0, a, c, rfl, -, -⟩ | ⟨b, off, n, c, rfl, hnl, hn0, hnc, hcm, hPb, hka⟩
  · have bx := blk_new w #[.int .i64 t.op, .int .i64 t.n, .string t.s, .slice sa sn sc, .slice a 0 c] 25
    obtain ⟨c0, c1, c2, c3, c4⟩ := box_cells bx
    have hb1 : Below w.heap.size w (w.alloc (.cells #[.int .i64 t.op, .int .i64 t.n, .string t.s, .slice sa sn sc, .slice a 0 c] 25)) := (Below.refl _ _).alloc (Nat.le_refl _) _
    have HB := Lib.hid hb1
    have HK := Lib.hid hk0
    have HBX := Lib.hid bx
    have hlt0 : w.heap.size < (w.alloc (.cells #[.int .i64 t.op, .int .i64 t.n, .string t.s, .slice sa sn sc, .slice a 0 c] 25)).heap.size := by rw [size_alloc]; omega
    have HLT := Lib.hid hlt0
    clear hl hk0 bx hb1 hlt0
    go_enter Try.func28, Try.ntmps28
    go_wp2_with fail
    generalize w.alloc (.cells #[.int .i64 t.op, .int .i64 t.n, .string t.s, .slice sa sn sc, .slice a 0 c] 25) = w0 at *
    go_loopg [4, 5, 12] 1 (fun g si di i wr => i = .int .i64 0 ∧ si = .int .i64 1 ∧ di = .int .i64 0 ∧ wr = w0)
    case atStart => exact ⟨rfl, rfl, rfl, rfl⟩
    case round =>
      obtain ⟨rfl, rfl, rfl, rfl⟩ := hrel
      have H1 := Lib.hid (fun W hW => size_any P t W _ (fun i hi => Nat.lt_of_lt_of_le (HP.out i hi) (Below.size (hW : Below w.heap.size w W))) (HT.out.keep (Same.of_below hW HP.out)) (by omega))
      have H2 := Lib.hid (fun W hW => depth_any P t W _ (fun i hi => Nat.lt_of_lt_of_le (HP.out i hi) (Below.size (hW : Below w.heap.size w W))) (HT.out.keep (Same.of_below hW HP.out)) (by omega))
      have e1 : ((t.size : Nat) : Int) = 1 := by have := HSE.out; rw [this, HK.out, Pl.sizes_nil]; rfl
      have e2 : ((t.depth : Nat) : Int) = 1 := by have := HDE.out; rw [this, HK.out, Pl.depths_nil]; rfl
      rw [e1] at H1
      rw [e2] at H2
      go_wp2_with fail
      refine (H1.out _ HB.out).mono ?_
      rintro e w1 ⟨rfl, hb1⟩
      have HB1 := Lib.hid (belowStep hb1 HB.out)
      obtain ⟨d0, d1, d2, d3, d4⟩ := box_cells (Blk.of_eq HBX.out (hb1.block _ HLT.out))
      clear c0 c1 c2 c3 c4
      go_wp2_with fail
      refine (H2.out _ HB1.out).mono ?_
      rintro e w2 ⟨rfl, hb2⟩
      have HB2 := Lib.hid (belowStep hb2 HB1.out)
      clear hb2 hb1
      go_wp2
      go_ret
      exact ⟨by first | rfl | trivial, HB2.out⟩
  · have hb1 : Below w.heap.size w (w.alloc (.cells #[.int .i64 t.op, .int .i64 t.n, .string t.s, .slice sa sn sc, .slice (some ⟨b, off, none⟩) n c] 25)) := (Below.refl _ _).alloc (Nat.le_refl _) _
    have bx := blk_new w #[.int .i64 t.op, .int .i64 t.n, .string t.s, .slice sa sn sc, .slice (some ⟨b, off, none⟩) n c] 25
    have hlt0 : w.heap.size < (w.alloc (.cells #[.int .i64 t.op, .int .i64 t.n, .string t.s, .slice sa sn sc, .slice (some ⟨b, off, none⟩) n c] 25)).heap.size := by rw [size_alloc]; omega
    obtain ⟨c0, c1, c2, c3, c4⟩ := box_cells bx
    have HB := Lib.hid hb1
    have HBX := Lib.hid bx
    have HLT := Lib.hid hlt0
    have HNL := Lib.hid hnl
    have HKA := Lib.hid hka
    have HPB := Lib.hid hPb
    have HCM := Lib.hid hcm
    clear hl bx hb1 hnl hka hPb hlt0
    go_enter Try.func28, Try.ntmps28
    go_wp2_with fail
    generalize w.alloc (.cells #[.int .i64 t.op, .int .i64 t.n, .string t.s, .slice sa sn sc, .slice (some ⟨b, off, none⟩) n c] 25) = w0 at *
    go_loopg [4, 5, 12] (n + 1) (fun gg si di i wr => ∃ k : Nat, k ≤ n ∧ i = .int .i64 k ∧ si = .int .i64 ((1 + Pl.sizes (t.l.take k) : Nat)) ∧ di = .int .i64 ((Pl.depths (t.l.take k) : Nat)) ∧ gg = n + 1 - k ∧ Below w0.heap.size w0 wr)
    case atStart => exact ⟨0, by omega, rfl, by rw [List.take_zero, Pl.sizes_nil]; rfl, by rw [List.take_zero, Pl.depths_nil]; rfl, by omega, Below.refl _ _⟩
    case round =>
      obtain ⟨k, hk, rfl, rfl, rfl, hgk, hbw⟩ := hrel
      have hts := Pl.take_sizes t.l k
      have htd := Pl.take_depths t.l k
      have hbx := HBX.out.of_eq (hbw.block _ HLT.out)
      clear c0 c1 c2 c3 c4
      by_cases hlt : k < n
      · have hkl : k < t.l.length := by rw [HNL.out]; exact hlt
        have hmem : t.l[k] ∈ t.l := List.getElem_mem hkl
        have hms := Pl.mem_size hmem
        have hmd := Pl.mem_depth hmem
        have hmb := Pl.mem_big hmem
        have hts1 := Pl.take_sizes t.l (k + 1)
        rw [Pl.sizes_snoc t.l k hkl] at hts1
        have HSS := Lib.hid (Pl.sizes_snoc t.l k hkl)
        have HDS := Lib.hid (Pl.depths_snoc t.l k hkl)
        have HVX := Lib.hid (HV.out k hkl)
        have HOX := Lib.hid (HOK.out k hkl)
        have hw0 : Below w.heap.size w wr := belowStep hbw HB.out
        obtain ⟨xo, xn, xs, na, nn, nc, la, ln, lc, hxo, a0, a1, a2, a3, a4, hxs⟩ := (HKA.out.keep (Same.of_below hw0 HP.out) HPB.out).part k hkl
        rw [hxo] at HVX
        have hPw : ∀ i, P i → i < wr.heap.size := fun i hi => Nat.lt_of_lt_of_le (HP.out i hi) hw0.size
        have hA : Below wr.heap.size wr (wr.alloc (.cells #[.int .i64 xo, .int .i64 xn, .string xs, .slice na nn nc, .slice la ln lc] 25)) := (Below.refl _ _).alloc (Nat.le_refl _) _
        have hlA : wr.heap.size < (wr.alloc (.cells #[.int .i64 xo, .int .i64 xn, .string xs, .slice na nn nc, .slice la ln lc] 25)).heap.size := by rw [size_alloc]; omega
        have bxx := blk_new wr #[.int .i64 xo, .int .i64 xn, .string xs, .slice na nn nc, .slice la ln lc] 25
        have hbxA := Blk.of_eq hbx (hA.block _ (Nat.lt_of_lt_of_le HLT.out hbw.size))
        have hgA := Blk.of_eq HG.out ((belowStep hA hw0).block _ (Blk.lt HG.out))
        have HW0 := Lib.hid (belowStep hA hbw)
        have HXW := Lib.hid (hxs.keep (Same.of_below hA hPw))
        have HPA := Lib.hid (fun i hi => Nat.lt_of_lt_of_le (hPw i hi) hA.size)
        have HBXX := Lib.hid bxx
        have HBXA := Lib.hid hbxA
        have HGA := Lib.hid hgA
        have HLA := Lib.hid hlA
        have HIX := Lib.hid (HIH.out _ hmem)
        obtain ⟨e0, e1, e2, e3, e4⟩ := box_cells bxx
        obtain ⟨f0, f1, f2, f3, f4⟩ := box_cells hbxA
        obtain ⟨c0, c1, c2, c3, c4⟩ := box_cells hbx
        clear bxx hbxA hgA hlA hPw hw0 hxs hxo hmem hbx HIH HV HOK HSE HDE HKA hbw
        generalize t.l[k] = x at *
        generalize hm0 : Pl.sizes (t.l.take k) = sk at *
        generalize hd0 : Pl.depths (t.l.take k) = dk at *
        clear hm0 hd0
        go_wp2_with fail
        generalize wr.alloc (.cells #[.int .i64 xo, .int .i64 xn, .string xs, .slice na nn nc, .slice la ln lc] 25) = wx at *
        have HQ := Lib.hid (fun W (hW : Below wx.heap.size wx W) => (show _ ∧ _ ∧ _ from ⟨box_cells (Blk.of_eq HBXX.out (hW.block _ HLA.out)), box_cells (Blk.of_eq HBXA.out (hW.block _ (Blk.lt HBXA.out))), Blk.cell (Blk.of_eq HGA.out (hW.block _ (Blk.lt HGA.out))) 0 _ rfl⟩))
        have hPX := fun W (hW : Below wx.heap.size wx W) i (hi : P i) => Nat.lt_of_lt_of_le (HPA.out i hi) hW.size
        have hXW := fun W (hW : Below wx.heap.size wx W) => SynV.keep (Same.of_below hW HPA.out) HXW.out
        have H1 := Lib.hid (fun W hW => size_any P x W _ (hPX W hW) (hXW W hW) (by omega))
        have H2 := Lib.hid (fun W hW => depth_any P x W _ (hPX W hW) (hXW W hW) (by omega))
        have H3 := Lib.hid (fun cc W hW => valid_any P x cc W _ (hPX W hW) (hXW W hW) (by omega))
        have H4 := Lib.hid (fun W hW => HIX.out P W _ g t.op HOX.out (by omega) (by omega) (by omega) (hXW W hW) (hPX W hW) (Blk.of_eq HGA.out ((hW : Below wx.heap.size wx W).block _ (Blk.lt HGA.out))))
        have HR := Lib.hid (Below.refl wx.heap.size wx)
        clear hPX hXW
        refine (H1.out _ HR.out).mono ?_
        rintro e w1 ⟨rfl, hb1⟩
        obtain ⟨⟨x0, x1, x2, x3, x4⟩, ⟨y0, y1, y2, y3, y4⟩, z0⟩ := HQ.out _ hb1
        have HB1 := Lib.hid hb1
        clear hb1 e0 e1 e2 e3 e4 f0 f1 f2 f3 f4 a0 a1 a2 a3 a4 c0 c1 c2 c3 c4 HR
        go_wp2_with fail
        refine (H2.out _ HB1.out).mono ?_
        rintro e w2 ⟨rfl, hb2⟩
        have HB2 := Lib.hid (belowStep hb2 HB1.out)
        clear hb2 x0 x1 x2 x3 x4 y0 y1 y2 y3 y4 z0 HB1
        obtain ⟨⟨x0, x1, x2, x3, x4⟩, ⟨y0, y1, y2, y3, y4⟩, z0⟩ := HQ.out _ HB2.out
        go_wp2_with fail
        refine (category_any xo w2).mono ?_
        rintro e w3 ⟨rfl, rfl⟩
        generalize Pl.cat xo = cc at *
        by_cases hc0 : cc = 0
        · subst hc0
          go_wp2_with fail
          refine (H4.out _ HB2.out).mono ?_
          rintro e w5 ⟨rfl, hb5⟩
          have HB5 := Lib.hid (belowStep (belowStep hb5 HB2.out) HW0.out)
          clear hb5 x0 x1 x2 x3 x4 y0 y1 y2 y3 y4 z0
          go_wp2
          go_roundg (gk - 1)
          case measure => omega
          case rel => exact ⟨k + 1, by omega, by go_num, by rw [HSS.out]; congr 1; omega, by rw [HDS.out]; congr 1; omega, by omega, HB5.out⟩
        · by_cases h74 : t.op = 74
          · by_cases hk1 : (k : Int) = 1
            · rw [h74] at y0
              generalize Value.agg #[.int .i64 t.op, .int .i64 t.n, .string t.s, .slice sa sn sc, .slice (some ⟨b, off, none⟩) n c] = s0 at *
              go_wp2_with fail
              refine (H4.out _ HB2.out).mono ?_
              rintro e w5 ⟨rfl, hb5⟩
              have HB5 := Lib.hid (belowStep (belowStep hb5 HB2.out) HW0.out)
              clear hb5 x0 x1 x2 x3 x4 y0 y1 y2 y3 y4 z0
              go_wp2
              go_roundg (gk - 1)
              case measure => omega
              case rel => exact ⟨k + 1, by omega, by go_num, by rw [HSS.out]; congr 1; omega, by rw [HDS.out]; congr 1; omega, by omega, HB5.out⟩
            · rw [h74] at y0
              generalize Value.agg #[.int .i64 t.op, .int .i64 t.n, .string t.s, .slice sa sn sc, .slice (some ⟨b, off, none⟩) n c] = s0 at *
              go_wp2_with fail
              refine (H3.out _ _ HB2.out).mono ?_
              rintro e w4 ⟨rfl, hb4⟩
              rw [HVX.out (by omega) (by omega)]
              have HB4 := Lib.hid (belowStep hb4 HB2.out)
              clear hb4 x0 x1 x2 x3 x4 y0 y1 y2 y3 y4 z0 HB2
              obtain ⟨⟨x0, x1, x2, x3, x4⟩, ⟨y0, y1, y2, y3, y4⟩, z0⟩ := HQ.out _ HB4.out
              go_wp2_with fail
              refine (H4.out _ HB4.out).mono ?_
              rintro e w5 ⟨rfl, hb5⟩
              have HB5 := Lib.hid (belowStep (belowStep hb5 HB4.out) HW0.out)
              clear hb5 x0 x1 x2 x3 x4 y0 y1 y2 y3 y4 z0
              go_wp2
              go_roundg (gk - 1)
              case measure => omega
              case rel => exact ⟨k + 1, by omega, by go_num, by rw [HSS.out]; congr 1; omega, by rw [HDS.out]; congr 1; omega, by omega, HB5.out⟩
          · skip
            go_wp2_with fail
            refine (H3.out _ _ HB2.out).mono ?_
            rintro e w4 ⟨rfl, hb4⟩
            rw [HVX.out (by omega) (by omega)]
            have HB4 := Lib.hid (belowStep hb4 HB2.out)
            clear hb4 x0 x1 x2 x3 x4 y0 y1 y2 y3 y4 z0 HB2
            obtain ⟨⟨x0, x1, x2, x3, x4⟩, ⟨y0, y1, y2, y3, y4⟩, z0⟩ := HQ.out _ HB4.out
            go_wp2_with fail
            refine (H4.out _ HB4.out).mono ?_
            rintro e w5 ⟨rfl, hb5⟩
            have HB5 := Lib.hid (belowStep (belowStep hb5 HB4.out) HW0.out)
            clear hb5 x0 x1 x2 x3 x4 y0 y1 y2 y3 y4 z0
            go_wp2
            go_roundg (gk - 1)
            case measure => omega
            case rel => exact ⟨k + 1, by omega, by go_num, by rw [HSS.out]; congr 1; omega, by rw [HDS.out]; congr 1; omega, by omega, HB5.out⟩
      · have hkn : t.l.take k = t.l := List.take_of_length_le (by rw [HNL.out]; omega)
        rw [hkn] at hts htd ⊢
        have hw0 : Below w.heap.size w wr := belowStep hbw HB.out
        have H1 := Lib.hid (fun W hW => size_any P t W _ (fun i hi => Nat.lt_of_lt_of_le (HP.out i hi) (Below.size (hW : Below w.heap.size w W))) (HT.out.keep (Same.of_below hW HP.out)) (by omega))
        have H2 := Lib.hid (fun W hW => depth_any P t W _ (fun i hi => Nat.lt_of_lt_of_le (HP.out i hi) (Below.size (hW : Below w.heap.size w W))) (HT.out.keep (Same.of_below hW HP.out)) (by omega))
        have e1 : ((t.size : Nat) : Int) = 1 + (Pl.sizes t.l : Nat) := by have := HSE.out; omega
        have e2 : ((t.depth : Nat) : Int) = (Pl.depths t.l : Nat) + 1 := by have := HDE.out; omega
        rw [e1] at H1
        rw [e2] at H2
        have HW0 := Lib.hid hw0
        have HBW := Lib.hid hbw
        obtain ⟨c0, c1, c2, c3, c4⟩ := box_cells hbx
        clear hbx hbw hw0 hkn HV HOK HIH HKA e1 e2
        generalize Pl.sizes t.l = sk at *
        generalize Pl.depths t.l = dk at *
        have e3 : ((1 + sk : Nat) : Int) = 1 + (sk : Int) := by omega
        rw [e3]
        clear e3
        go_wp2_with fail
        refine (H1.out _ HW0.out).mono ?_
        rintro e w1 ⟨rfl, hb1⟩
        have HB1 := Lib.hid (belowStep hb1 HW0.out)
        obtain ⟨d0, d1, d2, d3, d4⟩ := box_cells (Blk.of_eq HBX.out ((belowStep hb1 HBW.out).block _ HLT.out))
        clear c0 c1 c2 c3 c4
        go_wp2_with fail
        refine (H2.out _ HB1.out).mono ?_
        rintro e w2 ⟨rfl, hb2⟩
        have HB2 := Lib.hid (belowStep hb2 HB1.out)
        clear hb2 hb1
        go_wp2
        go_ret
        exact ⟨by first | rfl | trivial, HB2.out⟩
end Go.Proofs.Ytgjobjodbhdelaa
