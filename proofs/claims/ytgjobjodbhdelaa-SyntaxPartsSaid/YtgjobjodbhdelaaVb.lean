/-
  Walks of layer 3: SyntaxParts.
-/
import Derived.Test.YtgjobjodbhdelaaVa
import Derived.Deep.RegionWith
namespace Go.Proofs.Ytgjobjodbhdelaa
open Go Go.RowKit
open Pl (Syn)
set_option linter.unusedSimpArgs false

theorem formed_of_valid (c : Int) (t : Syn) (h : validP c t = true) : t.ok 0 = true ∧ t.size ≤ 20000 ∧ t.depth ≤ 400 := by
  unfold validP at h
  rw [Bool.and_eq_true, Pl.formed_ok, Bool.and_eq_true, Bool.and_eq_true, decide_eq_true_eq, decide_eq_true_eq] at h
  exact ⟨h.2.2, h.2.1.1, h.2.1.2⟩
set_option maxRecDepth 100000 in
set_option maxHeartbeats 8000000 in
theorem parts_any (P : Nat → Prop) (t : Syn) (w : World) (v : Value) (hP : ∀ i, P i → i < w.heap.size) (ht : SynV w P t v) :
    Calls Try.prog 7 #[v] w fun e w' => e = .returned (.bool true) ∧ Below w.heap.size w w' := by
  have HT := Lib.hid ht
  obtain ⟨na, nn, nc, la, ln, lc, rfl⟩ := ht.form
  have hw0 : Below w.heap.size w (w.alloc (.cells #[.int .i64 t.op, .int .i64 t.n, .string t.s, .slice na nn nc, .slice la ln lc] 25)) := (Below.refl _ _).alloc (Nat.le_refl _) _
  have hbx := blk_new w #[.int .i64 t.op, .int .i64 t.n, .string t.s, .slice na nn nc, .slice la ln lc] 25
  have hlt := Blk.lt hbx
  have HW0 := Lib.hid hw0
  have HBX := Lib.hid hbx
  have HP := Lib.hid hP
  have HLT := Lib.hid hlt
  clear ht hw0 hbx hP hlt
  go_enter Try.func7, Try.ntmps7
  go_wp2_with fail
  generalize w.alloc (.cells #[.int .i64 t.op, .int .i64 t.n, .string t.s, .slice na nn nc, .slice la ln lc] 25) = w0 at *
  refine (awake_any _).mono ?_
  rintro e w1 ⟨rfl, hb1⟩
  have HB1 := Lib.hid (belowStep hb1 HW0.out)
  have HX1 := Lib.hid (Blk.of_eq HBX.out (hb1.block _ HLT.out))
  obtain ⟨x0, x1, x2, x3, x4⟩ := box_cells HX1.out
  clear hb1
  have hA : Below w1.heap.size w1 (w1.alloc (.cells #[.int .i64 1000] 3)) := (Below.refl _ _).alloc (Nat.le_refl _) _
  have hn := blk_new w1 #[.int .i64 1000] 3
  have HA := Lib.hid hA
  have HN := Lib.hid hn
  have HL1 := Lib.hid (show w.heap.size ≤ w1.heap.size from HB1.out.size)
  clear hA hn
  have hbD : Below w.heap.size w (w1.alloc (.cells #[.int .i64 1000] 3)).drew := (belowStep HA.out HB1.out).drew
  have hPD : ∀ i, P i → i < (w1.alloc (.cells #[.int .i64 1000] 3)).drew.heap.size := fun i hi => Nat.lt_of_lt_of_le (HP.out i hi) hbD.size
  have HXD := Lib.hid (show Blk (w1.alloc (.cells #[.int .i64 1000] 3)).drew w.heap.size 25 _ from Blk.of_eq HX1.out (HA.out.block _ (Blk.lt HX1.out)))
  have HF := Lib.hid (few_any t P (w1.alloc (.cells #[.int .i64 1000] 3)).drew (.agg #[.int .i64 t.op, .int .i64 t.n, .string t.s, .slice na nn nc, .slice la ln lc]) w1.heap.size 1000 0 HN.out (HT.out.keep (Same.of_below hbD HP.out)) (fun i hi => ⟨hPD i hi, fun e => by have := HP.out i hi; have := HL1.out; omega⟩) (by omega) (by omega) (by omega) (by omega))
  have HBD := Lib.hid hbD
  have HPD := Lib.hid hPD
  clear hbD hPD
  go_wp2_with fail
  obtain ⟨x0, x1, x2, x3, x4⟩ := box_cells HXD.out
  refine wp_region_any (by kernel_rfl) ?_
  change wpAny _ _ _ _ _ _ _ (World.drew _)
  refine wpAny_ready (rs := [0]) (by kernel_rfl) (by simp) ?_
  refine AllReady.cons rfl (fun K hK => ?_) AllReady.nil
  go_simp
  refine hK _ _ ?_
  clear hK K
  refine wpAny_ready (rs := [1]) (by kernel_rfl) (by simp) ?_
  refine AllReady.cons rfl (fun K hK => ?_) AllReady.nil
  go_simp
  go_wp2_with fail
  refine HF.out.mono ?_
  rintro e wF ⟨r, rfl, left', hc1, hf1, h1, h2, h3⟩
  have HBF := Lib.hid (fr_above HBD.out hf1 HBD.out.size (fun i hi => by have h1 : i = w1.heap.size := hi; have := HL1.out; omega))
  have HR := Lib.hid h3
  have HXF := Lib.hid (Blk.of_eq HXD.out (hf1.block (Blk.lt HXD.out) (fun e => by have := HL1.out; have h4 := HLT.out; have e : w.heap.size = w1.heap.size := e; have := Blk.lt HX1.out; omega)))
  clear hf1 hc1 h1 h2 h3 x0 x1 x2 x3 x4
  obtain ⟨x0, x1, x2, x3, x4⟩ := box_cells HXF.out
  cases r
  · refine hK _ _ ?_
    clear hK K
    refine wpAny_ready (rs := [2]) (by kernel_rfl) (by simp) ?_
    refine AllReady.cons rfl (fun K hK => ?_) AllReady.nil
    go_simp
    refine hK _ _ ?_
    clear hK K
    refine wpAny_ready (rs := [3]) (by kernel_rfl) (by simp) ?_
    refine AllReady.cons rfl (fun K hK => ?_) AllReady.nil
    go_simp
    refine hK _ _ ?_
    clear hK K
    refine wpAny_ready (rs := [4, 7]) (by kernel_rfl) (by simp) ?_
    refine AllReady.cons rfl (fun K hK => ?_) (AllReady.cons rfl (fun K hK => ?_) AllReady.nil)
    · go_simp
      refine hK _ _ ?_
      clear hK K
      refine wpAny_ready (rs := [5, 7]) (by kernel_rfl) (by simp) ?_
      refine AllReady.cons rfl (fun K hK => ?_) (AllReady.cons rfl (fun K hK => ?_) AllReady.nil)
      · go_simp
        refine hK _ _ ?_
        clear hK K
        refine wpAny_ready (rs := [6, 7]) (by kernel_rfl) (by simp) ?_
        refine AllReady.cons rfl (fun K hK => ?_) (AllReady.cons rfl (fun K hK => ?_) AllReady.nil)
        · go_simp
          refine hK _ _ ?_
          clear hK K
          refine wpAny_ready (rs := [7]) (by kernel_rfl) (by simp) ?_
          refine AllReady.cons rfl (fun K hK => ?_) AllReady.nil
          go_simp
          refine hK _ _ ?_
          clear hK K
          refine wpAny_ready (rs := [8]) (by kernel_rfl) (by simp) ?_
          refine AllReady.cons rfl (fun K hK => ?_) AllReady.nil
          go_simp
          refine hK _ _ ?_
          clear hK K
          refine wpAny_ready (rs := [9]) (by kernel_rfl) (by simp) ?_
          refine AllReady.cons rfl (fun K hK => ?_) AllReady.nil
          go_simp
          refine hK _ _ ?_
          clear hK K
          refine wpAny_ready (rs := [10]) (by kernel_rfl) (by simp) ?_
          refine AllReady.cons rfl (fun K hK => ?_) AllReady.nil
          go_simp
          refine hK _ _ ?_
          clear hK K
          refine wpAny_done (by kernel_rfl) ?_ _
          go_wp2
          go_ret
          exact ⟨by first | rfl | trivial, HBF.out⟩
        · go_simp
          refine hK _ _ ?_
          clear hK K
          refine wpAny_ready (rs := [6]) (by kernel_rfl) (by simp) ?_
          refine AllReady.cons rfl (fun K hK => ?_) AllReady.nil
          go_simp
          refine hK _ _ ?_
          clear hK K
          refine wpAny_ready (rs := [8]) (by kernel_rfl) (by simp) ?_
          refine AllReady.cons rfl (fun K hK => ?_) AllReady.nil
          go_simp
          refine hK _ _ ?_
          clear hK K
          refine wpAny_ready (rs := [9]) (by kernel_rfl) (by simp) ?_
          refine AllReady.cons rfl (fun K hK => ?_) AllReady.nil
          go_simp
          refine hK _ _ ?_
          clear hK K
          refine wpAny_ready (rs := [10]) (by kernel_rfl) (by simp) ?_
          refine AllReady.cons rfl (fun K hK => ?_) AllReady.nil
          go_simp
          refine hK _ _ ?_
          clear hK K
          refine wpAny_done (by kernel_rfl) ?_ _
          go_wp2
          go_ret
          exact ⟨by first | rfl | trivial, HBF.out⟩
      · go_simp
        refine hK _ _ ?_
        clear hK K
        refine wpAny_ready (rs := [5]) (by kernel_rfl) (by simp) ?_
        refine AllReady.cons rfl (fun K hK => ?_) AllReady.nil
        go_simp
        refine hK _ _ ?_
        clear hK K
        refine wpAny_ready (rs := [6]) (by kernel_rfl) (by simp) ?_
        refine AllReady.cons rfl (fun K hK => ?_) AllReady.nil
        go_simp
        refine hK _ _ ?_
        clear hK K
        refine wpAny_ready (rs := [8]) (by kernel_rfl) (by simp) ?_
        refine AllReady.cons rfl (fun K hK => ?_) AllReady.nil
        go_simp
        refine hK _ _ ?_
        clear hK K
        refine wpAny_ready (rs := [9]) (by kernel_rfl) (by simp) ?_
        refine AllReady.cons rfl (fun K hK => ?_) AllReady.nil
        go_simp
        refine hK _ _ ?_
        clear hK K
        refine wpAny_ready (rs := [10]) (by kernel_rfl) (by simp) ?_
        refine AllReady.cons rfl (fun K hK => ?_) AllReady.nil
        go_simp
        refine hK _ _ ?_
        clear hK K
        refine wpAny_done (by kernel_rfl) ?_ _
        go_wp2
        go_ret
        exact ⟨by first | rfl | trivial, HBF.out⟩
    · go_simp
      refine hK _ _ ?_
      clear hK K
      refine wpAny_ready (rs := [4]) (by kernel_rfl) (by simp) ?_
      refine AllReady.cons rfl (fun K hK => ?_) AllReady.nil
      go_simp
      refine hK _ _ ?_
      clear hK K
      refine wpAny_ready (rs := [5]) (by kernel_rfl) (by simp) ?_
      refine AllReady.cons rfl (fun K hK => ?_) AllReady.nil
      go_simp
      refine hK _ _ ?_
      clear hK K
      refine wpAny_ready (rs := [6]) (by kernel_rfl) (by simp) ?_
      refine AllReady.cons rfl (fun K hK => ?_) AllReady.nil
      go_simp
      refine hK _ _ ?_
      clear hK K
      refine wpAny_ready (rs := [8]) (by kernel_rfl) (by simp) ?_
      refine AllReady.cons rfl (fun K hK => ?_) AllReady.nil
      go_simp
      refine hK _ _ ?_
      clear hK K
      refine wpAny_ready (rs := [9]) (by kernel_rfl) (by simp) ?_
      refine AllReady.cons rfl (fun K hK => ?_) AllReady.nil
      go_simp
      refine hK _ _ ?_
      clear hK K
      refine wpAny_ready (rs := [10]) (by kernel_rfl) (by simp) ?_
      refine AllReady.cons rfl (fun K hK => ?_) AllReady.nil
      go_simp
      refine hK _ _ ?_
      clear hK K
      refine wpAny_done (by kernel_rfl) ?_ _
      go_wp2
      go_ret
      exact ⟨by first | rfl | trivial, HBF.out⟩
  · have hR := HR.out rfl
    have hbig : t.big ≤ 536870912 := by omega
    have HVAL := Lib.hid (fun W (hW : W = wF) => valid_any P t (Pl.cat t.op) W (.agg #[.int .i64 t.op, .int .i64 t.n, .string t.s, .slice na nn nc, .slice la ln lc]) (fun i hi => hW ▸ Nat.lt_of_lt_of_le (HP.out i hi) HBF.out.size) (hW ▸ HT.out.keep (Same.of_below HBF.out HP.out)) hbig)
    clear hR
    refine hK _ _ ?_
    clear hK K
    have HVV := Lib.hid (formed_of_valid (Pl.cat t.op) t)
    generalize validP (Pl.cat t.op) t = vv at *
    cases vv
    · skip
      refine wpAny_ready (rs := [2]) (by kernel_rfl) (by simp) ?_
      refine AllReady.cons rfl (fun K hK => ?_) AllReady.nil
      go_simp
      refine hK _ _ ?_
      clear hK K
      refine wpAny_ready (rs := [3]) (by kernel_rfl) (by simp) ?_
      refine AllReady.cons rfl (fun K hK => ?_) AllReady.nil
      go_simp
      refine hK _ _ ?_
      clear hK K
      refine wpAny_ready (rs := [4, 7]) (by kernel_rfl) (by simp) ?_
      refine AllReady.cons rfl (fun K hK => ?_) (AllReady.cons rfl (fun K hK => ?_) AllReady.nil)
      · go_simp
        refine hK _ _ ?_
        clear hK K
        refine wpAny_ready (rs := [5, 7]) (by kernel_rfl) (by simp) ?_
        refine AllReady.cons rfl (fun K hK => ?_) (AllReady.cons rfl (fun K hK => ?_) AllReady.nil)
        · go_simp
          refine hK _ _ ?_
          clear hK K
          refine wpAny_ready (rs := [6, 7]) (by kernel_rfl) (by simp) ?_
          refine AllReady.cons rfl (fun K hK => ?_) (AllReady.cons rfl (fun K hK => ?_) AllReady.nil)
          · go_simp
            go_wp2_with fail
            refine (category_any _ _).mono ?_
            rintro e wn ⟨rfl, rfl⟩
            refine hK _ _ ?_
            clear hK K
            refine wpAny_ready (rs := [7]) (by kernel_rfl) (by simp) ?_
            refine AllReady.cons rfl (fun K hK => ?_) AllReady.nil
            go_simp
            refine hK _ _ ?_
            clear hK K
            refine wpAny_ready (rs := [8]) (by kernel_rfl) (by simp) ?_
            refine AllReady.cons rfl (fun K hK => ?_) AllReady.nil
            go_simp
            go_wp2_with fail
            refine (HVAL.out _ rfl).mono ?_
            rintro e wn ⟨rfl, hbn⟩
            have HBN := Lib.hid (belowStep hbn HBF.out)
            have HXN := Lib.hid (Blk.of_eq HXF.out (hbn.block _ (Blk.lt HXF.out)))
            clear hbn x0 x1 x2 x3 x4
            obtain ⟨x0, x1, x2, x3, x4⟩ := box_cells HXN.out
            refine hK _ _ ?_
            clear hK K
            refine wpAny_ready (rs := [9]) (by kernel_rfl) (by simp) ?_
            refine AllReady.cons rfl (fun K hK => ?_) AllReady.nil
            go_simp
            refine hK _ _ ?_
            clear hK K
            refine wpAny_ready (rs := [10]) (by kernel_rfl) (by simp) ?_
            refine AllReady.cons rfl (fun K hK => ?_) AllReady.nil
            go_simp
            refine hK _ _ ?_
            clear hK K
            refine wpAny_done (by kernel_rfl) ?_ _
            go_wp2
            go_ret
            exact ⟨by first | rfl | trivial, HBN.out⟩
          · go_simp
            refine hK _ _ ?_
            clear hK K
            refine wpAny_ready (rs := [6]) (by kernel_rfl) (by simp) ?_
            refine AllReady.cons rfl (fun K hK => ?_) AllReady.nil
            go_simp
            go_wp2_with fail
            refine (category_any _ _).mono ?_
            rintro e wn ⟨rfl, rfl⟩
            refine hK _ _ ?_
            clear hK K
            refine wpAny_ready (rs := [8]) (by kernel_rfl) (by simp) ?_
            refine AllReady.cons rfl (fun K hK => ?_) AllReady.nil
            go_simp
            go_wp2_with fail
            refine (HVAL.out _ rfl).mono ?_
            rintro e wn ⟨rfl, hbn⟩
            have HBN := Lib.hid (belowStep hbn HBF.out)
            have HXN := Lib.hid (Blk.of_eq HXF.out (hbn.block _ (Blk.lt HXF.out)))
            clear hbn x0 x1 x2 x3 x4
            obtain ⟨x0, x1, x2, x3, x4⟩ := box_cells HXN.out
            refine hK _ _ ?_
            clear hK K
            refine wpAny_ready (rs := [9]) (by kernel_rfl) (by simp) ?_
            refine AllReady.cons rfl (fun K hK => ?_) AllReady.nil
            go_simp
            refine hK _ _ ?_
            clear hK K
            refine wpAny_ready (rs := [10]) (by kernel_rfl) (by simp) ?_
            refine AllReady.cons rfl (fun K hK => ?_) AllReady.nil
            go_simp
            refine hK _ _ ?_
            clear hK K
            refine wpAny_done (by kernel_rfl) ?_ _
            go_wp2
            go_ret
            exact ⟨by first | rfl | trivial, HBN.out⟩
        · go_simp
          refine hK _ _ ?_
          clear hK K
          refine wpAny_ready (rs := [5]) (by kernel_rfl) (by simp) ?_
          refine AllReady.cons rfl (fun K hK => ?_) AllReady.nil
          go_simp
          refine hK _ _ ?_
          clear hK K
          refine wpAny_ready (rs := [6]) (by kernel_rfl) (by simp) ?_
          refine AllReady.cons rfl (fun K hK => ?_) AllReady.nil
          go_simp
          go_wp2_with fail
          refine (category_any _ _).mono ?_
          rintro e wn ⟨rfl, rfl⟩
          refine hK _ _ ?_
          clear hK K
          refine wpAny_ready (rs := [8]) (by kernel_rfl) (by simp) ?_
          refine AllReady.cons rfl (fun K hK => ?_) AllReady.nil
          go_simp
          go_wp2_with fail
          refine (HVAL.out _ rfl).mono ?_
          rintro e wn ⟨rfl, hbn⟩
          have HBN := Lib.hid (belowStep hbn HBF.out)
          have HXN := Lib.hid (Blk.of_eq HXF.out (hbn.block _ (Blk.lt HXF.out)))
          clear hbn x0 x1 x2 x3 x4
          obtain ⟨x0, x1, x2, x3, x4⟩ := box_cells HXN.out
          refine hK _ _ ?_
          clear hK K
          refine wpAny_ready (rs := [9]) (by kernel_rfl) (by simp) ?_
          refine AllReady.cons rfl (fun K hK => ?_) AllReady.nil
          go_simp
          refine hK _ _ ?_
          clear hK K
          refine wpAny_ready (rs := [10]) (by kernel_rfl) (by simp) ?_
          refine AllReady.cons rfl (fun K hK => ?_) AllReady.nil
          go_simp
          refine hK _ _ ?_
          clear hK K
          refine wpAny_done (by kernel_rfl) ?_ _
          go_wp2
          go_ret
          exact ⟨by first | rfl | trivial, HBN.out⟩
      · go_simp
        refine hK _ _ ?_
        clear hK K
        refine wpAny_ready (rs := [4]) (by kernel_rfl) (by simp) ?_
        refine AllReady.cons rfl (fun K hK => ?_) AllReady.nil
        go_simp
        refine hK _ _ ?_
        clear hK K
        refine wpAny_ready (rs := [5]) (by kernel_rfl) (by simp) ?_
        refine AllReady.cons rfl (fun K hK => ?_) AllReady.nil
        go_simp
        refine hK _ _ ?_
        clear hK K
        refine wpAny_ready (rs := [6]) (by kernel_rfl) (by simp) ?_
        refine AllReady.cons rfl (fun K hK => ?_) AllReady.nil
        go_simp
        go_wp2_with fail
        refine (category_any _ _).mono ?_
        rintro e wn ⟨rfl, rfl⟩
        refine hK _ _ ?_
        clear hK K
        refine wpAny_ready (rs := [8]) (by kernel_rfl) (by simp) ?_
        refine AllReady.cons rfl (fun K hK => ?_) AllReady.nil
        go_simp
        go_wp2_with fail
        refine (HVAL.out _ rfl).mono ?_
        rintro e wn ⟨rfl, hbn⟩
        have HBN := Lib.hid (belowStep hbn HBF.out)
        have HXN := Lib.hid (Blk.of_eq HXF.out (hbn.block _ (Blk.lt HXF.out)))
        clear hbn x0 x1 x2 x3 x4
        obtain ⟨x0, x1, x2, x3, x4⟩ := box_cells HXN.out
        refine hK _ _ ?_
        clear hK K
        refine wpAny_ready (rs := [9]) (by kernel_rfl) (by simp) ?_
        refine AllReady.cons rfl (fun K hK => ?_) AllReady.nil
        go_simp
        refine hK _ _ ?_
        clear hK K
        refine wpAny_ready (rs := [10]) (by kernel_rfl) (by simp) ?_
        refine AllReady.cons rfl (fun K hK => ?_) AllReady.nil
        go_simp
        refine hK _ _ ?_
        clear hK K
        refine wpAny_done (by kernel_rfl) ?_ _
        go_wp2
        go_ret
        exact ⟨by first | rfl | trivial, HBN.out⟩
    · obtain ⟨hok, hsz, hdp⟩ := HVV.out rfl
      have HAL := Lib.hid (fun W g hW hg => all_any t P W (.agg #[.int .i64 t.op, .int .i64 t.n, .string t.s, .slice na nn nc, .slice la ln lc]) g 0 hok hsz hdp hbig (HT.out.keep (Same.of_below (hW : Below w.heap.size w W) HP.out)) (fun i hi => Nat.lt_of_lt_of_le (HP.out i hi) hW.size) hg)
      clear hok hsz hdp
      refine wpAny_ready (rs := [2]) (by kernel_rfl) (by simp) ?_
      refine AllReady.cons rfl (fun K hK => ?_) AllReady.nil
      go_simp
      refine hK _ _ ?_
      clear hK K
      refine wpAny_ready (rs := [3]) (by kernel_rfl) (by simp) ?_
      refine AllReady.cons rfl (fun K hK => ?_) AllReady.nil
      go_simp
      refine hK _ _ ?_
      clear hK K
      refine wpAny_ready (rs := [4, 7]) (by kernel_rfl) (by simp) ?_
      refine AllReady.cons rfl (fun K hK => ?_) (AllReady.cons rfl (fun K hK => ?_) AllReady.nil)
      · go_simp
        refine hK _ _ ?_
        clear hK K
        refine wpAny_ready (rs := [5, 7]) (by kernel_rfl) (by simp) ?_
        refine AllReady.cons rfl (fun K hK => ?_) (AllReady.cons rfl (fun K hK => ?_) AllReady.nil)
        · go_simp
          refine hK _ _ ?_
          clear hK K
          refine wpAny_ready (rs := [6, 7]) (by kernel_rfl) (by simp) ?_
          refine AllReady.cons rfl (fun K hK => ?_) (AllReady.cons rfl (fun K hK => ?_) AllReady.nil)
          · go_simp
            go_wp2_with fail
            refine (category_any _ _).mono ?_
            rintro e wn ⟨rfl, rfl⟩
            refine hK _ _ ?_
            clear hK K
            refine wpAny_ready (rs := [7]) (by kernel_rfl) (by simp) ?_
            refine AllReady.cons rfl (fun K hK => ?_) AllReady.nil
            go_simp
            refine hK _ _ ?_
            clear hK K
            refine wpAny_ready (rs := [8]) (by kernel_rfl) (by simp) ?_
            refine AllReady.cons rfl (fun K hK => ?_) AllReady.nil
            go_simp
            go_wp2_with fail
            refine (HVAL.out _ rfl).mono ?_
            rintro e wn ⟨rfl, hbn⟩
            have HBN := Lib.hid (belowStep hbn HBF.out)
            have HXN := Lib.hid (Blk.of_eq HXF.out (hbn.block _ (Blk.lt HXF.out)))
            clear hbn x0 x1 x2 x3 x4
            obtain ⟨x0, x1, x2, x3, x4⟩ := box_cells HXN.out
            refine hK _ _ ?_
            clear hK K
            refine wpAny_ready (rs := [9]) (by kernel_rfl) (by simp) ?_
            refine AllReady.cons rfl (fun K hK => ?_) AllReady.nil
            go_simp
            refine hK _ _ ?_
            clear hK K
            refine wpAny_ready (rs := [10]) (by kernel_rfl) (by simp) ?_
            refine AllReady.cons rfl (fun K hK => ?_) AllReady.nil
            go_simp
            refine hK _ _ ?_
            clear hK K
            refine wpAny_done (by kernel_rfl) ?_ _
            have hA2 : Below wn.heap.size wn (wn.alloc (.cells #[.func (.func 28) #[] #[.pointer (some ⟨wn.heap.size, 0, none⟩)]] 27)) := (Below.refl _ _).alloc (Nat.le_refl _) _
            have bg := blk_new wn #[.func (.func 28) #[] #[.pointer (some ⟨wn.heap.size, 0, none⟩)]] 27
            obtain ⟨z0, z1, z2, z3, z4⟩ := box_cells (Blk.of_eq HXN.out (hA2.block _ (Blk.lt HXN.out)))
            have g0 := bg.cell 0 _ rfl
            have HA2 := Lib.hid (belowStep hA2 HBN.out)
            have HZ := Lib.hid (HAL.out _ _ HA2.out bg)
            clear hA2 bg x0 x1 x2 x3 x4
            go_wp2_with fail
            refine HZ.out.mono ?_
            rintro e wz ⟨rfl, hbz⟩
            have HBZ := Lib.hid (belowStep hbz HA2.out)
            clear hbz
            go_wp2
            go_ret
            exact ⟨by first | rfl | trivial, HBZ.out⟩
          · go_simp
            refine hK _ _ ?_
            clear hK K
            refine wpAny_ready (rs := [6]) (by kernel_rfl) (by simp) ?_
            refine AllReady.cons rfl (fun K hK => ?_) AllReady.nil
            go_simp
            go_wp2_with fail
            refine (category_any _ _).mono ?_
            rintro e wn ⟨rfl, rfl⟩
            refine hK _ _ ?_
            clear hK K
            refine wpAny_ready (rs := [8]) (by kernel_rfl) (by simp) ?_
            refine AllReady.cons rfl (fun K hK => ?_) AllReady.nil
            go_simp
            go_wp2_with fail
            refine (HVAL.out _ rfl).mono ?_
            rintro e wn ⟨rfl, hbn⟩
            have HBN := Lib.hid (belowStep hbn HBF.out)
            have HXN := Lib.hid (Blk.of_eq HXF.out (hbn.block _ (Blk.lt HXF.out)))
            clear hbn x0 x1 x2 x3 x4
            obtain ⟨x0, x1, x2, x3, x4⟩ := box_cells HXN.out
            refine hK _ _ ?_
            clear hK K
            refine wpAny_ready (rs := [9]) (by kernel_rfl) (by simp) ?_
            refine AllReady.cons rfl (fun K hK => ?_) AllReady.nil
            go_simp
            refine hK _ _ ?_
            clear hK K
            refine wpAny_ready (rs := [10]) (by kernel_rfl) (by simp) ?_
            refine AllReady.cons rfl (fun K hK => ?_) AllReady.nil
            go_simp
            refine hK _ _ ?_
            clear hK K
            refine wpAny_done (by kernel_rfl) ?_ _
            have hA2 : Below wn.heap.size wn (wn.alloc (.cells #[.func (.func 28) #[] #[.pointer (some ⟨wn.heap.size, 0, none⟩)]] 27)) := (Below.refl _ _).alloc (Nat.le_refl _) _
            have bg := blk_new wn #[.func (.func 28) #[] #[.pointer (some ⟨wn.heap.size, 0, none⟩)]] 27
            obtain ⟨z0, z1, z2, z3, z4⟩ := box_cells (Blk.of_eq HXN.out (hA2.block _ (Blk.lt HXN.out)))
            have g0 := bg.cell 0 _ rfl
            have HA2 := Lib.hid (belowStep hA2 HBN.out)
            have HZ := Lib.hid (HAL.out _ _ HA2.out bg)
            clear hA2 bg x0 x1 x2 x3 x4
            go_wp2_with fail
            refine HZ.out.mono ?_
            rintro e wz ⟨rfl, hbz⟩
            have HBZ := Lib.hid (belowStep hbz HA2.out)
            clear hbz
            go_wp2
            go_ret
            exact ⟨by first | rfl | trivial, HBZ.out⟩
        · go_simp
          refine hK _ _ ?_
          clear hK K
          refine wpAny_ready (rs := [5]) (by kernel_rfl) (by simp) ?_
          refine AllReady.cons rfl (fun K hK => ?_) AllReady.nil
          go_simp
          refine hK _ _ ?_
          clear hK K
          refine wpAny_ready (rs := [6]) (by kernel_rfl) (by simp) ?_
          refine AllReady.cons rfl (fun K hK => ?_) AllReady.nil
          go_simp
          go_wp2_with fail
          refine (category_any _ _).mono ?_
          rintro e wn ⟨rfl, rfl⟩
          refine hK _ _ ?_
          clear hK K
          refine wpAny_ready (rs := [8]) (by kernel_rfl) (by simp) ?_
          refine AllReady.cons rfl (fun K hK => ?_) AllReady.nil
          go_simp
          go_wp2_with fail
          refine (HVAL.out _ rfl).mono ?_
          rintro e wn ⟨rfl, hbn⟩
          have HBN := Lib.hid (belowStep hbn HBF.out)
          have HXN := Lib.hid (Blk.of_eq HXF.out (hbn.block _ (Blk.lt HXF.out)))
          clear hbn x0 x1 x2 x3 x4
          obtain ⟨x0, x1, x2, x3, x4⟩ := box_cells HXN.out
          refine hK _ _ ?_
          clear hK K
          refine wpAny_ready (rs := [9]) (by kernel_rfl) (by simp) ?_
          refine AllReady.cons rfl (fun K hK => ?_) AllReady.nil
          go_simp
          refine hK _ _ ?_
          clear hK K
          refine wpAny_ready (rs := [10]) (by kernel_rfl) (by simp) ?_
          refine AllReady.cons rfl (fun K hK => ?_) AllReady.nil
          go_simp
          refine hK _ _ ?_
          clear hK K
          refine wpAny_done (by kernel_rfl) ?_ _
          have hA2 : Below wn.heap.size wn (wn.alloc (.cells #[.func (.func 28) #[] #[.pointer (some ⟨wn.heap.size, 0, none⟩)]] 27)) := (Below.refl _ _).alloc (Nat.le_refl _) _
          have bg := blk_new wn #[.func (.func 28) #[] #[.pointer (some ⟨wn.heap.size, 0, none⟩)]] 27
          obtain ⟨z0, z1, z2, z3, z4⟩ := box_cells (Blk.of_eq HXN.out (hA2.block _ (Blk.lt HXN.out)))
          have g0 := bg.cell 0 _ rfl
          have HA2 := Lib.hid (belowStep hA2 HBN.out)
          have HZ := Lib.hid (HAL.out _ _ HA2.out bg)
          clear hA2 bg x0 x1 x2 x3 x4
          go_wp2_with fail
          refine HZ.out.mono ?_
          rintro e wz ⟨rfl, hbz⟩
          have HBZ := Lib.hid (belowStep hbz HA2.out)
          clear hbz
          go_wp2
          go_ret
          exact ⟨by first | rfl | trivial, HBZ.out⟩
      · go_simp
        refine hK _ _ ?_
        clear hK K
        refine wpAny_ready (rs := [4]) (by kernel_rfl) (by simp) ?_
        refine AllReady.cons rfl (fun K hK => ?_) AllReady.nil
        go_simp
        refine hK _ _ ?_
        clear hK K
        refine wpAny_ready (rs := [5]) (by kernel_rfl) (by simp) ?_
        refine AllReady.cons rfl (fun K hK => ?_) AllReady.nil
        go_simp
        refine hK _ _ ?_
        clear hK K
        refine wpAny_ready (rs := [6]) (by kernel_rfl) (by simp) ?_
        refine AllReady.cons rfl (fun K hK => ?_) AllReady.nil
        go_simp
        go_wp2_with fail
        refine (category_any _ _).mono ?_
        rintro e wn ⟨rfl, rfl⟩
        refine hK _ _ ?_
        clear hK K
        refine wpAny_ready (rs := [8]) (by kernel_rfl) (by simp) ?_
        refine AllReady.cons rfl (fun K hK => ?_) AllReady.nil
        go_simp
        go_wp2_with fail
        refine (HVAL.out _ rfl).mono ?_
        rintro e wn ⟨rfl, hbn⟩
        have HBN := Lib.hid (belowStep hbn HBF.out)
        have HXN := Lib.hid (Blk.of_eq HXF.out (hbn.block _ (Blk.lt HXF.out)))
        clear hbn x0 x1 x2 x3 x4
        obtain ⟨x0, x1, x2, x3, x4⟩ := box_cells HXN.out
        refine hK _ _ ?_
        clear hK K
        refine wpAny_ready (rs := [9]) (by kernel_rfl) (by simp) ?_
        refine AllReady.cons rfl (fun K hK => ?_) AllReady.nil
        go_simp
        refine hK _ _ ?_
        clear hK K
        refine wpAny_ready (rs := [10]) (by kernel_rfl) (by simp) ?_
        refine AllReady.cons rfl (fun K hK => ?_) AllReady.nil
        go_simp
        refine hK _ _ ?_
        clear hK K
        refine wpAny_done (by kernel_rfl) ?_ _
        have hA2 : Below wn.heap.size wn (wn.alloc (.cells #[.func (.func 28) #[] #[.pointer (some ⟨wn.heap.size, 0, none⟩)]] 27)) := (Below.refl _ _).alloc (Nat.le_refl _) _
        have bg := blk_new wn #[.func (.func 28) #[] #[.pointer (some ⟨wn.heap.size, 0, none⟩)]] 27
        obtain ⟨z0, z1, z2, z3, z4⟩ := box_cells (Blk.of_eq HXN.out (hA2.block _ (Blk.lt HXN.out)))
        have g0 := bg.cell 0 _ rfl
        have HA2 := Lib.hid (belowStep hA2 HBN.out)
        have HZ := Lib.hid (HAL.out _ _ HA2.out bg)
        clear hA2 bg x0 x1 x2 x3 x4
        go_wp2_with fail
        refine HZ.out.mono ?_
        rintro e wz ⟨rfl, hbz⟩
        have HBZ := Lib.hid (belowStep hbz HA2.out)
        clear hbz
        go_wp2
        go_ret
        exact ⟨by first | rfl | trivial, HBZ.out⟩
end Go.Proofs.Ytgjobjodbhdelaa
