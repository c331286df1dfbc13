/-
  Walks of layer 3: SyntaxAgain.
-/
import Derived.Test.YtkhpihacjhhklaaYj
import Derived.Deep.RegionWith
import Derived.Deep.RegionHeld3
namespace Go.Proofs.Ytkhpihacjhhklaa
open Go Go.RowKit
open Pl (Syn)
set_option linter.unusedSimpArgs false

namespace Pl
theorem find_big (at' : List Int) : ∀ t old : Syn, find at' t = some old → old.big ≤ t.big := by
  induction at' with
  | nil => intro t old h; simp [find] at h; subst h; exact Nat.le_refl _
  | cons i r ih =>
    intro t old h
    rw [find] at h
    by_cases hi : 0 ≤ i ∧ i.toNat < t.l.length
    · rw [dif_pos hi] at h
      have h1 := ih _ _ h
      have h2 := mem_big (List.getElem_mem hi.2)
      rw [big_eq t]
      omega
    · rw [dif_neg hi] at h; cases h
end Pl
set_option maxRecDepth 100000 in
set_option maxHeartbeats 16000000 in
theorem again_any (P : Nat → Prop) (t : Syn) (at' : List Int) (by' : Syn) (w : World) (tv av bv : Value) (hP : ∀ i, P i → i < w.heap.size) (ht : SynV w P t tv) (ha : AtSl w av at') (hb : SynV w P by' bv) :
    Calls Try.prog 8 #[tv, av, bv] w fun e w' => e = .returned (.bool true) ∧ Below w.heap.size w w' := by
  have HT := Lib.hid ht
  have HY := Lib.hid hb
  have HA := Lib.hid ha
  have HP := Lib.hid hP
  obtain ⟨na, nn, nc, la, ln, lc, rfl⟩ := ht.form
  obtain ⟨ma, mn, mc, ka, kn, kc, rfl⟩ := hb.form
  obtain ⟨aa, ac, rfl, hal, hacm, -⟩ := ha
  unfold maxLen at hacm
  obtain ⟨al, hla⟩ : ∃ al, al = at'.length := ⟨_, rfl⟩
  rw [← hla] at hal HA ⊢
  have hbt := blk_new w #[.int .i64 t.op, .int .i64 t.n, .string t.s, .slice na nn nc, .slice la ln lc] 25
  have hba := blk_new (w.alloc (.cells #[.int .i64 t.op, .int .i64 t.n, .string t.s, .slice na nn nc, .slice la ln lc] 25)) #[.slice aa al ac] 39
  have hby := blk_new ((w.alloc (.cells #[.int .i64 t.op, .int .i64 t.n, .string t.s, .slice na nn nc, .slice la ln lc] 25)).alloc (.cells #[.slice aa al ac] 39)) #[.int .i64 by'.op, .int .i64 by'.n, .string by'.s, .slice ma mn mc, .slice ka kn kc] 25
  rw [size_alloc] at hba
  rw [size_alloc, size_alloc] at hby
  have HXT := Lib.hid ((hbt.alloc (.cells #[.slice aa al ac] 39)).alloc (.cells #[.int .i64 by'.op, .int .i64 by'.n, .string by'.s, .slice ma mn mc, .slice ka kn kc] 25))
  have HXA := Lib.hid (hba.alloc (.cells #[.int .i64 by'.op, .int .i64 by'.n, .string by'.s, .slice ma mn mc, .slice ka kn kc] 25))
  have HXY := Lib.hid hby
  have HB0 := Lib.hid (show Below w.heap.size w (((w.alloc (.cells #[.int .i64 t.op, .int .i64 t.n, .string t.s, .slice na nn nc, .slice la ln lc] 25)).alloc (.cells #[.slice aa al ac] 39)).alloc (.cells #[.int .i64 by'.op, .int .i64 by'.n, .string by'.s, .slice ma mn mc, .slice ka kn kc] 25)) from (below2 w _ _).alloc (by simp; omega) _)
  obtain ⟨dl, hdl⟩ : ∃ dl, decide ((50 : Int) < (al : Int)) = dl := ⟨_, rfl⟩
  have hdl2 : decide ((al : Int) > 50) = dl := hdl
  clear hP ht hb hbt hba hby hla
  go_enter Try.func8, Try.ntmps8
  go_wp2_with fail
  generalize ((w.alloc (.cells #[.int .i64 t.op, .int .i64 t.n, .string t.s, .slice na nn nc, .slice la ln lc] 25)).alloc (.cells #[.slice aa al ac] 39)).alloc (.cells #[.int .i64 by'.op, .int .i64 by'.n, .string by'.s, .slice ma mn mc, .slice ka kn kc] 25) = w0 at *
  have HSZ := Lib.hid (show w.heap.size + 2 < w0.heap.size from Blk.lt HXY.out)
  have HS := Lib.hid (fun W (hW : Below w0.heap.size w0 W) => (show _ ∧ _ ∧ _ from ⟨box_cells (HXT.out.of_eq (hW.block _ (Blk.lt HXT.out))), (HXA.out.of_eq (hW.block _ (Blk.lt HXA.out))).cell 0 _ rfl, box_cells (HXY.out.of_eq (hW.block _ (Blk.lt HXY.out)))⟩))
  have HPW := Lib.hid (fun W (hW : Below w0.heap.size w0 W) b (hb : P b) => Nat.lt_of_lt_of_le (HP.out b hb) (Nat.le_trans HB0.out.size hW.size))
  have HTW := Lib.hid (fun W (hW : Below w0.heap.size w0 W) => HT.out.keep (Same.of_below (belowStep hW HB0.out) HP.out))
  have HYW := Lib.hid (fun W (hW : Below w0.heap.size w0 W) => HY.out.keep (Same.of_below (belowStep hW HB0.out) HP.out))
  have HAW := Lib.hid (fun W (hW : Below w0.heap.size w0 W) => HA.out.below (belowStep hW HB0.out))
  have HXAW := Lib.hid (fun W (hW : Below w0.heap.size w0 W) => HXA.out.of_eq (hW.block _ (Blk.lt HXA.out)))
  refine (awake_any _).mono ?_
  rintro e w1 ⟨rfl, hb1⟩
  have HB1 := Lib.hid (show Below w0.heap.size w0 w1 from hb1)
  have HL1 := Lib.hid (show w0.heap.size ≤ w1.heap.size from hb1.size)
  clear hb1
  have hA2 := below2 w1 (.cells #[.int .i64 1000] 3) (.cells #[.int .i64 1000] 3)
  have hn := (blk_new w1 #[.int .i64 1000] 3).alloc (.cells #[.int .i64 1000] 3)
  have hm := blk_new (w1.alloc (.cells #[.int .i64 1000] 3)) #[.int .i64 1000] 3
  rw [size_alloc] at hm
  have HBD := Lib.hid (show Below w0.heap.size w0 ((w1.alloc (.cells #[.int .i64 1000] 3)).alloc (.cells #[.int .i64 1000] 3)).drew from (belowStep hA2 HB1.out).drew)
  have HN := Lib.hid (show Cell1 w1.heap.size 1000 ((w1.alloc (.cells #[.int .i64 1000] 3)).alloc (.cells #[.int .i64 1000] 3)).drew from hn)
  have HM := Lib.hid (show Cell1 (w1.heap.size + 1) 1000 ((w1.alloc (.cells #[.int .i64 1000] 3)).alloc (.cells #[.int .i64 1000] 3)).drew from hm)
  have HF := Lib.hid (few_any t P _ _ w1.heap.size 1000 0 HN.out (HTW.out _ HBD.out) (fun i hi => ⟨HPW.out _ HBD.out i hi, fun e => by have := HP.out i hi; have := HL1.out; have := HSZ.out; omega⟩) (by omega) (by omega) (by omega) (by omega))
  have HG := Lib.hid (fun W (hW : Below w0.heap.size w0 W) (hc : Cell1 (w1.heap.size + 1) 1000 W) => few_any by' P W _ (w1.heap.size + 1) 1000 0 hc (HYW.out W hW) (fun i hi => ⟨HPW.out W hW i hi, fun e => by have := HP.out i hi; have := HL1.out; have := HSZ.out; omega⟩) (by omega) (by omega) (by omega) (by omega))
  clear hA2 hn hm
  go_wp2_with fail
  obtain ⟨⟨x0, x1, x2, x3, x4⟩, u0, ⟨y0, y1, y2, y3, y4⟩⟩ := HS.out _ HBD.out
  refine wp_region_any (by kernel_rfl) ?_
  change wpAny _ _ _ _ _ _ _ (World.drew _)
  refine wpAny_ready (rs := [0]) (by kernel_rfl) (by simp) ?_
  refine AllReady.cons rfl (fun K hK => ?_) AllReady.nil
  go_simp
  refine hK _ _ ?_
  clear hK K
  refine wpAny_ready (rs := [1]) (by kernel_rfl) (by simp) ?_
  refine AllReady.cons rfl (fun K hK => ?_) AllReady.nil
  go_simp
  go_wp2_with fail
  refine HF.out.mono ?_
  rintro e wF ⟨r, rfl, left', hc1, hf1, h1, h2, h3⟩
  have HBF := Lib.hid (fr_above HBD.out hf1 HBD.out.size (fun i hi => by have h1 : i = w1.heap.size := hi; have := HL1.out; omega))
  have HR := Lib.hid h3
  have HMF := Lib.hid (show Cell1 (w1.heap.size + 1) 1000 wF from HM.out.of_eq (hf1.block (Blk.lt HM.out) (fun e => by have e : w1.heap.size + 1 = w1.heap.size := e; omega)))
  clear hf1 hc1 h1 h2 h3 x0 x1 x2 x3 x4 y0 y1 y2 y3 y4 u0
  obtain ⟨⟨x0, x1, x2, x3, x4⟩, u0, ⟨y0, y1, y2, y3, y4⟩⟩ := HS.out _ HBF.out
  refine hK _ _ ?_
  clear hK K
  cases r
  · refine wpAny_ready (rs := [2]) (by kernel_rfl) (by simp) ?_
    refine AllReady.cons rfl (fun K hK => ?_) AllReady.nil
    go_simp
    refine hK _ _ ?_
    clear hK K
    refine wpAny_ready (rs := [3]) (by kernel_rfl) (by simp) ?_
    refine AllReady.cons rfl (fun K hK => ?_) AllReady.nil
    go_simp
    refine hK _ _ ?_
    clear hK K
    refine wpAny_ready (rs := [4]) (by kernel_rfl) (by simp) ?_
    refine AllReady.cons rfl (fun K hK => ?_) AllReady.nil
    go_simp
    refine hK _ _ ?_
    clear hK K
    refine wpAny_ready (rs := [5]) (by kernel_rfl) (by simp) ?_
    refine AllReady.cons rfl (fun K hK => ?_) AllReady.nil
    go_simp
    refine hK _ _ ?_
    clear hK K
    refine wpAny_ready (rs := [6]) (by kernel_rfl) (by simp) ?_
    refine AllReady.cons rfl (fun K hK => ?_) AllReady.nil
    go_simp
    refine hK _ _ ?_
    clear hK K
    refine wpAny_ready (rs := [7]) (by kernel_rfl) (by simp) ?_
    refine AllReady.cons rfl (fun K hK => ?_) AllReady.nil
    go_simp
    refine hK _ _ ?_
    clear hK K
    refine wpAny_ready (rs := [8]) (by kernel_rfl) (by simp) ?_
    refine AllReady.cons rfl (fun K hK => ?_) AllReady.nil
    go_simp
    refine hK _ _ ?_
    clear hK K
    refine wpAny_ready (rs := [9]) (by kernel_rfl) (by simp) ?_
    refine AllReady.cons rfl (fun K hK => ?_) AllReady.nil
    go_simp
    refine hK _ _ ?_
    clear hK K
    refine wpAny_ready (rs := [10]) (by kernel_rfl) (by simp) ?_
    refine AllReady.cons rfl (fun K hK => ?_) AllReady.nil
    go_simp
    refine hK _ _ ?_
    clear hK K
    refine wpAny_ready (rs := [11]) (by kernel_rfl) (by simp) ?_
    refine AllReady.cons rfl (fun K hK => ?_) AllReady.nil
    go_simp
    refine hK _ _ ?_
    clear hK K
    refine wpAny_ready (rs := [12]) (by kernel_rfl) (by simp) ?_
    refine AllReady.cons rfl (fun K hK => ?_) AllReady.nil
    go_simp
    refine hK _ _ ?_
    clear hK K
    refine wpAny_ready (rs := [13]) (by kernel_rfl) (by simp) ?_
    refine AllReady.cons rfl (fun K hK => ?_) AllReady.nil
    go_simp
    refine hK _ _ ?_
    clear hK K
    refine wpAny_ready (rs := [14, 17]) (by kernel_rfl) (by simp) ?_
    refine AllReady.cons rfl (fun K hK => ?_) (AllReady.cons rfl (fun K hK => ?_) AllReady.nil)
    · go_simp
      refine hK _ _ ?_
      clear hK K
      refine wpAny_ready (rs := [15, 17]) (by kernel_rfl) (by simp) ?_
      refine AllReady.cons rfl (fun K hK => ?_) (AllReady.cons rfl (fun K hK => ?_) AllReady.nil)
      · go_simp
        refine hK _ _ ?_
        clear hK K
        refine wpAny_ready (rs := [16, 17]) (by kernel_rfl) (by simp) ?_
        refine AllReady.cons rfl (fun K hK => ?_) (AllReady.cons rfl (fun K hK => ?_) AllReady.nil)
        · go_simp
          refine hK _ _ ?_
          clear hK K
          refine wpAny_ready (rs := [17]) (by kernel_rfl) (by simp) ?_
          refine AllReady.cons rfl (fun K hK => ?_) AllReady.nil
          go_simp
          refine hK _ _ ?_
          clear hK K
          refine wpAny_ready (rs := [18]) (by kernel_rfl) (by simp) ?_
          refine AllReady.cons rfl (fun K hK => ?_) AllReady.nil
          go_simp
          refine hK _ _ ?_
          clear hK K
          refine wpAny_ready (rs := [19]) (by kernel_rfl) (by simp) ?_
          refine AllReady.cons rfl (fun K hK => ?_) AllReady.nil
          go_simp
          refine hK _ _ ?_
          clear hK K
          refine wpAny_ready (rs := [20]) (by kernel_rfl) (by simp) ?_
          refine AllReady.cons rfl (fun K hK => ?_) AllReady.nil
          go_simp
          refine hK _ _ ?_
          clear hK K
          refine wpAny_done (by kernel_rfl) ?_ _
          go_wp2
          go_ret
          exact ⟨by first | rfl | trivial, belowStep HBF.out HB0.out⟩
        · go_simp
          refine hK _ _ ?_
          clear hK K
          refine wpAny_ready (rs := [16]) (by kernel_rfl) (by simp) ?_
          refine AllReady.cons rfl (fun K hK => ?_) AllReady.nil
          go_simp
          refine hK _ _ ?_
          clear hK K
          refine wpAny_ready (rs := [18]) (by kernel_rfl) (by simp) ?_
          refine AllReady.cons rfl (fun K hK => ?_) AllReady.nil
          go_simp
          refine hK _ _ ?_
          clear hK K
          refine wpAny_ready (rs := [19]) (by kernel_rfl) (by simp) ?_
          refine AllReady.cons rfl (fun K hK => ?_) AllReady.nil
          go_simp
          refine hK _ _ ?_
          clear hK K
          refine wpAny_ready (rs := [20]) (by kernel_rfl) (by simp) ?_
          refine AllReady.cons rfl (fun K hK => ?_) AllReady.nil
          go_simp
          refine hK _ _ ?_
          clear hK K
          refine wpAny_done (by kernel_rfl) ?_ _
          go_wp2
          go_ret
          exact ⟨by first | rfl | trivial, belowStep HBF.out HB0.out⟩
      · go_simp
        refine hK _ _ ?_
        clear hK K
        refine wpAny_ready (rs := [15]) (by kernel_rfl) (by simp) ?_
        refine AllReady.cons rfl (fun K hK => ?_) AllReady.nil
        go_simp
        refine hK _ _ ?_
        clear hK K
        refine wpAny_ready (rs := [16]) (by kernel_rfl) (by simp) ?_
        refine AllReady.cons rfl (fun K hK => ?_) AllReady.nil
        go_simp
        refine hK _ _ ?_
        clear hK K
        refine wpAny_ready (rs := [18]) (by kernel_rfl) (by simp) ?_
        refine AllReady.cons rfl (fun K hK => ?_) AllReady.nil
        go_simp
        refine hK _ _ ?_
        clear hK K
        refine wpAny_ready (rs := [19]) (by kernel_rfl) (by simp) ?_
        refine AllReady.cons rfl (fun K hK => ?_) AllReady.nil
        go_simp
        refine hK _ _ ?_
        clear hK K
        refine wpAny_ready (rs := [20]) (by kernel_rfl) (by simp) ?_
        refine AllReady.cons rfl (fun K hK => ?_) AllReady.nil
        go_simp
        refine hK _ _ ?_
        clear hK K
        refine wpAny_done (by kernel_rfl) ?_ _
        go_wp2
        go_ret
        exact ⟨by first | rfl | trivial, belowStep HBF.out HB0.out⟩
    · go_simp
      refine hK _ _ ?_
      clear hK K
      refine wpAny_ready (rs := [14]) (by kernel_rfl) (by simp) ?_
      refine AllReady.cons rfl (fun K hK => ?_) AllReady.nil
      go_simp
      refine hK _ _ ?_
      clear hK K
      refine wpAny_ready (rs := [15]) (by kernel_rfl) (by simp) ?_
      refine AllReady.cons rfl (fun K hK => ?_) AllReady.nil
      go_simp
      refine hK _ _ ?_
      clear hK K
      refine wpAny_ready (rs := [16]) (by kernel_rfl) (by simp) ?_
      refine AllReady.cons rfl (fun K hK => ?_) AllReady.nil
      go_simp
      refine hK _ _ ?_
      clear hK K
      refine wpAny_ready (rs := [18]) (by kernel_rfl) (by simp) ?_
      refine AllReady.cons rfl (fun K hK => ?_) AllReady.nil
      go_simp
      refine hK _ _ ?_
      clear hK K
      refine wpAny_ready (rs := [19]) (by kernel_rfl) (by simp) ?_
      refine AllReady.cons rfl (fun K hK => ?_) AllReady.nil
      go_simp
      refine hK _ _ ?_
      clear hK K
      refine wpAny_ready (rs := [20]) (by kernel_rfl) (by simp) ?_
      refine AllReady.cons rfl (fun K hK => ?_) AllReady.nil
      go_simp
      refine hK _ _ ?_
      clear hK K
      refine wpAny_done (by kernel_rfl) ?_ _
      go_wp2
      go_ret
      exact ⟨by first | rfl | trivial, belowStep HBF.out HB0.out⟩
  · refine wpAny_ready (rs := [2]) (by kernel_rfl) (by simp) ?_
    refine AllReady.cons rfl (fun K hK => ?_) AllReady.nil
    go_simp
    refine hK _ _ ?_
    clear hK K
    refine wpAny_ready (rs := [3]) (by kernel_rfl) (by simp) ?_
    refine AllReady.cons rfl (fun K hK => ?_) AllReady.nil
    go_simp
    refine hK _ _ ?_
    clear hK K
    refine wpAny_ready (rs := [4]) (by kernel_rfl) (by simp) ?_
    refine AllReady.cons rfl (fun K hK => ?_) AllReady.nil
    go_simp
    refine hK _ _ ?_
    clear hK K
    refine wpAny_ready (rs := [5]) (by kernel_rfl) (by simp) ?_
    refine AllReady.cons rfl (fun K hK => ?_) AllReady.nil
    go_simp
    go_wp2_with fail
    refine (HG.out _ HBF.out HMF.out).mono ?_
    rintro e wG ⟨r, rfl, left', hc1, hf1, h1, h2, h3⟩
    have HBG := Lib.hid (fr_above HBF.out hf1 HBF.out.size (fun i hi => by have h1 : i = w1.heap.size + 1 := hi; have := HL1.out; omega))
    have HR2 := Lib.hid h3
    clear hf1 hc1 h1 h2 h3 x0 x1 x2 x3 x4 y0 y1 y2 y3 y4 u0
    obtain ⟨⟨x0, x1, x2, x3, x4⟩, u0, ⟨y0, y1, y2, y3, y4⟩⟩ := HS.out _ HBG.out
    refine hK _ _ ?_
    clear hK K
    cases r
    · refine wpAny_ready (rs := [6]) (by kernel_rfl) (by simp) ?_
      refine AllReady.cons rfl (fun K hK => ?_) AllReady.nil
      go_simp
      refine hK _ _ ?_
      clear hK K
      refine wpAny_ready (rs := [7]) (by kernel_rfl) (by simp) ?_
      refine AllReady.cons rfl (fun K hK => ?_) AllReady.nil
      go_simp
      refine hK _ _ ?_
      clear hK K
      refine wpAny_ready (rs := [8]) (by kernel_rfl) (by simp) ?_
      refine AllReady.cons rfl (fun K hK => ?_) AllReady.nil
      go_simp
      refine hK _ _ ?_
      clear hK K
      refine wpAny_ready (rs := [9]) (by kernel_rfl) (by simp) ?_
      refine AllReady.cons rfl (fun K hK => ?_) AllReady.nil
      go_simp
      refine hK _ _ ?_
      clear hK K
      refine wpAny_ready (rs := [10]) (by kernel_rfl) (by simp) ?_
      refine AllReady.cons rfl (fun K hK => ?_) AllReady.nil
      go_simp
      refine hK _ _ ?_
      clear hK K
      refine wpAny_ready (rs := [11]) (by kernel_rfl) (by simp) ?_
      refine AllReady.cons rfl (fun K hK => ?_) AllReady.nil
      go_simp
      refine hK _ _ ?_
      clear hK K
      refine wpAny_ready (rs := [12]) (by kernel_rfl) (by simp) ?_
      refine AllReady.cons rfl (fun K hK => ?_) AllReady.nil
      go_simp
      refine hK _ _ ?_
      clear hK K
      refine wpAny_ready (rs := [13]) (by kernel_rfl) (by simp) ?_
      refine AllReady.cons rfl (fun K hK => ?_) AllReady.nil
      go_simp
      refine hK _ _ ?_
      clear hK K
      refine wpAny_ready (rs := [14, 17]) (by kernel_rfl) (by simp) ?_
      refine AllReady.cons rfl (fun K hK => ?_) (AllReady.cons rfl (fun K hK => ?_) AllReady.nil)
      · go_simp
        refine hK _ _ ?_
        clear hK K
        refine wpAny_ready (rs := [15, 17]) (by kernel_rfl) (by simp) ?_
        refine AllReady.cons rfl (fun K hK => ?_) (AllReady.cons rfl (fun K hK => ?_) AllReady.nil)
        · go_simp
          refine hK _ _ ?_
          clear hK K
          refine wpAny_ready (rs := [16, 17]) (by kernel_rfl) (by simp) ?_
          refine AllReady.cons rfl (fun K hK => ?_) (AllReady.cons rfl (fun K hK => ?_) AllReady.nil)
          · go_simp
            refine hK _ _ ?_
            clear hK K
            refine wpAny_ready (rs := [17]) (by kernel_rfl) (by simp) ?_
            refine AllReady.cons rfl (fun K hK => ?_) AllReady.nil
            go_simp
            refine hK _ _ ?_
            clear hK K
            refine wpAny_ready (rs := [18]) (by kernel_rfl) (by simp) ?_
            refine AllReady.cons rfl (fun K hK => ?_) AllReady.nil
            go_simp
            refine hK _ _ ?_
            clear hK K
            refine wpAny_ready (rs := [19]) (by kernel_rfl) (by simp) ?_
            refine AllReady.cons rfl (fun K hK => ?_) AllReady.nil
            go_simp
            refine hK _ _ ?_
            clear hK K
            refine wpAny_ready (rs := [20]) (by kernel_rfl) (by simp) ?_
            refine AllReady.cons rfl (fun K hK => ?_) AllReady.nil
            go_simp
            refine hK _ _ ?_
            clear hK K
            refine wpAny_done (by kernel_rfl) ?_ _
            go_wp2
            go_ret
            exact ⟨by first | rfl | trivial, belowStep HBG.out HB0.out⟩
          · go_simp
            refine hK _ _ ?_
            clear hK K
            refine wpAny_ready (rs := [16]) (by kernel_rfl) (by simp) ?_
            refine AllReady.cons rfl (fun K hK => ?_) AllReady.nil
            go_simp
            refine hK _ _ ?_
            clear hK K
            refine wpAny_ready (rs := [18]) (by kernel_rfl) (by simp) ?_
            refine AllReady.cons rfl (fun K hK => ?_) AllReady.nil
            go_simp
            refine hK _ _ ?_
            clear hK K
            refine wpAny_ready (rs := [19]) (by kernel_rfl) (by simp) ?_
            refine AllReady.cons rfl (fun K hK => ?_) AllReady.nil
            go_simp
            refine hK _ _ ?_
            clear hK K
            refine wpAny_ready (rs := [20]) (by kernel_rfl) (by simp) ?_
            refine AllReady.cons rfl (fun K hK => ?_) AllReady.nil
            go_simp
            refine hK _ _ ?_
            clear hK K
            refine wpAny_done (by kernel_rfl) ?_ _
            go_wp2
            go_ret
            exact ⟨by first | rfl | trivial, belowStep HBG.out HB0.out⟩
        · go_simp
          refine hK _ _ ?_
          clear hK K
          refine wpAny_ready (rs := [15]) (by kernel_rfl) (by simp) ?_
          refine AllReady.cons rfl (fun K hK => ?_) AllReady.nil
          go_simp
          refine hK _ _ ?_
          clear hK K
          refine wpAny_ready (rs := [16]) (by kernel_rfl) (by simp) ?_
          refine AllReady.cons rfl (fun K hK => ?_) AllReady.nil
          go_simp
          refine hK _ _ ?_
          clear hK K
          refine wpAny_ready (rs := [18]) (by kernel_rfl) (by simp) ?_
          refine AllReady.cons rfl (fun K hK => ?_) AllReady.nil
          go_simp
          refine hK _ _ ?_
          clear hK K
          refine wpAny_ready (rs := [19]) (by kernel_rfl) (by simp) ?_
          refine AllReady.cons rfl (fun K hK => ?_) AllReady.nil
          go_simp
          refine hK _ _ ?_
          clear hK K
          refine wpAny_ready (rs := [20]) (by kernel_rfl) (by simp) ?_
          refine AllReady.cons rfl (fun K hK => ?_) AllReady.nil
          go_simp
          refine hK _ _ ?_
          clear hK K
          refine wpAny_done (by kernel_rfl) ?_ _
          go_wp2
          go_ret
          exact ⟨by first | rfl | trivial, belowStep HBG.out HB0.out⟩
      · go_simp
        refine hK _ _ ?_
        clear hK K
        refine wpAny_ready (rs := [14]) (by kernel_rfl) (by simp) ?_
        refine AllReady.cons rfl (fun K hK => ?_) AllReady.nil
        go_simp
        refine hK _ _ ?_
        clear hK K
        refine wpAny_ready (rs := [15]) (by kernel_rfl) (by simp) ?_
        refine AllReady.cons rfl (fun K hK => ?_) AllReady.nil
        go_simp
        refine hK _ _ ?_
        clear hK K
        refine wpAny_ready (rs := [16]) (by kernel_rfl) (by simp) ?_
        refine AllReady.cons rfl (fun K hK => ?_) AllReady.nil
        go_simp
        refine hK _ _ ?_
        clear hK K
        refine wpAny_ready (rs := [18]) (by kernel_rfl) (by simp) ?_
        refine AllReady.cons rfl (fun K hK => ?_) AllReady.nil
        go_simp
        refine hK _ _ ?_
        clear hK K
        refine wpAny_ready (rs := [19]) (by kernel_rfl) (by simp) ?_
        refine AllReady.cons rfl (fun K hK => ?_) AllReady.nil
        go_simp
        refine hK _ _ ?_
        clear hK K
        refine wpAny_ready (rs := [20]) (by kernel_rfl) (by simp) ?_
        refine AllReady.cons rfl (fun K hK => ?_) AllReady.nil
        go_simp
        refine hK _ _ ?_
        clear hK K
        refine wpAny_done (by kernel_rfl) ?_ _
        go_wp2
        go_ret
        exact ⟨by first | rfl | trivial, belowStep HBG.out HB0.out⟩
    · have hR := HR.out (by first | rfl | trivial)
      have hR2 := HR2.out (by first | rfl | trivial)
      have HBIG := Lib.hid (show t.big ≤ 31000 ∧ by'.big ≤ 31000 from ⟨by omega, by omega⟩)
      have HVAL := Lib.hid (fun W (hW : W = wG) => valid_any P t (Pl.cat t.op) W (.agg #[.int .i64 t.op, .int .i64 t.n, .string t.s, .slice na nn nc, .slice la ln lc]) (HPW.out W (hW ▸ HBG.out)) (HTW.out W (hW ▸ HBG.out)) (by have := HBIG.out; omega))
      clear hR hR2
      have HAN := Lib.hid (any_of_valid t)
      generalize validP (Pl.cat t.op) t = vv at *
      cases dl
      · cases vv
        · refine wpAny_ready (rs := [6]) (by kernel_rfl) (by simp) ?_
          refine AllReady.cons rfl (fun K hK => ?_) AllReady.nil
          go_simp
          refine hK _ _ ?_
          clear hK K
          refine wpAny_ready (rs := [7]) (by kernel_rfl) (by simp) ?_
          refine AllReady.cons rfl (fun K hK => ?_) AllReady.nil
          go_simp
          refine hK _ _ ?_
          clear hK K
          refine wpAny_ready (rs := [8]) (by kernel_rfl) (by simp) ?_
          refine AllReady.cons rfl (fun K hK => ?_) AllReady.nil
          go_simp
          refine hK _ _ ?_
          clear hK K
          refine wpAny_ready (rs := [9]) (by kernel_rfl) (by simp) ?_
          refine AllReady.cons rfl (fun K hK => ?_) AllReady.nil
          go_simp
          refine hK _ _ ?_
          clear hK K
          refine wpAny_ready (rs := [10]) (by kernel_rfl) (by simp) ?_
          refine AllReady.cons rfl (fun K hK => ?_) AllReady.nil
          go_simp
          refine hK _ _ ?_
          clear hK K
          refine wpAny_ready (rs := [11]) (by kernel_rfl) (by simp) ?_
          refine AllReady.cons rfl (fun K hK => ?_) AllReady.nil
          go_simp
          refine hK _ _ ?_
          clear hK K
          refine wpAny_ready (rs := [12]) (by kernel_rfl) (by simp) ?_
          refine AllReady.cons rfl (fun K hK => ?_) AllReady.nil
          go_simp
          refine hK _ _ ?_
          clear hK K
          refine wpAny_ready (rs := [13]) (by kernel_rfl) (by simp) ?_
          refine AllReady.cons rfl (fun K hK => ?_) AllReady.nil
          go_simp
          refine hK _ _ ?_
          clear hK K
          refine wpAny_ready (rs := [14, 17]) (by kernel_rfl) (by simp) ?_
          refine AllReady.cons rfl (fun K hK => ?_) (AllReady.cons rfl (fun K hK => ?_) AllReady.nil)
          · go_simp
            refine hK _ _ ?_
            clear hK K
            refine wpAny_ready (rs := [15, 17]) (by kernel_rfl) (by simp) ?_
            refine AllReady.cons rfl (fun K hK => ?_) (AllReady.cons rfl (fun K hK => ?_) AllReady.nil)
            · go_simp
              refine hK _ _ ?_
              clear hK K
              refine wpAny_ready (rs := [16, 17]) (by kernel_rfl) (by simp) ?_
              refine AllReady.cons rfl (fun K hK => ?_) (AllReady.cons rfl (fun K hK => ?_) AllReady.nil)
              · go_simp
                go_wp2_with fail
                refine (category_any _ _).mono ?_
                rintro e wn ⟨rfl, rfl⟩
                refine hK _ _ ?_
                clear hK K
                refine wpAny_ready (rs := [17]) (by kernel_rfl) (by simp) ?_
                refine AllReady.cons rfl (fun K hK => ?_) AllReady.nil
                go_simp
                refine hK _ _ ?_
                clear hK K
                refine wpAny_ready (rs := [18]) (by kernel_rfl) (by simp) ?_
                refine AllReady.cons rfl (fun K hK => ?_) AllReady.nil
                go_simp
                go_wp2_with fail
                refine (HVAL.out _ rfl).mono ?_
                rintro e wn ⟨rfl, hbn⟩
                have HBN := Lib.hid (belowStep hbn HBG.out)
                clear hbn x0 x1 x2 x3 x4 y0 y1 y2 y3 y4 u0
                obtain ⟨⟨x0, x1, x2, x3, x4⟩, u0, ⟨y0, y1, y2, y3, y4⟩⟩ := HS.out _ HBN.out
                refine hK _ _ ?_
                clear hK K
                refine wpAny_ready (rs := [19]) (by kernel_rfl) (by simp) ?_
                refine AllReady.cons rfl (fun K hK => ?_) AllReady.nil
                go_simp
                refine hK _ _ ?_
                clear hK K
                refine wpAny_ready (rs := [20]) (by kernel_rfl) (by simp) ?_
                refine AllReady.cons rfl (fun K hK => ?_) AllReady.nil
                go_simp
                refine hK _ _ ?_
                clear hK K
                refine wpAny_done (by kernel_rfl) ?_ _
                go_wp2
                go_ret
                exact ⟨by first | rfl | trivial, belowStep HBN.out HB0.out⟩
              · go_simp
                refine hK _ _ ?_
                clear hK K
                refine wpAny_ready (rs := [16]) (by kernel_rfl) (by simp) ?_
                refine AllReady.cons rfl (fun K hK => ?_) AllReady.nil
                go_simp
                go_wp2_with fail
                refine (category_any _ _).mono ?_
                rintro e wn ⟨rfl, rfl⟩
                refine hK _ _ ?_
                clear hK K
                refine wpAny_ready (rs := [18]) (by kernel_rfl) (by simp) ?_
                refine AllReady.cons rfl (fun K hK => ?_) AllReady.nil
                go_simp
                go_wp2_with fail
                refine (HVAL.out _ rfl).mono ?_
                rintro e wn ⟨rfl, hbn⟩
                have HBN := Lib.hid (belowStep hbn HBG.out)
                clear hbn x0 x1 x2 x3 x4 y0 y1 y2 y3 y4 u0
                obtain ⟨⟨x0, x1, x2, x3, x4⟩, u0, ⟨y0, y1, y2, y3, y4⟩⟩ := HS.out _ HBN.out
                refine hK _ _ ?_
                clear hK K
                refine wpAny_ready (rs := [19]) (by kernel_rfl) (by simp) ?_
                refine AllReady.cons rfl (fun K hK => ?_) AllReady.nil
                go_simp
                refine hK _ _ ?_
                clear hK K
                refine wpAny_ready (rs := [20]) (by kernel_rfl) (by simp) ?_
                refine AllReady.cons rfl (fun K hK => ?_) AllReady.nil
                go_simp
                refine hK _ _ ?_
                clear hK K
                refine wpAny_done (by kernel_rfl) ?_ _
                go_wp2
                go_ret
                exact ⟨by first | rfl | trivial, belowStep HBN.out HB0.out⟩
            · go_simp
              refine hK _ _ ?_
              clear hK K
              refine wpAny_ready (rs := [15]) (by kernel_rfl) (by simp) ?_
              refine AllReady.cons rfl (fun K hK => ?_) AllReady.nil
              go_simp
              refine hK _ _ ?_
              clear hK K
              refine wpAny_ready (rs := [16]) (by kernel_rfl) (by simp) ?_
              refine AllReady.cons rfl (fun K hK => ?_) AllReady.nil
              go_simp
              go_wp2_with fail
              refine (category_any _ _).mono ?_
              rintro e wn ⟨rfl, rfl⟩
              refine hK _ _ ?_
              clear hK K
              refine wpAny_ready (rs := [18]) (by kernel_rfl) (by simp) ?_
              refine AllReady.cons rfl (fun K hK => ?_) AllReady.nil
              go_simp
              go_wp2_with fail
              refine (HVAL.out _ rfl).mono ?_
              rintro e wn ⟨rfl, hbn⟩
              have HBN := Lib.hid (belowStep hbn HBG.out)
              clear hbn x0 x1 x2 x3 x4 y0 y1 y2 y3 y4 u0
              obtain ⟨⟨x0, x1, x2, x3, x4⟩, u0, ⟨y0, y1, y2, y3, y4⟩⟩ := HS.out _ HBN.out
              refine hK _ _ ?_
              clear hK K
              refine wpAny_ready (rs := [19]) (by kernel_rfl) (by simp) ?_
              refine AllReady.cons rfl (fun K hK => ?_) AllReady.nil
              go_simp
              refine hK _ _ ?_
              clear hK K
              refine wpAny_ready (rs := [20]) (by kernel_rfl) (by simp) ?_
              refine AllReady.cons rfl (fun K hK => ?_) AllReady.nil
              go_simp
              refine hK _ _ ?_
              clear hK K
              refine wpAny_done (by kernel_rfl) ?_ _
              go_wp2
              go_ret
              exact ⟨by first | rfl | trivial, belowStep HBN.out HB0.out⟩
          · go_simp
            refine hK _ _ ?_
            clear hK K
            refine wpAny_ready (rs := [14]) (by kernel_rfl) (by simp) ?_
            refine AllReady.cons rfl (fun K hK => ?_) AllReady.nil
            go_simp
            refine hK _ _ ?_
            clear hK K
            refine wpAny_ready (rs := [15]) (by kernel_rfl) (by simp) ?_
            refine AllReady.cons rfl (fun K hK => ?_) AllReady.nil
            go_simp
            refine hK _ _ ?_
            clear hK K
            refine wpAny_ready (rs := [16]) (by kernel_rfl) (by simp) ?_
            refine AllReady.cons rfl (fun K hK => ?_) AllReady.nil
            go_simp
            go_wp2_with fail
            refine (category_any _ _).mono ?_
            rintro e wn ⟨rfl, rfl⟩
            refine hK _ _ ?_
            clear hK K
            refine wpAny_ready (rs := [18]) (by kernel_rfl) (by simp) ?_
            refine AllReady.cons rfl (fun K hK => ?_) AllReady.nil
            go_simp
            go_wp2_with fail
            refine (HVAL.out _ rfl).mono ?_
            rintro e wn ⟨rfl, hbn⟩
            have HBN := Lib.hid (belowStep hbn HBG.out)
            clear hbn x0 x1 x2 x3 x4 y0 y1 y2 y3 y4 u0
            obtain ⟨⟨x0, x1, x2, x3, x4⟩, u0, ⟨y0, y1, y2, y3, y4⟩⟩ := HS.out _ HBN.out
            refine hK _ _ ?_
            clear hK K
            refine wpAny_ready (rs := [19]) (by kernel_rfl) (by simp) ?_
            refine AllReady.cons rfl (fun K hK => ?_) AllReady.nil
            go_simp
            refine hK _ _ ?_
            clear hK K
            refine wpAny_ready (rs := [20]) (by kernel_rfl) (by simp) ?_
            refine AllReady.cons rfl (fun K hK => ?_) AllReady.nil
            go_simp
            refine hK _ _ ?_
            clear hK K
            refine wpAny_done (by kernel_rfl) ?_ _
            go_wp2
            go_ret
            exact ⟨by first | rfl | trivial, belowStep HBN.out HB0.out⟩
        · refine wpAny_ready (rs := [6]) (by kernel_rfl) (by simp) ?_
          refine AllReady.cons rfl (fun K hK => ?_) AllReady.nil
          go_simp
          refine hK _ _ ?_
          clear hK K
          refine wpAny_ready (rs := [7]) (by kernel_rfl) (by simp) ?_
          refine AllReady.cons rfl (fun K hK => ?_) AllReady.nil
          go_simp
          refine hK _ _ ?_
          clear hK K
          refine wpAny_ready (rs := [8]) (by kernel_rfl) (by simp) ?_
          refine AllReady.cons rfl (fun K hK => ?_) AllReady.nil
          go_simp
          refine hK _ _ ?_
          clear hK K
          refine wpAny_ready (rs := [9]) (by kernel_rfl) (by simp) ?_
          refine AllReady.cons rfl (fun K hK => ?_) AllReady.nil
          go_simp
          refine hK _ _ ?_
          clear hK K
          refine wpAny_ready (rs := [10]) (by kernel_rfl) (by simp) ?_
          refine AllReady.cons rfl (fun K hK => ?_) AllReady.nil
          go_simp
          refine hK _ _ ?_
          clear hK K
          refine wpAny_ready (rs := [11]) (by kernel_rfl) (by simp) ?_
          refine AllReady.cons rfl (fun K hK => ?_) AllReady.nil
          go_simp
          refine hK _ _ ?_
          clear hK K
          refine wpAny_ready (rs := [12]) (by kernel_rfl) (by simp) ?_
          refine AllReady.cons rfl (fun K hK => ?_) AllReady.nil
          go_simp
          refine hK _ _ ?_
          clear hK K
          refine wpAny_ready (rs := [13]) (by kernel_rfl) (by simp) ?_
          refine AllReady.cons rfl (fun K hK => ?_) AllReady.nil
          go_simp
          refine hK _ _ ?_
          clear hK K
          refine wpAny_ready (rs := [14, 17]) (by kernel_rfl) (by simp) ?_
          refine AllReady.cons rfl (fun K hK => ?_) (AllReady.cons rfl (fun K hK => ?_) AllReady.nil)
          · go_simp
            refine hK _ _ ?_
            clear hK K
            refine wpAny_ready (rs := [15, 17]) (by kernel_rfl) (by simp) ?_
            refine AllReady.cons rfl (fun K hK => ?_) (AllReady.cons rfl (fun K hK => ?_) AllReady.nil)
            · go_simp
              refine hK _ _ ?_
              clear hK K
              refine wpAny_ready (rs := [16, 17]) (by kernel_rfl) (by simp) ?_
              refine AllReady.cons rfl (fun K hK => ?_) (AllReady.cons rfl (fun K hK => ?_) AllReady.nil)
              · go_simp
                go_wp2_with fail
                refine (category_any _ _).mono ?_
                rintro e wn ⟨rfl, rfl⟩
                refine hK _ _ ?_
                clear hK K
                refine wpAny_ready (rs := [17]) (by kernel_rfl) (by simp) ?_
                refine AllReady.cons rfl (fun K hK => ?_) AllReady.nil
                go_simp
                refine hK _ _ ?_
                clear hK K
                refine wpAny_ready (rs := [18]) (by kernel_rfl) (by simp) ?_
                refine AllReady.cons rfl (fun K hK => ?_) AllReady.nil
                go_simp
                go_wp2_with fail
                refine (HVAL.out _ rfl).mono ?_
                rintro e wn ⟨rfl, hbn⟩
                have HBN := Lib.hid (belowStep hbn HBG.out)
                clear hbn x0 x1 x2 x3 x4 y0 y1 y2 y3 y4 u0
                obtain ⟨⟨x0, x1, x2, x3, x4⟩, u0, ⟨y0, y1, y2, y3, y4⟩⟩ := HS.out _ HBN.out
                refine hK _ _ ?_
                clear hK K
                refine wpAny_ready (rs := [19]) (by kernel_rfl) (by simp) ?_
                refine AllReady.cons rfl (fun K hK => ?_) AllReady.nil
                go_simp
                refine hK _ _ ?_
                clear hK K
                refine wpAny_ready (rs := [20]) (by kernel_rfl) (by simp) ?_
                refine AllReady.cons rfl (fun K hK => ?_) AllReady.nil
                go_simp
                refine hK _ _ ?_
                clear hK K
                refine wpAny_done (by kernel_rfl) ?_ _
                have hAny := HAN.out (by first | rfl | trivial)
                have HAY := Lib.hid hAny
                have HFI := Lib.hid (find_any P t at' _ _ (.slice aa al ac) (w.heap.size + 1) (HPW.out _ HBN.out) (HTW.out _ HBN.out) (HXAW.out _ HBN.out) (HAW.out _ HBN.out))
                have HRR := Lib.hid (rep_range t at' by' hAny)
                have HRS := Lib.hid (fun old => rep_self t at' old hAny)
                have HRO := Lib.hid (fun old => rep_other t at' by' old hAny)
                have HFB := Lib.hid (Pl.find_big at' t)
                generalize hfind : Pl.find at' t = fnd at *
                have HRP := Lib.hid (fun W (hW : Below w0.heap.size w0 W) => replace_any P P t at' by' W _ _ _ (HPW.out W hW) (HPW.out W hW) (HTW.out W hW) (HYW.out W hW) (HAW.out W hW) (by have := HBIG.out; omega) (by have := HBIG.out; omega))
                have HFN := Lib.hid hfind
                clear hfind hAny x0 x1 x2 x3 x4 y0 y1 y2 y3 y4 u0
                obtain ⟨⟨x0, x1, x2, x3, x4⟩, u0, ⟨y0, y1, y2, y3, y4⟩⟩ := HS.out _ HBN.out
                go_wp2_with fail
                refine HFI.out.mono ?_
                rintro e w2 ⟨hr, hb2⟩
                have HB2 := Lib.hid (belowStep hb2 HBN.out)
                clear hb2 x0 x1 x2 x3 x4 y0 y1 y2 y3 y4 u0
                cases fnd with
                | none =>
                  subst hr
                  rw [show zeroSyn = (.agg #[.int .i64 0, .int .i64 0, .string ⟨#[]⟩, .slice none 0 0, .slice none 0 0] : Value) from rfl]
                  have HBO := Lib.hid (show Below w0.heap.size w0 (w2.alloc (.cells #[.int .i64 0, .int .i64 0, .string ⟨#[]⟩, .slice none 0 0, .slice none 0 0] 25)) from HB2.out.alloc HB2.out.size _)
                  have HRPO := Lib.hid (HRP.out _ HBO.out)
                  have HRC := Lib.hid (HRR.out (by first | rfl | trivial))
                  generalize hrc : repCode t at' by' = rc at *
                  obtain ⟨⟨x0, x1, x2, x3, x4⟩, u0, ⟨y0, y1, y2, y3, y4⟩⟩ := HS.out _ HBO.out
                  go_wp2_with fail
                  refine HRPO.out.mono ?_
                  rintro e w3 ⟨hr, hb3⟩
                  have HB3 := Lib.hid (belowStep hb3 HBO.out)
                  clear hb3 x0 x1 x2 x3 x4 y0 y1 y2 y3 y4 u0
                  have hrc2 := HRC.out
                  subst hrc2
                  rcases hr with ⟨-, rfl⟩ | ⟨h0, -⟩
                  · rw [hrc]
                    rw [show zeroSyn = (.agg #[.int .i64 0, .int .i64 0, .string ⟨#[]⟩, .slice none 0 0, .slice none 0 0] : Value) from rfl]
                    have hx := blk_new w3 #[.int .i64 0, .int .i64 0, .string ⟨#[]⟩, .slice none 0 0, .slice none 0 0] 25
                    obtain ⟨q0, q1, q2, q3, q4⟩ := box_cells hx
                    go_wp2
                    go_ret
                    exact ⟨by first | rfl | trivial, belowStep (HB3.out.alloc HB3.out.size _) HB0.out⟩
                  · rw [hrc] at h0; cases h0
                | some old =>
                  obtain ⟨ov, rfl, hov⟩ := hr
                  have HOB := Lib.hid (HFB.out old rfl)
                  obtain ⟨ona, onn, onc, ola, oln, olc, rfl⟩ := hov.form
                  have HOV := Lib.hid (fun W (hW : Below w2.heap.size w2 W) => hov.keep (Same.of_below hW (fun b hb => HPW.out _ HB2.out b hb)))
                  have hob := blk_new w2 #[.int .i64 old.op, .int .i64 old.n, .string old.s, .slice ona onn onc, .slice ola oln olc] 25
                  have HBO := Lib.hid (show Below w0.heap.size w0 (w2.alloc (.cells #[.int .i64 old.op, .int .i64 old.n, .string old.s, .slice ona onn onc, .slice ola oln olc] 25)) from HB2.out.alloc HB2.out.size _)
                  have HB2O := Lib.hid (show Below w2.heap.size w2 (w2.alloc (.cells #[.int .i64 old.op, .int .i64 old.n, .string old.s, .slice ona onn onc, .slice ola oln olc] 25)) from (Below.refl _ _).alloc (Nat.le_refl _) _)
                  have HKO := Lib.hid (fun W (hW : Below (w2.alloc (.cells #[.int .i64 old.op, .int .i64 old.n, .string old.s, .slice ona onn onc, .slice ola oln olc] 25)).heap.size (w2.alloc (.cells #[.int .i64 old.op, .int .i64 old.n, .string old.s, .slice ona onn onc, .slice ola oln olc] 25)) W) => hob.of_eq (hW.block _ (Blk.lt hob)))
                  have HRPO := Lib.hid (HRP.out _ HBO.out)
                  clear hov hob
                  obtain ⟨⟨x0, x1, x2, x3, x4⟩, u0, ⟨y0, y1, y2, y3, y4⟩⟩ := HS.out _ HBO.out
                  go_wp2_with fail
                  generalize (w2.alloc (.cells #[.int .i64 old.op, .int .i64 old.n, .string old.s, .slice ona onn onc, .slice ola oln olc] 25)) = wo at HBO HB2O HKO HRPO x0 x1 x2 x3 x4 u0 y0 y1 y2 y3 y4 ⊢
                  refine HRPO.out.mono ?_
                  rintro e w3 ⟨hr, hb3⟩
                  have HBO3 := Lib.hid hb3
                  have HB3 := Lib.hid (belowStep hb3 HBO.out)
                  have hres : ∃ c xo xn xs xna xnn xnc xla xln xlc, e = .returned (.tuple #[.agg #[.int .i64 xo, .int .i64 xn, .string xs, .slice xna xnn xnc, .slice xla xln xlc], .int .i64 c]) ∧ ((c = 3 ∧ xo = 0) ∨ (c = 0 ∧ ∃ x : Syn, SynV w3 (fun b => wo.heap.size ≤ b ∧ b < w3.heap.size) x (.agg #[.int .i64 xo, .int .i64 xn, .string xs, .slice xna xnn xnc, .slice xla xln xlc]) ∧ x.big ≤ 62000 ∧ Pl.find at' x = some by' ∧ anyP x = true ∧ repCode x at' old = 0 ∧ Pl.put at' x old = some t ∧ x.size + old.size = t.size + by'.size)) := by
                    rcases HRO.out old rfl with h3 | ⟨h0, x, hp, h4, h5, h6, h7, h8⟩
                    · rcases hr with ⟨-, rfl⟩ | ⟨hz, -⟩
                      · rw [h3]
                        exact ⟨3, 0, 0, ⟨#[]⟩, none, 0, 0, none, 0, 0, rfl, .inl ⟨rfl, rfl⟩⟩
                      · rw [h3] at hz; cases hz
                    · rcases hr with ⟨hz, -⟩ | ⟨-, x', v, hp', rfl, hv⟩
                      · exact absurd h0 hz
                      · rw [hp] at hp'
                        injection hp' with hp'
                        subst hp'
                        obtain ⟨xna, xnn, xnc, xla, xln, xlc, rfl⟩ := hv.form
                        have hxb := Pl.put_big at' t by' x hp
                        exact ⟨0, x.op, x.n, x.s, xna, xnn, xnc, xla, xln, xlc, rfl, .inr ⟨rfl, x, hv, by have := HBIG.out; omega, h4, h5, h6, h7, h8⟩⟩
                  obtain ⟨c, xo, xn, xs, xna, xnn, xnc, xla, xln, xlc, rfl, hc⟩ := hres
                  have HC := Lib.hid hc
                  clear hr hc hb3 x0 x1 x2 x3 x4 y0 y1 y2 y3 y4 u0
                  have hxb := blk_new w3 #[.int .i64 xo, .int .i64 xn, .string xs, .slice xna xnn xnc, .slice xla xln xlc] 25
                  have HBX := Lib.hid (show Below w0.heap.size w0 (w3.alloc (.cells #[.int .i64 xo, .int .i64 xn, .string xs, .slice xna xnn xnc, .slice xla xln xlc] 25)) from HB3.out.alloc HB3.out.size _)
                  have HB3X := Lib.hid (show Below w3.heap.size w3 (w3.alloc (.cells #[.int .i64 xo, .int .i64 xn, .string xs, .slice xna xnn xnc, .slice xla xln xlc] 25)) from (Below.refl _ _).alloc (Nat.le_refl _) _)
                  have HKX := Lib.hid (fun W (hW : Below (w3.alloc (.cells #[.int .i64 xo, .int .i64 xn, .string xs, .slice xna xnn xnc, .slice xla xln xlc] 25)).heap.size (w3.alloc (.cells #[.int .i64 xo, .int .i64 xn, .string xs, .slice xna xnn xnc, .slice xla xln xlc] 25)) W) => hxb.of_eq (hW.block _ (Blk.lt hxb)))
                  have HOX := Lib.hid (belowStep HB3X.out (HBO3.out))
                  have HRP2 := Lib.hid (replace_any P P t at' old _ _ _ _ (HPW.out _ HBX.out) (HPW.out _ HBX.out) (HTW.out _ HBX.out) (HOV.out _ (belowStep HOX.out HB2O.out)) (HAW.out _ HBX.out) (by have := HBIG.out; omega) (by have := HBIG.out; have := HOB.out; omega))
                  clear hxb
                  obtain ⟨⟨x0, x1, x2, x3, x4⟩, u0, ⟨y0, y1, y2, y3, y4⟩⟩ := HS.out _ HBX.out
                  obtain ⟨o0, o1, o2, o3, o4⟩ := box_cells (HKO.out _ HOX.out)
                  go_wp2_with fail
                  generalize (w3.alloc (.cells #[.int .i64 xo, .int .i64 xn, .string xs, .slice xna xnn xnc, .slice xla xln xlc] 25)) = wx at HBX HB3X HKX HOX HRP2 x0 x1 x2 x3 x4 u0 y0 y1 y2 y3 y4 o0 o1 o2 o3 o4 ⊢
                  refine HRP2.out.mono ?_
                  rintro e w4 ⟨hr, hb4⟩
                  have HBX4 := Lib.hid hb4
                  have HB4 := Lib.hid (belowStep hb4 HBX.out)
                  have hres : ∃ sna snn snc sla sln slc, e = .returned (.tuple #[.agg #[.int .i64 t.op, .int .i64 t.n, .string t.s, .slice sna snn snc, .slice sla sln slc], .int .i64 0]) ∧ SynV w4 (fun b => wx.heap.size ≤ b ∧ b < w4.heap.size) t (.agg #[.int .i64 t.op, .int .i64 t.n, .string t.s, .slice sna snn snc, .slice sla sln slc]) := by
                    obtain ⟨h0, hp⟩ := HRS.out old rfl
                    rcases hr with ⟨hz, -⟩ | ⟨-, x', v, hp', rfl, hv⟩
                    · exact absurd h0 hz
                    · rw [hp] at hp'
                      injection hp' with hp'
                      subst hp'
                      obtain ⟨sna, snn, snc, sla, sln, slc, rfl⟩ := hv.form
                      exact ⟨sna, snn, snc, sla, sln, slc, rfl, hv⟩
                  obtain ⟨sna, snn, snc, sla, sln, slc, rfl, hsv⟩ := hres
                  have HSV := Lib.hid hsv
                  clear hr hsv hb4 x0 x1 x2 x3 x4 y0 y1 y2 y3 y4 u0 o0 o1 o2 o3 o4
                  have hsb := blk_new w4 #[.int .i64 t.op, .int .i64 t.n, .string t.s, .slice sna snn snc, .slice sla sln slc] 25
                  have HBS := Lib.hid (show Below w0.heap.size w0 (w4.alloc (.cells #[.int .i64 t.op, .int .i64 t.n, .string t.s, .slice sna snn snc, .slice sla sln slc] 25)) from HB4.out.alloc HB4.out.size _)
                  have HB4S := Lib.hid (show Below w4.heap.size w4 (w4.alloc (.cells #[.int .i64 t.op, .int .i64 t.n, .string t.s, .slice sna snn snc, .slice sla sln slc] 25)) from (Below.refl _ _).alloc (Nat.le_refl _) _)
                  have HXS := Lib.hid (belowStep HB4S.out HBX4.out)
                  have HEQ := Lib.hid ((equal_any t _ P t _ _ _ (fun b hb => Nat.lt_of_lt_of_le hb.2 HB4S.out.size) (HPW.out _ HBS.out) (HSV.out.keep (Same.of_below HB4S.out (fun b hb => hb.2))) (HTW.out _ HBS.out)).mono fun _ _ => tells_yesB)
                  rw [yes_true (show t = t from rfl)] at HEQ
                  obtain ⟨x0, x1, x2, x3, x4⟩ := (HS.out _ HBS.out).1
                  obtain ⟨s0, s1, s2, s3, s4⟩ := box_cells hsb
                  clear hsb
                  go_wp2_with fail
                  generalize (w4.alloc (.cells #[.int .i64 t.op, .int .i64 t.n, .string t.s, .slice sna snn snc, .slice sla sln slc] 25)) = ws at HBS HB4S HXS HEQ x0 x1 x2 x3 x4 s0 s1 s2 s3 s4 ⊢
                  refine HEQ.out.mono ?_
                  rintro e w5 ⟨rfl, hb5⟩
                  have HB5 := Lib.hid (belowStep hb5 HBS.out)
                  have HX5 := Lib.hid (belowStep hb5 HXS.out)
                  clear hb5 x0 x1 x2 x3 x4 s0 s1 s2 s3 s4
                  obtain ⟨q0, q1, q2, q3, q4⟩ := box_cells (HKX.out _ HX5.out)
                  rcases HC.out with ⟨rfl, rfl⟩ | ⟨rfl, x, hxv, hxb, hxf, hxa, hxr, hxp, hxs⟩
                  · go_wp2
                    go_ret
                    exact ⟨by first | rfl | trivial, belowStep HB5.out HB0.out⟩
                  · have HX35 := Lib.hid (belowStep HX5.out HB3X.out)
                    have HXV := Lib.hid (fun W (hW : Below w3.heap.size w3 W) => hxv.keep (Same.of_below hW (fun b hb => hb.2)))
                    have HXP := Lib.hid (fun W (hW : Below w3.heap.size w3 W) b (hb : wo.heap.size ≤ b ∧ b < w3.heap.size) => Nat.lt_of_lt_of_le hb.2 hW.size)
                    have HXB := Lib.hid hxb
                    have HXR := Lib.hid hxr
                    have HXPT := Lib.hid hxp
                    have HXSZ := Lib.hid hxs
                    have HFX := Lib.hid (find_any _ x at' _ _ (.slice aa al ac) (w.heap.size + 1) (HXP.out _ HX35.out) (HXV.out _ HX35.out) (HXAW.out _ HB5.out) (HAW.out _ HB5.out))
                    rw [hxf] at HFX
                    clear hxv hxb hxf hxa hxr hxp hxs
                    obtain ⟨⟨x0, x1, x2, x3, x4⟩, u0, ⟨y0, y1, y2, y3, y4⟩⟩ := HS.out _ HB5.out
                    go_wp2_with fail
                    refine HFX.out.mono ?_
                    rintro e w6 ⟨⟨gv, rfl, hgv⟩, hb6⟩
                    have HB6 := Lib.hid (belowStep hb6 HB5.out)
                    have HX6 := Lib.hid (belowStep hb6 HX5.out)
                    obtain ⟨gna, gnn, gnc, gla, gln, glc, rfl⟩ := hgv.form
                    have HX36 := Lib.hid (belowStep HX6.out HB3X.out)
                    have HGV := Lib.hid (fun W (hW : Below w6.heap.size w6 W) => hgv.keep (Same.of_below hW (HXP.out _ HX36.out)))
                    clear hb6 hgv x0 x1 x2 x3 x4 y0 y1 y2 y3 y4 u0 q0 q1 q2 q3 q4
                    have hgb := blk_new w6 #[.int .i64 by'.op, .int .i64 by'.n, .string by'.s, .slice gna gnn gnc, .slice gla gln glc] 25
                    have HBG2 := Lib.hid (show Below w0.heap.size w0 (w6.alloc (.cells #[.int .i64 by'.op, .int .i64 by'.n, .string by'.s, .slice gna gnn gnc, .slice gla gln glc] 25)) from HB6.out.alloc HB6.out.size _)
                    have HB6G := Lib.hid (show Below w6.heap.size w6 (w6.alloc (.cells #[.int .i64 by'.op, .int .i64 by'.n, .string by'.s, .slice gna gnn gnc, .slice gla gln glc] 25)) from (Below.refl _ _).alloc (Nat.le_refl _) _)
                    have HKG := Lib.hid (fun W (hW : Below (w6.alloc (.cells #[.int .i64 by'.op, .int .i64 by'.n, .string by'.s, .slice gna gnn gnc, .slice gla gln glc] 25)).heap.size (w6.alloc (.cells #[.int .i64 by'.op, .int .i64 by'.n, .string by'.s, .slice gna gnn gnc, .slice gla gln glc] 25)) W) => hgb.of_eq (hW.block _ (Blk.lt hgb)))
                    have HXG := Lib.hid (belowStep HB6G.out HX6.out)
                    have HX3G := Lib.hid (belowStep HXG.out HB3X.out)
                    have HOG := Lib.hid (belowStep HX3G.out HBO3.out)
                    have HRP3 := Lib.hid (replace_any _ P x at' old _ _ _ _ (HXP.out _ HX3G.out) (HPW.out _ HBG2.out) (HXV.out _ HX3G.out) (HOV.out _ (belowStep HOG.out HB2O.out)) (HAW.out _ HBG2.out) (by have := HXB.out; omega) (by have := HBIG.out; have := HOB.out; omega))
                    clear hgb
                    obtain ⟨⟨x0, x1, x2, x3, x4⟩, u0, ⟨y0, y1, y2, y3, y4⟩⟩ := HS.out _ HBG2.out
                    obtain ⟨o0, o1, o2, o3, o4⟩ := box_cells (HKO.out _ HOG.out)
                    obtain ⟨q0, q1, q2, q3, q4⟩ := box_cells (HKX.out _ HXG.out)
                    go_wp2_with fail
                    generalize (w6.alloc (.cells #[.int .i64 by'.op, .int .i64 by'.n, .string by'.s, .slice gna gnn gnc, .slice gla gln glc] 25)) = wg at HBG2 HB6G HKG HXG HX3G HOG HRP3 x0 x1 x2 x3 x4 u0 y0 y1 y2 y3 y4 o0 o1 o2 o3 o4 q0 q1 q2 q3 q4 ⊢
                    refine HRP3.out.mono ?_
                    rintro e w7 ⟨hr, hb7⟩
                    have HG7 := Lib.hid hb7
                    have HB7 := Lib.hid (belowStep hb7 HBG2.out)
                    have hres : ∃ kna knn knc kla kln klc, e = .returned (.tuple #[.agg #[.int .i64 t.op, .int .i64 t.n, .string t.s, .slice kna knn knc, .slice kla kln klc], .int .i64 0]) ∧ SynV w7 (fun b => wg.heap.size ≤ b ∧ b < w7.heap.size) t (.agg #[.int .i64 t.op, .int .i64 t.n, .string t.s, .slice kna knn knc, .slice kla kln klc]) := by
                      rcases hr with ⟨hz, -⟩ | ⟨-, x', v, hp', rfl, hv⟩
                      · exact absurd HXR.out hz
                      · rw [HXPT.out] at hp'
                        injection hp' with hp'
                        subst hp'
                        obtain ⟨kna, knn, knc, kla, kln, klc, rfl⟩ := hv.form
                        exact ⟨kna, knn, knc, kla, kln, klc, rfl, hv⟩
                    obtain ⟨kna, knn, knc, kla, kln, klc, rfl, hkv⟩ := hres
                    have HKV := Lib.hid (fun W (hW : Below w7.heap.size w7 W) => hkv.keep (Same.of_below hW (fun b hb => hb.2)))
                    clear hr hkv hb7 x0 x1 x2 x3 x4 y0 y1 y2 y3 y4 u0 o0 o1 o2 o3 o4 q0 q1 q2 q3 q4
                    have hkb := blk_new w7 #[.int .i64 t.op, .int .i64 t.n, .string t.s, .slice kna knn knc, .slice kla kln klc] 25
                    have HBK := Lib.hid (show Below w0.heap.size w0 (w7.alloc (.cells #[.int .i64 t.op, .int .i64 t.n, .string t.s, .slice kna knn knc, .slice kla kln klc] 25)) from HB7.out.alloc HB7.out.size _)
                    have HB7K := Lib.hid (show Below w7.heap.size w7 (w7.alloc (.cells #[.int .i64 t.op, .int .i64 t.n, .string t.s, .slice kna knn knc, .slice kla kln klc] 25)) from (Below.refl _ _).alloc (Nat.le_refl _) _)
                    have HKKW := Lib.hid (fun W (hW : Below (w7.alloc (.cells #[.int .i64 t.op, .int .i64 t.n, .string t.s, .slice kna knn knc, .slice kla kln klc] 25)).heap.size (w7.alloc (.cells #[.int .i64 t.op, .int .i64 t.n, .string t.s, .slice kna knn knc, .slice kla kln klc] 25)) W) => hkb.of_eq (hW.block _ (Blk.lt hkb)))
                    clear hkb
                    have hxle := Pl.size_big x
                    have htle := Pl.size_big t
                    have hole := Pl.size_big old
                    have hyle := Pl.size_big by'
                    have HGK := Lib.hid (belowStep HB7K.out HG7.out)
                    have HXK := Lib.hid (belowStep HGK.out HXG.out)
                    have H3K := Lib.hid (belowStep HXK.out HB3X.out)
                    have HOK := Lib.hid (belowStep H3K.out HBO3.out)
                    have H2K := Lib.hid (belowStep HOK.out HB2O.out)
                    have H6K := Lib.hid (belowStep HGK.out HB6G.out)
                    have HE1 := Lib.hid (fun W (hW : Below (w7.alloc (.cells #[.int .i64 t.op, .int .i64 t.n, .string t.s, .slice kna knn knc, .slice kla kln klc] 25)).heap.size (w7.alloc (.cells #[.int .i64 t.op, .int .i64 t.n, .string t.s, .slice kna knn knc, .slice kla kln klc] 25)) W) => (equal_any by' _ P by' W _ _ (HXP.out _ (belowStep hW H3K.out)) (HPW.out _ (belowStep hW HBK.out)) (HGV.out _ (belowStep hW H6K.out)) (HYW.out _ (belowStep hW HBK.out))).mono fun _ _ => tells_yesB)
                    have HE2 := Lib.hid (fun W (hW : Below (w7.alloc (.cells #[.int .i64 t.op, .int .i64 t.n, .string t.s, .slice kna knn knc, .slice kla kln klc] 25)).heap.size (w7.alloc (.cells #[.int .i64 t.op, .int .i64 t.n, .string t.s, .slice kna knn knc, .slice kla kln klc] 25)) W) => (equal_any t (fun b => wg.heap.size ≤ b ∧ b < w7.heap.size) P t W _ _ (fun b hb => Nat.lt_of_lt_of_le hb.2 (belowStep hW HB7K.out).size) (HPW.out _ (belowStep hW HBK.out)) (HKV.out _ (belowStep hW HB7K.out)) (HTW.out _ (belowStep hW HBK.out))).mono fun _ _ => tells_yesB)
                    have HZX := Lib.hid (fun W (hW : Below (w7.alloc (.cells #[.int .i64 t.op, .int .i64 t.n, .string t.s, .slice kna knn knc, .slice kla kln klc] 25)).heap.size (w7.alloc (.cells #[.int .i64 t.op, .int .i64 t.n, .string t.s, .slice kna knn knc, .slice kla kln klc] 25)) W) => size_any _ x W _ (HXP.out _ (belowStep hW H3K.out)) (HXV.out _ (belowStep hW H3K.out)) (by have := HXB.out; omega))
                    have HZT := Lib.hid (fun W (hW : Below (w7.alloc (.cells #[.int .i64 t.op, .int .i64 t.n, .string t.s, .slice kna knn knc, .slice kla kln klc] 25)).heap.size (w7.alloc (.cells #[.int .i64 t.op, .int .i64 t.n, .string t.s, .slice kna knn knc, .slice kla kln klc] 25)) W) => size_any P t W _ (HPW.out _ (belowStep hW HBK.out)) (HTW.out _ (belowStep hW HBK.out)) (by have := HBIG.out; omega))
                    have HZO := Lib.hid (fun W (hW : Below (w7.alloc (.cells #[.int .i64 t.op, .int .i64 t.n, .string t.s, .slice kna knn knc, .slice kla kln klc] 25)).heap.size (w7.alloc (.cells #[.int .i64 t.op, .int .i64 t.n, .string t.s, .slice kna knn knc, .slice kla kln klc] 25)) W) => size_any P old W _ (HPW.out _ (belowStep hW HBK.out)) (HOV.out _ (belowStep hW H2K.out)) (by have := HBIG.out; have := HOB.out; omega))
                    have HZY := Lib.hid (fun W (hW : Below (w7.alloc (.cells #[.int .i64 t.op, .int .i64 t.n, .string t.s, .slice kna knn knc, .slice kla kln klc] 25)).heap.size (w7.alloc (.cells #[.int .i64 t.op, .int .i64 t.n, .string t.s, .slice kna knn knc, .slice kla kln klc] 25)) W) => size_any P by' W _ (HPW.out _ (belowStep hW HBK.out)) (HYW.out _ (belowStep hW HBK.out)) (by have := HBIG.out; omega))
                    have HKS := Lib.hid (fun W (hW : Below (w7.alloc (.cells #[.int .i64 t.op, .int .i64 t.n, .string t.s, .slice kna knn knc, .slice kla kln klc] 25)).heap.size (w7.alloc (.cells #[.int .i64 t.op, .int .i64 t.n, .string t.s, .slice kna knn knc, .slice kla kln klc] 25)) W) => (show _ ∧ _ ∧ _ ∧ _ ∧ _ ∧ _ ∧ _ from ⟨hW, (HS.out _ (belowStep hW HBK.out)).1, (HS.out _ (belowStep hW HBK.out)).2.2, box_cells (HKO.out _ (belowStep hW HOK.out)), box_cells (HKX.out _ (belowStep hW HXK.out)), box_cells (HKG.out _ (belowStep hW HGK.out)), box_cells (HKKW.out _ hW)⟩))
                    have hsz := HXSZ.out
                    have hbx := HXB.out
                    have hbt := HBIG.out
                    have hbo := HOB.out
                    rw [yes_true (show by' = by' from rfl)] at HE1
                    rw [yes_true (show t = t from rfl)] at HE2
                    generalize x.size = xz at *
                    generalize t.size = tz at *
                    generalize old.size = oz at *
                    generalize by'.size = yz at *
                    have hx1 : xz ≤ 62000 := by omega
                    have ht1 : tz ≤ 31000 := by omega
                    have ho1 : oz ≤ 31000 := by omega
                    have hy1 : yz ≤ 31000 := by omega
                    have hw1 : IntKind.i64.wrap ((tz : Int) - (oz : Int)) = (tz : Int) - (oz : Int) := (by rw [IntKind.wrap_i64]; omega)
                    have hw2 : IntKind.i64.wrap ((tz : Int) - (oz : Int) + (yz : Int)) = (tz : Int) - (oz : Int) + (yz : Int) := (by rw [IntKind.wrap_i64]; omega)
                    have hq : (((xz : Int)) == (tz : Int) - (oz : Int) + (yz : Int)) = true := beq_iff_eq.2 (by omega)
                    clear hxle htle hole hyle hsz hbx hbt hbo hx1 ht1 ho1 hy1
                    go_wp2_with fail
                    generalize (w7.alloc (.cells #[.int .i64 t.op, .int .i64 t.n, .string t.s, .slice kna knn knc, .slice kla kln klc] 25)) = wk at HBK HB7K HKKW HGK HXK H3K HOK H2K H6K HE1 HE2 HZX HZT HZO HZY HKS ⊢
                    have HD0 := Lib.hid (Below.refl wk.heap.size wk).drew
                    go_wp2
                    go_region_held3 (fun W => Below wk.heap.size wk W ∧ (W.cell? ⟨w.heap.size, 0, none⟩ = some (.int .i64 t.op) ∧ W.cell? ⟨w.heap.size, 1, none⟩ = some (.int .i64 t.n) ∧ W.cell? ⟨w.heap.size, 2, none⟩ = some (.string t.s) ∧ W.cell? ⟨w.heap.size, 3, none⟩ = some (.slice na nn nc) ∧ W.cell? ⟨w.heap.size, 4, none⟩ = some (.slice la ln lc)) ∧ (W.cell? ⟨w.heap.size + 1 + 1, 0, none⟩ = some (.int .i64 by'.op) ∧ W.cell? ⟨w.heap.size + 1 + 1, 1, none⟩ = some (.int .i64 by'.n) ∧ W.cell? ⟨w.heap.size + 1 + 1, 2, none⟩ = some (.string by'.s) ∧ W.cell? ⟨w.heap.size + 1 + 1, 3, none⟩ = some (.slice ma mn mc) ∧ W.cell? ⟨w.heap.size + 1 + 1, 4, none⟩ = some (.slice ka kn kc)) ∧ (W.cell? ⟨w2.heap.size, 0, none⟩ = some (.int .i64 old.op) ∧ W.cell? ⟨w2.heap.size, 1, none⟩ = some (.int .i64 old.n) ∧ W.cell? ⟨w2.heap.size, 2, none⟩ = some (.string old.s) ∧ W.cell? ⟨w2.heap.size, 3, none⟩ = some (.slice ona onn onc) ∧ W.cell? ⟨w2.heap.size, 4, none⟩ = some (.slice ola oln olc)) ∧ (W.cell? ⟨w3.heap.size, 0, none⟩ = some (.int .i64 xo) ∧ W.cell? ⟨w3.heap.size, 1, none⟩ = some (.int .i64 xn) ∧ W.cell? ⟨w3.heap.size, 2, none⟩ = some (.string xs) ∧ W.cell? ⟨w3.heap.size, 3, none⟩ = some (.slice xna xnn xnc) ∧ W.cell? ⟨w3.heap.size, 4, none⟩ = some (.slice xla xln xlc)) ∧ (W.cell? ⟨w6.heap.size, 0, none⟩ = some (.int .i64 by'.op) ∧ W.cell? ⟨w6.heap.size, 1, none⟩ = some (.int .i64 by'.n) ∧ W.cell? ⟨w6.heap.size, 2, none⟩ = some (.string by'.s) ∧ W.cell? ⟨w6.heap.size, 3, none⟩ = some (.slice gna gnn gnc) ∧ W.cell? ⟨w6.heap.size, 4, none⟩ = some (.slice gla gln glc)) ∧ (W.cell? ⟨w7.heap.size, 0, none⟩ = some (.int .i64 t.op) ∧ W.cell? ⟨w7.heap.size, 1, none⟩ = some (.int .i64 t.n) ∧ W.cell? ⟨w7.heap.size, 2, none⟩ = some (.string t.s) ∧ W.cell? ⟨w7.heap.size, 3, none⟩ = some (.slice kna knn knc) ∧ W.cell? ⟨w7.heap.size, 4, none⟩ = some (.slice kla kln klc)))
                      (first | exact HKS.out _ HD0.out | exact HKS.out _ (by assumption))
                      (first
                      | (go_at_call 19; first | ((with_reducible refine (HE1.out _ (by first | assumption | exact HD0.out | exact And.left (by assumption))).mono ?_); rintro e wn ⟨rfl, hbn⟩; have hbn2 := belowStep (a := wk) hbn (by first | assumption | exact HD0.out | exact And.left (by assumption))) | ((with_reducible refine (HE2.out _ (by first | assumption | exact HD0.out | exact And.left (by assumption))).mono ?_); rintro e wn ⟨rfl, hbn⟩; have hbn2 := belowStep (a := wk) hbn (by first | assumption | exact HD0.out | exact And.left (by assumption))))
                      | (go_at_call 15; first | ((with_reducible refine (HZX.out _ (by first | assumption | exact HD0.out | exact And.left (by assumption))).mono ?_); rintro e wn ⟨rfl, hbn⟩; have hbn2 := belowStep (a := wk) hbn (by first | assumption | exact HD0.out | exact And.left (by assumption))) | ((with_reducible refine (HZT.out _ (by first | assumption | exact HD0.out | exact And.left (by assumption))).mono ?_); rintro e wn ⟨rfl, hbn⟩; have hbn2 := belowStep (a := wk) hbn (by first | assumption | exact HD0.out | exact And.left (by assumption))) | ((with_reducible refine (HZO.out _ (by first | assumption | exact HD0.out | exact And.left (by assumption))).mono ?_); rintro e wn ⟨rfl, hbn⟩; have hbn2 := belowStep (a := wk) hbn (by first | assumption | exact HD0.out | exact And.left (by assumption))) | ((with_reducible refine (HZY.out _ (by first | assumption | exact HD0.out | exact And.left (by assumption))).mono ?_); rintro e wn ⟨rfl, hbn⟩; have hbn2 := belowStep (a := wk) hbn (by first | assumption | exact HD0.out | exact And.left (by assumption)))))
                    all_goals
                      go_wp2
                      go_ret
                      exact ⟨by first | rfl | trivial, belowStep (belowStep (by assumption) HBK.out) HB0.out⟩
              · go_simp
                refine hK _ _ ?_
                clear hK K
                refine wpAny_ready (rs := [16]) (by kernel_rfl) (by simp) ?_
                refine AllReady.cons rfl (fun K hK => ?_) AllReady.nil
                go_simp
                go_wp2_with fail
                refine (category_any _ _).mono ?_
                rintro e wn ⟨rfl, rfl⟩
                refine hK _ _ ?_
                clear hK K
                refine wpAny_ready (rs := [18]) (by kernel_rfl) (by simp) ?_
                refine AllReady.cons rfl (fun K hK => ?_) AllReady.nil
                go_simp
                go_wp2_with fail
                refine (HVAL.out _ rfl).mono ?_
                rintro e wn ⟨rfl, hbn⟩
                have HBN := Lib.hid (belowStep hbn HBG.out)
                clear hbn x0 x1 x2 x3 x4 y0 y1 y2 y3 y4 u0
                obtain ⟨⟨x0, x1, x2, x3, x4⟩, u0, ⟨y0, y1, y2, y3, y4⟩⟩ := HS.out _ HBN.out
                refine hK _ _ ?_
                clear hK K
                refine wpAny_ready (rs := [19]) (by kernel_rfl) (by simp) ?_
                refine AllReady.cons rfl (fun K hK => ?_) AllReady.nil
                go_simp
                refine hK _ _ ?_
                clear hK K
                refine wpAny_ready (rs := [20]) (by kernel_rfl) (by simp) ?_
                refine AllReady.cons rfl (fun K hK => ?_) AllReady.nil
                go_simp
                refine hK _ _ ?_
                clear hK K
                refine wpAny_done (by kernel_rfl) ?_ _
                have hAny := HAN.out (by first | rfl | trivial)
                have HAY := Lib.hid hAny
                have HFI := Lib.hid (find_any P t at' _ _ (.slice aa al ac) (w.heap.size + 1) (HPW.out _ HBN.out) (HTW.out _ HBN.out) (HXAW.out _ HBN.out) (HAW.out _ HBN.out))
                have HRR := Lib.hid (rep_range t at' by' hAny)
                have HRS := Lib.hid (fun old => rep_self t at' old hAny)
                have HRO := Lib.hid (fun old => rep_other t at' by' old hAny)
                have HFB := Lib.hid (Pl.find_big at' t)
                generalize hfind : Pl.find at' t = fnd at *
                have HRP := Lib.hid (fun W (hW : Below w0.heap.size w0 W) => replace_any P P t at' by' W _ _ _ (HPW.out W hW) (HPW.out W hW) (HTW.out W hW) (HYW.out W hW) (HAW.out W hW) (by have := HBIG.out; omega) (by have := HBIG.out; omega))
                have HFN := Lib.hid hfind
                clear hfind hAny x0 x1 x2 x3 x4 y0 y1 y2 y3 y4 u0
                obtain ⟨⟨x0, x1, x2, x3, x4⟩, u0, ⟨y0, y1, y2, y3, y4⟩⟩ := HS.out _ HBN.out
                go_wp2_with fail
                refine HFI.out.mono ?_
                rintro e w2 ⟨hr, hb2⟩
                have HB2 := Lib.hid (belowStep hb2 HBN.out)
                clear hb2 x0 x1 x2 x3 x4 y0 y1 y2 y3 y4 u0
                cases fnd with
                | none =>
                  subst hr
                  rw [show zeroSyn = (.agg #[.int .i64 0, .int .i64 0, .string ⟨#[]⟩, .slice none 0 0, .slice none 0 0] : Value) from rfl]
                  have HBO := Lib.hid (show Below w0.heap.size w0 (w2.alloc (.cells #[.int .i64 0, .int .i64 0, .string ⟨#[]⟩, .slice none 0 0, .slice none 0 0] 25)) from HB2.out.alloc HB2.out.size _)
                  have HRPO := Lib.hid (HRP.out _ HBO.out)
                  have HRC := Lib.hid (HRR.out (by first | rfl | trivial))
                  generalize hrc : repCode t at' by' = rc at *
                  obtain ⟨⟨x0, x1, x2, x3, x4⟩, u0, ⟨y0, y1, y2, y3, y4⟩⟩ := HS.out _ HBO.out
                  go_wp2_with fail
                  refine HRPO.out.mono ?_
                  rintro e w3 ⟨hr, hb3⟩
                  have HB3 := Lib.hid (belowStep hb3 HBO.out)
                  clear hb3 x0 x1 x2 x3 x4 y0 y1 y2 y3 y4 u0
                  have hrc2 := HRC.out
                  subst hrc2
                  rcases hr with ⟨-, rfl⟩ | ⟨h0, -⟩
                  · rw [hrc]
                    rw [show zeroSyn = (.agg #[.int .i64 0, .int .i64 0, .string ⟨#[]⟩, .slice none 0 0, .slice none 0 0] : Value) from rfl]
                    have hx := blk_new w3 #[.int .i64 0, .int .i64 0, .string ⟨#[]⟩, .slice none 0 0, .slice none 0 0] 25
                    obtain ⟨q0, q1, q2, q3, q4⟩ := box_cells hx
                    go_wp2
                    go_ret
                    exact ⟨by first | rfl | trivial, belowStep (HB3.out.alloc HB3.out.size _) HB0.out⟩
                  · rw [hrc] at h0; cases h0
                | some old =>
                  obtain ⟨ov, rfl, hov⟩ := hr
                  have HOB := Lib.hid (HFB.out old rfl)
                  obtain ⟨ona, onn, onc, ola, oln, olc, rfl⟩ := hov.form
                  have HOV := Lib.hid (fun W (hW : Below w2.heap.size w2 W) => hov.keep (Same.of_below hW (fun b hb => HPW.out _ HB2.out b hb)))
                  have hob := blk_new w2 #[.int .i64 old.op, .int .i64 old.n, .string old.s, .slice ona onn onc, .slice ola oln olc] 25
                  have HBO := Lib.hid (show Below w0.heap.size w0 (w2.alloc (.cells #[.int .i64 old.op, .int .i64 old.n, .string old.s, .slice ona onn onc, .slice ola oln olc] 25)) from HB2.out.alloc HB2.out.size _)
                  have HB2O := Lib.hid (show Below w2.heap.size w2 (w2.alloc (.cells #[.int .i64 old.op, .int .i64 old.n, .string old.s, .slice ona onn onc, .slice ola oln olc] 25)) from (Below.refl _ _).alloc (Nat.le_refl _) _)
                  have HKO := Lib.hid (fun W (hW : Below (w2.alloc (.cells #[.int .i64 old.op, .int .i64 old.n, .string old.s, .slice ona onn onc, .slice ola oln olc] 25)).heap.size (w2.alloc (.cells #[.int .i64 old.op, .int .i64 old.n, .string old.s, .slice ona onn onc, .slice ola oln olc] 25)) W) => hob.of_eq (hW.block _ (Blk.lt hob)))
                  have HRPO := Lib.hid (HRP.out _ HBO.out)
                  clear hov hob
                  obtain ⟨⟨x0, x1, x2, x3, x4⟩, u0, ⟨y0, y1, y2, y3, y4⟩⟩ := HS.out _ HBO.out
                  go_wp2_with fail
                  generalize (w2.alloc (.cells #[.int .i64 old.op, .int .i64 old.n, .string old.s, .slice ona onn onc, .slice ola oln olc] 25)) = wo at HBO HB2O HKO HRPO x0 x1 x2 x3 x4 u0 y0 y1 y2 y3 y4 ⊢
                  refine HRPO.out.mono ?_
                  rintro e w3 ⟨hr, hb3⟩
                  have HBO3 := Lib.hid hb3
                  have HB3 := Lib.hid (belowStep hb3 HBO.out)
                  have hres : ∃ c xo xn xs xna xnn xnc xla xln xlc, e = .returned (.tuple #[.agg #[.int .i64 xo, .int .i64 xn, .string xs, .slice xna xnn xnc, .slice xla xln xlc], .int .i64 c]) ∧ ((c = 3 ∧ xo = 0) ∨ (c = 0 ∧ ∃ x : Syn, SynV w3 (fun b => wo.heap.size ≤ b ∧ b < w3.heap.size) x (.agg #[.int .i64 xo, .int .i64 xn, .string xs, .slice xna xnn xnc, .slice xla xln xlc]) ∧ x.big ≤ 62000 ∧ Pl.find at' x = some by' ∧ anyP x = true ∧ repCode x at' old = 0 ∧ Pl.put at' x old = some t ∧ x.size + old.size = t.size + by'.size)) := by
                    rcases HRO.out old rfl with h3 | ⟨h0, x, hp, h4, h5, h6, h7, h8⟩
                    · rcases hr with ⟨-, rfl⟩ | ⟨hz, -⟩
                      · rw [h3]
                        exact ⟨3, 0, 0, ⟨#[]⟩, none, 0, 0, none, 0, 0, rfl, .inl ⟨rfl, rfl⟩⟩
                      · rw [h3] at hz; cases hz
                    · rcases hr with ⟨hz, -⟩ | ⟨-, x', v, hp', rfl, hv⟩
                      · exact absurd h0 hz
                      · rw [hp] at hp'
                        injection hp' with hp'
                        subst hp'
                        obtain ⟨xna, xnn, xnc, xla, xln, xlc, rfl⟩ := hv.form
                        have hxb := Pl.put_big at' t by' x hp
                        exact ⟨0, x.op, x.n, x.s, xna, xnn, xnc, xla, xln, xlc, rfl, .inr ⟨rfl, x, hv, by have := HBIG.out; omega, h4, h5, h6, h7, h8⟩⟩
                  obtain ⟨c, xo, xn, xs, xna, xnn, xnc, xla, xln, xlc, rfl, hc⟩ := hres
                  have HC := Lib.hid hc
                  clear hr hc hb3 x0 x1 x2 x3 x4 y0 y1 y2 y3 y4 u0
                  have hxb := blk_new w3 #[.int .i64 xo, .int .i64 xn, .string xs, .slice xna xnn xnc, .slice xla xln xlc] 25
                  have HBX := Lib.hid (show Below w0.heap.size w0 (w3.alloc (.cells #[.int .i64 xo, .int .i64 xn, .string xs, .slice xna xnn xnc, .slice xla xln xlc] 25)) from HB3.out.alloc HB3.out.size _)
                  have HB3X := Lib.hid (show Below w3.heap.size w3 (w3.alloc (.cells #[.int .i64 xo, .int .i64 xn, .string xs, .slice xna xnn xnc, .slice xla xln xlc] 25)) from (Below.refl _ _).alloc (Nat.le_refl _) _)
                  have HKX := Lib.hid (fun W (hW : Below (w3.alloc (.cells #[.int .i64 xo, .int .i64 xn, .string xs, .slice xna xnn xnc, .slice xla xln xlc] 25)).heap.size (w3.alloc (.cells #[.int .i64 xo, .int .i64 xn, .string xs, .slice xna xnn xnc, .slice xla xln xlc] 25)) W) => hxb.of_eq (hW.block _ (Blk.lt hxb)))
                  have HOX := Lib.hid (belowStep HB3X.out (HBO3.out))
                  have HRP2 := Lib.hid (replace_any P P t at' old _ _ _ _ (HPW.out _ HBX.out) (HPW.out _ HBX.out) (HTW.out _ HBX.out) (HOV.out _ (belowStep HOX.out HB2O.out)) (HAW.out _ HBX.out) (by have := HBIG.out; omega) (by have := HBIG.out; have := HOB.out; omega))
                  clear hxb
                  obtain ⟨⟨x0, x1, x2, x3, x4⟩, u0, ⟨y0, y1, y2, y3, y4⟩⟩ := HS.out _ HBX.out
                  obtain ⟨o0, o1, o2, o3, o4⟩ := box_cells (HKO.out _ HOX.out)
                  go_wp2_with fail
                  generalize (w3.alloc (.cells #[.int .i64 xo, .int .i64 xn, .string xs, .slice xna xnn xnc, .slice xla xln xlc] 25)) = wx at HBX HB3X HKX HOX HRP2 x0 x1 x2 x3 x4 u0 y0 y1 y2 y3 y4 o0 o1 o2 o3 o4 ⊢
                  refine HRP2.out.mono ?_
                  rintro e w4 ⟨hr, hb4⟩
                  have HBX4 := Lib.hid hb4
                  have HB4 := Lib.hid (belowStep hb4 HBX.out)
                  have hres : ∃ sna snn snc sla sln slc, e = .returned (.tuple #[.agg #[.int .i64 t.op, .int .i64 t.n, .string t.s, .slice sna snn snc, .slice sla sln slc], .int .i64 0]) ∧ SynV w4 (fun b => wx.heap.size ≤ b ∧ b < w4.heap.size) t (.agg #[.int .i64 t.op, .int .i64 t.n, .string t.s, .slice sna snn snc, .slice sla sln slc]) := by
                    obtain ⟨h0, hp⟩ := HRS.out old rfl
                    rcases hr with ⟨hz, -⟩ | ⟨-, x', v, hp', rfl, hv⟩
                    · exact absurd h0 hz
                    · rw [hp] at hp'
                      injection hp' with hp'
                      subst hp'
                      obtain ⟨sna, snn, snc, sla, sln, slc, rfl⟩ := hv.form
                      exact ⟨sna, snn, snc, sla, sln, slc, rfl, hv⟩
                  obtain ⟨sna, snn, snc, sla, sln, slc, rfl, hsv⟩ := hres
                  have HSV := Lib.hid hsv
                  clear hr hsv hb4 x0 x1 x2 x3 x4 y0 y1 y2 y3 y4 u0 o0 o1 o2 o3 o4
                  have hsb := blk_new w4 #[.int .i64 t.op, .int .i64 t.n, .string t.s, .slice sna snn snc, .slice sla sln slc] 25
                  have HBS := Lib.hid (show Below w0.heap.size w0 (w4.alloc (.cells #[.int .i64 t.op, .int .i64 t.n, .string t.s, .slice sna snn snc, .slice sla sln slc] 25)) from HB4.out.alloc HB4.out.size _)
                  have HB4S := Lib.hid (show Below w4.heap.size w4 (w4.alloc (.cells #[.int .i64 t.op, .int .i64 t.n, .string t.s, .slice sna snn snc, .slice sla sln slc] 25)) from (Below.refl _ _).alloc (Nat.le_refl _) _)
                  have HXS := Lib.hid (belowStep HB4S.out HBX4.out)
                  have HEQ := Lib.hid ((equal_any t _ P t _ _ _ (fun b hb => Nat.lt_of_lt_of_le hb.2 HB4S.out.size) (HPW.out _ HBS.out) (HSV.out.keep (Same.of_below HB4S.out (fun b hb => hb.2))) (HTW.out _ HBS.out)).mono fun _ _ => tells_yesB)
                  rw [yes_true (show t = t from rfl)] at HEQ
                  obtain ⟨x0, x1, x2, x3, x4⟩ := (HS.out _ HBS.out).1
                  obtain ⟨s0, s1, s2, s3, s4⟩ := box_cells hsb
                  clear hsb
                  go_wp2_with fail
                  generalize (w4.alloc (.cells #[.int .i64 t.op, .int .i64 t.n, .string t.s, .slice sna snn snc, .slice sla sln slc] 25)) = ws at HBS HB4S HXS HEQ x0 x1 x2 x3 x4 s0 s1 s2 s3 s4 ⊢
                  refine HEQ.out.mono ?_
                  rintro e w5 ⟨rfl, hb5⟩
                  have HB5 := Lib.hid (belowStep hb5 HBS.out)
                  have HX5 := Lib.hid (belowStep hb5 HXS.out)
                  clear hb5 x0 x1 x2 x3 x4 s0 s1 s2 s3 s4
                  obtain ⟨q0, q1, q2, q3, q4⟩ := box_cells (HKX.out _ HX5.out)
                  rcases HC.out with ⟨rfl, rfl⟩ | ⟨rfl, x, hxv, hxb, hxf, hxa, hxr, hxp, hxs⟩
                  · go_wp2
                    go_ret
                    exact ⟨by first | rfl | trivial, belowStep HB5.out HB0.out⟩
                  · have HX35 := Lib.hid (belowStep HX5.out HB3X.out)
                    have HXV := Lib.hid (fun W (hW : Below w3.heap.size w3 W) => hxv.keep (Same.of_below hW (fun b hb => hb.2)))
                    have HXP := Lib.hid (fun W (hW : Below w3.heap.size w3 W) b (hb : wo.heap.size ≤ b ∧ b < w3.heap.size) => Nat.lt_of_lt_of_le hb.2 hW.size)
                    have HXB := Lib.hid hxb
                    have HXR := Lib.hid hxr
                    have HXPT := Lib.hid hxp
                    have HXSZ := Lib.hid hxs
                    have HFX := Lib.hid (find_any _ x at' _ _ (.slice aa al ac) (w.heap.size + 1) (HXP.out _ HX35.out) (HXV.out _ HX35.out) (HXAW.out _ HB5.out) (HAW.out _ HB5.out))
                    rw [hxf] at HFX
                    clear hxv hxb hxf hxa hxr hxp hxs
                    obtain ⟨⟨x0, x1, x2, x3, x4⟩, u0, ⟨y0, y1, y2, y3, y4⟩⟩ := HS.out _ HB5.out
                    go_wp2_with fail
                    refine HFX.out.mono ?_
                    rintro e w6 ⟨⟨gv, rfl, hgv⟩, hb6⟩
                    have HB6 := Lib.hid (belowStep hb6 HB5.out)
                    have HX6 := Lib.hid (belowStep hb6 HX5.out)
                    obtain ⟨gna, gnn, gnc, gla, gln, glc, rfl⟩ := hgv.form
                    have HX36 := Lib.hid (belowStep HX6.out HB3X.out)
                    have HGV := Lib.hid (fun W (hW : Below w6.heap.size w6 W) => hgv.keep (Same.of_below hW (HXP.out _ HX36.out)))
                    clear hb6 hgv x0 x1 x2 x3 x4 y0 y1 y2 y3 y4 u0 q0 q1 q2 q3 q4
                    have hgb := blk_new w6 #[.int .i64 by'.op, .int .i64 by'.n, .string by'.s, .slice gna gnn gnc, .slice gla gln glc] 25
                    have HBG2 := Lib.hid (show Below w0.heap.size w0 (w6.alloc (.cells #[.int .i64 by'.op, .int .i64 by'.n, .string by'.s, .slice gna gnn gnc, .slice gla gln glc] 25)) from HB6.out.alloc HB6.out.size _)
                    have HB6G := Lib.hid (show Below w6.heap.size w6 (w6.alloc (.cells #[.int .i64 by'.op, .int .i64 by'.n, .string by'.s, .slice gna gnn gnc, .slice gla gln glc] 25)) from (Below.refl _ _).alloc (Nat.le_refl _) _)
                    have HKG := Lib.hid (fun W (hW : Below (w6.alloc (.cells #[.int .i64 by'.op, .int .i64 by'.n, .string by'.s, .slice gna gnn gnc, .slice gla gln glc] 25)).heap.size (w6.alloc (.cells #[.int .i64 by'.op, .int .i64 by'.n, .string by'.s, .slice gna gnn gnc, .slice gla gln glc] 25)) W) => hgb.of_eq (hW.block _ (Blk.lt hgb)))
                    have HXG := Lib.hid (belowStep HB6G.out HX6.out)
                    have HX3G := Lib.hid (belowStep HXG.out HB3X.out)
                    have HOG := Lib.hid (belowStep HX3G.out HBO3.out)
                    have HRP3 := Lib.hid (replace_any _ P x at' old _ _ _ _ (HXP.out _ HX3G.out) (HPW.out _ HBG2.out) (HXV.out _ HX3G.out) (HOV.out _ (belowStep HOG.out HB2O.out)) (HAW.out _ HBG2.out) (by have := HXB.out; omega) (by have := HBIG.out; have := HOB.out; omega))
                    clear hgb
                    obtain ⟨⟨x0, x1, x2, x3, x4⟩, u0, ⟨y0, y1, y2, y3, y4⟩⟩ := HS.out _ HBG2.out
                    obtain ⟨o0, o1, o2, o3, o4⟩ := box_cells (HKO.out _ HOG.out)
                    obtain ⟨q0, q1, q2, q3, q4⟩ := box_cells (HKX.out _ HXG.out)
                    go_wp2_with fail
                    generalize (w6.alloc (.cells #[.int .i64 by'.op, .int .i64 by'.n, .string by'.s, .slice gna gnn gnc, .slice gla gln glc] 25)) = wg at HBG2 HB6G HKG HXG HX3G HOG HRP3 x0 x1 x2 x3 x4 u0 y0 y1 y2 y3 y4 o0 o1 o2 o3 o4 q0 q1 q2 q3 q4 ⊢
                    refine HRP3.out.mono ?_
                    rintro e w7 ⟨hr, hb7⟩
                    have HG7 := Lib.hid hb7
                    have HB7 := Lib.hid (belowStep hb7 HBG2.out)
                    have hres : ∃ kna knn knc kla kln klc, e = .returned (.tuple #[.agg #[.int .i64 t.op, .int .i64 t.n, .string t.s, .slice kna knn knc, .slice kla kln klc], .int .i64 0]) ∧ SynV w7 (fun b => wg.heap.size ≤ b ∧ b < w7.heap.size) t (.agg #[.int .i64 t.op, .int .i64 t.n, .string t.s, .slice kna knn knc, .slice kla kln klc]) := by
                      rcases hr with ⟨hz, -⟩ | ⟨-, x', v, hp', rfl, hv⟩
                      · exact absurd HXR.out hz
                      · rw [HXPT.out] at hp'
                        injection hp' with hp'
                        subst hp'
                        obtain ⟨kna, knn, knc, kla, kln, klc, rfl⟩ := hv.form
                        exact ⟨kna, knn, knc, kla, kln, klc, rfl, hv⟩
                    obtain ⟨kna, knn, knc, kla, kln, klc, rfl, hkv⟩ := hres
                    have HKV := Lib.hid (fun W (hW : Below w7.heap.size w7 W) => hkv.keep (Same.of_below hW (fun b hb => hb.2)))
                    clear hr hkv hb7 x0 x1 x2 x3 x4 y0 y1 y2 y3 y4 u0 o0 o1 o2 o3 o4 q0 q1 q2 q3 q4
                    have hkb := blk_new w7 #[.int .i64 t.op, .int .i64 t.n, .string t.s, .slice kna knn knc, .slice kla kln klc] 25
                    have HBK := Lib.hid (show Below w0.heap.size w0 (w7.alloc (.cells #[.int .i64 t.op, .int .i64 t.n, .string t.s, .slice kna knn knc, .slice kla kln klc] 25)) from HB7.out.alloc HB7.out.size _)
                    have HB7K := Lib.hid (show Below w7.heap.size w7 (w7.alloc (.cells #[.int .i64 t.op, .int .i64 t.n, .string t.s, .slice kna knn knc, .slice kla kln klc] 25)) from (Below.refl _ _).alloc (Nat.le_refl _) _)
                    have HKKW := Lib.hid (fun W (hW : Below (w7.alloc (.cells #[.int .i64 t.op, .int .i64 t.n, .string t.s, .slice kna knn knc, .slice kla kln klc] 25)).heap.size (w7.alloc (.cells #[.int .i64 t.op, .int .i64 t.n, .string t.s, .slice kna knn knc, .slice kla kln klc] 25)) W) => hkb.of_eq (hW.block _ (Blk.lt hkb)))
                    clear hkb
                    have hxle := Pl.size_big x
                    have htle := Pl.size_big t
                    have hole := Pl.size_big old
                    have hyle := Pl.size_big by'
                    have HGK := Lib.hid (belowStep HB7K.out HG7.out)
                    have HXK := Lib.hid (belowStep HGK.out HXG.out)
                    have H3K := Lib.hid (belowStep HXK.out HB3X.out)
                    have HOK := Lib.hid (belowStep H3K.out HBO3.out)
                    have H2K := Lib.hid (belowStep HOK.out HB2O.out)
                    have H6K := Lib.hid (belowStep HGK.out HB6G.out)
                    have HE1 := Lib.hid (fun W (hW : Below (w7.alloc (.cells #[.int .i64 t.op, .int .i64 t.n, .string t.s, .slice kna knn knc, .slice kla kln klc] 25)).heap.size (w7.alloc (.cells #[.int .i64 t.op, .int .i64 t.n, .string t.s, .slice kna knn knc, .slice kla kln klc] 25)) W) => (equal_any by' _ P by' W _ _ (HXP.out _ (belowStep hW H3K.out)) (HPW.out _ (belowStep hW HBK.out)) (HGV.out _ (belowStep hW H6K.out)) (HYW.out _ (belowStep hW HBK.out))).mono fun _ _ => tells_yesB)
                    have HE2 := Lib.hid (fun W (hW : Below (w7.alloc (.cells #[.int .i64 t.op, .int .i64 t.n, .string t.s, .slice kna knn knc, .slice kla kln klc] 25)).heap.size (w7.alloc (.cells #[.int .i64 t.op, .int .i64 t.n, .string t.s, .slice kna knn knc, .slice kla kln klc] 25)) W) => (equal_any t (fun b => wg.heap.size ≤ b ∧ b < w7.heap.size) P t W _ _ (fun b hb => Nat.lt_of_lt_of_le hb.2 (belowStep hW HB7K.out).size) (HPW.out _ (belowStep hW HBK.out)) (HKV.out _ (belowStep hW HB7K.out)) (HTW.out _ (belowStep hW HBK.out))).mono fun _ _ => tells_yesB)
                    have HZX := Lib.hid (fun W (hW : Below (w7.alloc (.cells #[.int .i64 t.op, .int .i64 t.n, .string t.s, .slice kna knn knc, .slice kla kln klc] 25)).heap.size (w7.alloc (.cells #[.int .i64 t.op, .int .i64 t.n, .string t.s, .slice kna knn knc, .slice kla kln klc] 25)) W) => size_any _ x W _ (HXP.out _ (belowStep hW H3K.out)) (HXV.out _ (belowStep hW H3K.out)) (by have := HXB.out; omega))
                    have HZT := Lib.hid (fun W (hW : Below (w7.alloc (.cells #[.int .i64 t.op, .int .i64 t.n, .string t.s, .slice kna knn knc, .slice kla kln klc] 25)).heap.size (w7.alloc (.cells #[.int .i64 t.op, .int .i64 t.n, .string t.s, .slice kna knn knc, .slice kla kln klc] 25)) W) => size_any P t W _ (HPW.out _ (belowStep hW HBK.out)) (HTW.out _ (belowStep hW HBK.out)) (by have := HBIG.out; omega))
                    have HZO := Lib.hid (fun W (hW : Below (w7.alloc (.cells #[.int .i64 t.op, .int .i64 t.n, .string t.s, .slice kna knn knc, .slice kla kln klc] 25)).heap.size (w7.alloc (.cells #[.int .i64 t.op, .int .i64 t.n, .string t.s, .slice kna knn knc, .slice kla kln klc] 25)) W) => size_any P old W _ (HPW.out _ (belowStep hW HBK.out)) (HOV.out _ (belowStep hW H2K.out)) (by have := HBIG.out; have := HOB.out; omega))
                    have HZY := Lib.hid (fun W (hW : Below (w7.alloc (.cells #[.int .i64 t.op, .int .i64 t.n, .string t.s, .slice kna knn knc, .slice kla kln klc] 25)).heap.size (w7.alloc (.cells #[.int .i64 t.op, .int .i64 t.n, .string t.s, .slice kna knn knc, .slice kla kln klc] 25)) W) => size_any P by' W _ (HPW.out _ (belowStep hW HBK.out)) (HYW.out _ (belowStep hW HBK.out)) (by have := HBIG.out; omega))
                    have HKS := Lib.hid (fun W (hW : Below (w7.alloc (.cells #[.int .i64 t.op, .int .i64 t.n, .string t.s, .slice kna knn knc, .slice kla kln klc] 25)).heap.size (w7.alloc (.cells #[.int .i64 t.op, .int .i64 t.n, .string t.s, .slice kna knn knc, .slice kla kln klc] 25)) W) => (show _ ∧ _ ∧ _ ∧ _ ∧ _ ∧ _ ∧ _ from ⟨hW, (HS.out _ (belowStep hW HBK.out)).1, (HS.out _ (belowStep hW HBK.out)).2.2, box_cells (HKO.out _ (belowStep hW HOK.out)), box_cells (HKX.out _ (belowStep hW HXK.out)), box_cells (HKG.out _ (belowStep hW HGK.out)), box_cells (HKKW.out _ hW)⟩))
                    have hsz := HXSZ.out
                    have hbx := HXB.out
                    have hbt := HBIG.out
                    have hbo := HOB.out
                    rw [yes_true (show by' = by' from rfl)] at HE1
                    rw [yes_true (show t = t from rfl)] at HE2
                    generalize x.size = xz at *
                    generalize t.size = tz at *
                    generalize old.size = oz at *
                    generalize by'.size = yz at *
                    have hx1 : xz ≤ 62000 := by omega
                    have ht1 : tz ≤ 31000 := by omega
                    have ho1 : oz ≤ 31000 := by omega
                    have hy1 : yz ≤ 31000 := by omega
                    have hw1 : IntKind.i64.wrap ((tz : Int) - (oz : Int)) = (tz : Int) - (oz : Int) := (by rw [IntKind.wrap_i64]; omega)
                    have hw2 : IntKind.i64.wrap ((tz : Int) - (oz : Int) + (yz : Int)) = (tz : Int) - (oz : Int) + (yz : Int) := (by rw [IntKind.wrap_i64]; omega)
                    have hq : (((xz : Int)) == (tz : Int) - (oz : Int) + (yz : Int)) = true := beq_iff_eq.2 (by omega)
                    clear hxle htle hole hyle hsz hbx hbt hbo hx1 ht1 ho1 hy1
                    go_wp2_with fail
                    generalize (w7.alloc (.cells #[.int .i64 t.op, .int .i64 t.n, .string t.s, .slice kna knn knc, .slice kla kln klc] 25)) = wk at HBK HB7K HKKW HGK HXK H3K HOK H2K H6K HE1 HE2 HZX HZT HZO HZY HKS ⊢
                    have HD0 := Lib.hid (Below.refl wk.heap.size wk).drew
                    go_wp2
                    go_region_held3 (fun W => Below wk.heap.size wk W ∧ (W.cell? ⟨w.heap.size, 0, none⟩ = some (.int .i64 t.op) ∧ W.cell? ⟨w.heap.size, 1, none⟩ = some (.int .i64 t.n) ∧ W.cell? ⟨w.heap.size, 2, none⟩ = some (.string t.s) ∧ W.cell? ⟨w.heap.size, 3, none⟩ = some (.slice na nn nc) ∧ W.cell? ⟨w.heap.size, 4, none⟩ = some (.slice la ln lc)) ∧ (W.cell? ⟨w.heap.size + 1 + 1, 0, none⟩ = some (.int .i64 by'.op) ∧ W.cell? ⟨w.heap.size + 1 + 1, 1, none⟩ = some (.int .i64 by'.n) ∧ W.cell? ⟨w.heap.size + 1 + 1, 2, none⟩ = some (.string by'.s) ∧ W.cell? ⟨w.heap.size + 1 + 1, 3, none⟩ = some (.slice ma mn mc) ∧ W.cell? ⟨w.heap.size + 1 + 1, 4, none⟩ = some (.slice ka kn kc)) ∧ (W.cell? ⟨w2.heap.size, 0, none⟩ = some (.int .i64 old.op) ∧ W.cell? ⟨w2.heap.size, 1, none⟩ = some (.int .i64 old.n) ∧ W.cell? ⟨w2.heap.size, 2, none⟩ = some (.string old.s) ∧ W.cell? ⟨w2.heap.size, 3, none⟩ = some (.slice ona onn onc) ∧ W.cell? ⟨w2.heap.size, 4, none⟩ = some (.slice ola oln olc)) ∧ (W.cell? ⟨w3.heap.size, 0, none⟩ = some (.int .i64 xo) ∧ W.cell? ⟨w3.heap.size, 1, none⟩ = some (.int .i64 xn) ∧ W.cell? ⟨w3.heap.size, 2, none⟩ = some (.string xs) ∧ W.cell? ⟨w3.heap.size, 3, none⟩ = some (.slice xna xnn xnc) ∧ W.cell? ⟨w3.heap.size, 4, none⟩ = some (.slice xla xln xlc)) ∧ (W.cell? ⟨w6.heap.size, 0, none⟩ = some (.int .i64 by'.op) ∧ W.cell? ⟨w6.heap.size, 1, none⟩ = some (.int .i64 by'.n) ∧ W.cell? ⟨w6.heap.size, 2, none⟩ = some (.string by'.s) ∧ W.cell? ⟨w6.heap.size, 3, none⟩ = some (.slice gna gnn gnc) ∧ W.cell? ⟨w6.heap.size, 4, none⟩ = some (.slice gla gln glc)) ∧ (W.cell? ⟨w7.heap.size, 0, none⟩ = some (.int .i64 t.op) ∧ W.cell? ⟨w7.heap.size, 1, none⟩ = some (.int .i64 t.n) ∧ W.cell? ⟨w7.heap.size, 2, none⟩ = some (.string t.s) ∧ W.cell? ⟨w7.heap.size, 3, none⟩ = some (.slice kna knn knc) ∧ W.cell? ⟨w7.heap.size, 4, none⟩ = some (.slice kla kln klc)))
                      (first | exact HKS.out _ HD0.out | exact HKS.out _ (by assumption))
                      (first
                      | (go_at_call 19; first | ((with_reducible refine (HE1.out _ (by first | assumption | exact HD0.out | exact And.left (by assumption))).mono ?_); rintro e wn ⟨rfl, hbn⟩; have hbn2 := belowStep (a := wk) hbn (by first | assumption | exact HD0.out | exact And.left (by assumption))) | ((with_reducible refine (HE2.out _ (by first | assumption | exact HD0.out | exact And.left (by assumption))).mono ?_); rintro e wn ⟨rfl, hbn⟩; have hbn2 := belowStep (a := wk) hbn (by first | assumption | exact HD0.out | exact And.left (by assumption))))
                      | (go_at_call 15; first | ((with_reducible refine (HZX.out _ (by first | assumption | exact HD0.out | exact And.left (by assumption))).mono ?_); rintro e wn ⟨rfl, hbn⟩; have hbn2 := belowStep (a := wk) hbn (by first | assumption | exact HD0.out | exact And.left (by assumption))) | ((with_reducible refine (HZT.out _ (by first | assumption | exact HD0.out | exact And.left (by assumption))).mono ?_); rintro e wn ⟨rfl, hbn⟩; have hbn2 := belowStep (a := wk) hbn (by first | assumption | exact HD0.out | exact And.left (by assumption))) | ((with_reducible refine (HZO.out _ (by first | assumption | exact HD0.out | exact And.left (by assumption))).mono ?_); rintro e wn ⟨rfl, hbn⟩; have hbn2 := belowStep (a := wk) hbn (by first | assumption | exact HD0.out | exact And.left (by assumption))) | ((with_reducible refine (HZY.out _ (by first | assumption | exact HD0.out | exact And.left (by assumption))).mono ?_); rintro e wn ⟨rfl, hbn⟩; have hbn2 := belowStep (a := wk) hbn (by first | assumption | exact HD0.out | exact And.left (by assumption)))))
                    all_goals
                      go_wp2
                      go_ret
                      exact ⟨by first | rfl | trivial, belowStep (belowStep (by assumption) HBK.out) HB0.out⟩
            · go_simp
              refine hK _ _ ?_
              clear hK K
              refine wpAny_ready (rs := [15]) (by kernel_rfl) (by simp) ?_
              refine AllReady.cons rfl (fun K hK => ?_) AllReady.nil
              go_simp
              refine hK _ _ ?_
              clear hK K
              refine wpAny_ready (rs := [16]) (by kernel_rfl) (by simp) ?_
              refine AllReady.cons rfl (fun K hK => ?_) AllReady.nil
              go_simp
              go_wp2_with fail
              refine (category_any _ _).mono ?_
              rintro e wn ⟨rfl, rfl⟩
              refine hK _ _ ?_
              clear hK K
              refine wpAny_ready (rs := [18]) (by kernel_rfl) (by simp) ?_
              refine AllReady.cons rfl (fun K hK => ?_) AllReady.nil
              go_simp
              go_wp2_with fail
              refine (HVAL.out _ rfl).mono ?_
              rintro e wn ⟨rfl, hbn⟩
              have HBN := Lib.hid (belowStep hbn HBG.out)
              clear hbn x0 x1 x2 x3 x4 y0 y1 y2 y3 y4 u0
              obtain ⟨⟨x0, x1, x2, x3, x4⟩, u0, ⟨y0, y1, y2, y3, y4⟩⟩ := HS.out _ HBN.out
              refine hK _ _ ?_
              clear hK K
              refine wpAny_ready (rs := [19]) (by kernel_rfl) (by simp) ?_
              refine AllReady.cons rfl (fun K hK => ?_) AllReady.nil
              go_simp
              refine hK _ _ ?_
              clear hK K
              refine wpAny_ready (rs := [20]) (by kernel_rfl) (by simp) ?_
              refine AllReady.cons rfl (fun K hK => ?_) AllReady.nil
              go_simp
              refine hK _ _ ?_
              clear hK K
              refine wpAny_done (by kernel_rfl) ?_ _
              have hAny := HAN.out (by first | rfl | trivial)
              have HAY := Lib.hid hAny
              have HFI := Lib.hid (find_any P t at' _ _ (.slice aa al ac) (w.heap.size + 1) (HPW.out _ HBN.out) (HTW.out _ HBN.out) (HXAW.out _ HBN.out) (HAW.out _ HBN.out))
              have HRR := Lib.hid (rep_range t at' by' hAny)
              have HRS := Lib.hid (fun old => rep_self t at' old hAny)
              have HRO := Lib.hid (fun old => rep_other t at' by' old hAny)
              have HFB := Lib.hid (Pl.find_big at' t)
              generalize hfind : Pl.find at' t = fnd at *
              have HRP := Lib.hid (fun W (hW : Below w0.heap.size w0 W) => replace_any P P t at' by' W _ _ _ (HPW.out W hW) (HPW.out W hW) (HTW.out W hW) (HYW.out W hW) (HAW.out W hW) (by have := HBIG.out; omega) (by have := HBIG.out; omega))
              have HFN := Lib.hid hfind
              clear hfind hAny x0 x1 x2 x3 x4 y0 y1 y2 y3 y4 u0
              obtain ⟨⟨x0, x1, x2, x3, x4⟩, u0, ⟨y0, y1, y2, y3, y4⟩⟩ := HS.out _ HBN.out
              go_wp2_with fail
              refine HFI.out.mono ?_
              rintro e w2 ⟨hr, hb2⟩
              have HB2 := Lib.hid (belowStep hb2 HBN.out)
              clear hb2 x0 x1 x2 x3 x4 y0 y1 y2 y3 y4 u0
              cases fnd with
              | none =>
                subst hr
                rw [show zeroSyn = (.agg #[.int .i64 0, .int .i64 0, .string ⟨#[]⟩, .slice none 0 0, .slice none 0 0] : Value) from rfl]
                have HBO := Lib.hid (show Below w0.heap.size w0 (w2.alloc (.cells #[.int .i64 0, .int .i64 0, .string ⟨#[]⟩, .slice none 0 0, .slice none 0 0] 25)) from HB2.out.alloc HB2.out.size _)
                have HRPO := Lib.hid (HRP.out _ HBO.out)
                have HRC := Lib.hid (HRR.out (by first | rfl | trivial))
                generalize hrc : repCode t at' by' = rc at *
                obtain ⟨⟨x0, x1, x2, x3, x4⟩, u0, ⟨y0, y1, y2, y3, y4⟩⟩ := HS.out _ HBO.out
                go_wp2_with fail
                refine HRPO.out.mono ?_
                rintro e w3 ⟨hr, hb3⟩
                have HB3 := Lib.hid (belowStep hb3 HBO.out)
                clear hb3 x0 x1 x2 x3 x4 y0 y1 y2 y3 y4 u0
                have hrc2 := HRC.out
                subst hrc2
                rcases hr with ⟨-, rfl⟩ | ⟨h0, -⟩
                · rw [hrc]
                  rw [show zeroSyn = (.agg #[.int .i64 0, .int .i64 0, .string ⟨#[]⟩, .slice none 0 0, .slice none 0 0] : Value) from rfl]
                  have hx := blk_new w3 #[.int .i64 0, .int .i64 0, .string ⟨#[]⟩, .slice none 0 0, .slice none 0 0] 25
                  obtain ⟨q0, q1, q2, q3, q4⟩ := box_cells hx
                  go_wp2
                  go_ret
                  exact ⟨by first | rfl | trivial, belowStep (HB3.out.alloc HB3.out.size _) HB0.out⟩
                · rw [hrc] at h0; cases h0
              | some old =>
                obtain ⟨ov, rfl, hov⟩ := hr
                have HOB := Lib.hid (HFB.out old rfl)
                obtain ⟨ona, onn, onc, ola, oln, olc, rfl⟩ := hov.form
                have HOV := Lib.hid (fun W (hW : Below w2.heap.size w2 W) => hov.keep (Same.of_below hW (fun b hb => HPW.out _ HB2.out b hb)))
                have hob := blk_new w2 #[.int .i64 old.op, .int .i64 old.n, .string old.s, .slice ona onn onc, .slice ola oln olc] 25
                have HBO := Lib.hid (show Below w0.heap.size w0 (w2.alloc (.cells #[.int .i64 old.op, .int .i64 old.n, .string old.s, .slice ona onn onc, .slice ola oln olc] 25)) from HB2.out.alloc HB2.out.size _)
                have HB2O := Lib.hid (show Below w2.heap.size w2 (w2.alloc (.cells #[.int .i64 old.op, .int .i64 old.n, .string old.s, .slice ona onn onc, .slice ola oln olc] 25)) from (Below.refl _ _).alloc (Nat.le_refl _) _)
                have HKO := Lib.hid (fun W (hW : Below (w2.alloc (.cells #[.int .i64 old.op, .int .i64 old.n, .string old.s, .slice ona onn onc, .slice ola oln olc] 25)).heap.size (w2.alloc (.cells #[.int .i64 old.op, .int .i64 old.n, .string old.s, .slice ona onn onc, .slice ola oln olc] 25)) W) => hob.of_eq (hW.block _ (Blk.lt hob)))
                have HRPO := Lib.hid (HRP.out _ HBO.out)
                clear hov hob
                obtain ⟨⟨x0, x1, x2, x3, x4⟩, u0, ⟨y0, y1, y2, y3, y4⟩⟩ := HS.out _ HBO.out
                go_wp2_with fail
                generalize (w2.alloc (.cells #[.int .i64 old.op, .int .i64 old.n, .string old.s, .slice ona onn onc, .slice ola oln olc] 25)) = wo at HBO HB2O HKO HRPO x0 x1 x2 x3 x4 u0 y0 y1 y2 y3 y4 ⊢
                refine HRPO.out.mono ?_
                rintro e w3 ⟨hr, hb3⟩
                have HBO3 := Lib.hid hb3
                have HB3 := Lib.hid (belowStep hb3 HBO.out)
                have hres : ∃ c xo xn xs xna xnn xnc xla xln xlc, e = .returned (.tuple #[.agg #[.int .i64 xo, .int .i64 xn, .string xs, .slice xna xnn xnc, .slice xla xln xlc], .int .i64 c]) ∧ ((c = 3 ∧ xo = 0) ∨ (c = 0 ∧ ∃ x : Syn, SynV w3 (fun b => wo.heap.size ≤ b ∧ b < w3.heap.size) x (.agg #[.int .i64 xo, .int .i64 xn, .string xs, .slice xna xnn xnc, .slice xla xln xlc]) ∧ x.big ≤ 62000 ∧ Pl.find at' x = some by' ∧ anyP x = true ∧ repCode x at' old = 0 ∧ Pl.put at' x old = some t ∧ x.size + old.size = t.size + by'.size)) := by
                  rcases HRO.out old rfl with h3 | ⟨h0, x, hp, h4, h5, h6, h7, h8⟩
                  · rcases hr with ⟨-, rfl⟩ | ⟨hz, -⟩
                    · rw [h3]
                      exact ⟨3, 0, 0, ⟨#[]⟩, none, 0, 0, none, 0, 0, rfl, .inl ⟨rfl, rfl⟩⟩
                    · rw [h3] at hz; cases hz
                  · rcases hr with ⟨hz, -⟩ | ⟨-, x', v, hp', rfl, hv⟩
                    · exact absurd h0 hz
                    · rw [hp] at hp'
                      injection hp' with hp'
                      subst hp'
                      obtain ⟨xna, xnn, xnc, xla, xln, xlc, rfl⟩ := hv.form
                      have hxb := Pl.put_big at' t by' x hp
                      exact ⟨0, x.op, x.n, x.s, xna, xnn, xnc, xla, xln, xlc, rfl, .inr ⟨rfl, x, hv, by have := HBIG.out; omega, h4, h5, h6, h7, h8⟩⟩
                obtain ⟨c, xo, xn, xs, xna, xnn, xnc, xla, xln, xlc, rfl, hc⟩ := hres
                have HC := Lib.hid hc
                clear hr hc hb3 x0 x1 x2 x3 x4 y0 y1 y2 y3 y4 u0
                have hxb := blk_new w3 #[.int .i64 xo, .int .i64 xn, .string xs, .slice xna xnn xnc, .slice xla xln xlc] 25
                have HBX := Lib.hid (show Below w0.heap.size w0 (w3.alloc (.cells #[.int .i64 xo, .int .i64 xn, .string xs, .slice xna xnn xnc, .slice xla xln xlc] 25)) from HB3.out.alloc HB3.out.size _)
                have HB3X := Lib.hid (show Below w3.heap.size w3 (w3.alloc (.cells #[.int .i64 xo, .int .i64 xn, .string xs, .slice xna xnn xnc, .slice xla xln xlc] 25)) from (Below.refl _ _).alloc (Nat.le_refl _) _)
                have HKX := Lib.hid (fun W (hW : Below (w3.alloc (.cells #[.int .i64 xo, .int .i64 xn, .string xs, .slice xna xnn xnc, .slice xla xln xlc] 25)).heap.size (w3.alloc (.cells #[.int .i64 xo, .int .i64 xn, .string xs, .slice xna xnn xnc, .slice xla xln xlc] 25)) W) => hxb.of_eq (hW.block _ (Blk.lt hxb)))
                have HOX := Lib.hid (belowStep HB3X.out (HBO3.out))
                have HRP2 := Lib.hid (replace_any P P t at' old _ _ _ _ (HPW.out _ HBX.out) (HPW.out _ HBX.out) (HTW.out _ HBX.out) (HOV.out _ (belowStep HOX.out HB2O.out)) (HAW.out _ HBX.out) (by have := HBIG.out; omega) (by have := HBIG.out; have := HOB.out; omega))
                clear hxb
                obtain ⟨⟨x0, x1, x2, x3, x4⟩, u0, ⟨y0, y1, y2, y3, y4⟩⟩ := HS.out _ HBX.out
                obtain ⟨o0, o1, o2, o3, o4⟩ := box_cells (HKO.out _ HOX.out)
                go_wp2_with fail
                generalize (w3.alloc (.cells #[.int .i64 xo, .int .i64 xn, .string xs, .slice xna xnn xnc, .slice xla xln xlc] 25)) = wx at HBX HB3X HKX HOX HRP2 x0 x1 x2 x3 x4 u0 y0 y1 y2 y3 y4 o0 o1 o2 o3 o4 ⊢
                refine HRP2.out.mono ?_
                rintro e w4 ⟨hr, hb4⟩
                have HBX4 := Lib.hid hb4
                have HB4 := Lib.hid (belowStep hb4 HBX.out)
                have hres : ∃ sna snn snc sla sln slc, e = .returned (.tuple #[.agg #[.int .i64 t.op, .int .i64 t.n, .string t.s, .slice sna snn snc, .slice sla sln slc], .int .i64 0]) ∧ SynV w4 (fun b => wx.heap.size ≤ b ∧ b < w4.heap.size) t (.agg #[.int .i64 t.op, .int .i64 t.n, .string t.s, .slice sna snn snc, .slice sla sln slc]) := by
                  obtain ⟨h0, hp⟩ := HRS.out old rfl
                  rcases hr with ⟨hz, -⟩ | ⟨-, x', v, hp', rfl, hv⟩
                  · exact absurd h0 hz
                  · rw [hp] at hp'
                    injection hp' with hp'
                    subst hp'
                    obtain ⟨sna, snn, snc, sla, sln, slc, rfl⟩ := hv.form
                    exact ⟨sna, snn, snc, sla, sln, slc, rfl, hv⟩
                obtain ⟨sna, snn, snc, sla, sln, slc, rfl, hsv⟩ := hres
                have HSV := Lib.hid hsv
                clear hr hsv hb4 x0 x1 x2 x3 x4 y0 y1 y2 y3 y4 u0 o0 o1 o2 o3 o4
                have hsb := blk_new w4 #[.int .i64 t.op, .int .i64 t.n, .string t.s, .slice sna snn snc, .slice sla sln slc] 25
                have HBS := Lib.hid (show Below w0.heap.size w0 (w4.alloc (.cells #[.int .i64 t.op, .int .i64 t.n, .string t.s, .slice sna snn snc, .slice sla sln slc] 25)) from HB4.out.alloc HB4.out.size _)
                have HB4S := Lib.hid (show Below w4.heap.size w4 (w4.alloc (.cells #[.int .i64 t.op, .int .i64 t.n, .string t.s, .slice sna snn snc, .slice sla sln slc] 25)) from (Below.refl _ _).alloc (Nat.le_refl _) _)
                have HXS := Lib.hid (belowStep HB4S.out HBX4.out)
                have HEQ := Lib.hid ((equal_any t _ P t _ _ _ (fun b hb => Nat.lt_of_lt_of_le hb.2 HB4S.out.size) (HPW.out _ HBS.out) (HSV.out.keep (Same.of_below HB4S.out (fun b hb => hb.2))) (HTW.out _ HBS.out)).mono fun _ _ => tells_yesB)
                rw [yes_true (show t = t from rfl)] at HEQ
                obtain ⟨x0, x1, x2, x3, x4⟩ := (HS.out _ HBS.out).1
                obtain ⟨s0, s1, s2, s3, s4⟩ := box_cells hsb
                clear hsb
                go_wp2_with fail
                generalize (w4.alloc (.cells #[.int .i64 t.op, .int .i64 t.n, .string t.s, .slice sna snn snc, .slice sla sln slc] 25)) = ws at HBS HB4S HXS HEQ x0 x1 x2 x3 x4 s0 s1 s2 s3 s4 ⊢
                refine HEQ.out.mono ?_
                rintro e w5 ⟨rfl, hb5⟩
                have HB5 := Lib.hid (belowStep hb5 HBS.out)
                have HX5 := Lib.hid (belowStep hb5 HXS.out)
                clear hb5 x0 x1 x2 x3 x4 s0 s1 s2 s3 s4
                obtain ⟨q0, q1, q2, q3, q4⟩ := box_cells (HKX.out _ HX5.out)
                rcases HC.out with ⟨rfl, rfl⟩ | ⟨rfl, x, hxv, hxb, hxf, hxa, hxr, hxp, hxs⟩
                · go_wp2
                  go_ret
                  exact ⟨by first | rfl | trivial, belowStep HB5.out HB0.out⟩
                · have HX35 := Lib.hid (belowStep HX5.out HB3X.out)
                  have HXV := Lib.hid (fun W (hW : Below w3.heap.size w3 W) => hxv.keep (Same.of_below hW (fun b hb => hb.2)))
                  have HXP := Lib.hid (fun W (hW : Below w3.heap.size w3 W) b (hb : wo.heap.size ≤ b ∧ b < w3.heap.size) => Nat.lt_of_lt_of_le hb.2 hW.size)
                  have HXB := Lib.hid hxb
                  have HXR := Lib.hid hxr
                  have HXPT := Lib.hid hxp
                  have HXSZ := Lib.hid hxs
                  have HFX := Lib.hid (find_any _ x at' _ _ (.slice aa al ac) (w.heap.size + 1) (HXP.out _ HX35.out) (HXV.out _ HX35.out) (HXAW.out _ HB5.out) (HAW.out _ HB5.out))
                  rw [hxf] at HFX
                  clear hxv hxb hxf hxa hxr hxp hxs
                  obtain ⟨⟨x0, x1, x2, x3, x4⟩, u0, ⟨y0, y1, y2, y3, y4⟩⟩ := HS.out _ HB5.out
                  go_wp2_with fail
                  refine HFX.out.mono ?_
                  rintro e w6 ⟨⟨gv, rfl, hgv⟩, hb6⟩
                  have HB6 := Lib.hid (belowStep hb6 HB5.out)
                  have HX6 := Lib.hid (belowStep hb6 HX5.out)
                  obtain ⟨gna, gnn, gnc, gla, gln, glc, rfl⟩ := hgv.form
                  have HX36 := Lib.hid (belowStep HX6.out HB3X.out)
                  have HGV := Lib.hid (fun W (hW : Below w6.heap.size w6 W) => hgv.keep (Same.of_below hW (HXP.out _ HX36.out)))
                  clear hb6 hgv x0 x1 x2 x3 x4 y0 y1 y2 y3 y4 u0 q0 q1 q2 q3 q4
                  have hgb := blk_new w6 #[.int .i64 by'.op, .int .i64 by'.n, .string by'.s, .slice gna gnn gnc, .slice gla gln glc] 25
                  have HBG2 := Lib.hid (show Below w0.heap.size w0 (w6.alloc (.cells #[.int .i64 by'.op, .int .i64 by'.n, .string by'.s, .slice gna gnn gnc, .slice gla gln glc] 25)) from HB6.out.alloc HB6.out.size _)
                  have HB6G := Lib.hid (show Below w6.heap.size w6 (w6.alloc (.cells #[.int .i64 by'.op, .int .i64 by'.n, .string by'.s, .slice gna gnn gnc, .slice gla gln glc] 25)) from (Below.refl _ _).alloc (Nat.le_refl _) _)
                  have HKG := Lib.hid (fun W (hW : Below (w6.alloc (.cells #[.int .i64 by'.op, .int .i64 by'.n, .string by'.s, .slice gna gnn gnc, .slice gla gln glc] 25)).heap.size (w6.alloc (.cells #[.int .i64 by'.op, .int .i64 by'.n, .string by'.s, .slice gna gnn gnc, .slice gla gln glc] 25)) W) => hgb.of_eq (hW.block _ (Blk.lt hgb)))
                  have HXG := Lib.hid (belowStep HB6G.out HX6.out)
                  have HX3G := Lib.hid (belowStep HXG.out HB3X.out)
                  have HOG := Lib.hid (belowStep HX3G.out HBO3.out)
                  have HRP3 := Lib.hid (replace_any _ P x at' old _ _ _ _ (HXP.out _ HX3G.out) (HPW.out _ HBG2.out) (HXV.out _ HX3G.out) (HOV.out _ (belowStep HOG.out HB2O.out)) (HAW.out _ HBG2.out) (by have := HXB.out; omega) (by have := HBIG.out; have := HOB.out; omega))
                  clear hgb
                  obtain ⟨⟨x0, x1, x2, x3, x4⟩, u0, ⟨y0, y1, y2, y3, y4⟩⟩ := HS.out _ HBG2.out
                  obtain ⟨o0, o1, o2, o3, o4⟩ := box_cells (HKO.out _ HOG.out)
                  obtain ⟨q0, q1, q2, q3, q4⟩ := box_cells (HKX.out _ HXG.out)
                  go_wp2_with fail
                  generalize (w6.alloc (.cells #[.int .i64 by'.op, .int .i64 by'.n, .string by'.s, .slice gna gnn gnc, .slice gla gln glc] 25)) = wg at HBG2 HB6G HKG HXG HX3G HOG HRP3 x0 x1 x2 x3 x4 u0 y0 y1 y2 y3 y4 o0 o1 o2 o3 o4 q0 q1 q2 q3 q4 ⊢
                  refine HRP3.out.mono ?_
                  rintro e w7 ⟨hr, hb7⟩
                  have HG7 := Lib.hid hb7
                  have HB7 := Lib.hid (belowStep hb7 HBG2.out)
                  have hres : ∃ kna knn knc kla kln klc, e = .returned (.tuple #[.agg #[.int .i64 t.op, .int .i64 t.n, .string t.s, .slice kna knn knc, .slice kla kln klc], .int .i64 0]) ∧ SynV w7 (fun b => wg.heap.size ≤ b ∧ b < w7.heap.size) t (.agg #[.int .i64 t.op, .int .i64 t.n, .string t.s, .slice kna knn knc, .slice kla kln klc]) := by
                    rcases hr with ⟨hz, -⟩ | ⟨-, x', v, hp', rfl, hv⟩
                    · exact absurd HXR.out hz
                    · rw [HXPT.out] at hp'
                      injection hp' with hp'
                      subst hp'
                      obtain ⟨kna, knn, knc, kla, kln, klc, rfl⟩ := hv.form
                      exact ⟨kna, knn, knc, kla, kln, klc, rfl, hv⟩
                  obtain ⟨kna, knn, knc, kla, kln, klc, rfl, hkv⟩ := hres
                  have HKV := Lib.hid (fun W (hW : Below w7.heap.size w7 W) => hkv.keep (Same.of_below hW (fun b hb => hb.2)))
                  clear hr hkv hb7 x0 x1 x2 x3 x4 y0 y1 y2 y3 y4 u0 o0 o1 o2 o3 o4 q0 q1 q2 q3 q4
                  have hkb := blk_new w7 #[.int .i64 t.op, .int .i64 t.n, .string t.s, .slice kna knn knc, .slice kla kln klc] 25
                  have HBK := Lib.hid (show Below w0.heap.size w0 (w7.alloc (.cells #[.int .i64 t.op, .int .i64 t.n, .string t.s, .slice kna knn knc, .slice kla kln klc] 25)) from HB7.out.alloc HB7.out.size _)
                  have HB7K := Lib.hid (show Below w7.heap.size w7 (w7.alloc (.cells #[.int .i64 t.op, .int .i64 t.n, .string t.s, .slice kna knn knc, .slice kla kln klc] 25)) from (Below.refl _ _).alloc (Nat.le_refl _) _)
                  have HKKW := Lib.hid (fun W (hW : Below (w7.alloc (.cells #[.int .i64 t.op, .int .i64 t.n, .string t.s, .slice kna knn knc, .slice kla kln klc] 25)).heap.size (w7.alloc (.cells #[.int .i64 t.op, .int .i64 t.n, .string t.s, .slice kna knn knc, .slice kla kln klc] 25)) W) => hkb.of_eq (hW.block _ (Blk.lt hkb)))
                  clear hkb
                  have hxle := Pl.size_big x
                  have htle := Pl.size_big t
                  have hole := Pl.size_big old
                  have hyle := Pl.size_big by'
                  have HGK := Lib.hid (belowStep HB7K.out HG7.out)
                  have HXK := Lib.hid (belowStep HGK.out HXG.out)
                  have H3K := Lib.hid (belowStep HXK.out HB3X.out)
                  have HOK := Lib.hid (belowStep H3K.out HBO3.out)
                  have H2K := Lib.hid (belowStep HOK.out HB2O.out)
                  have H6K := Lib.hid (belowStep HGK.out HB6G.out)
                  have HE1 := Lib.hid (fun W (hW : Below (w7.alloc (.cells #[.int .i64 t.op, .int .i64 t.n, .string t.s, .slice kna knn knc, .slice kla kln klc] 25)).heap.size (w7.alloc (.cells #[.int .i64 t.op, .int .i64 t.n, .string t.s, .slice kna knn knc, .slice kla kln klc] 25)) W) => (equal_any by' _ P by' W _ _ (HXP.out _ (belowStep hW H3K.out)) (HPW.out _ (belowStep hW HBK.out)) (HGV.out _ (belowStep hW H6K.out)) (HYW.out _ (belowStep hW HBK.out))).mono fun _ _ => tells_yesB)
                  have HE2 := Lib.hid (fun W (hW : Below (w7.alloc (.cells #[.int .i64 t.op, .int .i64 t.n, .string t.s, .slice kna knn knc, .slice kla kln klc] 25)).heap.size (w7.alloc (.cells #[.int .i64 t.op, .int .i64 t.n, .string t.s, .slice kna knn knc, .slice kla kln klc] 25)) W) => (equal_any t (fun b => wg.heap.size ≤ b ∧ b < w7.heap.size) P t W _ _ (fun b hb => Nat.lt_of_lt_of_le hb.2 (belowStep hW HB7K.out).size) (HPW.out _ (belowStep hW HBK.out)) (HKV.out _ (belowStep hW HB7K.out)) (HTW.out _ (belowStep hW HBK.out))).mono fun _ _ => tells_yesB)
                  have HZX := Lib.hid (fun W (hW : Below (w7.alloc (.cells #[.int .i64 t.op, .int .i64 t.n, .string t.s, .slice kna knn knc, .slice kla kln klc] 25)).heap.size (w7.alloc (.cells #[.int .i64 t.op, .int .i64 t.n, .string t.s, .slice kna knn knc, .slice kla kln klc] 25)) W) => size_any _ x W _ (HXP.out _ (belowStep hW H3K.out)) (HXV.out _ (belowStep hW H3K.out)) (by have := HXB.out; omega))
                  have HZT := Lib.hid (fun W (hW : Below (w7.alloc (.cells #[.int .i64 t.op, .int .i64 t.n, .string t.s, .slice kna knn knc, .slice kla kln klc] 25)).heap.size (w7.alloc (.cells #[.int .i64 t.op, .int .i64 t.n, .string t.s, .slice kna knn knc, .slice kla kln klc] 25)) W) => size_any P t W _ (HPW.out _ (belowStep hW HBK.out)) (HTW.out _ (belowStep hW HBK.out)) (by have := HBIG.out; omega))
                  have HZO := Lib.hid (fun W (hW : Below (w7.alloc (.cells #[.int .i64 t.op, .int .i64 t.n, .string t.s, .slice kna knn knc, .slice kla kln klc] 25)).heap.size (w7.alloc (.cells #[.int .i64 t.op, .int .i64 t.n, .string t.s, .slice kna knn knc, .slice kla kln klc] 25)) W) => size_any P old W _ (HPW.out _ (belowStep hW HBK.out)) (HOV.out _ (belowStep hW H2K.out)) (by have := HBIG.out; have := HOB.out; omega))
                  have HZY := Lib.hid (fun W (hW : Below (w7.alloc (.cells #[.int .i64 t.op, .int .i64 t.n, .string t.s, .slice kna knn knc, .slice kla kln klc] 25)).heap.size (w7.alloc (.cells #[.int .i64 t.op, .int .i64 t.n, .string t.s, .slice kna knn knc, .slice kla kln klc] 25)) W) => size_any P by' W _ (HPW.out _ (belowStep hW HBK.out)) (HYW.out _ (belowStep hW HBK.out)) (by have := HBIG.out; omega))
                  have HKS := Lib.hid (fun W (hW : Below (w7.alloc (.cells #[.int .i64 t.op, .int .i64 t.n, .string t.s, .slice kna knn knc, .slice kla kln klc] 25)).heap.size (w7.alloc (.cells #[.int .i64 t.op, .int .i64 t.n, .string t.s, .slice kna knn knc, .slice kla kln klc] 25)) W) => (show _ ∧ _ ∧ _ ∧ _ ∧ _ ∧ _ ∧ _ from ⟨hW, (HS.out _ (belowStep hW HBK.out)).1, (HS.out _ (belowStep hW HBK.out)).2.2, box_cells (HKO.out _ (belowStep hW HOK.out)), box_cells (HKX.out _ (belowStep hW HXK.out)), box_cells (HKG.out _ (belowStep hW HGK.out)), box_cells (HKKW.out _ hW)⟩))
                  have hsz := HXSZ.out
                  have hbx := HXB.out
                  have hbt := HBIG.out
                  have hbo := HOB.out
                  rw [yes_true (show by' = by' from rfl)] at HE1
                  rw [yes_true (show t = t from rfl)] at HE2
                  generalize x.size = xz at *
                  generalize t.size = tz at *
                  generalize old.size = oz at *
                  generalize by'.size = yz at *
                  have hx1 : xz ≤ 62000 := by omega
                  have ht1 : tz ≤ 31000 := by omega
                  have ho1 : oz ≤ 31000 := by omega
                  have hy1 : yz ≤ 31000 := by omega
                  have hw1 : IntKind.i64.wrap ((tz : Int) - (oz : Int)) = (tz : Int) - (oz : Int) := (by rw [IntKind.wrap_i64]; omega)
                  have hw2 : IntKind.i64.wrap ((tz : Int) - (oz : Int) + (yz : Int)) = (tz : Int) - (oz : Int) + (yz : Int) := (by rw [IntKind.wrap_i64]; omega)
                  have hq : (((xz : Int)) == (tz : Int) - (oz : Int) + (yz : Int)) = true := beq_iff_eq.2 (by omega)
                  clear hxle htle hole hyle hsz hbx hbt hbo hx1 ht1 ho1 hy1
                  go_wp2_with fail
                  generalize (w7.alloc (.cells #[.int .i64 t.op, .int .i64 t.n, .string t.s, .slice kna knn knc, .slice kla kln klc] 25)) = wk at HBK HB7K HKKW HGK HXK H3K HOK H2K H6K HE1 HE2 HZX HZT HZO HZY HKS ⊢
                  have HD0 := Lib.hid (Below.refl wk.heap.size wk).drew
                  go_wp2
                  go_region_held3 (fun W => Below wk.heap.size wk W ∧ (W.cell? ⟨w.heap.size, 0, none⟩ = some (.int .i64 t.op) ∧ W.cell? ⟨w.heap.size, 1, none⟩ = some (.int .i64 t.n) ∧ W.cell? ⟨w.heap.size, 2, none⟩ = some (.string t.s) ∧ W.cell? ⟨w.heap.size, 3, none⟩ = some (.slice na nn nc) ∧ W.cell? ⟨w.heap.size, 4, none⟩ = some (.slice la ln lc)) ∧ (W.cell? ⟨w.heap.size + 1 + 1, 0, none⟩ = some (.int .i64 by'.op) ∧ W.cell? ⟨w.heap.size + 1 + 1, 1, none⟩ = some (.int .i64 by'.n) ∧ W.cell? ⟨w.heap.size + 1 + 1, 2, none⟩ = some (.string by'.s) ∧ W.cell? ⟨w.heap.size + 1 + 1, 3, none⟩ = some (.slice ma mn mc) ∧ W.cell? ⟨w.heap.size + 1 + 1, 4, none⟩ = some (.slice ka kn kc)) ∧ (W.cell? ⟨w2.heap.size, 0, none⟩ = some (.int .i64 old.op) ∧ W.cell? ⟨w2.heap.size, 1, none⟩ = some (.int .i64 old.n) ∧ W.cell? ⟨w2.heap.size, 2, none⟩ = some (.string old.s) ∧ W.cell? ⟨w2.heap.size, 3, none⟩ = some (.slice ona onn onc) ∧ W.cell? ⟨w2.heap.size, 4, none⟩ = some (.slice ola oln olc)) ∧ (W.cell? ⟨w3.heap.size, 0, none⟩ = some (.int .i64 xo) ∧ W.cell? ⟨w3.heap.size, 1, none⟩ = some (.int .i64 xn) ∧ W.cell? ⟨w3.heap.size, 2, none⟩ = some (.string xs) ∧ W.cell? ⟨w3.heap.size, 3, none⟩ = some (.slice xna xnn xnc) ∧ W.cell? ⟨w3.heap.size, 4, none⟩ = some (.slice xla xln xlc)) ∧ (W.cell? ⟨w6.heap.size, 0, none⟩ = some (.int .i64 by'.op) ∧ W.cell? ⟨w6.heap.size, 1, none⟩ = some (.int .i64 by'.n) ∧ W.cell? ⟨w6.heap.size, 2, none⟩ = some (.string by'.s) ∧ W.cell? ⟨w6.heap.size, 3, none⟩ = some (.slice gna gnn gnc) ∧ W.cell? ⟨w6.heap.size, 4, none⟩ = some (.slice gla gln glc)) ∧ (W.cell? ⟨w7.heap.size, 0, none⟩ = some (.int .i64 t.op) ∧ W.cell? ⟨w7.heap.size, 1, none⟩ = some (.int .i64 t.n) ∧ W.cell? ⟨w7.heap.size, 2, none⟩ = some (.string t.s) ∧ W.cell? ⟨w7.heap.size, 3, none⟩ = some (.slice kna knn knc) ∧ W.cell? ⟨w7.heap.size, 4, none⟩ = some (.slice kla kln klc)))
                    (first | exact HKS.out _ HD0.out | exact HKS.out _ (by assumption))
                    (first
                    | (go_at_call 19; first | ((with_reducible refine (HE1.out _ (by first | assumption | exact HD0.out | exact And.left (by assumption))).mono ?_); rintro e wn ⟨rfl, hbn⟩; have hbn2 := belowStep (a := wk) hbn (by first | assumption | exact HD0.out | exact And.left (by assumption))) | ((with_reducible refine (HE2.out _ (by first | assumption | exact HD0.out | exact And.left (by assumption))).mono ?_); rintro e wn ⟨rfl, hbn⟩; have hbn2 := belowStep (a := wk) hbn (by first | assumption | exact HD0.out | exact And.left (by assumption))))
                    | (go_at_call 15; first | ((with_reducible refine (HZX.out _ (by first | assumption | exact HD0.out | exact And.left (by assumption))).mono ?_); rintro e wn ⟨rfl, hbn⟩; have hbn2 := belowStep (a := wk) hbn (by first | assumption | exact HD0.out | exact And.left (by assumption))) | ((with_reducible refine (HZT.out _ (by first | assumption | exact HD0.out | exact And.left (by assumption))).mono ?_); rintro e wn ⟨rfl, hbn⟩; have hbn2 := belowStep (a := wk) hbn (by first | assumption | exact HD0.out | exact And.left (by assumption))) | ((with_reducible refine (HZO.out _ (by first | assumption | exact HD0.out | exact And.left (by assumption))).mono ?_); rintro e wn ⟨rfl, hbn⟩; have hbn2 := belowStep (a := wk) hbn (by first | assumption | exact HD0.out | exact And.left (by assumption))) | ((with_reducible refine (HZY.out _ (by first | assumption | exact HD0.out | exact And.left (by assumption))).mono ?_); rintro e wn ⟨rfl, hbn⟩; have hbn2 := belowStep (a := wk) hbn (by first | assumption | exact HD0.out | exact And.left (by assumption)))))
                  all_goals
                    go_wp2
                    go_ret
                    exact ⟨by first | rfl | trivial, belowStep (belowStep (by assumption) HBK.out) HB0.out⟩
          · go_simp
            refine hK _ _ ?_
            clear hK K
            refine wpAny_ready (rs := [14]) (by kernel_rfl) (by simp) ?_
            refine AllReady.cons rfl (fun K hK => ?_) AllReady.nil
            go_simp
            refine hK _ _ ?_
            clear hK K
            refine wpAny_ready (rs := [15]) (by kernel_rfl) (by simp) ?_
            refine AllReady.cons rfl (fun K hK => ?_) AllReady.nil
            go_simp
            refine hK _ _ ?_
            clear hK K
            refine wpAny_ready (rs := [16]) (by kernel_rfl) (by simp) ?_
            refine AllReady.cons rfl (fun K hK => ?_) AllReady.nil
            go_simp
            go_wp2_with fail
            refine (category_any _ _).mono ?_
            rintro e wn ⟨rfl, rfl⟩
            refine hK _ _ ?_
            clear hK K
            refine wpAny_ready (rs := [18]) (by kernel_rfl) (by simp) ?_
            refine AllReady.cons rfl (fun K hK => ?_) AllReady.nil
            go_simp
            go_wp2_with fail
            refine (HVAL.out _ rfl).mono ?_
            rintro e wn ⟨rfl, hbn⟩
            have HBN := Lib.hid (belowStep hbn HBG.out)
            clear hbn x0 x1 x2 x3 x4 y0 y1 y2 y3 y4 u0
            obtain ⟨⟨x0, x1, x2, x3, x4⟩, u0, ⟨y0, y1, y2, y3, y4⟩⟩ := HS.out _ HBN.out
            refine hK _ _ ?_
            clear hK K
            refine wpAny_ready (rs := [19]) (by kernel_rfl) (by simp) ?_
            refine AllReady.cons rfl (fun K hK => ?_) AllReady.nil
            go_simp
            refine hK _ _ ?_
            clear hK K
            refine wpAny_ready (rs := [20]) (by kernel_rfl) (by simp) ?_
            refine AllReady.cons rfl (fun K hK => ?_) AllReady.nil
            go_simp
            refine hK _ _ ?_
            clear hK K
            refine wpAny_done (by kernel_rfl) ?_ _
            have hAny := HAN.out (by first | rfl | trivial)
            have HAY := Lib.hid hAny
            have HFI := Lib.hid (find_any P t at' _ _ (.slice aa al ac) (w.heap.size + 1) (HPW.out _ HBN.out) (HTW.out _ HBN.out) (HXAW.out _ HBN.out) (HAW.out _ HBN.out))
            have HRR := Lib.hid (rep_range t at' by' hAny)
            have HRS := Lib.hid (fun old => rep_self t at' old hAny)
            have HRO := Lib.hid (fun old => rep_other t at' by' old hAny)
            have HFB := Lib.hid (Pl.find_big at' t)
            generalize hfind : Pl.find at' t = fnd at *
            have HRP := Lib.hid (fun W (hW : Below w0.heap.size w0 W) => replace_any P P t at' by' W _ _ _ (HPW.out W hW) (HPW.out W hW) (HTW.out W hW) (HYW.out W hW) (HAW.out W hW) (by have := HBIG.out; omega) (by have := HBIG.out; omega))
            have HFN := Lib.hid hfind
            clear hfind hAny x0 x1 x2 x3 x4 y0 y1 y2 y3 y4 u0
            obtain ⟨⟨x0, x1, x2, x3, x4⟩, u0, ⟨y0, y1, y2, y3, y4⟩⟩ := HS.out _ HBN.out
            go_wp2_with fail
            refine HFI.out.mono ?_
            rintro e w2 ⟨hr, hb2⟩
            have HB2 := Lib.hid (belowStep hb2 HBN.out)
            clear hb2 x0 x1 x2 x3 x4 y0 y1 y2 y3 y4 u0
            cases fnd with
            | none =>
              subst hr
              rw [show zeroSyn = (.agg #[.int .i64 0, .int .i64 0, .string ⟨#[]⟩, .slice none 0 0, .slice none 0 0] : Value) from rfl]
              have HBO := Lib.hid (show Below w0.heap.size w0 (w2.alloc (.cells #[.int .i64 0, .int .i64 0, .string ⟨#[]⟩, .slice none 0 0, .slice none 0 0] 25)) from HB2.out.alloc HB2.out.size _)
              have HRPO := Lib.hid (HRP.out _ HBO.out)
              have HRC := Lib.hid (HRR.out (by first | rfl | trivial))
              generalize hrc : repCode t at' by' = rc at *
              obtain ⟨⟨x0, x1, x2, x3, x4⟩, u0, ⟨y0, y1, y2, y3, y4⟩⟩ := HS.out _ HBO.out
              go_wp2_with fail
              refine HRPO.out.mono ?_
              rintro e w3 ⟨hr, hb3⟩
              have HB3 := Lib.hid (belowStep hb3 HBO.out)
              clear hb3 x0 x1 x2 x3 x4 y0 y1 y2 y3 y4 u0
              have hrc2 := HRC.out
              subst hrc2
              rcases hr with ⟨-, rfl⟩ | ⟨h0, -⟩
              · rw [hrc]
                rw [show zeroSyn = (.agg #[.int .i64 0, .int .i64 0, .string ⟨#[]⟩, .slice none 0 0, .slice none 0 0] : Value) from rfl]
                have hx := blk_new w3 #[.int .i64 0, .int .i64 0, .string ⟨#[]⟩, .slice none 0 0, .slice none 0 0] 25
                obtain ⟨q0, q1, q2, q3, q4⟩ := box_cells hx
                go_wp2
                go_ret
                exact ⟨by first | rfl | trivial, belowStep (HB3.out.alloc HB3.out.size _) HB0.out⟩
              · rw [hrc] at h0; cases h0
            | some old =>
              obtain ⟨ov, rfl, hov⟩ := hr
              have HOB := Lib.hid (HFB.out old rfl)
              obtain ⟨ona, onn, onc, ola, oln, olc, rfl⟩ := hov.form
              have HOV := Lib.hid (fun W (hW : Below w2.heap.size w2 W) => hov.keep (Same.of_below hW (fun b hb => HPW.out _ HB2.out b hb)))
              have hob := blk_new w2 #[.int .i64 old.op, .int .i64 old.n, .string old.s, .slice ona onn onc, .slice ola oln olc] 25
              have HBO := Lib.hid (show Below w0.heap.size w0 (w2.alloc (.cells #[.int .i64 old.op, .int .i64 old.n, .string old.s, .slice ona onn onc, .slice ola oln olc] 25)) from HB2.out.alloc HB2.out.size _)
              have HB2O := Lib.hid (show Below w2.heap.size w2 (w2.alloc (.cells #[.int .i64 old.op, .int .i64 old.n, .string old.s, .slice ona onn onc, .slice ola oln olc] 25)) from (Below.refl _ _).alloc (Nat.le_refl _) _)
              have HKO := Lib.hid (fun W (hW : Below (w2.alloc (.cells #[.int .i64 old.op, .int .i64 old.n, .string old.s, .slice ona onn onc, .slice ola oln olc] 25)).heap.size (w2.alloc (.cells #[.int .i64 old.op, .int .i64 old.n, .string old.s, .slice ona onn onc, .slice ola oln olc] 25)) W) => hob.of_eq (hW.block _ (Blk.lt hob)))
              have HRPO := Lib.hid (HRP.out _ HBO.out)
              clear hov hob
              obtain ⟨⟨x0, x1, x2, x3, x4⟩, u0, ⟨y0, y1, y2, y3, y4⟩⟩ := HS.out _ HBO.out
              go_wp2_with fail
              generalize (w2.alloc (.cells #[.int .i64 old.op, .int .i64 old.n, .string old.s, .slice ona onn onc, .slice ola oln olc] 25)) = wo at HBO HB2O HKO HRPO x0 x1 x2 x3 x4 u0 y0 y1 y2 y3 y4 ⊢
              refine HRPO.out.mono ?_
              rintro e w3 ⟨hr, hb3⟩
              have HBO3 := Lib.hid hb3
              have HB3 := Lib.hid (belowStep hb3 HBO.out)
              have hres : ∃ c xo xn xs xna xnn xnc xla xln xlc, e = .returned (.tuple #[.agg #[.int .i64 xo, .int .i64 xn, .string xs, .slice xna xnn xnc, .slice xla xln xlc], .int .i64 c]) ∧ ((c = 3 ∧ xo = 0) ∨ (c = 0 ∧ ∃ x : Syn, SynV w3 (fun b => wo.heap.size ≤ b ∧ b < w3.heap.size) x (.agg #[.int .i64 xo, .int .i64 xn, .string xs, .slice xna xnn xnc, .slice xla xln xlc]) ∧ x.big ≤ 62000 ∧ Pl.find at' x = some by' ∧ anyP x = true ∧ repCode x at' old = 0 ∧ Pl.put at' x old = some t ∧ x.size + old.size = t.size + by'.size)) := by
                rcases HRO.out old rfl with h3 | ⟨h0, x, hp, h4, h5, h6, h7, h8⟩
                · rcases hr with ⟨-, rfl⟩ | ⟨hz, -⟩
                  · rw [h3]
                    exact ⟨3, 0, 0, ⟨#[]⟩, none, 0, 0, none, 0, 0, rfl, .inl ⟨rfl, rfl⟩⟩
                  · rw [h3] at hz; cases hz
                · rcases hr with ⟨hz, -⟩ | ⟨-, x', v, hp', rfl, hv⟩
                  · exact absurd h0 hz
                  · rw [hp] at hp'
                    injection hp' with hp'
                    subst hp'
                    obtain ⟨xna, xnn, xnc, xla, xln, xlc, rfl⟩ := hv.form
                    have hxb := Pl.put_big at' t by' x hp
                    exact ⟨0, x.op, x.n, x.s, xna, xnn, xnc, xla, xln, xlc, rfl, .inr ⟨rfl, x, hv, by have := HBIG.out; omega, h4, h5, h6, h7, h8⟩⟩
              obtain ⟨c, xo, xn, xs, xna, xnn, xnc, xla, xln, xlc, rfl, hc⟩ := hres
              have HC := Lib.hid hc
              clear hr hc hb3 x0 x1 x2 x3 x4 y0 y1 y2 y3 y4 u0
              have hxb := blk_new w3 #[.int .i64 xo, .int .i64 xn, .string xs, .slice xna xnn xnc, .slice xla xln xlc] 25
              have HBX := Lib.hid (show Below w0.heap.size w0 (w3.alloc (.cells #[.int .i64 xo, .int .i64 xn, .string xs, .slice xna xnn xnc, .slice xla xln xlc] 25)) from HB3.out.alloc HB3.out.size _)
              have HB3X := Lib.hid (show Below w3.heap.size w3 (w3.alloc (.cells #[.int .i64 xo, .int .i64 xn, .string xs, .slice xna xnn xnc, .slice xla xln xlc] 25)) from (Below.refl _ _).alloc (Nat.le_refl _) _)
              have HKX := Lib.hid (fun W (hW : Below (w3.alloc (.cells #[.int .i64 xo, .int .i64 xn, .string xs, .slice xna xnn xnc, .slice xla xln xlc] 25)).heap.size (w3.alloc (.cells #[.int .i64 xo, .int .i64 xn, .string xs, .slice xna xnn xnc, .slice xla xln xlc] 25)) W) => hxb.of_eq (hW.block _ (Blk.lt hxb)))
              have HOX := Lib.hid (belowStep HB3X.out (HBO3.out))
              have HRP2 := Lib.hid (replace_any P P t at' old _ _ _ _ (HPW.out _ HBX.out) (HPW.out _ HBX.out) (HTW.out _ HBX.out) (HOV.out _ (belowStep HOX.out HB2O.out)) (HAW.out _ HBX.out) (by have := HBIG.out; omega) (by have := HBIG.out; have := HOB.out; omega))
              clear hxb
              obtain ⟨⟨x0, x1, x2, x3, x4⟩, u0, ⟨y0, y1, y2, y3, y4⟩⟩ := HS.out _ HBX.out
              obtain ⟨o0, o1, o2, o3, o4⟩ := box_cells (HKO.out _ HOX.out)
              go_wp2_with fail
              generalize (w3.alloc (.cells #[.int .i64 xo, .int .i64 xn, .string xs, .slice xna xnn xnc, .slice xla xln xlc] 25)) = wx at HBX HB3X HKX HOX HRP2 x0 x1 x2 x3 x4 u0 y0 y1 y2 y3 y4 o0 o1 o2 o3 o4 ⊢
              refine HRP2.out.mono ?_
              rintro e w4 ⟨hr, hb4⟩
              have HBX4 := Lib.hid hb4
              have HB4 := Lib.hid (belowStep hb4 HBX.out)
              have hres : ∃ sna snn snc sla sln slc, e = .returned (.tuple #[.agg #[.int .i64 t.op, .int .i64 t.n, .string t.s, .slice sna snn snc, .slice sla sln slc], .int .i64 0]) ∧ SynV w4 (fun b => wx.heap.size ≤ b ∧ b < w4.heap.size) t (.agg #[.int .i64 t.op, .int .i64 t.n, .string t.s, .slice sna snn snc, .slice sla sln slc]) := by
                obtain ⟨h0, hp⟩ := HRS.out old rfl
                rcases hr with ⟨hz, -⟩ | ⟨-, x', v, hp', rfl, hv⟩
                · exact absurd h0 hz
                · rw [hp] at hp'
                  injection hp' with hp'
                  subst hp'
                  obtain ⟨sna, snn, snc, sla, sln, slc, rfl⟩ := hv.form
                  exact ⟨sna, snn, snc, sla, sln, slc, rfl, hv⟩
              obtain ⟨sna, snn, snc, sla, sln, slc, rfl, hsv⟩ := hres
              have HSV := Lib.hid hsv
              clear hr hsv hb4 x0 x1 x2 x3 x4 y0 y1 y2 y3 y4 u0 o0 o1 o2 o3 o4
              have hsb := blk_new w4 #[.int .i64 t.op, .int .i64 t.n, .string t.s, .slice sna snn snc, .slice sla sln slc] 25
              have HBS := Lib.hid (show Below w0.heap.size w0 (w4.alloc (.cells #[.int .i64 t.op, .int .i64 t.n, .string t.s, .slice sna snn snc, .slice sla sln slc] 25)) from HB4.out.alloc HB4.out.size _)
              have HB4S := Lib.hid (show Below w4.heap.size w4 (w4.alloc (.cells #[.int .i64 t.op, .int .i64 t.n, .string t.s, .slice sna snn snc, .slice sla sln slc] 25)) from (Below.refl _ _).alloc (Nat.le_refl _) _)
              have HXS := Lib.hid (belowStep HB4S.out HBX4.out)
              have HEQ := Lib.hid ((equal_any t _ P t _ _ _ (fun b hb => Nat.lt_of_lt_of_le hb.2 HB4S.out.size) (HPW.out _ HBS.out) (HSV.out.keep (Same.of_below HB4S.out (fun b hb => hb.2))) (HTW.out _ HBS.out)).mono fun _ _ => tells_yesB)
              rw [yes_true (show t = t from rfl)] at HEQ
              obtain ⟨x0, x1, x2, x3, x4⟩ := (HS.out _ HBS.out).1
              obtain ⟨s0, s1, s2, s3, s4⟩ := box_cells hsb
              clear hsb
              go_wp2_with fail
              generalize (w4.alloc (.cells #[.int .i64 t.op, .int .i64 t.n, .string t.s, .slice sna snn snc, .slice sla sln slc] 25)) = ws at HBS HB4S HXS HEQ x0 x1 x2 x3 x4 s0 s1 s2 s3 s4 ⊢
              refine HEQ.out.mono ?_
              rintro e w5 ⟨rfl, hb5⟩
              have HB5 := Lib.hid (belowStep hb5 HBS.out)
              have HX5 := Lib.hid (belowStep hb5 HXS.out)
              clear hb5 x0 x1 x2 x3 x4 s0 s1 s2 s3 s4
              obtain ⟨q0, q1, q2, q3, q4⟩ := box_cells (HKX.out _ HX5.out)
              rcases HC.out with ⟨rfl, rfl⟩ | ⟨rfl, x, hxv, hxb, hxf, hxa, hxr, hxp, hxs⟩
              · go_wp2
                go_ret
                exact ⟨by first | rfl | trivial, belowStep HB5.out HB0.out⟩
              · have HX35 := Lib.hid (belowStep HX5.out HB3X.out)
                have HXV := Lib.hid (fun W (hW : Below w3.heap.size w3 W) => hxv.keep (Same.of_below hW (fun b hb => hb.2)))
                have HXP := Lib.hid (fun W (hW : Below w3.heap.size w3 W) b (hb : wo.heap.size ≤ b ∧ b < w3.heap.size) => Nat.lt_of_lt_of_le hb.2 hW.size)
                have HXB := Lib.hid hxb
                have HXR := Lib.hid hxr
                have HXPT := Lib.hid hxp
                have HXSZ := Lib.hid hxs
                have HFX := Lib.hid (find_any _ x at' _ _ (.slice aa al ac) (w.heap.size + 1) (HXP.out _ HX35.out) (HXV.out _ HX35.out) (HXAW.out _ HB5.out) (HAW.out _ HB5.out))
                rw [hxf] at HFX
                clear hxv hxb hxf hxa hxr hxp hxs
                obtain ⟨⟨x0, x1, x2, x3, x4⟩, u0, ⟨y0, y1, y2, y3, y4⟩⟩ := HS.out _ HB5.out
                go_wp2_with fail
                refine HFX.out.mono ?_
                rintro e w6 ⟨⟨gv, rfl, hgv⟩, hb6⟩
                have HB6 := Lib.hid (belowStep hb6 HB5.out)
                have HX6 := Lib.hid (belowStep hb6 HX5.out)
                obtain ⟨gna, gnn, gnc, gla, gln, glc, rfl⟩ := hgv.form
                have HX36 := Lib.hid (belowStep HX6.out HB3X.out)
                have HGV := Lib.hid (fun W (hW : Below w6.heap.size w6 W) => hgv.keep (Same.of_below hW (HXP.out _ HX36.out)))
                clear hb6 hgv x0 x1 x2 x3 x4 y0 y1 y2 y3 y4 u0 q0 q1 q2 q3 q4
                have hgb := blk_new w6 #[.int .i64 by'.op, .int .i64 by'.n, .string by'.s, .slice gna gnn gnc, .slice gla gln glc] 25
                have HBG2 := Lib.hid (show Below w0.heap.size w0 (w6.alloc (.cells #[.int .i64 by'.op, .int .i64 by'.n, .string by'.s, .slice gna gnn gnc, .slice gla gln glc] 25)) from HB6.out.alloc HB6.out.size _)
                have HB6G := Lib.hid (show Below w6.heap.size w6 (w6.alloc (.cells #[.int .i64 by'.op, .int .i64 by'.n, .string by'.s, .slice gna gnn gnc, .slice gla gln glc] 25)) from (Below.refl _ _).alloc (Nat.le_refl _) _)
                have HKG := Lib.hid (fun W (hW : Below (w6.alloc (.cells #[.int .i64 by'.op, .int .i64 by'.n, .string by'.s, .slice gna gnn gnc, .slice gla gln glc] 25)).heap.size (w6.alloc (.cells #[.int .i64 by'.op, .int .i64 by'.n, .string by'.s, .slice gna gnn gnc, .slice gla gln glc] 25)) W) => hgb.of_eq (hW.block _ (Blk.lt hgb)))
                have HXG := Lib.hid (belowStep HB6G.out HX6.out)
                have HX3G := Lib.hid (belowStep HXG.out HB3X.out)
                have HOG := Lib.hid (belowStep HX3G.out HBO3.out)
                have HRP3 := Lib.hid (replace_any _ P x at' old _ _ _ _ (HXP.out _ HX3G.out) (HPW.out _ HBG2.out) (HXV.out _ HX3G.out) (HOV.out _ (belowStep HOG.out HB2O.out)) (HAW.out _ HBG2.out) (by have := HXB.out; omega) (by have := HBIG.out; have := HOB.out; omega))
                clear hgb
                obtain ⟨⟨x0, x1, x2, x3, x4⟩, u0, ⟨y0, y1, y2, y3, y4⟩⟩ := HS.out _ HBG2.out
                obtain ⟨o0, o1, o2, o3, o4⟩ := box_cells (HKO.out _ HOG.out)
                obtain ⟨q0, q1, q2, q3, q4⟩ := box_cells (HKX.out _ HXG.out)
                go_wp2_with fail
                generalize (w6.alloc (.cells #[.int .i64 by'.op, .int .i64 by'.n, .string by'.s, .slice gna gnn gnc, .slice gla gln glc] 25)) = wg at HBG2 HB6G HKG HXG HX3G HOG HRP3 x0 x1 x2 x3 x4 u0 y0 y1 y2 y3 y4 o0 o1 o2 o3 o4 q0 q1 q2 q3 q4 ⊢
                refine HRP3.out.mono ?_
                rintro e w7 ⟨hr, hb7⟩
                have HG7 := Lib.hid hb7
                have HB7 := Lib.hid (belowStep hb7 HBG2.out)
                have hres : ∃ kna knn knc kla kln klc, e = .returned (.tuple #[.agg #[.int .i64 t.op, .int .i64 t.n, .string t.s, .slice kna knn knc, .slice kla kln klc], .int .i64 0]) ∧ SynV w7 (fun b => wg.heap.size ≤ b ∧ b < w7.heap.size) t (.agg #[.int .i64 t.op, .int .i64 t.n, .string t.s, .slice kna knn knc, .slice kla kln klc]) := by
                  rcases hr with ⟨hz, -⟩ | ⟨-, x', v, hp', rfl, hv⟩
                  · exact absurd HXR.out hz
                  · rw [HXPT.out] at hp'
                    injection hp' with hp'
                    subst hp'
                    obtain ⟨kna, knn, knc, kla, kln, klc, rfl⟩ := hv.form
                    exact ⟨kna, knn, knc, kla, kln, klc, rfl, hv⟩
                obtain ⟨kna, knn, knc, kla, kln, klc, rfl, hkv⟩ := hres
                have HKV := Lib.hid (fun W (hW : Below w7.heap.size w7 W) => hkv.keep (Same.of_below hW (fun b hb => hb.2)))
                clear hr hkv hb7 x0 x1 x2 x3 x4 y0 y1 y2 y3 y4 u0 o0 o1 o2 o3 o4 q0 q1 q2 q3 q4
                have hkb := blk_new w7 #[.int .i64 t.op, .int .i64 t.n, .string t.s, .slice kna knn knc, .slice kla kln klc] 25
                have HBK := Lib.hid (show Below w0.heap.size w0 (w7.alloc (.cells #[.int .i64 t.op, .int .i64 t.n, .string t.s, .slice kna knn knc, .slice kla kln klc] 25)) from HB7.out.alloc HB7.out.size _)
                have HB7K := Lib.hid (show Below w7.heap.size w7 (w7.alloc (.cells #[.int .i64 t.op, .int .i64 t.n, .string t.s, .slice kna knn knc, .slice kla kln klc] 25)) from (Below.refl _ _).alloc (Nat.le_refl _) _)
                have HKKW := Lib.hid (fun W (hW : Below (w7.alloc (.cells #[.int .i64 t.op, .int .i64 t.n, .string t.s, .slice kna knn knc, .slice kla kln klc] 25)).heap.size (w7.alloc (.cells #[.int .i64 t.op, .int .i64 t.n, .string t.s, .slice kna knn knc, .slice kla kln klc] 25)) W) => hkb.of_eq (hW.block _ (Blk.lt hkb)))
                clear hkb
                have hxle := Pl.size_big x
                have htle := Pl.size_big t
                have hole := Pl.size_big old
                have hyle := Pl.size_big by'
                have HGK := Lib.hid (belowStep HB7K.out HG7.out)
                have HXK := Lib.hid (belowStep HGK.out HXG.out)
                have H3K := Lib.hid (belowStep HXK.out HB3X.out)
                have HOK := Lib.hid (belowStep H3K.out HBO3.out)
                have H2K := Lib.hid (belowStep HOK.out HB2O.out)
                have H6K := Lib.hid (belowStep HGK.out HB6G.out)
                have HE1 := Lib.hid (fun W (hW : Below (w7.alloc (.cells #[.int .i64 t.op, .int .i64 t.n, .string t.s, .slice kna knn knc, .slice kla kln klc] 25)).heap.size (w7.alloc (.cells #[.int .i64 t.op, .int .i64 t.n, .string t.s, .slice kna knn knc, .slice kla kln klc] 25)) W) => (equal_any by' _ P by' W _ _ (HXP.out _ (belowStep hW H3K.out)) (HPW.out _ (belowStep hW HBK.out)) (HGV.out _ (belowStep hW H6K.out)) (HYW.out _ (belowStep hW HBK.out))).mono fun _ _ => tells_yesB)
                have HE2 := Lib.hid (fun W (hW : Below (w7.alloc (.cells #[.int .i64 t.op, .int .i64 t.n, .string t.s, .slice kna knn knc, .slice kla kln klc] 25)).heap.size (w7.alloc (.cells #[.int .i64 t.op, .int .i64 t.n, .string t.s, .slice kna knn knc, .slice kla kln klc] 25)) W) => (equal_any t (fun b => wg.heap.size ≤ b ∧ b < w7.heap.size) P t W _ _ (fun b hb => Nat.lt_of_lt_of_le hb.2 (belowStep hW HB7K.out).size) (HPW.out _ (belowStep hW HBK.out)) (HKV.out _ (belowStep hW HB7K.out)) (HTW.out _ (belowStep hW HBK.out))).mono fun _ _ => tells_yesB)
                have HZX := Lib.hid (fun W (hW : Below (w7.alloc (.cells #[.int .i64 t.op, .int .i64 t.n, .string t.s, .slice kna knn knc, .slice kla kln klc] 25)).heap.size (w7.alloc (.cells #[.int .i64 t.op, .int .i64 t.n, .string t.s, .slice kna knn knc, .slice kla kln klc] 25)) W) => size_any _ x W _ (HXP.out _ (belowStep hW H3K.out)) (HXV.out _ (belowStep hW H3K.out)) (by have := HXB.out; omega))
                have HZT := Lib.hid (fun W (hW : Below (w7.alloc (.cells #[.int .i64 t.op, .int .i64 t.n, .string t.s, .slice kna knn knc, .slice kla kln klc] 25)).heap.size (w7.alloc (.cells #[.int .i64 t.op, .int .i64 t.n, .string t.s, .slice kna knn knc, .slice kla kln klc] 25)) W) => size_any P t W _ (HPW.out _ (belowStep hW HBK.out)) (HTW.out _ (belowStep hW HBK.out)) (by have := HBIG.out; omega))
                have HZO := Lib.hid (fun W (hW : Below (w7.alloc (.cells #[.int .i64 t.op, .int .i64 t.n, .string t.s, .slice kna knn knc, .slice kla kln klc] 25)).heap.size (w7.alloc (.cells #[.int .i64 t.op, .int .i64 t.n, .string t.s, .slice kna knn knc, .slice kla kln klc] 25)) W) => size_any P old W _ (HPW.out _ (belowStep hW HBK.out)) (HOV.out _ (belowStep hW H2K.out)) (by have := HBIG.out; have := HOB.out; omega))
                have HZY := Lib.hid (fun W (hW : Below (w7.alloc (.cells #[.int .i64 t.op, .int .i64 t.n, .string t.s, .slice kna knn knc, .slice kla kln klc] 25)).heap.size (w7.alloc (.cells #[.int .i64 t.op, .int .i64 t.n, .string t.s, .slice kna knn knc, .slice kla kln klc] 25)) W) => size_any P by' W _ (HPW.out _ (belowStep hW HBK.out)) (HYW.out _ (belowStep hW HBK.out)) (by have := HBIG.out; omega))
                have HKS := Lib.hid (fun W (hW : Below (w7.alloc (.cells #[.int .i64 t.op, .int .i64 t.n, .string t.s, .slice kna knn knc, .slice kla kln klc] 25)).heap.size (w7.alloc (.cells #[.int .i64 t.op, .int .i64 t.n, .string t.s, .slice kna knn knc, .slice kla kln klc] 25)) W) => (show _ ∧ _ ∧ _ ∧ _ ∧ _ ∧ _ ∧ _ from ⟨hW, (HS.out _ (belowStep hW HBK.out)).1, (HS.out _ (belowStep hW HBK.out)).2.2, box_cells (HKO.out _ (belowStep hW HOK.out)), box_cells (HKX.out _ (belowStep hW HXK.out)), box_cells (HKG.out _ (belowStep hW HGK.out)), box_cells (HKKW.out _ hW)⟩))
                have hsz := HXSZ.out
                have hbx := HXB.out
                have hbt := HBIG.out
                have hbo := HOB.out
                rw [yes_true (show by' = by' from rfl)] at HE1
                rw [yes_true (show t = t from rfl)] at HE2
                generalize x.size = xz at *
                generalize t.size = tz at *
                generalize old.size = oz at *
                generalize by'.size = yz at *
                have hx1 : xz ≤ 62000 := by omega
                have ht1 : tz ≤ 31000 := by omega
                have ho1 : oz ≤ 31000 := by omega
                have hy1 : yz ≤ 31000 := by omega
                have hw1 : IntKind.i64.wrap ((tz : Int) - (oz : Int)) = (tz : Int) - (oz : Int) := (by rw [IntKind.wrap_i64]; omega)
                have hw2 : IntKind.i64.wrap ((tz : Int) - (oz : Int) + (yz : Int)) = (tz : Int) - (oz : Int) + (yz : Int) := (by rw [IntKind.wrap_i64]; omega)
                have hq : (((xz : Int)) == (tz : Int) - (oz : Int) + (yz : Int)) = true := beq_iff_eq.2 (by omega)
                clear hxle htle hole hyle hsz hbx hbt hbo hx1 ht1 ho1 hy1
                go_wp2_with fail
                generalize (w7.alloc (.cells #[.int .i64 t.op, .int .i64 t.n, .string t.s, .slice kna knn knc, .slice kla kln klc] 25)) = wk at HBK HB7K HKKW HGK HXK H3K HOK H2K H6K HE1 HE2 HZX HZT HZO HZY HKS ⊢
                have HD0 := Lib.hid (Below.refl wk.heap.size wk).drew
                go_wp2
                go_region_held3 (fun W => Below wk.heap.size wk W ∧ (W.cell? ⟨w.heap.size, 0, none⟩ = some (.int .i64 t.op) ∧ W.cell? ⟨w.heap.size, 1, none⟩ = some (.int .i64 t.n) ∧ W.cell? ⟨w.heap.size, 2, none⟩ = some (.string t.s) ∧ W.cell? ⟨w.heap.size, 3, none⟩ = some (.slice na nn nc) ∧ W.cell? ⟨w.heap.size, 4, none⟩ = some (.slice la ln lc)) ∧ (W.cell? ⟨w.heap.size + 1 + 1, 0, none⟩ = some (.int .i64 by'.op) ∧ W.cell? ⟨w.heap.size + 1 + 1, 1, none⟩ = some (.int .i64 by'.n) ∧ W.cell? ⟨w.heap.size + 1 + 1, 2, none⟩ = some (.string by'.s) ∧ W.cell? ⟨w.heap.size + 1 + 1, 3, none⟩ = some (.slice ma mn mc) ∧ W.cell? ⟨w.heap.size + 1 + 1, 4, none⟩ = some (.slice ka kn kc)) ∧ (W.cell? ⟨w2.heap.size, 0, none⟩ = some (.int .i64 old.op) ∧ W.cell? ⟨w2.heap.size, 1, none⟩ = some (.int .i64 old.n) ∧ W.cell? ⟨w2.heap.size, 2, none⟩ = some (.string old.s) ∧ W.cell? ⟨w2.heap.size, 3, none⟩ = some (.slice ona onn onc) ∧ W.cell? ⟨w2.heap.size, 4, none⟩ = some (.slice ola oln olc)) ∧ (W.cell? ⟨w3.heap.size, 0, none⟩ = some (.int .i64 xo) ∧ W.cell? ⟨w3.heap.size, 1, none⟩ = some (.int .i64 xn) ∧ W.cell? ⟨w3.heap.size, 2, none⟩ = some (.string xs) ∧ W.cell? ⟨w3.heap.size, 3, none⟩ = some (.slice xna xnn xnc) ∧ W.cell? ⟨w3.heap.size, 4, none⟩ = some (.slice xla xln xlc)) ∧ (W.cell? ⟨w6.heap.size, 0, none⟩ = some (.int .i64 by'.op) ∧ W.cell? ⟨w6.heap.size, 1, none⟩ = some (.int .i64 by'.n) ∧ W.cell? ⟨w6.heap.size, 2, none⟩ = some (.string by'.s) ∧ W.cell? ⟨w6.heap.size, 3, none⟩ = some (.slice gna gnn gnc) ∧ W.cell? ⟨w6.heap.size, 4, none⟩ = some (.slice gla gln glc)) ∧ (W.cell? ⟨w7.heap.size, 0, none⟩ = some (.int .i64 t.op) ∧ W.cell? ⟨w7.heap.size, 1, none⟩ = some (.int .i64 t.n) ∧ W.cell? ⟨w7.heap.size, 2, none⟩ = some (.string t.s) ∧ W.cell? ⟨w7.heap.size, 3, none⟩ = some (.slice kna knn knc) ∧ W.cell? ⟨w7.heap.size, 4, none⟩ = some (.slice kla kln klc)))
                  (first | exact HKS.out _ HD0.out | exact HKS.out _ (by assumption))
                  (first
                  | (go_at_call 19; first | ((with_reducible refine (HE1.out _ (by first | assumption | exact HD0.out | exact And.left (by assumption))).mono ?_); rintro e wn ⟨rfl, hbn⟩; have hbn2 := belowStep (a := wk) hbn (by first | assumption | exact HD0.out | exact And.left (by assumption))) | ((with_reducible refine (HE2.out _ (by first | assumption | exact HD0.out | exact And.left (by assumption))).mono ?_); rintro e wn ⟨rfl, hbn⟩; have hbn2 := belowStep (a := wk) hbn (by first | assumption | exact HD0.out | exact And.left (by assumption))))
                  | (go_at_call 15; first | ((with_reducible refine (HZX.out _ (by first | assumption | exact HD0.out | exact And.left (by assumption))).mono ?_); rintro e wn ⟨rfl, hbn⟩; have hbn2 := belowStep (a := wk) hbn (by first | assumption | exact HD0.out | exact And.left (by assumption))) | ((with_reducible refine (HZT.out _ (by first | assumption | exact HD0.out | exact And.left (by assumption))).mono ?_); rintro e wn ⟨rfl, hbn⟩; have hbn2 := belowStep (a := wk) hbn (by first | assumption | exact HD0.out | exact And.left (by assumption))) | ((with_reducible refine (HZO.out _ (by first | assumption | exact HD0.out | exact And.left (by assumption))).mono ?_); rintro e wn ⟨rfl, hbn⟩; have hbn2 := belowStep (a := wk) hbn (by first | assumption | exact HD0.out | exact And.left (by assumption))) | ((with_reducible refine (HZY.out _ (by first | assumption | exact HD0.out | exact And.left (by assumption))).mono ?_); rintro e wn ⟨rfl, hbn⟩; have hbn2 := belowStep (a := wk) hbn (by first | assumption | exact HD0.out | exact And.left (by assumption)))))
                all_goals
                  go_wp2
                  go_ret
                  exact ⟨by first | rfl | trivial, belowStep (belowStep (by assumption) HBK.out) HB0.out⟩
      · refine wpAny_ready (rs := [6]) (by kernel_rfl) (by simp) ?_
        refine AllReady.cons rfl (fun K hK => ?_) AllReady.nil
        go_simp
        refine hK _ _ ?_
        clear hK K
        refine wpAny_ready (rs := [7]) (by kernel_rfl) (by simp) ?_
        refine AllReady.cons rfl (fun K hK => ?_) AllReady.nil
        go_simp
        refine hK _ _ ?_
        clear hK K
        refine wpAny_ready (rs := [8]) (by kernel_rfl) (by simp) ?_
        refine AllReady.cons rfl (fun K hK => ?_) AllReady.nil
        go_simp
        refine hK _ _ ?_
        clear hK K
        refine wpAny_ready (rs := [9]) (by kernel_rfl) (by simp) ?_
        refine AllReady.cons rfl (fun K hK => ?_) AllReady.nil
        go_simp
        refine hK _ _ ?_
        clear hK K
        refine wpAny_ready (rs := [10]) (by kernel_rfl) (by simp) ?_
        refine AllReady.cons rfl (fun K hK => ?_) AllReady.nil
        go_simp
        refine hK _ _ ?_
        clear hK K
        refine wpAny_ready (rs := [11]) (by kernel_rfl) (by simp) ?_
        refine AllReady.cons rfl (fun K hK => ?_) AllReady.nil
        go_simp
        refine hK _ _ ?_
        clear hK K
        refine wpAny_ready (rs := [12]) (by kernel_rfl) (by simp) ?_
        refine AllReady.cons rfl (fun K hK => ?_) AllReady.nil
        go_simp
        refine hK _ _ ?_
        clear hK K
        refine wpAny_ready (rs := [13]) (by kernel_rfl) (by simp) ?_
        refine AllReady.cons rfl (fun K hK => ?_) AllReady.nil
        go_simp
        refine hK _ _ ?_
        clear hK K
        refine wpAny_ready (rs := [14, 17]) (by kernel_rfl) (by simp) ?_
        refine AllReady.cons rfl (fun K hK => ?_) (AllReady.cons rfl (fun K hK => ?_) AllReady.nil)
        · go_simp
          refine hK _ _ ?_
          clear hK K
          refine wpAny_ready (rs := [15, 17]) (by kernel_rfl) (by simp) ?_
          refine AllReady.cons rfl (fun K hK => ?_) (AllReady.cons rfl (fun K hK => ?_) AllReady.nil)
          · go_simp
            refine hK _ _ ?_
            clear hK K
            refine wpAny_ready (rs := [16, 17]) (by kernel_rfl) (by simp) ?_
            refine AllReady.cons rfl (fun K hK => ?_) (AllReady.cons rfl (fun K hK => ?_) AllReady.nil)
            · go_simp
              refine hK _ _ ?_
              clear hK K
              refine wpAny_ready (rs := [17]) (by kernel_rfl) (by simp) ?_
              refine AllReady.cons rfl (fun K hK => ?_) AllReady.nil
              go_simp
              refine hK _ _ ?_
              clear hK K
              refine wpAny_ready (rs := [18]) (by kernel_rfl) (by simp) ?_
              refine AllReady.cons rfl (fun K hK => ?_) AllReady.nil
              go_simp
              refine hK _ _ ?_
              clear hK K
              refine wpAny_ready (rs := [19]) (by kernel_rfl) (by simp) ?_
              refine AllReady.cons rfl (fun K hK => ?_) AllReady.nil
              go_simp
              refine hK _ _ ?_
              clear hK K
              refine wpAny_ready (rs := [20]) (by kernel_rfl) (by simp) ?_
              refine AllReady.cons rfl (fun K hK => ?_) AllReady.nil
              go_simp
              refine hK _ _ ?_
              clear hK K
              refine wpAny_done (by kernel_rfl) ?_ _
              go_wp2
              go_ret
              exact ⟨by first | rfl | trivial, belowStep HBG.out HB0.out⟩
            · go_simp
              refine hK _ _ ?_
              clear hK K
              refine wpAny_ready (rs := [16]) (by kernel_rfl) (by simp) ?_
              refine AllReady.cons rfl (fun K hK => ?_) AllReady.nil
              go_simp
              refine hK _ _ ?_
              clear hK K
              refine wpAny_ready (rs := [18]) (by kernel_rfl) (by simp) ?_
              refine AllReady.cons rfl (fun K hK => ?_) AllReady.nil
              go_simp
              refine hK _ _ ?_
              clear hK K
              refine wpAny_ready (rs := [19]) (by kernel_rfl) (by simp) ?_
              refine AllReady.cons rfl (fun K hK => ?_) AllReady.nil
              go_simp
              refine hK _ _ ?_
              clear hK K
              refine wpAny_ready (rs := [20]) (by kernel_rfl) (by simp) ?_
              refine AllReady.cons rfl (fun K hK => ?_) AllReady.nil
              go_simp
              refine hK _ _ ?_
              clear hK K
              refine wpAny_done (by kernel_rfl) ?_ _
              go_wp2
              go_ret
              exact ⟨by first | rfl | trivial, belowStep HBG.out HB0.out⟩
          · go_simp
            refine hK _ _ ?_
            clear hK K
            refine wpAny_ready (rs := [15]) (by kernel_rfl) (by simp) ?_
            refine AllReady.cons rfl (fun K hK => ?_) AllReady.nil
            go_simp
            refine hK _ _ ?_
            clear hK K
            refine wpAny_ready (rs := [16]) (by kernel_rfl) (by simp) ?_
            refine AllReady.cons rfl (fun K hK => ?_) AllReady.nil
            go_simp
            refine hK _ _ ?_
            clear hK K
            refine wpAny_ready (rs := [18]) (by kernel_rfl) (by simp) ?_
            refine AllReady.cons rfl (fun K hK => ?_) AllReady.nil
            go_simp
            refine hK _ _ ?_
            clear hK K
            refine wpAny_ready (rs := [19]) (by kernel_rfl) (by simp) ?_
            refine AllReady.cons rfl (fun K hK => ?_) AllReady.nil
            go_simp
            refine hK _ _ ?_
            clear hK K
            refine wpAny_ready (rs := [20]) (by kernel_rfl) (by simp) ?_
            refine AllReady.cons rfl (fun K hK => ?_) AllReady.nil
            go_simp
            refine hK _ _ ?_
            clear hK K
            refine wpAny_done (by kernel_rfl) ?_ _
            go_wp2
            go_ret
            exact ⟨by first | rfl | trivial, belowStep HBG.out HB0.out⟩
        · go_simp
          refine hK _ _ ?_
          clear hK K
          refine wpAny_ready (rs := [14]) (by kernel_rfl) (by simp) ?_
          refine AllReady.cons rfl (fun K hK => ?_) AllReady.nil
          go_simp
          refine hK _ _ ?_
          clear hK K
          refine wpAny_ready (rs := [15]) (by kernel_rfl) (by simp) ?_
          refine AllReady.cons rfl (fun K hK => ?_) AllReady.nil
          go_simp
          refine hK _ _ ?_
          clear hK K
          refine wpAny_ready (rs := [16]) (by kernel_rfl) (by simp) ?_
          refine AllReady.cons rfl (fun K hK => ?_) AllReady.nil
          go_simp
          refine hK _ _ ?_
          clear hK K
          refine wpAny_ready (rs := [18]) (by kernel_rfl) (by simp) ?_
          refine AllReady.cons rfl (fun K hK => ?_) AllReady.nil
          go_simp
          refine hK _ _ ?_
          clear hK K
          refine wpAny_ready (rs := [19]) (by kernel_rfl) (by simp) ?_
          refine AllReady.cons rfl (fun K hK => ?_) AllReady.nil
          go_simp
          refine hK _ _ ?_
          clear hK K
          refine wpAny_ready (rs := [20]) (by kernel_rfl) (by simp) ?_
          refine AllReady.cons rfl (fun K hK => ?_) AllReady.nil
          go_simp
          refine hK _ _ ?_
          clear hK K
          refine wpAny_done (by kernel_rfl) ?_ _
          go_wp2
          go_ret
          exact ⟨by first | rfl | trivial, belowStep HBG.out HB0.out⟩
end Go.Proofs.Ytkhpihacjhhklaa
