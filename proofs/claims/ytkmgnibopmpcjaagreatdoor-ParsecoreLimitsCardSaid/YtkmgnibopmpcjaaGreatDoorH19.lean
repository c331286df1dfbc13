/-
  Walks and plain mathematics, several texts in one (Do Dp).
-/
import Derived.Test.YtkmgnibopmpcjaaGreatDoorH18
import Derived.Deep.RegionLaw
import Derived.Deep.RegionWith
/-
  Walks of layer 4: a rule.
-/
namespace Go.Proofs.YtkmgnibopmpcjaaGreatDoor
open Go Go.RowKit
set_option linter.unusedSimpArgs false
set_option maxRecDepth 100000 in
set_option maxHeartbeats 8000000 in
theorem prule_any (s : Src) (g i : Nat) (pat expr : Nat → Pl.PR Pl.Syn) (hpat : ∀ W, PAt W g s i → Calls Tryz.prog 65 #[.pointer (some ⟨g, 0, none⟩)] W (TreeOut s g (pat i) W)) (hgo : ∀ t j, pat i = .ok t j → i < j) (hexpr : ∀ W j, i < j → PAt W g s j → Calls Tryz.prog 44 #[.pointer (some ⟨g, 0, none⟩)] W (TreeOut s g (expr j) W)) (w : World) (h : PAt w g s i) :
    Calls Tryz.prog 154 #[.pointer (some ⟨g, 0, none⟩)] w (TreeOut s g ((pat i).then fun t j => (Pl.needT s.ts [61, 62] j).then fun _ k => (expr k).then fun u m => .ok (Pl.nd 30 [t, u]) m) w) := by
  have HP := Lib.hid h
  have HG := Lib.hid h.blk.lt
  have HPS := Lib.hid (fun W j (hW : PAt W g s j) => pneed_any s g j [61, 62] (by decide) W hW)
  have hmk : (Pl.mk [61, 62] : ByteArray) = ⟨#[61, 62]⟩ := rfl
  rw [hmk] at HPS
  have HPR := Lib.hid hpat
  have HTY := Lib.hid hexpr
  have HGO := Lib.hid hgo
  obtain ⟨r, hr⟩ : ∃ r, r = ((pat i).then fun t j => (Pl.needT s.ts [61, 62] j).then fun _ k => (expr k).then fun u m => (.ok (Pl.nd 30 [t, u]) m : Pl.PR Pl.Syn)) := ⟨_, rfl⟩
  rw [← hr]
  generalize pat i = rn at *
  have HR := Lib.hid hr
  have HB0 := Lib.hid (show Below w.heap.size w (w.alloc (.cells #[.int .i64 0, .int .i64 0, .string ⟨#[]⟩, .slice none 0 0, .slice none 0 0] 28)) from (Below.refl _ _).alloc (Nat.le_refl _) _)
  have HX0 := Lib.hid (blk_new w #[.int .i64 0, .int .i64 0, .string ⟨#[]⟩, .slice none 0 0, .slice none 0 0] 28)
  have HP0 := Lib.hid (HP.out.below HB0.out)
  have H0LT := Lib.hid HX0.out.lt
  clear h hr hmk hpat hexpr hgo
  go_enter Tryz.func154, Tryz.ntmps154
  go_wp2_with fail
  have hmc := HPR.out _ HP0.out
  generalize w.alloc (.cells #[.int .i64 0, .int .i64 0, .string ⟨#[]⟩, .slice none 0 0, .slice none 0 0] 28) = w0 at *
  refine hmc.mono ?_
  rintro e w2 ⟨hq, hf⟩
  have HF2 := Lib.hid ((fr_below (o := (· = g)) HB0.out).trans hf)
  have HX2 := Lib.hid (HX0.out.of_eq (hf.block HX0.out.lt (fun e => by have := HG.out; omega)))
  have HW1 := Lib.hid hf.size
  clear hmc hf
  cases rn with
  | bad j =>
    have hq' : e = faultAt s j := hq
    subst hq'
    refine ⟨rfl, ?_⟩
    unfold TreeOut
    rw [show r = .bad j from HR.out]
    exact ⟨rfl, HF2.out⟩
  | ok t j =>
    obtain ⟨v, rfl, hu, hp2⟩ := hq
    have hij := HGO.out _ _ rfl
    obtain ⟨x0, x1, x2, na, nl, nc, la, ll, lc, rfl⟩ := tree_open hu
    have HBA := Lib.hid (show Below w2.heap.size w2 (w2.alloc (.cells #[.int .i64 x0, .int .i64 x1, .string x2, .slice na nl nc, .slice la ll lc] 28)) from (Below.refl _ _).alloc (Nat.le_refl _) _)
    have HZ3 := Lib.hid (blk_new w2 #[.int .i64 x0, .int .i64 x1, .string x2, .slice na nl nc, .slice la ll lc] 28)
    have HU3 := Lib.hid (hu.keep (fun b h => HBA.out.block b h.2))
    have HP3 := Lib.hid (hp2.below HBA.out)
    have HX3 := Lib.hid (HX2.out.of_eq (HBA.out.block _ HX2.out.lt))
    have HF3 := Lib.hid (HF2.out.trans (fr_below HBA.out))
    have HR2 := Lib.hid (show r = (Pl.needT s.ts [61, 62] j).then fun _ k => (expr k).then fun u m => .ok (Pl.nd 30 [t, u]) m from HR.out)
    clear hu hp2
    go_wp2_with fail
    have hnc := HPS.out _ _ HP3.out
    have hnt := show Pl.needT s.ts [61, 62] j = if Pl.passes s.ts j [61, 62] = true then .ok () (j + 1) else .bad j from rfl
    rw [hnt] at hnc HR2
    generalize Pl.passes s.ts j [61, 62] = qb at *
    generalize w2.alloc (.cells #[.int .i64 x0, .int .i64 x1, .string x2, .slice na nl nc, .slice la ll lc] 28) = w3 at *
    refine hnc.mono ?_
    rintro e w4 ⟨hq4, hf4⟩
    have HF4 := Lib.hid (HF3.out.trans hf4)
    have HX4 := Lib.hid (HX3.out.of_eq (hf4.block HX3.out.lt (fun e => by have := HG.out; omega)))
    have HZ4 := Lib.hid (HZ3.out.of_eq (hf4.block HZ3.out.lt (fun e => by have := HG.out; have := HW1.out; have := H0LT.out; omega)))
    have HU4 := Lib.hid ((HU3.out.keep (fun b h => hf4.block (Nat.lt_trans h.2 HZ3.out.lt) (fun e => by have := HG.out; have := H0LT.out; omega))).mono (Q := fun b => w0.heap.size ≤ b ∧ b < w4.heap.size) (fun b h => ⟨h.1, Nat.lt_of_lt_of_le (Nat.lt_trans h.2 HZ3.out.lt) hf4.size⟩))
    have HW04 := Lib.hid (show w0.heap.size ≤ w4.heap.size from Nat.le_trans HW1.out (Nat.le_trans (Nat.le_of_lt HZ3.out.lt) hf4.size))
    have HW2L := Lib.hid (show w2.heap.size < w4.heap.size from HZ4.out.lt)
    clear hf4 hnc hnt
    obtain ⟨z0, z1, z2, z3, z4⟩ := five_cells HZ4.out
    cases qb
    · rw [if_neg (by decide)] at hq4 HR2
      subst hq4
      refine ⟨rfl, ?_⟩
      unfold TreeOut
      rw [HR2.out, Pl.PR.then_bad]
      exact ⟨rfl, HF4.out⟩
    · rw [if_pos (by first | rfl | trivial)] at hq4 HR2
      rw [Pl.PR.then_ok] at HR2
      obtain ⟨⟨nv, rfl⟩, hp4⟩ := hq4
      have HP4 := Lib.hid hp4
      have HR4 := Lib.hid (show r = (expr (j + 1)).then fun u m => .ok (Pl.nd 30 [t, u]) m from HR2.out)
      have HPD := Lib.hid (HP4.out.below (Below.refl w4.heap.size w4).drew)
      have HTC := Lib.hid (HTY.out _ (j + 1) (by omega) HPD.out)
      clear hp4
      go_wp2_with fail
      cases hty : expr (j + 1) with
      | bad q =>
        rw [hty] at HTC HR4
        have HR5 := Lib.hid (HR4.out.trans (Pl.PR.then_bad _ _))
        refine wp_region_any (by kernel_rfl) ?_
        change wpAny _ _ _ _ _ _ _ (World.drew _)
        refine wpAny_ready (rs := [0, 1]) (by kernel_rfl) (by simp) ?_
        refine AllReady.cons rfl (fun K hK => ?_) (AllReady.cons rfl (fun K hK => ?_) AllReady.nil)
        · go_simp
          refine hK _ _ ?_
          clear hK K
          refine wpAny_ready (rs := [1]) (by kernel_rfl) (by simp) ?_
          refine AllReady.cons rfl (fun K hK => ?_) AllReady.nil
          go_simp
          refine hK _ _ ?_
          clear hK K
          refine wpAny_ready (rs := [2]) (by kernel_rfl) (by simp) ?_
          refine AllReady.cons rfl (fun K hK => ?_) AllReady.nil
          go_simp
          go_wp2_with fail
          refine HTC.out.mono ?_
          rintro e w5 hq5
          have hq6 : e = faultAt s q ∧ Fr (· = g) (· = g) w4.drew w5 := hq5
          obtain ⟨rfl, hf5⟩ := hq6
          refine ⟨rfl, ?_⟩
          unfold TreeOut
          rw [HR5.out]
          exact ⟨rfl, HF4.out.trans ((fr_below (Below.refl w4.heap.size w4).drew).trans hf5)⟩
        · go_simp
          refine hK _ _ ?_
          clear hK K
          refine wpAny_ready (rs := [0, 2]) (by kernel_rfl) (by simp) ?_
          refine AllReady.cons rfl (fun K hK => ?_) (AllReady.cons rfl (fun K hK => ?_) AllReady.nil)
          · go_simp
            refine hK _ _ ?_
            clear hK K
            refine wpAny_ready (rs := [2]) (by kernel_rfl) (by simp) ?_
            refine AllReady.cons rfl (fun K hK => ?_) AllReady.nil
            go_simp
            go_wp2_with fail
            refine HTC.out.mono ?_
            rintro e w5 hq5
            have hq6 : e = faultAt s q ∧ Fr (· = g) (· = g) w4.drew w5 := hq5
            obtain ⟨rfl, hf5⟩ := hq6
            refine ⟨rfl, ?_⟩
            unfold TreeOut
            rw [HR5.out]
            exact ⟨rfl, HF4.out.trans ((fr_below (Below.refl w4.heap.size w4).drew).trans hf5)⟩
          · go_simp
            go_wp2_with fail
            refine HTC.out.mono ?_
            rintro e w5 hq5
            have hq6 : e = faultAt s q ∧ Fr (· = g) (· = g) w4.drew w5 := hq5
            obtain ⟨rfl, hf5⟩ := hq6
            refine ⟨rfl, ?_⟩
            unfold TreeOut
            rw [HR5.out]
            exact ⟨rfl, HF4.out.trans ((fr_below (Below.refl w4.heap.size w4).drew).trans hf5)⟩
      | ok y q =>
        rw [hty] at HTC HR4
        have HR5 := Lib.hid (HR4.out.trans (Pl.PR.then_ok _ _ _))
        refine wp_region_any (by kernel_rfl) ?_
        change wpAny _ _ _ _ _ _ _ (World.drew _)
        refine wpAny_ready (rs := [0, 1]) (by kernel_rfl) (by simp) ?_
        refine AllReady.cons rfl (fun K hK => ?_) (AllReady.cons rfl (fun K hK => ?_) AllReady.nil)
        · go_simp
          refine hK _ _ ?_
          clear hK K
          refine wpAny_ready (rs := [1]) (by kernel_rfl) (by simp) ?_
          refine AllReady.cons rfl (fun K hK => ?_) AllReady.nil
          go_simp
          refine hK _ _ ?_
          clear hK K
          refine wpAny_ready (rs := [2]) (by kernel_rfl) (by simp) ?_
          refine AllReady.cons rfl (fun K hK => ?_) AllReady.nil
          go_simp
          go_wp2_with fail
          refine HTC.out.mono ?_
          rintro e w5 hq5
          have hq6 : (∃ v, e = .returned v ∧ SynV w5 (fun b => w4.drew.heap.size ≤ b ∧ b < w5.heap.size) y v ∧ PAt w5 g s q) ∧ Fr (· = g) (· = g) w4.drew w5 := hq5
          obtain ⟨⟨v, rfl, hu5, hp5⟩, hf5⟩ := hq6
          obtain ⟨y0, y1, y2, ma, ml, mc, ka, kl, kc, rfl⟩ := tree_open hu5
          have hd : w4.drew.heap.size = w4.heap.size := rfl
          have HF5 := Lib.hid (HF4.out.trans ((fr_below (Below.refl w4.heap.size w4).drew).trans hf5))
          have hs5 : w4.heap.size ≤ w5.heap.size := hf5.size
          have HX5 := Lib.hid (HX4.out.of_eq (hf5.block HX4.out.lt (fun e => by have := HG.out; omega)))
          have HZ5 := Lib.hid (HZ4.out.of_eq (hf5.block HZ4.out.lt (fun e => by have := HG.out; have := HW1.out; have := H0LT.out; have := HW2L.out; omega)))
          obtain ⟨r0, r1, r2, r3, r4⟩ := five_cells HZ5.out
          have hsm : Same (fun b => w0.heap.size ≤ b ∧ b < w4.heap.size) w4 w5 := fun b h => hf5.block (show b < w4.drew.heap.size from h.2) (fun e => by have := h.1; have := HG.out; have := H0LT.out; omega)
          have hxt := (HU4.out.keep hsm).mono (Q := fun b => w0.heap.size ≤ b ∧ b < w5.heap.size) (fun b h => ⟨h.1, Nat.lt_of_lt_of_le h.2 hs5⟩)
          have hyt := hu5.mono (Q := fun b => w0.heap.size ≤ b ∧ b < w5.heap.size) (fun b h => ⟨by have := HW04.out; omega, h.2⟩)
          have HBT := Lib.hid (show Below w5.heap.size w5 (w5.alloc (.cells #[.int .i64 x0, .int .i64 x1, .string x2, .slice na nl nc, .slice la ll lc, .int .i64 y0, .int .i64 y1, .string y2, .slice ma ml mc, .slice ka kl kc] 28)) from (Below.refl _ _).alloc (Nat.le_refl _) _)
          have HU := Lib.hid (synV_make (op := 30) (n := 0) (tx := ByteArray.empty) (ns := []) (Nat.zero_le _) (strs_none _ _) (trees_two (B := w0.heap.size) (by have := HW04.out; omega) hxt hyt))
          have HP6 := Lib.hid (hp5.below HBT.out)
          have HX6 := Lib.hid (HX5.out.of_eq (HBT.out.block _ HX5.out.lt))
          have HF6 := Lib.hid (HF5.out.trans (fr_below HBT.out))
          obtain ⟨c0, c1, c2, c3, c4⟩ := five_cells HX6.out
          have f0 := HX6.out.thaw 0
          have f1 := HX6.out.thaw 1
          have f2 := HX6.out.thaw 2
          have f3 := HX6.out.thaw 3
          have f4 := HX6.out.thaw 4
          clear hq5 hu5 hp5 hf5 hxt hyt
          refine hK _ _ ?_
          clear hK K
          refine wpAny_ready (rs := [3]) (by kernel_rfl) (by simp) ?_
          refine AllReady.cons rfl (fun K hK => ?_) AllReady.nil
          go_simp
          refine hK _ _ ?_
          clear hK K
          refine wpAny_ready (rs := [4]) (by kernel_rfl) (by simp) ?_
          refine AllReady.cons rfl (fun K hK => ?_) AllReady.nil
          go_simp
          refine hK _ _ ?_
          clear hK K
          refine wpAny_ready (rs := [5]) (by kernel_rfl) (by simp) ?_
          refine AllReady.cons rfl (fun K hK => ?_) AllReady.nil
          go_simp
          refine hK _ _ ?_
          clear hK K
          refine wpAny_done (by kernel_rfl) ?_ _
          go_wp2_with fail
          have HEN := putFive_blk HX6.out (.int .i64 30) (.int .i64 0) (.string ⟨#[]⟩) (.slice none 0 0) (.slice (some ⟨w5.heap.size, 0, none⟩) 2 2)
          have HFI := tree_fin HG.out HF6.out HU.out H0LT.out HP6.out (.int .i64 30) (.int .i64 0) (.string ⟨#[]⟩) (.slice none 0 0) (.slice (some ⟨w5.heap.size, 0, none⟩) 2 2)
          unfold putFive at HEN HFI
          obtain ⟨k0, k1, k2, k3, k4⟩ := five_cells HEN
          refine bodyPost_ret (v := .agg #[.int .i64 30, .int .i64 0, .string ⟨#[]⟩, .slice none 0 0, .slice (some ⟨w5.heap.size, 0, none⟩) 2 2]) (by simp [results, Tryz.results154, go_sem, k0, k1, k2, k3, k4]) rfl ?_
          unfold TreeOut
          rw [HR5.out]
          exact HFI
        · go_simp
          refine hK _ _ ?_
          clear hK K
          refine wpAny_ready (rs := [0, 2]) (by kernel_rfl) (by simp) ?_
          refine AllReady.cons rfl (fun K hK => ?_) (AllReady.cons rfl (fun K hK => ?_) AllReady.nil)
          · go_simp
            refine hK _ _ ?_
            clear hK K
            refine wpAny_ready (rs := [2]) (by kernel_rfl) (by simp) ?_
            refine AllReady.cons rfl (fun K hK => ?_) AllReady.nil
            go_simp
            go_wp2_with fail
            refine HTC.out.mono ?_
            rintro e w5 hq5
            have hq6 : (∃ v, e = .returned v ∧ SynV w5 (fun b => w4.drew.heap.size ≤ b ∧ b < w5.heap.size) y v ∧ PAt w5 g s q) ∧ Fr (· = g) (· = g) w4.drew w5 := hq5
            obtain ⟨⟨v, rfl, hu5, hp5⟩, hf5⟩ := hq6
            obtain ⟨y0, y1, y2, ma, ml, mc, ka, kl, kc, rfl⟩ := tree_open hu5
            have hd : w4.drew.heap.size = w4.heap.size := rfl
            have HF5 := Lib.hid (HF4.out.trans ((fr_below (Below.refl w4.heap.size w4).drew).trans hf5))
            have hs5 : w4.heap.size ≤ w5.heap.size := hf5.size
            have HX5 := Lib.hid (HX4.out.of_eq (hf5.block HX4.out.lt (fun e => by have := HG.out; omega)))
            have HZ5 := Lib.hid (HZ4.out.of_eq (hf5.block HZ4.out.lt (fun e => by have := HG.out; have := HW1.out; have := H0LT.out; have := HW2L.out; omega)))
            obtain ⟨r0, r1, r2, r3, r4⟩ := five_cells HZ5.out
            have hsm : Same (fun b => w0.heap.size ≤ b ∧ b < w4.heap.size) w4 w5 := fun b h => hf5.block (show b < w4.drew.heap.size from h.2) (fun e => by have := h.1; have := HG.out; have := H0LT.out; omega)
            have hxt := (HU4.out.keep hsm).mono (Q := fun b => w0.heap.size ≤ b ∧ b < w5.heap.size) (fun b h => ⟨h.1, Nat.lt_of_lt_of_le h.2 hs5⟩)
            have hyt := hu5.mono (Q := fun b => w0.heap.size ≤ b ∧ b < w5.heap.size) (fun b h => ⟨by have := HW04.out; omega, h.2⟩)
            have HBT := Lib.hid (show Below w5.heap.size w5 (w5.alloc (.cells #[.int .i64 x0, .int .i64 x1, .string x2, .slice na nl nc, .slice la ll lc, .int .i64 y0, .int .i64 y1, .string y2, .slice ma ml mc, .slice ka kl kc] 28)) from (Below.refl _ _).alloc (Nat.le_refl _) _)
            have HU := Lib.hid (synV_make (op := 30) (n := 0) (tx := ByteArray.empty) (ns := []) (Nat.zero_le _) (strs_none _ _) (trees_two (B := w0.heap.size) (by have := HW04.out; omega) hxt hyt))
            have HP6 := Lib.hid (hp5.below HBT.out)
            have HX6 := Lib.hid (HX5.out.of_eq (HBT.out.block _ HX5.out.lt))
            have HF6 := Lib.hid (HF5.out.trans (fr_below HBT.out))
            obtain ⟨c0, c1, c2, c3, c4⟩ := five_cells HX6.out
            have f0 := HX6.out.thaw 0
            have f1 := HX6.out.thaw 1
            have f2 := HX6.out.thaw 2
            have f3 := HX6.out.thaw 3
            have f4 := HX6.out.thaw 4
            clear hq5 hu5 hp5 hf5 hxt hyt
            refine hK _ _ ?_
            clear hK K
            refine wpAny_ready (rs := [3]) (by kernel_rfl) (by simp) ?_
            refine AllReady.cons rfl (fun K hK => ?_) AllReady.nil
            go_simp
            refine hK _ _ ?_
            clear hK K
            refine wpAny_ready (rs := [4]) (by kernel_rfl) (by simp) ?_
            refine AllReady.cons rfl (fun K hK => ?_) AllReady.nil
            go_simp
            refine hK _ _ ?_
            clear hK K
            refine wpAny_ready (rs := [5]) (by kernel_rfl) (by simp) ?_
            refine AllReady.cons rfl (fun K hK => ?_) AllReady.nil
            go_simp
            refine hK _ _ ?_
            clear hK K
            refine wpAny_done (by kernel_rfl) ?_ _
            go_wp2_with fail
            have HEN := putFive_blk HX6.out (.int .i64 30) (.int .i64 0) (.string ⟨#[]⟩) (.slice none 0 0) (.slice (some ⟨w5.heap.size, 0, none⟩) 2 2)
            have HFI := tree_fin HG.out HF6.out HU.out H0LT.out HP6.out (.int .i64 30) (.int .i64 0) (.string ⟨#[]⟩) (.slice none 0 0) (.slice (some ⟨w5.heap.size, 0, none⟩) 2 2)
            unfold putFive at HEN HFI
            obtain ⟨k0, k1, k2, k3, k4⟩ := five_cells HEN
            refine bodyPost_ret (v := .agg #[.int .i64 30, .int .i64 0, .string ⟨#[]⟩, .slice none 0 0, .slice (some ⟨w5.heap.size, 0, none⟩) 2 2]) (by simp [results, Tryz.results154, go_sem, k0, k1, k2, k3, k4]) rfl ?_
            unfold TreeOut
            rw [HR5.out]
            exact HFI
          · go_simp
            go_wp2_with fail
            refine HTC.out.mono ?_
            rintro e w5 hq5
            have hq6 : (∃ v, e = .returned v ∧ SynV w5 (fun b => w4.drew.heap.size ≤ b ∧ b < w5.heap.size) y v ∧ PAt w5 g s q) ∧ Fr (· = g) (· = g) w4.drew w5 := hq5
            obtain ⟨⟨v, rfl, hu5, hp5⟩, hf5⟩ := hq6
            obtain ⟨y0, y1, y2, ma, ml, mc, ka, kl, kc, rfl⟩ := tree_open hu5
            have hd : w4.drew.heap.size = w4.heap.size := rfl
            have HF5 := Lib.hid (HF4.out.trans ((fr_below (Below.refl w4.heap.size w4).drew).trans hf5))
            have hs5 : w4.heap.size ≤ w5.heap.size := hf5.size
            have HX5 := Lib.hid (HX4.out.of_eq (hf5.block HX4.out.lt (fun e => by have := HG.out; omega)))
            have HZ5 := Lib.hid (HZ4.out.of_eq (hf5.block HZ4.out.lt (fun e => by have := HG.out; have := HW1.out; have := H0LT.out; have := HW2L.out; omega)))
            obtain ⟨r0, r1, r2, r3, r4⟩ := five_cells HZ5.out
            have hsm : Same (fun b => w0.heap.size ≤ b ∧ b < w4.heap.size) w4 w5 := fun b h => hf5.block (show b < w4.drew.heap.size from h.2) (fun e => by have := h.1; have := HG.out; have := H0LT.out; omega)
            have hxt := (HU4.out.keep hsm).mono (Q := fun b => w0.heap.size ≤ b ∧ b < w5.heap.size) (fun b h => ⟨h.1, Nat.lt_of_lt_of_le h.2 hs5⟩)
            have hyt := hu5.mono (Q := fun b => w0.heap.size ≤ b ∧ b < w5.heap.size) (fun b h => ⟨by have := HW04.out; omega, h.2⟩)
            have HBT := Lib.hid (show Below w5.heap.size w5 (w5.alloc (.cells #[.int .i64 x0, .int .i64 x1, .string x2, .slice na nl nc, .slice la ll lc, .int .i64 y0, .int .i64 y1, .string y2, .slice ma ml mc, .slice ka kl kc] 28)) from (Below.refl _ _).alloc (Nat.le_refl _) _)
            have HU := Lib.hid (synV_make (op := 30) (n := 0) (tx := ByteArray.empty) (ns := []) (Nat.zero_le _) (strs_none _ _) (trees_two (B := w0.heap.size) (by have := HW04.out; omega) hxt hyt))
            have HP6 := Lib.hid (hp5.below HBT.out)
            have HX6 := Lib.hid (HX5.out.of_eq (HBT.out.block _ HX5.out.lt))
            have HF6 := Lib.hid (HF5.out.trans (fr_below HBT.out))
            obtain ⟨c0, c1, c2, c3, c4⟩ := five_cells HX6.out
            have f0 := HX6.out.thaw 0
            have f1 := HX6.out.thaw 1
            have f2 := HX6.out.thaw 2
            have f3 := HX6.out.thaw 3
            have f4 := HX6.out.thaw 4
            clear hq5 hu5 hp5 hf5 hxt hyt
            refine hK _ _ ?_
            clear hK K
            refine wpAny_ready (rs := [0]) (by kernel_rfl) (by simp) ?_
            refine AllReady.cons rfl (fun K hK => ?_) AllReady.nil
            go_simp
            refine hK _ _ ?_
            clear hK K
            refine wpAny_ready (rs := [3]) (by kernel_rfl) (by simp) ?_
            refine AllReady.cons rfl (fun K hK => ?_) AllReady.nil
            go_simp
            refine hK _ _ ?_
            clear hK K
            refine wpAny_ready (rs := [4]) (by kernel_rfl) (by simp) ?_
            refine AllReady.cons rfl (fun K hK => ?_) AllReady.nil
            go_simp
            refine hK _ _ ?_
            clear hK K
            refine wpAny_ready (rs := [5]) (by kernel_rfl) (by simp) ?_
            refine AllReady.cons rfl (fun K hK => ?_) AllReady.nil
            go_simp
            refine hK _ _ ?_
            clear hK K
            refine wpAny_done (by kernel_rfl) ?_ _
            go_wp2_with fail
            have HEN := putFive_blk HX6.out (.int .i64 30) (.int .i64 0) (.string ⟨#[]⟩) (.slice none 0 0) (.slice (some ⟨w5.heap.size, 0, none⟩) 2 2)
            have HFI := tree_fin HG.out HF6.out HU.out H0LT.out HP6.out (.int .i64 30) (.int .i64 0) (.string ⟨#[]⟩) (.slice none 0 0) (.slice (some ⟨w5.heap.size, 0, none⟩) 2 2)
            unfold putFive at HEN HFI
            obtain ⟨k0, k1, k2, k3, k4⟩ := five_cells HEN
            refine bodyPost_ret (v := .agg #[.int .i64 30, .int .i64 0, .string ⟨#[]⟩, .slice none 0 0, .slice (some ⟨w5.heap.size, 0, none⟩) 2 2]) (by simp [results, Tryz.results154, go_sem, k0, k1, k2, k3, k4]) rfl ?_
            unfold TreeOut
            rw [HR5.out]
            exact HFI
end Go.Proofs.YtkmgnibopmpcjaaGreatDoor

/-
  Walks of layer 4: the end.
-/
namespace Go.Proofs.YtkmgnibopmpcjaaGreatDoor
open Go Go.RowKit
set_option linter.unusedSimpArgs false
set_option maxRecDepth 100000 in
set_option maxHeartbeats 4000000 in
theorem pend_any (s : Src) (g i : Nat) (w : World) (h : PAt w g s i) : Calls Tryz.prog 117 #[.pointer (some ⟨g, 0, none⟩)] w (NeedOut s g (if (Pl.tkAt s.ts i).kind = 8 then .ok () i else .bad i) w) := by
  have HP := Lib.hid h
  have HT := Lib.hid (ptoken_any s g i w h)
  unfold TokenOut at HT
  have HRF := Lib.hid (fun W (hW : PAt W g s i) => prefuse_any s g i W hW)
  obtain ⟨b8, h8⟩ : ∃ b, ((Pl.tkAt s.ts i).kind == 8) = b := ⟨_, rfl⟩
  obtain ⟨r, hr⟩ : ∃ r, r = (if (Pl.tkAt s.ts i).kind = 8 then (.ok () i : Pl.PR Unit) else .bad i) := ⟨_, rfl⟩
  rw [← hr]
  have HE := Lib.hid (show r = if b8 = true then .ok () i else .bad i from by rw [hr, ← h8]; simp only [beq_iff_eq])
  generalize (Pl.tkAt s.ts i).kind = tk at *
  generalize Pl.mk (Pl.tkAt s.ts i).text = tt at *
  clear h hr
  go_enter Tryz.func117, Tryz.ntmps117
  go_wp2_with fail
  refine HT.out.mono ?_
  rintro e w1 ⟨⟨li, co, rfl⟩, hb1⟩
  have HB1 := Lib.hid hb1
  have HP1 := Lib.hid (HP.out.below hb1)
  have hfl : ∀ W, Sem.run Tryz.prog (Instr.field 41 (.agg #[.int .i64 tk, .string tt, .int .i64 li, .int .i64 co]) 0) W = .ok (.int .i64 tk) W := fun _ => rfl
  clear hb1
  cases b8
  · have q : (tk == 8) = false := h8
    go_wp2_with fail
    refine (HRF.out _ HP1.out).mono ?_
    rintro e w2 ⟨rfl, hb2⟩
    refine ⟨rfl, ?_⟩
    unfold NeedOut
    rw [HE.out, if_neg (by decide)]
    exact ⟨rfl, (fr_below HB1.out).trans (fr_below hb2)⟩
  · have q : (tk == 8) = true := h8
    go_wp2
    refine bodyPost_ret (v := .tuple #[]) (by simp [results, Tryz.results117, go_sem]) rfl ?_
    unfold NeedOut
    rw [HE.out, if_pos (by first | rfl | trivial)]
    exact ⟨⟨⟨_, rfl⟩, HP1.out⟩, fr_below HB1.out⟩
end Go.Proofs.YtkmgnibopmpcjaaGreatDoor
