/-
  Walks and plain mathematics, several texts in one (Do Dp Ea).
-/
import Derived.Test.YtjedahcpkcgpeaaGreatDoorH12
import Derived.Deep.RegionLaw
import Derived.Deep.RegionWith
/-
  Walks of layer 4: a rule.
-/
namespace Go.Proofs.YtjedahcpkcgpeaaGreatDoor
open Go Go.RowKit
set_option linter.unusedSimpArgs false
set_option maxRecDepth 100000 in
set_option maxHeartbeats 8000000 in
theorem prule_any (s : Src) (g i : Nat) (pat expr : Nat → Pl.PR Pl.Syn) (hpat : ∀ W, PAt W g s i → Calls Tryz.prog 40 #[.pointer (some ⟨g, 0, none⟩)] W (TreeOut s g (pat i) W)) (hgo : ∀ t j, pat i = .ok t j → i < j) (hexpr : ∀ W j, i < j → PAt W g s j → Calls Tryz.prog 38 #[.pointer (some ⟨g, 0, none⟩)] W (TreeOut s g (expr j) W)) (w : World) (h : PAt w g s i) :
    Calls Tryz.prog 164 #[.pointer (some ⟨g, 0, none⟩)] w (TreeOut s g ((pat i).then fun t j => (Pl.needT s.ts [61, 62] j).then fun _ k => (expr k).then fun u m => .ok (Pl.nd 30 [t, u]) m) w) := by
  have HP := Lib.hid h
  have HG := Lib.hid h.blk.lt
  have HPS := Lib.hid (fun W j (hW : PAt W g s j) => pneed_any s g j [61, 62] (by decide) W hW)
  have hmk : (Pl.mk [61, 62] : ByteArray) = ⟨#[61, 62]⟩ := rfl
  rw [hmk] at HPS
  have HPR := Lib.hid hpat
  have HTY := Lib.hid hexpr
  have HGO := Lib.hid hgo
  obtain ⟨r, hr⟩ : ∃ r, r = ((pat i).then fun t j => (Pl.needT s.ts [61, 62] j).then fun _ k => (expr k).then fun u m => (.ok (Pl.nd 30 [t, u]) m : Pl.PR Pl.Syn)) := ⟨_, rfl⟩
  rw [← hr]
  generalize pat i = rn at *
  have HR := Lib.hid hr
  have HB0 := Lib.hid (show Below w.heap.size w (w.alloc (.cells #[.int .i64 0, .int .i64 0, .string ⟨#[]⟩, .slice none 0 0, .slice none 0 0] 27)) from (Below.refl _ _).alloc (Nat.le_refl _) _)
  have HX0 := Lib.hid (blk_new w #[.int .i64 0, .int .i64 0, .string ⟨#[]⟩, .slice none 0 0, .slice none 0 0] 27)
  have HP0 := Lib.hid (HP.out.below HB0.out)
  have H0LT := Lib.hid HX0.out.lt
  clear h hr hmk hpat hexpr hgo
  go_enter Tryz.func164, Tryz.ntmps164
  go_wp2_with fail
  have hmc := HPR.out _ HP0.out
  generalize w.alloc (.cells #[.int .i64 0, .int .i64 0, .string ⟨#[]⟩, .slice none 0 0, .slice none 0 0] 27) = w0 at *
  refine hmc.mono ?_
  rintro e w2 ⟨hq, hf⟩
  have HF2 := Lib.hid ((fr_below (o := (· = g)) HB0.out).trans hf)
  have HX2 := Lib.hid (HX0.out.of_eq (hf.block HX0.out.lt (fun e => by have := HG.out; omega)))
  have HW1 := Lib.hid hf.size
  clear hmc hf
  cases rn with
  | bad j =>
    have hq' : e = faultAt s j := hq
    subst hq'
    refine ⟨rfl, ?_⟩
    unfold TreeOut
    rw [show r = .bad j from HR.out]
    exact ⟨rfl, HF2.out⟩
  | ok t j =>
    obtain ⟨v, rfl, hu, hp2⟩ := hq
    have hij := HGO.out _ _ rfl
    obtain ⟨x0, x1, x2, na, nl, nc, la, ll, lc, rfl⟩ := tree_open hu
    have HBA := Lib.hid (show Below w2.heap.size w2 (w2.alloc (.cells #[.int .i64 x0, .int .i64 x1, .string x2, .slice na nl nc, .slice la ll lc] 27)) from (Below.refl _ _).alloc (Nat.le_refl _) _)
    have HZ3 := Lib.hid (blk_new w2 #[.int .i64 x0, .int .i64 x1, .string x2, .slice na nl nc, .slice la ll lc] 27)
    have HU3 := Lib.hid (hu.keep (fun b h => HBA.out.block b h.2))
    have HP3 := Lib.hid (hp2.below HBA.out)
    have HX3 := Lib.hid (HX2.out.of_eq (HBA.out.block _ HX2.out.lt))
    have HF3 := Lib.hid (HF2.out.trans (fr_below HBA.out))
    have HR2 := Lib.hid (show r = (Pl.needT s.ts [61, 62] j).then fun _ k => (expr k).then fun u m => .ok (Pl.nd 30 [t, u]) m from HR.out)
    clear hu hp2
    go_wp2_with fail
    have hnc := HPS.out _ _ HP3.out
    have hnt := show Pl.needT s.ts [61, 62] j = if Pl.passes s.ts j [61, 62] = true then .ok () (j + 1) else .bad j from rfl
    rw [hnt] at hnc HR2
    generalize Pl.passes s.ts j [61, 62] = qb at *
    generalize w2.alloc (.cells #[.int .i64 x0, .int .i64 x1, .string x2, .slice na nl nc, .slice la ll lc] 27) = w3 at *
    refine hnc.mono ?_
    rintro e w4 ⟨hq4, hf4⟩
    have HF4 := Lib.hid (HF3.out.trans hf4)
    have HX4 := Lib.hid (HX3.out.of_eq (hf4.block HX3.out.lt (fun e => by have := HG.out; omega)))
    have HZ4 := Lib.hid (HZ3.out.of_eq (hf4.block HZ3.out.lt (fun e => by have := HG.out; have := HW1.out; have := H0LT.out; omega)))
    have HU4 := Lib.hid ((HU3.out.keep (fun b h => hf4.block (Nat.lt_trans h.2 HZ3.out.lt) (fun e => by have := HG.out; have := H0LT.out; omega))).mono (Q := fun b => w0.heap.size ≤ b ∧ b < w4.heap.size) (fun b h => ⟨h.1, Nat.lt_of_lt_of_le (Nat.lt_trans h.2 HZ3.out.lt) hf4.size⟩))
    have HW04 := Lib.hid (show w0.heap.size ≤ w4.heap.size from Nat.le_trans HW1.out (Nat.le_trans (Nat.le_of_lt HZ3.out.lt) hf4.size))
    have HW2L := Lib.hid (show w2.heap.size < w4.heap.size from HZ4.out.lt)
    clear hf4 hnc hnt
    obtain ⟨z0, z1, z2, z3, z4⟩ := five_cells HZ4.out
    cases qb
    · rw [if_neg (by decide)] at hq4 HR2
      subst hq4
      refine ⟨rfl, ?_⟩
      unfold TreeOut
      rw [HR2.out, Pl.PR.then_bad]
      exact ⟨rfl, HF4.out⟩
    · rw [if_pos (by first | rfl | trivial)] at hq4 HR2
      rw [Pl.PR.then_ok] at HR2
      obtain ⟨⟨nv, rfl⟩, hp4⟩ := hq4
      have HP4 := Lib.hid hp4
      have HR4 := Lib.hid (show r = (expr (j + 1)).then fun u m => .ok (Pl.nd 30 [t, u]) m from HR2.out)
      have HPD := Lib.hid (HP4.out.below (Below.refl w4.heap.size w4).drew)
      have HTC := Lib.hid (HTY.out _ (j + 1) (by omega) HPD.out)
      clear hp4
      go_wp2_with fail
      cases hty : expr (j + 1) with
      | bad q =>
        rw [hty] at HTC HR4
        have HR5 := Lib.hid (HR4.out.trans (Pl.PR.then_bad _ _))
        refine wp_region_any (by kernel_rfl) ?_
        change wpAny _ _ _ _ _ _ _ (World.drew _)
        refine wpAny_ready (rs := [0, 1]) (by kernel_rfl) (by simp) ?_
        refine AllReady.cons rfl (fun K hK => ?_) (AllReady.cons rfl (fun K hK => ?_) AllReady.nil)
        · go_simp
          refine hK _ _ ?_
          clear hK K
          refine wpAny_ready (rs := [1]) (by kernel_rfl) (by simp) ?_
          refine AllReady.cons rfl (fun K hK => ?_) AllReady.nil
          go_simp
          refine hK _ _ ?_
          clear hK K
          refine wpAny_ready (rs := [2]) (by kernel_rfl) (by simp) ?_
          refine AllReady.cons rfl (fun K hK => ?_) AllReady.nil
          go_simp
          go_wp2_with fail
          refine HTC.out.mono ?_
          rintro e w5 hq5
          have hq6 : e = faultAt s q ∧ Fr (· = g) (· = g) w4.drew w5 := hq5
          obtain ⟨rfl, hf5⟩ := hq6
          refine ⟨rfl, ?_⟩
          unfold TreeOut
          rw [HR5.out]
          exact ⟨rfl, HF4.out.trans ((fr_below (Below.refl w4.heap.size w4).drew).trans hf5)⟩
        · go_simp
          refine hK _ _ ?_
          clear hK K
          refine wpAny_ready (rs := [0, 2]) (by kernel_rfl) (by simp) ?_
          refine AllReady.cons rfl (fun K hK => ?_) (AllReady.cons rfl (fun K hK => ?_) AllReady.nil)
          · go_simp
            refine hK _ _ ?_
            clear hK K
            refine wpAny_ready (rs := [2]) (by kernel_rfl) (by simp) ?_
            refine AllReady.cons rfl (fun K hK => ?_) AllReady.nil
            go_simp
            go_wp2_with fail
            refine HTC.out.mono ?_
            rintro e w5 hq5
            have hq6 : e = faultAt s q ∧ Fr (· = g) (· = g) w4.drew w5 := hq5
            obtain ⟨rfl, hf5⟩ := hq6
            refine ⟨rfl, ?_⟩
            unfold TreeOut
            rw [HR5.out]
            exact ⟨rfl, HF4.out.trans ((fr_below (Below.refl w4.heap.size w4).drew).trans hf5)⟩
          · go_simp
            go_wp2_with fail
            refine HTC.out.mono ?_
            rintro e w5 hq5
            have hq6 : e = faultAt s q ∧ Fr (· = g) (· = g) w4.drew w5 := hq5
            obtain ⟨rfl, hf5⟩ := hq6
            refine ⟨rfl, ?_⟩
            unfold TreeOut
            rw [HR5.out]
            exact ⟨rfl, HF4.out.trans ((fr_below (Below.refl w4.heap.size w4).drew).trans hf5)⟩
      | ok y q =>
        rw [hty] at HTC HR4
        have HR5 := Lib.hid (HR4.out.trans (Pl.PR.then_ok _ _ _))
        refine wp_region_any (by kernel_rfl) ?_
        change wpAny _ _ _ _ _ _ _ (World.drew _)
        refine wpAny_ready (rs := [0, 1]) (by kernel_rfl) (by simp) ?_
        refine AllReady.cons rfl (fun K hK => ?_) (AllReady.cons rfl (fun K hK => ?_) AllReady.nil)
        · go_simp
          refine hK _ _ ?_
          clear hK K
          refine wpAny_ready (rs := [1]) (by kernel_rfl) (by simp) ?_
          refine AllReady.cons rfl (fun K hK => ?_) AllReady.nil
          go_simp
          refine hK _ _ ?_
          clear hK K
          refine wpAny_ready (rs := [2]) (by kernel_rfl) (by simp) ?_
          refine AllReady.cons rfl (fun K hK => ?_) AllReady.nil
          go_simp
          go_wp2_with fail
          refine HTC.out.mono ?_
          rintro e w5 hq5
          have hq6 : (∃ v, e = .returned v ∧ SynV w5 (fun b => w4.drew.heap.size ≤ b ∧ b < w5.heap.size) y v ∧ PAt w5 g s q) ∧ Fr (· = g) (· = g) w4.drew w5 := hq5
          obtain ⟨⟨v, rfl, hu5, hp5⟩, hf5⟩ := hq6
          obtain ⟨y0, y1, y2, ma, ml, mc, ka, kl, kc, rfl⟩ := tree_open hu5
          have hd : w4.drew.heap.size = w4.heap.size := rfl
          have HF5 := Lib.hid (HF4.out.trans ((fr_below (Below.refl w4.heap.size w4).drew).trans hf5))
          have hs5 : w4.heap.size ≤ w5.heap.size := hf5.size
          have HX5 := Lib.hid (HX4.out.of_eq (hf5.block HX4.out.lt (fun e => by have := HG.out; omega)))
          have HZ5 := Lib.hid (HZ4.out.of_eq (hf5.block HZ4.out.lt (fun e => by have := HG.out; have := HW1.out; have := H0LT.out; have := HW2L.out; omega)))
          obtain ⟨r0, r1, r2, r3, r4⟩ := five_cells HZ5.out
          have hsm : Same (fun b => w0.heap.size ≤ b ∧ b < w4.heap.size) w4 w5 := fun b h => hf5.block (show b < w4.drew.heap.size from h.2) (fun e => by have := h.1; have := HG.out; have := H0LT.out; omega)
          have hxt := (HU4.out.keep hsm).mono (Q := fun b => w0.heap.size ≤ b ∧ b < w5.heap.size) (fun b h => ⟨h.1, Nat.lt_of_lt_of_le h.2 hs5⟩)
          have hyt := hu5.mono (Q := fun b => w0.heap.size ≤ b ∧ b < w5.heap.size) (fun b h => ⟨by have := HW04.out; omega, h.2⟩)
          have HBT := Lib.hid (show Below w5.heap.size w5 (w5.alloc (.cells #[.int .i64 x0, .int .i64 x1, .string x2, .slice na nl nc, .slice la ll lc, .int .i64 y0, .int .i64 y1, .string y2, .slice ma ml mc, .slice ka kl kc] 27)) from (Below.refl _ _).alloc (Nat.le_refl _) _)
          have HU := Lib.hid (synV_make (op := 30) (n := 0) (tx := ByteArray.empty) (ns := []) (Nat.zero_le _) (strs_none _ _) (trees_two (B := w0.heap.size) (by have := HW04.out; omega) hxt hyt))
          have HP6 := Lib.hid (hp5.below HBT.out)
          have HX6 := Lib.hid (HX5.out.of_eq (HBT.out.block _ HX5.out.lt))
          have HF6 := Lib.hid (HF5.out.trans (fr_below HBT.out))
          obtain ⟨c0, c1, c2, c3, c4⟩ := five_cells HX6.out
          have f0 := HX6.out.thaw 0
          have f1 := HX6.out.thaw 1
          have f2 := HX6.out.thaw 2
          have f3 := HX6.out.thaw 3
          have f4 := HX6.out.thaw 4
          clear hq5 hu5 hp5 hf5 hxt hyt
          refine hK _ _ ?_
          clear hK K
          refine wpAny_ready (rs := [3]) (by kernel_rfl) (by simp) ?_
          refine AllReady.cons rfl (fun K hK => ?_) AllReady.nil
          go_simp
          refine hK _ _ ?_
          clear hK K
          refine wpAny_ready (rs := [4]) (by kernel_rfl) (by simp) ?_
          refine AllReady.cons rfl (fun K hK => ?_) AllReady.nil
          go_simp
          refine hK _ _ ?_
          clear hK K
          refine wpAny_ready (rs := [5]) (by kernel_rfl) (by simp) ?_
          refine AllReady.cons rfl (fun K hK => ?_) AllReady.nil
          go_simp
          refine hK _ _ ?_
          clear hK K
          refine wpAny_done (by kernel_rfl) ?_ _
          go_wp2_with fail
          have HEN := putFive_blk HX6.out (.int .i64 30) (.int .i64 0) (.string ⟨#[]⟩) (.slice none 0 0) (.slice (some ⟨w5.heap.size, 0, none⟩) 2 2)
          have HFI := tree_fin HG.out HF6.out HU.out H0LT.out HP6.out (.int .i64 30) (.int .i64 0) (.string ⟨#[]⟩) (.slice none 0 0) (.slice (some ⟨w5.heap.size, 0, none⟩) 2 2)
          unfold putFive at HEN HFI
          obtain ⟨k0, k1, k2, k3, k4⟩ := five_cells HEN
          refine bodyPost_ret (v := .agg #[.int .i64 30, .int .i64 0, .string ⟨#[]⟩, .slice none 0 0, .slice (some ⟨w5.heap.size, 0, none⟩) 2 2]) (by simp [results, Tryz.results164, go_sem, k0, k1, k2, k3, k4]) rfl ?_
          unfold TreeOut
          rw [HR5.out]
          exact HFI
        · go_simp
          refine hK _ _ ?_
          clear hK K
          refine wpAny_ready (rs := [0, 2]) (by kernel_rfl) (by simp) ?_
          refine AllReady.cons rfl (fun K hK => ?_) (AllReady.cons rfl (fun K hK => ?_) AllReady.nil)
          · go_simp
            refine hK _ _ ?_
            clear hK K
            refine wpAny_ready (rs := [2]) (by kernel_rfl) (by simp) ?_
            refine AllReady.cons rfl (fun K hK => ?_) AllReady.nil
            go_simp
            go_wp2_with fail
            refine HTC.out.mono ?_
            rintro e w5 hq5
            have hq6 : (∃ v, e = .returned v ∧ SynV w5 (fun b => w4.drew.heap.size ≤ b ∧ b < w5.heap.size) y v ∧ PAt w5 g s q) ∧ Fr (· = g) (· = g) w4.drew w5 := hq5
            obtain ⟨⟨v, rfl, hu5, hp5⟩, hf5⟩ := hq6
            obtain ⟨y0, y1, y2, ma, ml, mc, ka, kl, kc, rfl⟩ := tree_open hu5
            have hd : w4.drew.heap.size = w4.heap.size := rfl
            have HF5 := Lib.hid (HF4.out.trans ((fr_below (Below.refl w4.heap.size w4).drew).trans hf5))
            have hs5 : w4.heap.size ≤ w5.heap.size := hf5.size
            have HX5 := Lib.hid (HX4.out.of_eq (hf5.block HX4.out.lt (fun e => by have := HG.out; omega)))
            have HZ5 := Lib.hid (HZ4.out.of_eq (hf5.block HZ4.out.lt (fun e => by have := HG.out; have := HW1.out; have := H0LT.out; have := HW2L.out; omega)))
            obtain ⟨r0, r1, r2, r3, r4⟩ := five_cells HZ5.out
            have hsm : Same (fun b => w0.heap.size ≤ b ∧ b < w4.heap.size) w4 w5 := fun b h => hf5.block (show b < w4.drew.heap.size from h.2) (fun e => by have := h.1; have := HG.out; have := H0LT.out; omega)
            have hxt := (HU4.out.keep hsm).mono (Q := fun b => w0.heap.size ≤ b ∧ b < w5.heap.size) (fun b h => ⟨h.1, Nat.lt_of_lt_of_le h.2 hs5⟩)
            have hyt := hu5.mono (Q := fun b => w0.heap.size ≤ b ∧ b < w5.heap.size) (fun b h => ⟨by have := HW04.out; omega, h.2⟩)
            have HBT := Lib.hid (show Below w5.heap.size w5 (w5.alloc (.cells #[.int .i64 x0, .int .i64 x1, .string x2, .slice na nl nc, .slice la ll lc, .int .i64 y0, .int .i64 y1, .string y2, .slice ma ml mc, .slice ka kl kc] 27)) from (Below.refl _ _).alloc (Nat.le_refl _) _)
            have HU := Lib.hid (synV_make (op := 30) (n := 0) (tx := ByteArray.empty) (ns := []) (Nat.zero_le _) (strs_none _ _) (trees_two (B := w0.heap.size) (by have := HW04.out; omega) hxt hyt))
            have HP6 := Lib.hid (hp5.below HBT.out)
            have HX6 := Lib.hid (HX5.out.of_eq (HBT.out.block _ HX5.out.lt))
            have HF6 := Lib.hid (HF5.out.trans (fr_below HBT.out))
            obtain ⟨c0, c1, c2, c3, c4⟩ := five_cells HX6.out
            have f0 := HX6.out.thaw 0
            have f1 := HX6.out.thaw 1
            have f2 := HX6.out.thaw 2
            have f3 := HX6.out.thaw 3
            have f4 := HX6.out.thaw 4
            clear hq5 hu5 hp5 hf5 hxt hyt
            refine hK _ _ ?_
            clear hK K
            refine wpAny_ready (rs := [3]) (by kernel_rfl) (by simp) ?_
            refine AllReady.cons rfl (fun K hK => ?_) AllReady.nil
            go_simp
            refine hK _ _ ?_
            clear hK K
            refine wpAny_ready (rs := [4]) (by kernel_rfl) (by simp) ?_
            refine AllReady.cons rfl (fun K hK => ?_) AllReady.nil
            go_simp
            refine hK _ _ ?_
            clear hK K
            refine wpAny_ready (rs := [5]) (by kernel_rfl) (by simp) ?_
            refine AllReady.cons rfl (fun K hK => ?_) AllReady.nil
            go_simp
            refine hK _ _ ?_
            clear hK K
            refine wpAny_done (by kernel_rfl) ?_ _
            go_wp2_with fail
            have HEN := putFive_blk HX6.out (.int .i64 30) (.int .i64 0) (.string ⟨#[]⟩) (.slice none 0 0) (.slice (some ⟨w5.heap.size, 0, none⟩) 2 2)
            have HFI := tree_fin HG.out HF6.out HU.out H0LT.out HP6.out (.int .i64 30) (.int .i64 0) (.string ⟨#[]⟩) (.slice none 0 0) (.slice (some ⟨w5.heap.size, 0, none⟩) 2 2)
            unfold putFive at HEN HFI
            obtain ⟨k0, k1, k2, k3, k4⟩ := five_cells HEN
            refine bodyPost_ret (v := .agg #[.int .i64 30, .int .i64 0, .string ⟨#[]⟩, .slice none 0 0, .slice (some ⟨w5.heap.size, 0, none⟩) 2 2]) (by simp [results, Tryz.results164, go_sem, k0, k1, k2, k3, k4]) rfl ?_
            unfold TreeOut
            rw [HR5.out]
            exact HFI
          · go_simp
            go_wp2_with fail
            refine HTC.out.mono ?_
            rintro e w5 hq5
            have hq6 : (∃ v, e = .returned v ∧ SynV w5 (fun b => w4.drew.heap.size ≤ b ∧ b < w5.heap.size) y v ∧ PAt w5 g s q) ∧ Fr (· = g) (· = g) w4.drew w5 := hq5
            obtain ⟨⟨v, rfl, hu5, hp5⟩, hf5⟩ := hq6
            obtain ⟨y0, y1, y2, ma, ml, mc, ka, kl, kc, rfl⟩ := tree_open hu5
            have hd : w4.drew.heap.size = w4.heap.size := rfl
            have HF5 := Lib.hid (HF4.out.trans ((fr_below (Below.refl w4.heap.size w4).drew).trans hf5))
            have hs5 : w4.heap.size ≤ w5.heap.size := hf5.size
            have HX5 := Lib.hid (HX4.out.of_eq (hf5.block HX4.out.lt (fun e => by have := HG.out; omega)))
            have HZ5 := Lib.hid (HZ4.out.of_eq (hf5.block HZ4.out.lt (fun e => by have := HG.out; have := HW1.out; have := H0LT.out; have := HW2L.out; omega)))
            obtain ⟨r0, r1, r2, r3, r4⟩ := five_cells HZ5.out
            have hsm : Same (fun b => w0.heap.size ≤ b ∧ b < w4.heap.size) w4 w5 := fun b h => hf5.block (show b < w4.drew.heap.size from h.2) (fun e => by have := h.1; have := HG.out; have := H0LT.out; omega)
            have hxt := (HU4.out.keep hsm).mono (Q := fun b => w0.heap.size ≤ b ∧ b < w5.heap.size) (fun b h => ⟨h.1, Nat.lt_of_lt_of_le h.2 hs5⟩)
            have hyt := hu5.mono (Q := fun b => w0.heap.size ≤ b ∧ b < w5.heap.size) (fun b h => ⟨by have := HW04.out; omega, h.2⟩)
            have HBT := Lib.hid (show Below w5.heap.size w5 (w5.alloc (.cells #[.int .i64 x0, .int .i64 x1, .string x2, .slice na nl nc, .slice la ll lc, .int .i64 y0, .int .i64 y1, .string y2, .slice ma ml mc, .slice ka kl kc] 27)) from (Below.refl _ _).alloc (Nat.le_refl _) _)
            have HU := Lib.hid (synV_make (op := 30) (n := 0) (tx := ByteArray.empty) (ns := []) (Nat.zero_le _) (strs_none _ _) (trees_two (B := w0.heap.size) (by have := HW04.out; omega) hxt hyt))
            have HP6 := Lib.hid (hp5.below HBT.out)
            have HX6 := Lib.hid (HX5.out.of_eq (HBT.out.block _ HX5.out.lt))
            have HF6 := Lib.hid (HF5.out.trans (fr_below HBT.out))
            obtain ⟨c0, c1, c2, c3, c4⟩ := five_cells HX6.out
            have f0 := HX6.out.thaw 0
            have f1 := HX6.out.thaw 1
            have f2 := HX6.out.thaw 2
            have f3 := HX6.out.thaw 3
            have f4 := HX6.out.thaw 4
            clear hq5 hu5 hp5 hf5 hxt hyt
            refine hK _ _ ?_
            clear hK K
            refine wpAny_ready (rs := [0]) (by kernel_rfl) (by simp) ?_
            refine AllReady.cons rfl (fun K hK => ?_) AllReady.nil
            go_simp
            refine hK _ _ ?_
            clear hK K
            refine wpAny_ready (rs := [3]) (by kernel_rfl) (by simp) ?_
            refine AllReady.cons rfl (fun K hK => ?_) AllReady.nil
            go_simp
            refine hK _ _ ?_
            clear hK K
            refine wpAny_ready (rs := [4]) (by kernel_rfl) (by simp) ?_
            refine AllReady.cons rfl (fun K hK => ?_) AllReady.nil
            go_simp
            refine hK _ _ ?_
            clear hK K
            refine wpAny_ready (rs := [5]) (by kernel_rfl) (by simp) ?_
            refine AllReady.cons rfl (fun K hK => ?_) AllReady.nil
            go_simp
            refine hK _ _ ?_
            clear hK K
            refine wpAny_done (by kernel_rfl) ?_ _
            go_wp2_with fail
            have HEN := putFive_blk HX6.out (.int .i64 30) (.int .i64 0) (.string ⟨#[]⟩) (.slice none 0 0) (.slice (some ⟨w5.heap.size, 0, none⟩) 2 2)
            have HFI := tree_fin HG.out HF6.out HU.out H0LT.out HP6.out (.int .i64 30) (.int .i64 0) (.string ⟨#[]⟩) (.slice none 0 0) (.slice (some ⟨w5.heap.size, 0, none⟩) 2 2)
            unfold putFive at HEN HFI
            obtain ⟨k0, k1, k2, k3, k4⟩ := five_cells HEN
            refine bodyPost_ret (v := .agg #[.int .i64 30, .int .i64 0, .string ⟨#[]⟩, .slice none 0 0, .slice (some ⟨w5.heap.size, 0, none⟩) 2 2]) (by simp [results, Tryz.results164, go_sem, k0, k1, k2, k3, k4]) rfl ?_
            unfold TreeOut
            rw [HR5.out]
            exact HFI
end Go.Proofs.YtjedahcpkcgpeaaGreatDoor

/-
  Walks of layer 4: the end.
-/
namespace Go.Proofs.YtjedahcpkcgpeaaGreatDoor
open Go Go.RowKit
set_option linter.unusedSimpArgs false
set_option maxRecDepth 100000 in
set_option maxHeartbeats 4000000 in
theorem pend_any (s : Src) (g i : Nat) (w : World) (h : PAt w g s i) : Calls Tryz.prog 63 #[.pointer (some ⟨g, 0, none⟩)] w (NeedOut s g (if (Pl.tkAt s.ts i).kind = 8 then .ok () i else .bad i) w) := by
  have HP := Lib.hid h
  have HT := Lib.hid (ptoken_any s g i w h)
  unfold TokenOut at HT
  have HRF := Lib.hid (fun W (hW : PAt W g s i) => prefuse_any s g i W hW)
  obtain ⟨b8, h8⟩ : ∃ b, ((Pl.tkAt s.ts i).kind == 8) = b := ⟨_, rfl⟩
  obtain ⟨r, hr⟩ : ∃ r, r = (if (Pl.tkAt s.ts i).kind = 8 then (.ok () i : Pl.PR Unit) else .bad i) := ⟨_, rfl⟩
  rw [← hr]
  have HE := Lib.hid (show r = if b8 = true then .ok () i else .bad i from by rw [hr, ← h8]; simp only [beq_iff_eq])
  generalize (Pl.tkAt s.ts i).kind = tk at *
  generalize Pl.mk (Pl.tkAt s.ts i).text = tt at *
  clear h hr
  go_enter Tryz.func63, Tryz.ntmps63
  go_wp2_with fail
  refine HT.out.mono ?_
  rintro e w1 ⟨⟨li, co, rfl⟩, hb1⟩
  have HB1 := Lib.hid hb1
  have HP1 := Lib.hid (HP.out.below hb1)
  have hfl : ∀ W, Sem.run Tryz.prog (Instr.field 45 (.agg #[.int .i64 tk, .string tt, .int .i64 li, .int .i64 co]) 0) W = .ok (.int .i64 tk) W := fun _ => rfl
  clear hb1
  cases b8
  · have q : (tk == 8) = false := h8
    go_wp2_with fail
    refine (HRF.out _ HP1.out).mono ?_
    rintro e w2 ⟨rfl, hb2⟩
    refine ⟨rfl, ?_⟩
    unfold NeedOut
    rw [HE.out, if_neg (by decide)]
    exact ⟨rfl, (fr_below HB1.out).trans (fr_below hb2)⟩
  · have q : (tk == 8) = true := h8
    go_wp2
    refine bodyPost_ret (v := .tuple #[]) (by simp [results, Tryz.results63, go_sem]) rfl ?_
    unfold NeedOut
    rw [HE.out, if_pos (by first | rfl | trivial)]
    exact ⟨⟨⟨_, rfl⟩, HP1.out⟩, fr_below HB1.out⟩
end Go.Proofs.YtjedahcpkcgpeaaGreatDoor

/-
  Memory of layer 4: what a call, a store or a new block leaves as it was; and what each callee answers, part by part.
-/
namespace Go.Proofs.YtjedahcpkcgpeaaGreatDoor
open Go Go.RowKit
set_option linter.unusedSimpArgs false
abbrev Own (B : Nat) (W : World) : Nat → Prop := fun b => B ≤ b ∧ b < W.heap.size
section
variable {w W W' : World} {B o g i : Nat} {s : Src}
theorem blk_fr {b : Nat} {T : TypeId} {cs : Array Value} (h : Blk W b T cs) (hne : b ≠ o) (hf : Fr (· = o) (· = o) W W') : Blk W' b T cs := h.of_eq (hf.block h.lt hne)
theorem same_fr (ho : o < B) (hf : Fr (· = o) (· = o) W W') : Same (Own B W) W W' := fun b hb => hf.block hb.2 (fun e => by have := hb.1; have e : b = o := e; omega)
theorem own_fr (hf : Fr (· = o) (· = o) W W') : ∀ b, Own B W b → Own B W' b := fun _ hb => ⟨hb.1, Nat.lt_of_lt_of_le hb.2 hf.size⟩
theorem own_low {B' : Nat} (hB : B ≤ B') : ∀ b, Own B' W b → Own B W b := fun _ hb => ⟨Nat.le_trans hB hb.1, hb.2⟩
theorem tree_fr {t : Pl.Syn} {v : Value} (h : SynV W (Own B W) t v) (ho : o < B) (hf : Fr (· = o) (· = o) W W') : SynV W' (Own B W') t v := (h.keep (same_fr ho hf)).mono (own_fr hf)
theorem pat_fr (h : PAt W g s i) (ho : g < o) (hf : Fr (· = o) (· = o) W W') : PAt W' g s i :=
  ⟨blk_fr h.blk (by omega) hf, h.before, h.src.keep (hf.block (Nat.lt_trans h.before h.blk.lt) (by have := h.before; omega)), h.inn⟩
theorem fr_over (h : Fr (· = g) (· = g) w W) (ho : w.heap.size ≤ o) (hf : Fr (· = o) (· = o) W W') : Fr (· = g) (· = g) w W' :=
  ⟨hf.1.trans h.1, hf.2.1.trans h.2.1, hf.2.2.1.trans h.2.2.1, Nat.le_trans h.size hf.size, fun i hi hn => (hf.block (Nat.lt_of_lt_of_le hi h.size) (fun e => by have e : i = o := e; omega)).trans (h.block hi hn), fun _ hi => .inl hi⟩
theorem fr_put (W : World) (o j : Nat) (v : Value) : Fr (· = o) (· = o) W (W.setCell ⟨o, j, none⟩ v) :=
  ⟨rfl, rfl, rfl, by simp [World.setCell], fun i _ hn => Below.heap_setCell W ⟨o, j, none⟩ v i hn, fun _ h => .inl h⟩
theorem fr_new (o : Nat) (W : World) (x : Obj) : Fr (· = o) (· = o) W (W.alloc x) := fr_below ((Below.refl _ _).alloc (Nat.le_refl _) x)
theorem fr_drew (o : Nat) (W : World) : Fr (· = o) (· = o) W W.drew := fr_below (Below.refl W.heap.size W).drew
theorem fr_putFive (W : World) (o : Nat) (x0 x1 x2 x3 x4 : Value) : Fr (· = o) (· = o) W (putFive W o x0 x1 x2 x3 x4) := by
  unfold putFive
  exact ((((fr_put _ _ _ _).trans (fr_put _ _ _ _)).trans (fr_put _ _ _ _)).trans (fr_put _ _ _ _)).trans (fr_put _ _ _ _)
abbrev Win (B Z : Nat) : Nat → Prop := fun b => B ≤ b ∧ b < Z
theorem same_win {Z : Nat} (ho : o < B ∨ Z ≤ o) (hZ : Z ≤ W.heap.size) (hf : Fr (· = o) (· = o) W W') : Same (Win B Z) W W' := fun b hb => hf.block (Nat.lt_of_lt_of_le hb.2 hZ) (fun e => by have e : b = o := e; have := hb.1; have := hb.2; omega)
theorem strs_win {Z : Nat} {t : List ByteArray} {v : Value} (h : StrSl W (Win B Z) v t) (ho : o < B ∨ Z ≤ o) (hZ : Z ≤ W.heap.size) (hf : Fr (· = o) (· = o) W W') : StrSl W' (Win B Z) v t := h.keep (same_win ho hZ hf)
theorem TreesAt.owned {v : Value} {ts : List Pl.Syn} (h : TreesAt W B v ts) {k : Nat} (hk : v.ownBlock = some k) : B ≤ k ∧ k < W.heap.size := by
  obtain ⟨us, R, h1, -, -⟩ := h
  exact h1.lt k hk
theorem TreesAt.low {B' : Nat} {v : Value} {ts : List Pl.Syn} (h : TreesAt W B' v ts) (hB : B ≤ B') : TreesAt W B v ts := by
  obtain ⟨us, R, h1, h2, h3⟩ := h
  refine ⟨us, R, ⟨h1.1, ?_⟩, fun b hb => ⟨Nat.le_trans hB (h2 b hb).1, (h2 b hb).2⟩, h3⟩
  rcases h1.2 with h | ⟨g, cap, cur, hv, hb, h⟩
  · exact .inl h
  · exact .inr ⟨g, cap, cur, hv, Nat.le_trans hB hb, h⟩
theorem trees_one_at {y : Pl.Syn} {y0 y1 y2 y3 y4 : Value} (hle : B ≤ W.heap.size) (hy : SynV W (Own B W) y (.agg #[y0, y1, y2, y3, y4])) :
    TreesAt (W.alloc (.cells #[y0, y1, y2, y3, y4] 27)) B (.slice (some ⟨W.heap.size, 0, none⟩) 1 1) [y] := by
  have hb : Below W.heap.size W (W.alloc (.cells #[y0, y1, y2, y3, y4] 27)) := (Below.refl _ _).alloc (Nat.le_refl _) _
  refine ⟨[y0, y1, y2, y3, y4], fun b => B ≤ b ∧ b < W.heap.size, World.ownsRow_lit (base := B) (e := 27) (size := 5) W #[y0, y1, y2, y3, y4] 1 hle (by unfold maxLen; omega) rfl, fun b h => ⟨h.1, Nat.lt_of_lt_of_le h.2 hb.size, fun e => ?_⟩, fun j hj => ?_⟩
  · have e : some W.heap.size = some b := e
    injection e with e
    omega
  · have e : j = 0 := by simp at hj; omega
    subst e
    exact ⟨_, ⟨y0, y1, y2, y3, y4, rfl, rfl, rfl, rfl, rfl, rfl⟩, hy.keep (fun b h => hb.block b h.2)⟩
theorem trees_append {S : Nat} {v : Value} {ts : List Pl.Syn} {y : Pl.Syn} {y0 y1 y2 y3 y4 : Value} (h : TreesAt W B v ts) (hy : SynV W (Own S W) y (.agg #[y0, y1, y2, y3, y4])) (hS : B ≤ S) (hO : ∀ k, v.ownBlock = some k → k < S) :
    ∃ us, (W.alloc (.cells #[y0, y1, y2, y3, y4] 27)).ownsRow B 27 5 v ts.length us ∧ ∀ w' v', w'.ownsRow B 27 5 v' (ts.length + 1) (us ++ [y0, y1, y2, y3, y4]) → (W.alloc (.cells #[y0, y1, y2, y3, y4] 27)).grownBy w' v.ownBlock → (∀ k, v'.ownBlock = some k → v.ownBlock = some k ∨ W.heap.size + 1 ≤ k) → TreesAt w' B v' (ts ++ [y]) := by
  have hb : Below W.heap.size W (W.alloc (.cells #[y0, y1, y2, y3, y4] 27)) := (Below.refl _ _).alloc (Nat.le_refl _) _
  have hsz : (W.alloc (.cells #[y0, y1, y2, y3, y4] 27)).heap.size = W.heap.size + 1 := by simp
  obtain ⟨us, R, h1, h2, h3⟩ := h
  have ho := h1.kept (w' := W.alloc (.cells #[y0, y1, y2, y3, y4] 27)) (row := some W.heap.size) ⟨rfl, rfl, rfl, hb.size, fun k hk _ => hb.block k hk⟩ (.inr fun e => by
    have := (h1.lt _ e).2
    omega)
  refine ⟨us, ho, fun w' v' hw hgr hk => ?_⟩
  have hm : ∀ b, R b → B ≤ b ∧ b < (W.alloc (.cells #[y0, y1, y2, y3, y4] 27)).heap.size ∧ v.ownBlock ≠ some b := fun b hb' => ⟨(h2 b hb').1, Nat.lt_of_lt_of_le (h2 b hb').2.1 hb.size, (h2 b hb').2.2⟩
  refine trees_push (S := Own S W) ho hm (fun j hj => ?_) (hy.keep fun b hb' => hb.block b hb'.2) (fun b hb' => ⟨Nat.le_trans hS hb'.1, Nat.lt_of_lt_of_le hb'.2 hb.size, fun e => by have := hO b e; have := hb'.1; omega⟩) (by rw [List.length_append]; exact hw) hgr (fun k hk' => by rw [hsz]; exact hk k hk')
  obtain ⟨x, hx, hs⟩ := h3 j hj
  exact ⟨x, hx, hs.keep fun b hb' => hb.block b (h2 b hb').2.1⟩
theorem CellsAt.right {us vs : List Value} {o : Nat} {v : Value} (h : CellsAt vs o v) : CellsAt (us ++ vs) (us.length + o) v := by
  obtain ⟨x0, x1, x2, x3, x4, rfl, h0, h1, h2, h3, h4⟩ := h
  have each : ∀ (i : Nat) (x : Value), vs[i]? = some x → (us ++ vs)[us.length + i]? = some x := by
    intro i x hx
    rw [List.getElem?_append_right (by omega), Nat.add_sub_cancel_left]
    exact hx
  exact ⟨x0, x1, x2, x3, x4, rfl, each _ _ h0, by rw [Nat.add_assoc]; exact each _ _ h1, by rw [Nat.add_assoc]; exact each _ _ h2, by rw [Nat.add_assoc]; exact each _ _ h3, by rw [Nat.add_assoc]; exact each _ _ h4⟩
theorem cells_one {R : Nat → Prop} {vs : List Value} {ys : List Pl.Syn} (hl : vs.length = ys.length * 5) (h : ∀ j (hj : j < ys.length), ∃ x, CellsAt vs (j * 5) x ∧ SynV W R ys[j] x) : ∀ u ∈ vs, u.oneCell' = true := by
  intro u hu
  obtain ⟨i, hi, hiu⟩ := List.getElem_of_mem hu
  obtain ⟨x, ⟨x0, x1, x2, x3, x4, hx, h0, h1, h2, h3, h4⟩, hs⟩ := h (i / 5) (by omega)
  obtain ⟨y0, y1, y2, na, nl, nc, la, ll, lc, hy⟩ := tree_open hs
  rw [hx] at hy
  injection hy with hy
  simp only [Array.mk.injEq, List.cons.injEq, and_true] at hy
  obtain ⟨rfl, rfl, rfl, rfl, rfl⟩ := hy
  have hu' : vs[i]? = some u := by rw [List.getElem?_eq_getElem hi, hiu]
  have hr : i = i / 5 * 5 + i % 5 := by omega
  have hlt : i % 5 < 5 := Nat.mod_lt _ (by omega)
  generalize i / 5 * 5 = o at *
  generalize i % 5 = m at *
  subst hr
  match m, hlt with
  | 0, _ => rw [Nat.add_zero, h0] at hu'; injection hu' with e; subst e; rfl
  | 1, _ => rw [h1] at hu'; injection hu' with e; subst e; rfl
  | 2, _ => rw [h2] at hu'; injection hu' with e; subst e; rfl
  | 3, _ => rw [h3] at hu'; injection hu' with e; subst e; rfl
  | 4, _ => rw [h4] at hu'; injection hu' with e; subst e; rfl
theorem trees_pushes {S : Nat} {v x : Value} {ts ys : List Pl.Syn} (h : TreesAt W B v ts) (hy : TreesAt W S x ys) (hS : B ≤ S) (hO : ∀ k, v.ownBlock = some k → k < S) :
    ∃ us vs, W.ownsRow B 27 5 v ts.length us ∧ W.ownsRow S 27 5 x ys.length vs ∧ (∀ u ∈ vs, u.oneCell' = true) ∧ ∀ w' v', w'.ownsRow B 27 5 v' (ts.length + ys.length) (us ++ vs) → W.grownBy w' v.ownBlock → (∀ k, v'.ownBlock = some k → v.ownBlock = some k ∨ W.heap.size ≤ k) → TreesAt w' B v' (ts ++ ys) := by
  obtain ⟨us, R, h1, h2, h3⟩ := h
  obtain ⟨vs, R', k1, k2, k3⟩ := hy
  refine ⟨us, vs, h1, k1, cells_one k1.1 k3, fun w' v' hw hg hb => ?_⟩
  have hall : ∀ b, R b ∨ R' b → B ≤ b ∧ b < W.heap.size ∧ v.ownBlock ≠ some b := fun b h => h.elim (h2 b) (fun h => ⟨Nat.le_trans hS (k2 b h).1, (k2 b h).2.1, fun e => by have := hO b e; have := (k2 b h).1; omega⟩)
  have hsame : Same (fun b => R b ∨ R' b) W w' := fun b h => hg.block b (hall b h).2.1 (fun e => (hall b h).2.2 e.symm)
  refine ⟨us ++ vs, fun b => R b ∨ R' b, by rw [List.length_append]; exact hw, fun b h => ⟨(hall b h).1, Nat.lt_of_lt_of_le (hall b h).2.1 hg.size, fun e => ?_⟩, fun j hj => ?_⟩
  · rcases hb b e with e | e
    · exact (hall b h).2.2 e
    · have := (hall b h).2.1
      omega
  · rcases Nat.lt_or_ge j ts.length with hlt | hge
    · obtain ⟨z, hz, hs⟩ := h3 j hlt
      refine ⟨z, hz.left, ?_⟩
      rw [List.getElem_append_left hlt]
      exact (hs.mono (fun b hb => Or.inl hb)).keep hsame
    · have hj2 : j - ts.length < ys.length := by rw [List.length_append] at hj; omega
      obtain ⟨z, hz, hs⟩ := k3 (j - ts.length) hj2
      refine ⟨z, ?_, ?_⟩
      · have := CellsAt.right (us := us) hz
        rw [h1.1, ← Nat.add_mul, Nat.add_sub_cancel' hge] at this
        exact this
      · rw [List.getElem_append_right hge]
        exact (hs.mono (fun b hb => Or.inr hb)).keep hsame
theorem fr_row {row : Option Nat} (h : Fr (· = g) (· = g) w W) (hg : W.grownBy W' row) (hr : ∀ k, row = some k → w.heap.size ≤ k) : Fr (· = g) (· = g) w W' := fr_grown h hg hr
theorem blk_grown {b : Nat} {T : TypeId} {cs : Array Value} {row : Option Nat} (h : Blk W b T cs) (hg : W.grownBy W' row) (hr : ∀ k, row = some k → b < k) : Blk W' b T cs := h.of_eq (hg.block b h.lt (fun e => by have := hr b e.symm; omega))
theorem tree_of {op n : Int} {tx : ByteArray} {ns : List ByteArray} {l : List Pl.Syn} {nv lv : Value} (ht : tx.size ≤ maxLen) (hn : StrSl W (Own B W) nv ns) (hl : SynSl W (Own B W) lv l) : SynV W (Own B W) ⟨op, n, tx, ns, l⟩ (.agg #[.int .i64 op, .int .i64 n, .string tx, nv, lv]) := synV_make ht hn hl
theorem tree_bad {r : Pl.PR Pl.Syn} {j : Nat} (hr : r = .bad j) (hf : Fr (· = g) (· = g) w W) : TreeOut s g r w (faultAt s j) W := by
  subst hr
  exact ⟨rfl, hf⟩
theorem trees_bad {r : Pl.PR (List Pl.Syn)} {j : Nat} (hr : r = .bad j) (hf : Fr (· = g) (· = g) w W) : TreesOut s g r w (faultAt s j) W := by
  subst hr
  exact ⟨rfl, hf⟩
theorem tree_ok {r : Pl.PR Pl.Syn} {t : Pl.Syn} {j : Nat} {v : Value} (hr : r = .ok t j) (h : (∃ u, Ending.returned v = .returned u ∧ SynV W (fun b => w.heap.size ≤ b ∧ b < W.heap.size) t u ∧ PAt W g s j) ∧ Fr (· = g) (· = g) w W) : TreeOut s g r w (.returned v) W := by
  subst hr
  exact h
theorem TreeOut.split {r : Pl.PR Pl.Syn} {e : Ending} (h : TreeOut s g r W e W') :
    (∃ j, r = .bad j ∧ e = faultAt s j ∧ Fr (· = g) (· = g) W W') ∨ (∃ t j x0 x1 x2 na nl nc la ll lc, r = .ok t j ∧ e = .returned (.agg #[.int .i64 x0, .int .i64 x1, .string x2, .slice na nl nc, .slice la ll lc]) ∧ SynV W' (Own W.heap.size W') t (.agg #[.int .i64 x0, .int .i64 x1, .string x2, .slice na nl nc, .slice la ll lc]) ∧ PAt W' g s j ∧ Fr (· = g) (· = g) W W') := by
  obtain ⟨h, hf⟩ := h
  cases r with
  | bad j => exact .inl ⟨j, rfl, h, hf⟩
  | ok t j =>
    obtain ⟨v, rfl, hs, hp⟩ := h
    obtain ⟨x0, x1, x2, na, nl, nc, la, ll, lc, rfl⟩ := tree_open hs
    exact .inr ⟨t, j, x0, x1, x2, na, nl, nc, la, ll, lc, rfl, rfl, hs, hp, hf⟩
theorem TreesOut.split {r : Pl.PR (List Pl.Syn)} {e : Ending} (h : TreesOut s g r W e W') :
    (∃ j, r = .bad j ∧ e = faultAt s j ∧ Fr (· = g) (· = g) W W') ∨ (∃ ts j la lc, r = .ok ts j ∧ e = .returned (.slice la ts.length lc) ∧ TreesAt W' W.heap.size (.slice la ts.length lc) ts ∧ PAt W' g s j ∧ Fr (· = g) (· = g) W W') := by
  obtain ⟨h, hf⟩ := h
  cases r with
  | bad j => exact .inl ⟨j, rfl, h, hf⟩
  | ok ts j =>
    obtain ⟨v, rfl, hs, hp⟩ := h
    obtain ⟨a, c, hv, -⟩ := hs.syns
    subst hv
    exact .inr ⟨ts, j, a, c, rfl, rfl, hs, hp, hf⟩
theorem NamesOut.split {r : Pl.PR (List ByteArray)} {e : Ending} (h : NamesOut s g r W e W') :
    (∃ j, r = .bad j ∧ e = faultAt s j ∧ Fr (· = g) (· = g) W W') ∨ (∃ ns j la lc, r = .ok ns j ∧ e = .returned (.slice la ns.length lc) ∧ StrSl W' (Own W.heap.size W') (.slice la ns.length lc) ns ∧ PAt W' g s j ∧ Fr (· = g) (· = g) W W') := by
  obtain ⟨h, hf⟩ := h
  cases r with
  | bad j => exact .inl ⟨j, rfl, h, hf⟩
  | ok ns j =>
    obtain ⟨v, rfl, hs, hp⟩ := h
    obtain ⟨a, c, hv, -⟩ := id hs
    subst hv
    exact .inr ⟨ns, j, a, c, rfl, rfl, hs, hp, hf⟩
theorem NeedOut.split {r : Pl.PR Unit} {e : Ending} (h : NeedOut s g r W e W') :
    (∃ j, r = .bad j ∧ e = faultAt s j ∧ Fr (· = g) (· = g) W W') ∨ (∃ j v, r = .ok () j ∧ e = .returned v ∧ PAt W' g s j ∧ Fr (· = g) (· = g) W W') := by
  obtain ⟨h, hf⟩ := h
  cases r with
  | bad j => exact .inl ⟨j, rfl, h, hf⟩
  | ok u j =>
    obtain ⟨⟨v, rfl⟩, hp⟩ := h
    exact .inr ⟨j, v, rfl, rfl, hp, hf⟩
theorem TakeOut.split {r : Pl.PR Pl.Bytes} {e : Ending} (h : TakeOut s g r W e W') :
    (∃ j, r = .bad j ∧ e = faultAt s j ∧ Fr (· = g) (· = g) W W') ∨ (∃ t j, r = .ok t j ∧ e = .returned (.string (Pl.mk t)) ∧ PAt W' g s j ∧ Fr (· = g) (· = g) W W') := by
  obtain ⟨h, hf⟩ := h
  cases r with
  | bad j => exact .inl ⟨j, rfl, h, hf⟩
  | ok t j =>
    obtain ⟨rfl, hp⟩ := h
    exact .inr ⟨t, j, rfl, rfl, hp, hf⟩
theorem TokenOut.split {e : Ending} (h : TokenOut s i W e W') (hP : PAt W g s i) : ∃ li co, e = .returned (.agg #[.int .i64 (Pl.tkAt s.ts i).kind, .string (Pl.mk (Pl.tkAt s.ts i).text), .int .i64 li, .int .i64 co]) ∧ PAt W' g s i ∧ Fr (· = g) (· = g) W W' := by
  obtain ⟨⟨li, co, rfl⟩, hb⟩ := h
  exact ⟨li, co, rfl, hP.below hb, fr_below hb⟩
theorem take_len (h : PAt W g s i) {k : Int} {t : Pl.Bytes} {j : Nat} (hk : Pl.takeK s.ts k i = .ok t j) : (Pl.mk t).size ≤ maxLen := by
  unfold Pl.takeK at hk
  split at hk
  · injection hk with h1 h2
    rw [← h1]
    exact text_lens h.src i
  · cases hk
theorem ppass_yes {b : Pl.Bytes} (hb : b ≠ []) (h : PAt W g s i) (hq : Pl.passes s.ts i b = true) : Calls Tryz.prog 64 #[.pointer (some ⟨g, 0, none⟩), .string (Pl.mk b)] W fun e W' => e = .returned (.bool true) ∧ PAt W' g s (i + 1) ∧ Fr (· = g) (· = g) W W' := by
  have := ppass_any s g i b hb W h
  unfold PassOut at this
  rw [hq] at this
  exact this
theorem ppass_not {b : Pl.Bytes} (hb : b ≠ []) (h : PAt W g s i) (hq : Pl.passes s.ts i b = false) : Calls Tryz.prog 64 #[.pointer (some ⟨g, 0, none⟩), .string (Pl.mk b)] W fun e W' => e = .returned (.bool false) ∧ PAt W' g s i ∧ Fr (· = g) (· = g) W W' := by
  have := ppass_any s g i b hb W h
  unfold PassOut at this
  rw [hq] at this
  exact this
theorem need_next {b : Pl.Bytes} {j : Nat} (h : Pl.needT s.ts b i = .ok () j) : j = i + 1 := by
  unfold Pl.needT at h
  split at h
  · injection h with h1 h2
    exact h2.symm
  · cases h
theorem take_next {k : Int} {t : Pl.Bytes} {j : Nat} (h : Pl.takeK s.ts k i = .ok t j) : j = i + 1 := by
  unfold Pl.takeK at h
  split at h
  · injection h with h1 h2
    exact h2.symm
  · cases h
end
end Go.Proofs.YtjedahcpkcgpeaaGreatDoor
