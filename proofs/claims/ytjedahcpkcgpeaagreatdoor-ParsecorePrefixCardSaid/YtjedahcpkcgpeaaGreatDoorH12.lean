/-
  Walks and plain mathematics, several texts in one (Dm Dn).
-/
import Derived.Test.YtjedahcpkcgpeaaGreatDoorH11
import Derived.Deep.RegionLaw
import Derived.Deep.RegionWith
/-
  Walks of layer 4: an atom in parentheses.
-/
namespace Go.Proofs.YtjedahcpkcgpeaaGreatDoor
open Go Go.RowKit
set_option linter.unusedSimpArgs false
theorem syns_none (w : World) (P : Nat → Prop) : SynSl w P (.slice none 0 0) [] := ⟨none, 0, rfl, Nat.le_refl _, Nat.zero_le _, fun _ => rfl, Or.inl rfl⟩
set_option maxRecDepth 100000 in
set_option maxHeartbeats 8000000 in
theorem penclosed_any (s : Src) (g i : Nat) (cont : Nat → Pl.PR Pl.Syn) (hcont : ∀ W, PAt W g s i → Calls Tryz.prog 162 #[.pointer (some ⟨g, 0, none⟩)] W (TreeOut s g (cont i) W)) (w : World) (h : PAt w g s i) :
    Calls Tryz.prog 153 #[.pointer (some ⟨g, 0, none⟩)] w (TreeOut s g (if Pl.passes s.ts i [41] then .ok (Pl.nd 27 []) (i + 1) else (cont i).then fun t j => (Pl.needT s.ts [41] j).then fun _ k => .ok t k) w) := by
  have HP := Lib.hid h
  have HG := Lib.hid h.blk.lt
  have HPS := Lib.hid (fun W (hW : PAt W g s i) => ppass_any s g i [41] (by decide) W hW)
  have HND := Lib.hid (fun W j (hW : PAt W g s j) => pneed_any s g j [41] (by decide) W hW)
  have hmk : (Pl.mk [41] : ByteArray) = ⟨#[41]⟩ := rfl
  rw [hmk] at HPS HND
  have HCO := Lib.hid hcont
  obtain ⟨r, hr⟩ : ∃ r, r = (if Pl.passes s.ts i [41] then .ok (Pl.nd 27 []) (i + 1) else (cont i).then fun t j => (Pl.needT s.ts [41] j).then fun _ k => (.ok t k : Pl.PR Pl.Syn)) := ⟨_, rfl⟩
  rw [← hr]
  generalize cont i = rn at *
  generalize Pl.passes s.ts i [41] = pb at *
  have HR := Lib.hid hr
  have HB0 := Lib.hid (show Below w.heap.size w (w.alloc (.cells #[.int .i64 0, .int .i64 0, .string ⟨#[]⟩, .slice none 0 0, .slice none 0 0] 27)) from (Below.refl _ _).alloc (Nat.le_refl _) _)
  have HX0 := Lib.hid (blk_new w #[.int .i64 0, .int .i64 0, .string ⟨#[]⟩, .slice none 0 0, .slice none 0 0] 27)
  have HP0 := Lib.hid (HP.out.below HB0.out)
  have H0LT := Lib.hid HX0.out.lt
  clear h hr hmk hcont
  go_enter Tryz.func153, Tryz.ntmps153
  go_wp2_with fail
  have hmc := HPS.out _ HP0.out
  generalize w.alloc (.cells #[.int .i64 0, .int .i64 0, .string ⟨#[]⟩, .slice none 0 0, .slice none 0 0] 27) = w0 at *
  refine hmc.mono ?_
  rintro e w1 ⟨rfl, hp1, hf⟩
  have HF := Lib.hid ((fr_below (o := (· = g)) HB0.out).trans hf)
  have HX1 := Lib.hid (HX0.out.of_eq (hf.block HX0.out.lt (fun e => by have := HG.out; omega)))
  have HW1 := Lib.hid hf.size
  clear hmc hf
  cases pb
  · have HP1 := Lib.hid (show PAt w1 g s i from hp1)
    clear hp1
    go_wp2_with fail
    refine (HCO.out _ HP1.out).mono ?_
    rintro e w2 ⟨hq, hf2⟩
    have HF2 := Lib.hid (HF.out.trans hf2)
    have HX2 := Lib.hid (HX1.out.of_eq (hf2.block HX1.out.lt (fun e => by have := HG.out; omega)))
    have HW2 := Lib.hid hf2.size
    cases rn with
    | bad j =>
      have hq' : e = faultAt s j := hq
      subst hq'
      refine ⟨rfl, ?_⟩
      unfold TreeOut
      rw [show r = .bad j from HR.out]
      exact ⟨rfl, HF2.out⟩
    | ok t j =>
      obtain ⟨v, rfl, hu, hp2⟩ := hq
      obtain ⟨x0, x1, x2, na, nl, nc, la, ll, lc, rfl⟩ := tree_open hu
      have HBA := Lib.hid (show Below w2.heap.size w2 (w2.alloc (.cells #[.int .i64 x0, .int .i64 x1, .string x2, .slice na nl nc, .slice la ll lc] 27)) from (Below.refl _ _).alloc (Nat.le_refl _) _)
      have HZ3 := Lib.hid (blk_new w2 #[.int .i64 x0, .int .i64 x1, .string x2, .slice na nl nc, .slice la ll lc] 27)
      have HU3 := Lib.hid (hu.keep (fun b h => HBA.out.block b h.2))
      have HP3 := Lib.hid (hp2.below HBA.out)
      have HX3 := Lib.hid (HX2.out.of_eq (HBA.out.block _ HX2.out.lt))
      have HF3 := Lib.hid (HF2.out.trans (fr_below HBA.out))
      have HR2 := Lib.hid (show r = (Pl.needT s.ts [41] j).then fun _ k => .ok t k from HR.out)
      have H2LT := Lib.hid HX2.out.lt
      clear hu hp2 hf2
      go_wp2_with fail
      have hnc := HND.out _ _ HP3.out
      have hnt := show Pl.needT s.ts [41] j = if Pl.passes s.ts j [41] = true then .ok () (j + 1) else .bad j from rfl
      rw [hnt] at hnc HR2
      generalize Pl.passes s.ts j [41] = qb at *
      generalize w2.alloc (.cells #[.int .i64 x0, .int .i64 x1, .string x2, .slice na nl nc, .slice la ll lc] 27) = w3 at *
      refine hnc.mono ?_
      rintro e w4 ⟨hq, hf4⟩
      have HF4 := Lib.hid (HF3.out.trans hf4)
      cases qb
      · rw [if_neg (by decide)] at hq HR2
        subst hq
        refine ⟨rfl, ?_⟩
        unfold TreeOut
        rw [HR2.out, Pl.PR.then_bad]
        exact ⟨rfl, HF4.out⟩
      · rw [if_pos (by first | rfl | trivial)] at hq HR2
        rw [Pl.PR.then_ok] at HR2
        obtain ⟨⟨nv, rfl⟩, hp4⟩ := hq
        have HP4 := Lib.hid hp4
        have HX4 := Lib.hid (HX3.out.of_eq (hf4.block HX3.out.lt (fun e => by have := HG.out; omega)))
        have HZ4 := Lib.hid (HZ3.out.of_eq (hf4.block HZ3.out.lt (fun e => by have := HG.out; have := HW2.out; have := HW1.out; have := H0LT.out; omega)))
        have HU4 := Lib.hid ((HU3.out.keep (fun b h => hf4.block (Nat.lt_trans h.2 HZ3.out.lt) (fun e => by have := HG.out; have := HW1.out; have := H0LT.out; omega))).mono (Q := fun b => w0.heap.size ≤ b ∧ b < w4.heap.size) (fun b h => ⟨Nat.le_trans HW1.out h.1, Nat.lt_of_lt_of_le (Nat.lt_trans h.2 HZ3.out.lt) hf4.size⟩))
        clear hp4 hf4 hnc hnt
        obtain ⟨z0, z1, z2, z3, z4⟩ := five_cells HZ4.out
        obtain ⟨c0, c1, c2, c3, c4⟩ := five_cells HX4.out
        have y0 := HX4.out.thaw 0
        have y1 := HX4.out.thaw 1
        have y2 := HX4.out.thaw 2
        have y3 := HX4.out.thaw 3
        have y4 := HX4.out.thaw 4
        go_wp2_with fail
        have HEN := putFive_blk HX4.out (.int .i64 x0) (.int .i64 x1) (.string x2) (.slice na nl nc) (.slice la ll lc)
        have HFI := tree_fin HG.out HF4.out HU4.out H0LT.out HP4.out (.int .i64 x0) (.int .i64 x1) (.string x2) (.slice na nl nc) (.slice la ll lc)
        unfold putFive at HEN HFI
        obtain ⟨k0, k1, k2, k3, k4⟩ := five_cells HEN
        refine bodyPost_ret (v := .agg #[.int .i64 x0, .int .i64 x1, .string x2, .slice na nl nc, .slice la ll lc]) (by simp [results, Tryz.results153, go_sem, k0, k1, k2, k3, k4]) rfl ?_
        unfold TreeOut
        rw [HR2.out]
        exact HFI
  · have HP1 := Lib.hid (show PAt w1 g s (i + 1) from hp1)
    have HR2 := Lib.hid (show r = .ok (Pl.nd 27 []) (i + 1) from HR.out)
    have HU := Lib.hid (synV_make (w := w1) (P := fun b => w0.heap.size ≤ b ∧ b < w1.heap.size) (op := 27) (n := 0) (tx := ByteArray.empty) (ns := []) (l := []) (Nat.zero_le _) (strs_none _ _) (syns_none _ _))
    clear hp1
    obtain ⟨c0, c1, c2, c3, c4⟩ := five_cells HX1.out
    have y0 := HX1.out.thaw 0
    have y1 := HX1.out.thaw 1
    have y2 := HX1.out.thaw 2
    have y3 := HX1.out.thaw 3
    have y4 := HX1.out.thaw 4
    go_wp2_with fail
    have HEN := putFive_blk HX1.out (.int .i64 27) (.int .i64 0) (.string ⟨#[]⟩) (.slice none 0 0) (.slice none 0 0)
    have HFI := tree_fin HG.out HF.out HU.out H0LT.out HP1.out (.int .i64 27) (.int .i64 0) (.string ⟨#[]⟩) (.slice none 0 0) (.slice none 0 0)
    unfold putFive at HEN HFI
    obtain ⟨k0, k1, k2, k3, k4⟩ := five_cells HEN
    refine bodyPost_ret (v := .agg #[.int .i64 27, .int .i64 0, .string ⟨#[]⟩, .slice none 0 0, .slice none 0 0]) (by simp [results, Tryz.results153, go_sem, k0, k1, k2, k3, k4]) rfl ?_
    unfold TreeOut
    rw [HR2.out]
    exact HFI
end Go.Proofs.YtjedahcpkcgpeaaGreatDoor

/-
  Walks of layer 4: a type.
-/
namespace Go.Proofs.YtjedahcpkcgpeaaGreatDoor
open Go Go.RowKit
set_option linter.unusedSimpArgs false
theorem trees_two {w1 : World} {B : Nat} {t u : Pl.Syn} {x0 x1 x2 x3 x4 y0 y1 y2 y3 y4 : Value} (hB : B ≤ w1.heap.size) (hx : SynV w1 (fun b => B ≤ b ∧ b < w1.heap.size) t (.agg #[x0, x1, x2, x3, x4])) (hy : SynV w1 (fun b => B ≤ b ∧ b < w1.heap.size) u (.agg #[y0, y1, y2, y3, y4])) :
    SynSl (w1.alloc (.cells #[x0, x1, x2, x3, x4, y0, y1, y2, y3, y4] 27)) (fun b => B ≤ b ∧ b < (w1.alloc (.cells #[x0, x1, x2, x3, x4, y0, y1, y2, y3, y4] 27)).heap.size) (.slice (some ⟨w1.heap.size, 0, none⟩) 2 2) [t, u] := by
  have hb : Below w1.heap.size w1 (w1.alloc (.cells #[x0, x1, x2, x3, x4, y0, y1, y2, y3, y4] 27)) := (Below.refl _ _).alloc (Nat.le_refl _) _
  have hk := blk_new w1 #[x0, x1, x2, x3, x4, y0, y1, y2, y3, y4] 27
  have up : ∀ {a : Pl.Syn} {v : Value}, SynV w1 (fun b => B ≤ b ∧ b < w1.heap.size) a v → SynV (w1.alloc (.cells #[x0, x1, x2, x3, x4, y0, y1, y2, y3, y4] 27)) (fun b => B ≤ b ∧ b < (w1.alloc (.cells #[x0, x1, x2, x3, x4, y0, y1, y2, y3, y4] 27)).heap.size) a v := fun h => (h.keep (fun b h => hb.block b h.2)).mono (fun b h => ⟨h.1, Nat.lt_of_lt_of_le h.2 hb.size⟩)
  refine ⟨_, 2, rfl, Nat.le_refl _, by unfold maxLen; omega, fun h => (by cases h), Or.inr ⟨w1.heap.size, 0, rfl, ⟨hB, hk.lt⟩, (kidsAt_iff _ _ _ _ _).2 fun j hj => ?_⟩⟩
  match j, hj with
  | 0, _ => exact ⟨_, ⟨x0, x1, x2, x3, x4, rfl, hk.cell 0 _ rfl, hk.cell 1 _ rfl, hk.cell 2 _ rfl, hk.cell 3 _ rfl, hk.cell 4 _ rfl⟩, up hx⟩
  | 1, _ => exact ⟨_, ⟨y0, y1, y2, y3, y4, rfl, hk.cell 5 _ rfl, hk.cell 6 _ rfl, hk.cell 7 _ rfl, hk.cell 8 _ rfl, hk.cell 9 _ rfl⟩, up hy⟩
set_option maxRecDepth 100000 in
set_option maxHeartbeats 8000000 in
theorem ptyp_any (s : Src) (g i : Nat) (prod typ : Nat → Pl.PR Pl.Syn) (hprod : ∀ W, PAt W g s i → Calls Tryz.prog 68 #[.pointer (some ⟨g, 0, none⟩)] W (TreeOut s g (prod i) W)) (hgo : ∀ t j, prod i = .ok t j → i < j) (htyp : ∀ W j, i < j → PAt W g s j → Calls Tryz.prog 39 #[.pointer (some ⟨g, 0, none⟩)] W (TreeOut s g (typ j) W)) (w : World) (h : PAt w g s i) :
    Calls Tryz.prog 39 #[.pointer (some ⟨g, 0, none⟩)] w (TreeOut s g ((prod i).then fun t j => if Pl.passes s.ts j [45, 62] then (typ (j + 1)).then fun u k => .ok (Pl.nd 3 [t, u]) k else .ok t j) w) := by
  have HP := Lib.hid h
  have HG := Lib.hid h.blk.lt
  have HPS := Lib.hid (fun W j (hW : PAt W g s j) => ppass_any s g j [45, 62] (by decide) W hW)
  have hmk : (Pl.mk [45, 62] : ByteArray) = ⟨#[45, 62]⟩ := rfl
  rw [hmk] at HPS
  have HPR := Lib.hid hprod
  have HTY := Lib.hid htyp
  have HGO := Lib.hid hgo
  obtain ⟨r, hr⟩ : ∃ r, r = ((prod i).then fun t j => if Pl.passes s.ts j [45, 62] then (typ (j + 1)).then fun u k => (.ok (Pl.nd 3 [t, u]) k : Pl.PR Pl.Syn) else .ok t j) := ⟨_, rfl⟩
  rw [← hr]
  generalize prod i = rn at *
  have HR := Lib.hid hr
  have HB0 := Lib.hid (show Below w.heap.size w (w.alloc (.cells #[.int .i64 0, .int .i64 0, .string ⟨#[]⟩, .slice none 0 0, .slice none 0 0] 27)) from (Below.refl _ _).alloc (Nat.le_refl _) _)
  have HX0 := Lib.hid (blk_new w #[.int .i64 0, .int .i64 0, .string ⟨#[]⟩, .slice none 0 0, .slice none 0 0] 27)
  have HP0 := Lib.hid (HP.out.below HB0.out)
  have H0LT := Lib.hid HX0.out.lt
  clear h hr hmk hprod htyp hgo
  go_enter Tryz.func39, Tryz.ntmps39
  go_wp2_with fail
  have hmc := HPR.out _ HP0.out
  generalize w.alloc (.cells #[.int .i64 0, .int .i64 0, .string ⟨#[]⟩, .slice none 0 0, .slice none 0 0] 27) = w0 at *
  refine hmc.mono ?_
  rintro e w2 ⟨hq, hf⟩
  have HF2 := Lib.hid ((fr_below (o := (· = g)) HB0.out).trans hf)
  have HX2 := Lib.hid (HX0.out.of_eq (hf.block HX0.out.lt (fun e => by have := HG.out; omega)))
  have HW1 := Lib.hid hf.size
  clear hmc hf
  cases rn with
  | bad j =>
    have hq' : e = faultAt s j := hq
    subst hq'
    refine ⟨rfl, ?_⟩
    unfold TreeOut
    rw [show r = .bad j from HR.out]
    exact ⟨rfl, HF2.out⟩
  | ok t j =>
    obtain ⟨v, rfl, hu, hp2⟩ := hq
    have hij := HGO.out _ _ rfl
    obtain ⟨x0, x1, x2, na, nl, nc, la, ll, lc, rfl⟩ := tree_open hu
    have HBA := Lib.hid (show Below w2.heap.size w2 (w2.alloc (.cells #[.int .i64 x0, .int .i64 x1, .string x2, .slice na nl nc, .slice la ll lc] 27)) from (Below.refl _ _).alloc (Nat.le_refl _) _)
    have HZ3 := Lib.hid (blk_new w2 #[.int .i64 x0, .int .i64 x1, .string x2, .slice na nl nc, .slice la ll lc] 27)
    have HU3 := Lib.hid (hu.keep (fun b h => HBA.out.block b h.2))
    have HP3 := Lib.hid (hp2.below HBA.out)
    have HX3 := Lib.hid (HX2.out.of_eq (HBA.out.block _ HX2.out.lt))
    have HF3 := Lib.hid (HF2.out.trans (fr_below HBA.out))
    have HR2 := Lib.hid (show r = if Pl.passes s.ts j [45, 62] then (typ (j + 1)).then fun u k => .ok (Pl.nd 3 [t, u]) k else .ok t j from HR.out)
    clear hu hp2
    go_wp2_with fail
    have hnc := HPS.out _ _ HP3.out
    generalize Pl.passes s.ts j [45, 62] = qb at *
    generalize w2.alloc (.cells #[.int .i64 x0, .int .i64 x1, .string x2, .slice na nl nc, .slice la ll lc] 27) = w3 at *
    refine hnc.mono ?_
    rintro e w4 ⟨rfl, hp4, hf4⟩
    have HF4 := Lib.hid (HF3.out.trans hf4)
    have HX4 := Lib.hid (HX3.out.of_eq (hf4.block HX3.out.lt (fun e => by have := HG.out; omega)))
    have HZ4 := Lib.hid (HZ3.out.of_eq (hf4.block HZ3.out.lt (fun e => by have := HG.out; have := HW1.out; have := H0LT.out; omega)))
    have HU4 := Lib.hid ((HU3.out.keep (fun b h => hf4.block (Nat.lt_trans h.2 HZ3.out.lt) (fun e => by have := HG.out; have := H0LT.out; omega))).mono (Q := fun b => w0.heap.size ≤ b ∧ b < w4.heap.size) (fun b h => ⟨h.1, Nat.lt_of_lt_of_le (Nat.lt_trans h.2 HZ3.out.lt) hf4.size⟩))
    have HW04 := Lib.hid (show w0.heap.size ≤ w4.heap.size from Nat.le_trans HW1.out (Nat.le_trans (Nat.le_of_lt HZ3.out.lt) hf4.size))
    have HW2L := Lib.hid (show w2.heap.size < w4.heap.size from HZ4.out.lt)
    clear hf4 hnc
    obtain ⟨z0, z1, z2, z3, z4⟩ := five_cells HZ4.out
    cases qb
    · have HP4 := Lib.hid (show PAt w4 g s j from hp4)
      have HR4 := Lib.hid (show r = .ok t j from HR2.out)
      clear hp4
      obtain ⟨c0, c1, c2, c3, c4⟩ := five_cells HX4.out
      have y0 := HX4.out.thaw 0
      have y1 := HX4.out.thaw 1
      have y2 := HX4.out.thaw 2
      have y3 := HX4.out.thaw 3
      have y4 := HX4.out.thaw 4
      go_wp2_with fail
      have HEN := putFive_blk HX4.out (.int .i64 x0) (.int .i64 x1) (.string x2) (.slice na nl nc) (.slice la ll lc)
      have HFI := tree_fin HG.out HF4.out HU4.out H0LT.out HP4.out (.int .i64 x0) (.int .i64 x1) (.string x2) (.slice na nl nc) (.slice la ll lc)
      unfold putFive at HEN HFI
      obtain ⟨k0, k1, k2, k3, k4⟩ := five_cells HEN
      refine bodyPost_ret (v := .agg #[.int .i64 x0, .int .i64 x1, .string x2, .slice na nl nc, .slice la ll lc]) (by simp [results, Tryz.results39, go_sem, k0, k1, k2, k3, k4]) rfl ?_
      unfold TreeOut
      rw [HR4.out]
      exact HFI
    · have HP4 := Lib.hid (show PAt w4 g s (j + 1) from hp4)
      have HR4 := Lib.hid (show r = (typ (j + 1)).then fun u k => .ok (Pl.nd 3 [t, u]) k from HR2.out)
      have HPD := Lib.hid (HP4.out.below (Below.refl w4.heap.size w4).drew)
      have HTC := Lib.hid (HTY.out _ (j + 1) (by omega) HPD.out)
      clear hp4
      go_wp2_with fail
      cases hty : typ (j + 1) with
      | bad q =>
        rw [hty] at HTC HR4
        have HR5 := Lib.hid (HR4.out.trans (Pl.PR.then_bad _ _))
        refine wp_region_any (by kernel_rfl) ?_
        change wpAny _ _ _ _ _ _ _ (World.drew _)
        refine wpAny_ready (rs := [0, 1]) (by kernel_rfl) (by simp) ?_
        refine AllReady.cons rfl (fun K hK => ?_) (AllReady.cons rfl (fun K hK => ?_) AllReady.nil)
        · go_simp
          refine hK _ _ ?_
          clear hK K
          refine wpAny_ready (rs := [1]) (by kernel_rfl) (by simp) ?_
          refine AllReady.cons rfl (fun K hK => ?_) AllReady.nil
          go_simp
          refine hK _ _ ?_
          clear hK K
          refine wpAny_ready (rs := [2]) (by kernel_rfl) (by simp) ?_
          refine AllReady.cons rfl (fun K hK => ?_) AllReady.nil
          go_simp
          go_wp2_with fail
          refine HTC.out.mono ?_
          rintro e w5 hq5
          have hq6 : e = faultAt s q ∧ Fr (· = g) (· = g) w4.drew w5 := hq5
          obtain ⟨rfl, hf5⟩ := hq6
          refine ⟨rfl, ?_⟩
          unfold TreeOut
          rw [HR5.out]
          exact ⟨rfl, HF4.out.trans ((fr_below (Below.refl w4.heap.size w4).drew).trans hf5)⟩
        · go_simp
          refine hK _ _ ?_
          clear hK K
          refine wpAny_ready (rs := [0, 2]) (by kernel_rfl) (by simp) ?_
          refine AllReady.cons rfl (fun K hK => ?_) (AllReady.cons rfl (fun K hK => ?_) AllReady.nil)
          · go_simp
            refine hK _ _ ?_
            clear hK K
            refine wpAny_ready (rs := [2]) (by kernel_rfl) (by simp) ?_
            refine AllReady.cons rfl (fun K hK => ?_) AllReady.nil
            go_simp
            go_wp2_with fail
            refine HTC.out.mono ?_
            rintro e w5 hq5
            have hq6 : e = faultAt s q ∧ Fr (· = g) (· = g) w4.drew w5 := hq5
            obtain ⟨rfl, hf5⟩ := hq6
            refine ⟨rfl, ?_⟩
            unfold TreeOut
            rw [HR5.out]
            exact ⟨rfl, HF4.out.trans ((fr_below (Below.refl w4.heap.size w4).drew).trans hf5)⟩
          · go_simp
            go_wp2_with fail
            refine HTC.out.mono ?_
            rintro e w5 hq5
            have hq6 : e = faultAt s q ∧ Fr (· = g) (· = g) w4.drew w5 := hq5
            obtain ⟨rfl, hf5⟩ := hq6
            refine ⟨rfl, ?_⟩
            unfold TreeOut
            rw [HR5.out]
            exact ⟨rfl, HF4.out.trans ((fr_below (Below.refl w4.heap.size w4).drew).trans hf5)⟩
      | ok y q =>
        rw [hty] at HTC HR4
        have HR5 := Lib.hid (HR4.out.trans (Pl.PR.then_ok _ _ _))
        refine wp_region_any (by kernel_rfl) ?_
        change wpAny _ _ _ _ _ _ _ (World.drew _)
        refine wpAny_ready (rs := [0, 1]) (by kernel_rfl) (by simp) ?_
        refine AllReady.cons rfl (fun K hK => ?_) (AllReady.cons rfl (fun K hK => ?_) AllReady.nil)
        · go_simp
          refine hK _ _ ?_
          clear hK K
          refine wpAny_ready (rs := [1]) (by kernel_rfl) (by simp) ?_
          refine AllReady.cons rfl (fun K hK => ?_) AllReady.nil
          go_simp
          refine hK _ _ ?_
          clear hK K
          refine wpAny_ready (rs := [2]) (by kernel_rfl) (by simp) ?_
          refine AllReady.cons rfl (fun K hK => ?_) AllReady.nil
          go_simp
          go_wp2_with fail
          refine HTC.out.mono ?_
          rintro e w5 hq5
          have hq6 : (∃ v, e = .returned v ∧ SynV w5 (fun b => w4.drew.heap.size ≤ b ∧ b < w5.heap.size) y v ∧ PAt w5 g s q) ∧ Fr (· = g) (· = g) w4.drew w5 := hq5
          obtain ⟨⟨v, rfl, hu5, hp5⟩, hf5⟩ := hq6
          obtain ⟨y0, y1, y2, ma, ml, mc, ka, kl, kc, rfl⟩ := tree_open hu5
          have hd : w4.drew.heap.size = w4.heap.size := rfl
          have HF5 := Lib.hid (HF4.out.trans ((fr_below (Below.refl w4.heap.size w4).drew).trans hf5))
          have hs5 : w4.heap.size ≤ w5.heap.size := hf5.size
          have HX5 := Lib.hid (HX4.out.of_eq (hf5.block HX4.out.lt (fun e => by have := HG.out; omega)))
          have HZ5 := Lib.hid (HZ4.out.of_eq (hf5.block HZ4.out.lt (fun e => by have := HG.out; have := HW1.out; have := H0LT.out; have := HW2L.out; omega)))
          obtain ⟨r0, r1, r2, r3, r4⟩ := five_cells HZ5.out
          have hsm : Same (fun b => w0.heap.size ≤ b ∧ b < w4.heap.size) w4 w5 := fun b h => hf5.block (show b < w4.drew.heap.size from h.2) (fun e => by have := h.1; have := HG.out; have := H0LT.out; omega)
          have hxt := (HU4.out.keep hsm).mono (Q := fun b => w0.heap.size ≤ b ∧ b < w5.heap.size) (fun b h => ⟨h.1, Nat.lt_of_lt_of_le h.2 hs5⟩)
          have hyt := hu5.mono (Q := fun b => w0.heap.size ≤ b ∧ b < w5.heap.size) (fun b h => ⟨by have := HW04.out; omega, h.2⟩)
          have HBT := Lib.hid (show Below w5.heap.size w5 (w5.alloc (.cells #[.int .i64 x0, .int .i64 x1, .string x2, .slice na nl nc, .slice la ll lc, .int .i64 y0, .int .i64 y1, .string y2, .slice ma ml mc, .slice ka kl kc] 27)) from (Below.refl _ _).alloc (Nat.le_refl _) _)
          have HU := Lib.hid (synV_make (op := 3) (n := 0) (tx := ByteArray.empty) (ns := []) (Nat.zero_le _) (strs_none _ _) (trees_two (B := w0.heap.size) (by have := HW04.out; omega) hxt hyt))
          have HP6 := Lib.hid (hp5.below HBT.out)
          have HX6 := Lib.hid (HX5.out.of_eq (HBT.out.block _ HX5.out.lt))
          have HF6 := Lib.hid (HF5.out.trans (fr_below HBT.out))
          obtain ⟨c0, c1, c2, c3, c4⟩ := five_cells HX6.out
          have f0 := HX6.out.thaw 0
          have f1 := HX6.out.thaw 1
          have f2 := HX6.out.thaw 2
          have f3 := HX6.out.thaw 3
          have f4 := HX6.out.thaw 4
          clear hq5 hu5 hp5 hf5 hxt hyt
          refine hK _ _ ?_
          clear hK K
          refine wpAny_ready (rs := [3]) (by kernel_rfl) (by simp) ?_
          refine AllReady.cons rfl (fun K hK => ?_) AllReady.nil
          go_simp
          refine hK _ _ ?_
          clear hK K
          refine wpAny_ready (rs := [4]) (by kernel_rfl) (by simp) ?_
          refine AllReady.cons rfl (fun K hK => ?_) AllReady.nil
          go_simp
          refine hK _ _ ?_
          clear hK K
          refine wpAny_ready (rs := [5]) (by kernel_rfl) (by simp) ?_
          refine AllReady.cons rfl (fun K hK => ?_) AllReady.nil
          go_simp
          refine hK _ _ ?_
          clear hK K
          refine wpAny_done (by kernel_rfl) ?_ _
          go_wp2_with fail
          have HEN := putFive_blk HX6.out (.int .i64 3) (.int .i64 0) (.string ⟨#[]⟩) (.slice none 0 0) (.slice (some ⟨w5.heap.size, 0, none⟩) 2 2)
          have HFI := tree_fin HG.out HF6.out HU.out H0LT.out HP6.out (.int .i64 3) (.int .i64 0) (.string ⟨#[]⟩) (.slice none 0 0) (.slice (some ⟨w5.heap.size, 0, none⟩) 2 2)
          unfold putFive at HEN HFI
          obtain ⟨k0, k1, k2, k3, k4⟩ := five_cells HEN
          refine bodyPost_ret (v := .agg #[.int .i64 3, .int .i64 0, .string ⟨#[]⟩, .slice none 0 0, .slice (some ⟨w5.heap.size, 0, none⟩) 2 2]) (by simp [results, Tryz.results39, go_sem, k0, k1, k2, k3, k4]) rfl ?_
          unfold TreeOut
          rw [HR5.out]
          exact HFI
        · go_simp
          refine hK _ _ ?_
          clear hK K
          refine wpAny_ready (rs := [0, 2]) (by kernel_rfl) (by simp) ?_
          refine AllReady.cons rfl (fun K hK => ?_) (AllReady.cons rfl (fun K hK => ?_) AllReady.nil)
          · go_simp
            refine hK _ _ ?_
            clear hK K
            refine wpAny_ready (rs := [2]) (by kernel_rfl) (by simp) ?_
            refine AllReady.cons rfl (fun K hK => ?_) AllReady.nil
            go_simp
            go_wp2_with fail
            refine HTC.out.mono ?_
            rintro e w5 hq5
            have hq6 : (∃ v, e = .returned v ∧ SynV w5 (fun b => w4.drew.heap.size ≤ b ∧ b < w5.heap.size) y v ∧ PAt w5 g s q) ∧ Fr (· = g) (· = g) w4.drew w5 := hq5
            obtain ⟨⟨v, rfl, hu5, hp5⟩, hf5⟩ := hq6
            obtain ⟨y0, y1, y2, ma, ml, mc, ka, kl, kc, rfl⟩ := tree_open hu5
            have hd : w4.drew.heap.size = w4.heap.size := rfl
            have HF5 := Lib.hid (HF4.out.trans ((fr_below (Below.refl w4.heap.size w4).drew).trans hf5))
            have hs5 : w4.heap.size ≤ w5.heap.size := hf5.size
            have HX5 := Lib.hid (HX4.out.of_eq (hf5.block HX4.out.lt (fun e => by have := HG.out; omega)))
            have HZ5 := Lib.hid (HZ4.out.of_eq (hf5.block HZ4.out.lt (fun e => by have := HG.out; have := HW1.out; have := H0LT.out; have := HW2L.out; omega)))
            obtain ⟨r0, r1, r2, r3, r4⟩ := five_cells HZ5.out
            have hsm : Same (fun b => w0.heap.size ≤ b ∧ b < w4.heap.size) w4 w5 := fun b h => hf5.block (show b < w4.drew.heap.size from h.2) (fun e => by have := h.1; have := HG.out; have := H0LT.out; omega)
            have hxt := (HU4.out.keep hsm).mono (Q := fun b => w0.heap.size ≤ b ∧ b < w5.heap.size) (fun b h => ⟨h.1, Nat.lt_of_lt_of_le h.2 hs5⟩)
            have hyt := hu5.mono (Q := fun b => w0.heap.size ≤ b ∧ b < w5.heap.size) (fun b h => ⟨by have := HW04.out; omega, h.2⟩)
            have HBT := Lib.hid (show Below w5.heap.size w5 (w5.alloc (.cells #[.int .i64 x0, .int .i64 x1, .string x2, .slice na nl nc, .slice la ll lc, .int .i64 y0, .int .i64 y1, .string y2, .slice ma ml mc, .slice ka kl kc] 27)) from (Below.refl _ _).alloc (Nat.le_refl _) _)
            have HU := Lib.hid (synV_make (op := 3) (n := 0) (tx := ByteArray.empty) (ns := []) (Nat.zero_le _) (strs_none _ _) (trees_two (B := w0.heap.size) (by have := HW04.out; omega) hxt hyt))
            have HP6 := Lib.hid (hp5.below HBT.out)
            have HX6 := Lib.hid (HX5.out.of_eq (HBT.out.block _ HX5.out.lt))
            have HF6 := Lib.hid (HF5.out.trans (fr_below HBT.out))
            obtain ⟨c0, c1, c2, c3, c4⟩ := five_cells HX6.out
            have f0 := HX6.out.thaw 0
            have f1 := HX6.out.thaw 1
            have f2 := HX6.out.thaw 2
            have f3 := HX6.out.thaw 3
            have f4 := HX6.out.thaw 4
            clear hq5 hu5 hp5 hf5 hxt hyt
            refine hK _ _ ?_
            clear hK K
            refine wpAny_ready (rs := [3]) (by kernel_rfl) (by simp) ?_
            refine AllReady.cons rfl (fun K hK => ?_) AllReady.nil
            go_simp
            refine hK _ _ ?_
            clear hK K
            refine wpAny_ready (rs := [4]) (by kernel_rfl) (by simp) ?_
            refine AllReady.cons rfl (fun K hK => ?_) AllReady.nil
            go_simp
            refine hK _ _ ?_
            clear hK K
            refine wpAny_ready (rs := [5]) (by kernel_rfl) (by simp) ?_
            refine AllReady.cons rfl (fun K hK => ?_) AllReady.nil
            go_simp
            refine hK _ _ ?_
            clear hK K
            refine wpAny_done (by kernel_rfl) ?_ _
            go_wp2_with fail
            have HEN := putFive_blk HX6.out (.int .i64 3) (.int .i64 0) (.string ⟨#[]⟩) (.slice none 0 0) (.slice (some ⟨w5.heap.size, 0, none⟩) 2 2)
            have HFI := tree_fin HG.out HF6.out HU.out H0LT.out HP6.out (.int .i64 3) (.int .i64 0) (.string ⟨#[]⟩) (.slice none 0 0) (.slice (some ⟨w5.heap.size, 0, none⟩) 2 2)
            unfold putFive at HEN HFI
            obtain ⟨k0, k1, k2, k3, k4⟩ := five_cells HEN
            refine bodyPost_ret (v := .agg #[.int .i64 3, .int .i64 0, .string ⟨#[]⟩, .slice none 0 0, .slice (some ⟨w5.heap.size, 0, none⟩) 2 2]) (by simp [results, Tryz.results39, go_sem, k0, k1, k2, k3, k4]) rfl ?_
            unfold TreeOut
            rw [HR5.out]
            exact HFI
          · go_simp
            go_wp2_with fail
            refine HTC.out.mono ?_
            rintro e w5 hq5
            have hq6 : (∃ v, e = .returned v ∧ SynV w5 (fun b => w4.drew.heap.size ≤ b ∧ b < w5.heap.size) y v ∧ PAt w5 g s q) ∧ Fr (· = g) (· = g) w4.drew w5 := hq5
            obtain ⟨⟨v, rfl, hu5, hp5⟩, hf5⟩ := hq6
            obtain ⟨y0, y1, y2, ma, ml, mc, ka, kl, kc, rfl⟩ := tree_open hu5
            have hd : w4.drew.heap.size = w4.heap.size := rfl
            have HF5 := Lib.hid (HF4.out.trans ((fr_below (Below.refl w4.heap.size w4).drew).trans hf5))
            have hs5 : w4.heap.size ≤ w5.heap.size := hf5.size
            have HX5 := Lib.hid (HX4.out.of_eq (hf5.block HX4.out.lt (fun e => by have := HG.out; omega)))
            have HZ5 := Lib.hid (HZ4.out.of_eq (hf5.block HZ4.out.lt (fun e => by have := HG.out; have := HW1.out; have := H0LT.out; have := HW2L.out; omega)))
            obtain ⟨r0, r1, r2, r3, r4⟩ := five_cells HZ5.out
            have hsm : Same (fun b => w0.heap.size ≤ b ∧ b < w4.heap.size) w4 w5 := fun b h => hf5.block (show b < w4.drew.heap.size from h.2) (fun e => by have := h.1; have := HG.out; have := H0LT.out; omega)
            have hxt := (HU4.out.keep hsm).mono (Q := fun b => w0.heap.size ≤ b ∧ b < w5.heap.size) (fun b h => ⟨h.1, Nat.lt_of_lt_of_le h.2 hs5⟩)
            have hyt := hu5.mono (Q := fun b => w0.heap.size ≤ b ∧ b < w5.heap.size) (fun b h => ⟨by have := HW04.out; omega, h.2⟩)
            have HBT := Lib.hid (show Below w5.heap.size w5 (w5.alloc (.cells #[.int .i64 x0, .int .i64 x1, .string x2, .slice na nl nc, .slice la ll lc, .int .i64 y0, .int .i64 y1, .string y2, .slice ma ml mc, .slice ka kl kc] 27)) from (Below.refl _ _).alloc (Nat.le_refl _) _)
            have HU := Lib.hid (synV_make (op := 3) (n := 0) (tx := ByteArray.empty) (ns := []) (Nat.zero_le _) (strs_none _ _) (trees_two (B := w0.heap.size) (by have := HW04.out; omega) hxt hyt))
            have HP6 := Lib.hid (hp5.below HBT.out)
            have HX6 := Lib.hid (HX5.out.of_eq (HBT.out.block _ HX5.out.lt))
            have HF6 := Lib.hid (HF5.out.trans (fr_below HBT.out))
            obtain ⟨c0, c1, c2, c3, c4⟩ := five_cells HX6.out
            have f0 := HX6.out.thaw 0
            have f1 := HX6.out.thaw 1
            have f2 := HX6.out.thaw 2
            have f3 := HX6.out.thaw 3
            have f4 := HX6.out.thaw 4
            clear hq5 hu5 hp5 hf5 hxt hyt
            refine hK _ _ ?_
            clear hK K
            refine wpAny_ready (rs := [0]) (by kernel_rfl) (by simp) ?_
            refine AllReady.cons rfl (fun K hK => ?_) AllReady.nil
            go_simp
            refine hK _ _ ?_
            clear hK K
            refine wpAny_ready (rs := [3]) (by kernel_rfl) (by simp) ?_
            refine AllReady.cons rfl (fun K hK => ?_) AllReady.nil
            go_simp
            refine hK _ _ ?_
            clear hK K
            refine wpAny_ready (rs := [4]) (by kernel_rfl) (by simp) ?_
            refine AllReady.cons rfl (fun K hK => ?_) AllReady.nil
            go_simp
            refine hK _ _ ?_
            clear hK K
            refine wpAny_ready (rs := [5]) (by kernel_rfl) (by simp) ?_
            refine AllReady.cons rfl (fun K hK => ?_) AllReady.nil
            go_simp
            refine hK _ _ ?_
            clear hK K
            refine wpAny_done (by kernel_rfl) ?_ _
            go_wp2_with fail
            have HEN := putFive_blk HX6.out (.int .i64 3) (.int .i64 0) (.string ⟨#[]⟩) (.slice none 0 0) (.slice (some ⟨w5.heap.size, 0, none⟩) 2 2)
            have HFI := tree_fin HG.out HF6.out HU.out H0LT.out HP6.out (.int .i64 3) (.int .i64 0) (.string ⟨#[]⟩) (.slice none 0 0) (.slice (some ⟨w5.heap.size, 0, none⟩) 2 2)
            unfold putFive at HEN HFI
            obtain ⟨k0, k1, k2, k3, k4⟩ := five_cells HEN
            refine bodyPost_ret (v := .agg #[.int .i64 3, .int .i64 0, .string ⟨#[]⟩, .slice none 0 0, .slice (some ⟨w5.heap.size, 0, none⟩) 2 2]) (by simp [results, Tryz.results39, go_sem, k0, k1, k2, k3, k4]) rfl ?_
            unfold TreeOut
            rw [HR5.out]
            exact HFI
end Go.Proofs.YtjedahcpkcgpeaaGreatDoor
