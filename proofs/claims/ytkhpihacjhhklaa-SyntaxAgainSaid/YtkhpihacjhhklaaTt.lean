/-
  Walks of layer 3: the example of the chapter; trees that are few.
-/
import Derived.Test.YtkhpihacjhhklaaTs
import Derived.Test.YtkhpihacjhhklaaTf
namespace Go.Proofs.Ytkhpihacjhhklaa
open Go Go.RowKit
open Pl (Syn)
set_option linter.unusedSimpArgs false

def xB : ByteArray := ⟨#[120]⟩
def eB : ByteArray := ⟨#[]⟩
def exVar : Syn := ⟨23, 0, eB, [xB], []⟩
def exInt : Syn := ⟨21, 1, eB, [], []⟩
def exOp : Syn := ⟨32, 7, eB, [], [exVar, exInt]⟩
def ex : Syn := ⟨25, 0, xB, [], [exOp]⟩
theorem ex_size : ex.size = 4 := by
  simp [ex, exOp, exVar, exInt, Pl.size_eq, Pl.sizes_cons, Pl.sizes_nil]
theorem ex_depth : ex.depth = 3 := by
  simp [ex, exOp, exVar, exInt, Pl.depth_eq, Pl.depths_cons, Pl.depths_nil]
theorem ex_big : ex.big = 5 := by
  simp [ex, exOp, exVar, exInt, Pl.big_eq, Pl.bigs_cons, Pl.bigs_nil]
theorem ex_paths : ex.paths = [[xB]] := by
  simp [ex, exOp, exVar, exInt, Pl.paths_eq, Pl.pathss_cons, Pl.pathss_nil, Pl.hasPath]
theorem lowS_x : Pl.lowS xB = true := by
  unfold Pl.lowS
  rw [Pl.toList_eq]
  decide
theorem emptyS_e : Pl.emptyS eB = true := by
  unfold Pl.emptyS
  rw [Pl.toList_eq]
  rfl
theorem ex_ok : ex.ok 0 = true := by
  simp [ex, exOp, exVar, exInt, Pl.ok_eq, Pl.oks_cons, Pl.oks_nil, Pl.form, Pl.num, Pl.txt, Pl.nam, Pl.core, Pl.hasPath, Pl.lowEnd, Pl.pathOk, Pl.path, Pl.parts, Pl.bel, Pl.cat, lowS_x, emptyS_e]
theorem ex_formed : Pl.formed ex = true := by
  rw [Pl.formed_ok, ex_size, ex_depth, ex_ok]; rfl
theorem ex_any : anyP ex = true := by unfold anyP; rw [ex_formed]; rfl
theorem ex_valid3 : validP 3 ex = true := by unfold validP; rw [ex_formed]; rfl
theorem ex_valid1 : validP 1 ex = false := by unfold validP; rw [ex_formed]; rfl
/-- the example in memory -/
def exW (w : World) : World := (((w.alloc (.cells #[.string xB] 9)).alloc (.cells #[.int .i64 23, .int .i64 0, .string eB, .slice (some ⟨w.heap.size, 0, none⟩) 1 1, .slice none 0 0, .int .i64 21, .int .i64 1, .string eB, .slice none 0 0, .slice none 0 0] 25)).alloc (.cells #[.int .i64 32, .int .i64 7, .string eB, .slice none 0 0, .slice (some ⟨w.heap.size + 1, 0, none⟩) 2 2] 25)).alloc (.cells #[.int .i64 25, .int .i64 0, .string xB, .slice none 0 0, .slice (some ⟨w.heap.size + 1 + 1, 0, none⟩) 1 1] 25)
theorem exW_below (w : World) : Below w.heap.size w (exW w) := ((((Below.refl _ _).alloc (Nat.le_refl _) _).alloc (by simp) _).alloc (by simp; omega) _).alloc (by simp; omega) _
theorem exW_0 (w : World) : Blk (exW w) w.heap.size 9 #[.string xB] := (((blk_new w #[.string xB] 9).alloc _).alloc _).alloc _
theorem exW_1 (w : World) : Blk (exW w) (w.heap.size + 1) 25 #[.int .i64 23, .int .i64 0, .string eB, .slice (some ⟨w.heap.size, 0, none⟩) 1 1, .slice none 0 0, .int .i64 21, .int .i64 1, .string eB, .slice none 0 0, .slice none 0 0] := by
  have := blk_new (w.alloc (.cells #[.string xB] 9)) #[.int .i64 23, .int .i64 0, .string eB, .slice (some ⟨w.heap.size, 0, none⟩) 1 1, .slice none 0 0, .int .i64 21, .int .i64 1, .string eB, .slice none 0 0, .slice none 0 0] 25
  rw [size_alloc] at this
  exact (this.alloc _).alloc _
theorem exW_2 (w : World) : Blk (exW w) (w.heap.size + 1 + 1) 25 #[.int .i64 32, .int .i64 7, .string eB, .slice none 0 0, .slice (some ⟨w.heap.size + 1, 0, none⟩) 2 2] := by
  have := blk_new ((w.alloc (.cells #[.string xB] 9)).alloc (.cells #[.int .i64 23, .int .i64 0, .string eB, .slice (some ⟨w.heap.size, 0, none⟩) 1 1, .slice none 0 0, .int .i64 21, .int .i64 1, .string eB, .slice none 0 0, .slice none 0 0] 25)) #[.int .i64 32, .int .i64 7, .string eB, .slice none 0 0, .slice (some ⟨w.heap.size + 1, 0, none⟩) 2 2] 25
  rw [size_alloc, size_alloc] at this
  exact this.alloc _
theorem exW_3 (w : World) : Blk (exW w) (w.heap.size + 1 + 1 + 1) 25 #[.int .i64 25, .int .i64 0, .string xB, .slice none 0 0, .slice (some ⟨w.heap.size + 1 + 1, 0, none⟩) 1 1] := by
  have := blk_new (((w.alloc (.cells #[.string xB] 9)).alloc (.cells #[.int .i64 23, .int .i64 0, .string eB, .slice (some ⟨w.heap.size, 0, none⟩) 1 1, .slice none 0 0, .int .i64 21, .int .i64 1, .string eB, .slice none 0 0, .slice none 0 0] 25)).alloc (.cells #[.int .i64 32, .int .i64 7, .string eB, .slice none 0 0, .slice (some ⟨w.heap.size + 1, 0, none⟩) 2 2] 25)) #[.int .i64 25, .int .i64 0, .string xB, .slice none 0 0, .slice (some ⟨w.heap.size + 1 + 1, 0, none⟩) 1 1] 25
  rw [size_alloc, size_alloc, size_alloc] at this
  exact this
theorem strNil (w : World) (P : Nat → Prop) : StrSl w P (.slice none 0 0) [] := ⟨none, 0, rfl, Nat.le_refl _, Nat.zero_le _, fun _ => rfl, fun z hz => (by cases hz), .inl rfl⟩
theorem synNil (w : World) (P : Nat → Prop) : SynSl w P (.slice none 0 0) [] := ⟨none, 0, rfl, Nat.le_refl _, Nat.zero_le _, fun _ => rfl, .inl rfl⟩
theorem exW_syn (w : World) : SynV (exW w) (fun b => b < (exW w).heap.size) ex (.agg #[.int .i64 25, .int .i64 0, .string xB, .slice none 0 0, .slice (some ⟨w.heap.size + 1 + 1, 0, none⟩) 1 1]) := by
  have h0 := exW_0 w
  have h1 := exW_1 w
  have h2 := exW_2 w
  have hx : (1 : Nat) ≤ maxLen := by unfold maxLen; omega
  rw [synV_iff]
  refine ⟨hx, _, _, rfl, strNil _ _, _, 1, rfl, Nat.le_refl _, hx, fun h => (by cases h), .inr ⟨_, 0, rfl, h2.lt, ?_⟩⟩
  rw [kidsAt_iff]
  intro j hj
  have hj0 : j = 0 := by have : j < 1 := hj; omega
  subst hj0
  refine ⟨_, ⟨_, _, _, _, _, rfl, h2.cell 0 _ rfl, h2.cell 1 _ rfl, h2.cell 2 _ rfl, h2.cell 3 _ rfl, h2.cell 4 _ rfl⟩, ?_⟩
  show SynV (exW w) _ exOp _
  rw [synV_iff]
  refine ⟨Nat.zero_le _, _, _, rfl, strNil _ _, _, 2, rfl, Nat.le_refl _, by unfold maxLen; omega, fun h => (by cases h), .inr ⟨_, 0, rfl, h1.lt, ?_⟩⟩
  rw [kidsAt_iff]
  intro j hj
  have hj2 : j < 2 := hj
  match j, hj2 with
  | 0, _ =>
    refine ⟨_, ⟨_, _, _, _, _, rfl, h1.cell 0 _ rfl, h1.cell 1 _ rfl, h1.cell 2 _ rfl, h1.cell 3 _ rfl, h1.cell 4 _ rfl⟩, ?_⟩
    show SynV (exW w) _ exVar _
    rw [synV_iff]
    refine ⟨Nat.zero_le _, _, _, rfl, ⟨_, 1, rfl, Nat.le_refl _, hx, fun h => (by cases h), fun z hz => ?_, .inr ⟨_, 0, rfl, h0.lt, fun j hj => ?_⟩⟩, synNil _ _⟩
    · have : z = xB := by simpa [exVar] using hz
      subst this; exact hx
    · have hj0 : j = 0 := by have : j < 1 := hj; omega
      subst hj0
      exact h0.cell 0 _ rfl
  | 1, _ =>
    refine ⟨_, ⟨_, _, _, _, _, rfl, h1.cell 5 _ rfl, h1.cell 6 _ rfl, h1.cell 7 _ rfl, h1.cell 8 _ rfl, h1.cell 9 _ rfl⟩, ?_⟩
    show SynV (exW w) _ exInt _
    rw [synV_iff]
    exact ⟨Nat.zero_le _, _, _, rfl, strNil _ _, synNil _ _⟩
theorem xB_small : ∀ z ∈ [xB], z.size ≤ maxLen := by
  intro z hz
  have : z = xB := by simpa using hz
  subst this
  exact Nat.le_trans (show xB.size ≤ 1 from Nat.le_refl _) (by unfold maxLen; omega)
set_option maxRecDepth 100000 in
set_option maxHeartbeats 4000000 in
theorem awake_any (w : World) : Calls Try.prog 9 #[] w fun e w' => e = .returned (.bool true) ∧ Below w.heap.size w w' := by
  have hsy := exW_syn w
  have HSY := Lib.hid (fun W (hW : Below (exW w).heap.size (exW w) W) => hsy.keep (Same.of_below hW (fun b hb => hb)))
  have HPW := Lib.hid (fun W (hW : Below (exW w).heap.size (exW w) W) b (hb : b < (exW w).heap.size) => Nat.lt_of_lt_of_le hb hW.size)
  have HB := Lib.hid (exW_below w)
  have HX := Lib.hid (fun W (hW : Below (exW w).heap.size (exW w) W) => (exW_3 w).of_eq (hW.block _ (exW_3 w).lt))
  have hbig : ex.big ≤ 536870912 := by rw [ex_big]; omega
  have hb0 : Below (exW w).heap.size (exW w) (exW w) := Below.refl _ _
  have HP := Lib.hid (paths_any _ ex _ _ (HPW.out _ hb0) (HSY.out _ hb0) hbig)
  have hx := HX.out _ hb0
  have x0 := hx.cell 0 _ rfl
  have x1 := hx.cell 1 _ rfl
  have x2 := hx.cell 2 _ rfl
  have x3 := hx.cell 3 _ rfl
  have x4 := hx.cell 4 _ rfl
  unfold exW xB eB at x0 x1 x2 x3 x4 HP
  clear hsy hx hb0
  go_enter Try.func9, Try.ntmps9
  go_wp2_with fail
  refine HP.out.mono ?_
  rintro e w1 ⟨hr, hb1⟩
  have hb1' : Below (exW w).heap.size (exW w) w1 := hb1
  rcases hr with ⟨_, lv, rfl, hpa⟩ | ⟨h, -⟩
  · have HB1 := Lib.hid hb1'
    rw [ex_paths] at hpa
    obtain ⟨la, lc, rfl, -, hl⟩ := hpa
    rcases hl with hl | ⟨lb, lo, rfl, hlb, hl⟩
    · cases hl
    obtain ⟨ua, un, uc, hc0, hst⟩ := hl 0 (by decide)
    have HU := Lib.hid (fun W (hW : Below w1.heap.size w1 W) => hst.keep (Same.of_below hW (fun b hb => hb)))
    have HC0 := Lib.hid (fun W (hW : Below w1.heap.size w1 W) => (hW.cell (p := ⟨lb, lo + 0, none⟩) hlb).trans hc0)
    have HV3 := Lib.hid (fun W hW => valid_any _ ex 3 W _ (HPW.out W hW) (HSY.out W hW) hbig)
    have HV1 := Lib.hid (fun W hW => valid_any _ ex 1 W _ (HPW.out W hW) (HSY.out W hW) hbig)
    have HSZ := Lib.hid (fun W hW => size_any _ ex W _ (HPW.out W hW) (HSY.out W hW) (by omega))
    have HDP := Lib.hid (fun W hW => depth_any _ ex W _ (HPW.out W hW) (HSY.out W hW) (by omega))
    rw [ex_valid3] at HV3
    rw [ex_valid1] at HV1
    rw [ex_size] at HSZ
    rw [ex_depth] at HDP
    have hx := HX.out _ HB1.out
    have x0 := hx.cell 0 _ rfl
    have x1 := hx.cell 1 _ rfl
    have x2 := hx.cell 2 _ rfl
    have x3 := hx.cell 3 _ rfl
    have x4 := hx.cell 4 _ rfl
    unfold xB at HV3 HV1 HSZ HDP x0 x1 x2 x3 x4
    clear hb1 hb1' hst hc0 hl hx
    go_wp2_with fail
    refine (HV3.out _ HB1.out).mono ?_
    rintro e w2 ⟨rfl, hb2⟩
    have HB2 := Lib.hid (HB1.out.trans (hb2.mono HB1.out.size))
    have HE2 := Lib.hid hb2
    have hx := HX.out _ HB2.out
    have x0 := hx.cell 0 _ rfl
    have x1 := hx.cell 1 _ rfl
    have x2 := hx.cell 2 _ rfl
    have x3 := hx.cell 3 _ rfl
    have x4 := hx.cell 4 _ rfl
    unfold xB at x0 x1 x2 x3 x4
    clear hb2 hx
    go_wp2_with fail
    refine (HV1.out _ HB2.out).mono ?_
    rintro e w3 ⟨rfl, hb3⟩
    have HB3 := Lib.hid (HB2.out.trans (hb3.mono HB2.out.size))
    have HE3 := Lib.hid (HE2.out.trans (hb3.mono HE2.out.size))
    have hx := HX.out _ HB3.out
    have x0 := hx.cell 0 _ rfl
    have x1 := hx.cell 1 _ rfl
    have x2 := hx.cell 2 _ rfl
    have x3 := hx.cell 3 _ rfl
    have x4 := hx.cell 4 _ rfl
    unfold xB at x0 x1 x2 x3 x4
    clear hb3 hx
    go_wp2_with fail
    refine (HSZ.out _ HB3.out).mono ?_
    rintro e w4 ⟨rfl, hb4⟩
    have HB4 := Lib.hid (HB3.out.trans (hb4.mono HB3.out.size))
    have HE4 := Lib.hid (HE3.out.trans (hb4.mono HE3.out.size))
    have hx := HX.out _ HB4.out
    have x0 := hx.cell 0 _ rfl
    have x1 := hx.cell 1 _ rfl
    have x2 := hx.cell 2 _ rfl
    have x3 := hx.cell 3 _ rfl
    have x4 := hx.cell 4 _ rfl
    unfold xB at x0 x1 x2 x3 x4
    clear hb4 hx
    go_wp2_with fail
    refine (HDP.out _ HB4.out).mono ?_
    rintro e w5 ⟨rfl, hb5⟩
    have HB5 := Lib.hid (HB4.out.trans (hb5.mono HB4.out.size))
    have HE5 := Lib.hid (HE4.out.trans (hb5.mono HE4.out.size))
    have y0 := HC0.out _ HE5.out
    rw [Nat.add_zero] at y0
    have hb6 : Below w5.heap.size w5 (w5.alloc (.cells #[.string ⟨#[120]⟩] 9)) := (Below.refl _ _).alloc (Nat.le_refl _) _
    have hst6 : StrSl (w5.alloc (.cells #[.string ⟨#[120]⟩] 9)) (fun _ => True) (.slice (some ⟨w5.heap.size, 0, none⟩) 1 1) [xB] := ⟨_, 1, rfl, Nat.le_refl _, by unfold maxLen; omega, fun h => (by cases h), xB_small, .inr ⟨_, 0, rfl, trivial, fun j hj => by
      have hj0 : j = 0 := by have : j < 1 := hj; omega
      subst hj0
      exact (blk_new w5 #[.string ⟨#[120]⟩] 9).cell 0 _ rfl⟩⟩
    have HEQ := Lib.hid (strsEq_any _ _ _ _ _ _ _ (HU.out _ (HE5.out.trans (hb6.mono HE5.out.size))) hst6)
    have HB6 := Lib.hid (HB5.out.trans (hb6.mono HB5.out.size))
    rw [decide_eq_true (show ([[xB]][0] : List ByteArray) = [xB] from rfl)] at HEQ
    clear hb5 hb6 hst6
    go_wp2_with fail
    refine HEQ.out.mono ?_
    rintro e w7 ⟨rfl, q, rfl⟩
    go_wp2
    go_ret
    exact ⟨rfl, below_drewN (HB.out.trans (HB6.out.mono HB.out.size)) q⟩
  · rw [ex_any] at h; cases h
end Go.Proofs.Ytkhpihacjhhklaa
