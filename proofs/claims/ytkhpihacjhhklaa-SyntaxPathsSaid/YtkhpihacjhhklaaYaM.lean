/-
  Walks of layer 3: lists of paths are compared; SyntaxPaths.
-/
import Derived.Test.YtkhpihacjhhklaaXzM
import Derived.Test.YtkhpihacjhhklaaG16
namespace Go.Proofs.Ytkhpihacjhhklaa
open Go Go.RowKit
open Pl (Syn)
set_option linter.unusedSimpArgs false

theorem same1_any (P Q : Nat → Prop) (v u : Value) (zs : List ByteArray) (w : World) (hz : StrSl w P v zs) (hy : StrSl w Q u zs) :
    Calls Try.prog 44 #[v, u] w fun e w' => e = .returned (.bool true) ∧ Below w.heap.size w w' := by
  have HC := Lib.hid (strsEq_any P Q v u zs zs w hz hy)
  rw [decide_eq_true (show zs = zs from rfl)] at HC
  have HB := Lib.hid (fun q => below_drewN (Below.refl w.heap.size w) q)
  clear hz hy
  go_enter Try.func44, Try.ntmps44
  go_wp2_with fail
  refine HC.out.mono ?_
  rintro e w1 ⟨rfl, q, rfl⟩
  go_wp2
  go_ret
  exact ⟨rfl, HB.out q⟩
set_option maxRecDepth 100000 in
set_option maxHeartbeats 4000000 in
theorem eqPaths_any (P Q : Nat → Prop) (pss : List (List ByteArray)) (w : World) (v u : Value) (hP : ∀ b, P b → b < w.heap.size) (hQ : ∀ b, Q b → b < w.heap.size) (hz : PathsAt w P v pss) (hy : PathsAt w Q u pss) :
    Calls Try.prog 43 #[v, u, .func (.func 44) #[] #[]] w fun e w' => e = .returned (.bool true) ∧ Below w.heap.size w w' := by
  have HZ := Lib.hid hz
  have HY := Lib.hid hy
  have HP := Lib.hid hP
  have HQ := Lib.hid hQ
  obtain ⟨a, c, rfl, h1, h2⟩ := hz
  obtain ⟨a2, c2, rfl, k1, k2⟩ := hy
  unfold maxLen at h1
  have HBL := Lib.hid (Below.refl w.heap.size w)
  obtain ⟨n, hn⟩ : ∃ n, n = pss.length := ⟨_, rfl⟩
  rw [← hn] at HZ HY h1 ⊢
  have HN := Lib.hid hn.symm
  clear h2 k1 k2 hn hP hQ
  go_enter Try.func43, Try.ntmps43
  go_wp2_with fail
  go_loopg [17] (n + 1) (fun g i wr => ∃ k : Nat, k ≤ n ∧ i = .int .i64 k ∧ g = n + 1 - k ∧ Below w.heap.size w wr)
  case atStart => exact ⟨0, by omega, rfl, by omega, HBL.out⟩
  case round =>
    obtain ⟨k, hk, rfl, hg, hbw⟩ := hrel
    have HBW := Lib.hid hbw
    by_cases hlt : k < n
    · have hkl : k < pss.length := by rw [HN.out]; exact hlt
      obtain ⟨za, zc, hz1, -, hz2⟩ := HZ.out.keep (Same.of_below hbw HP.out)
      obtain ⟨ya, yc, hy1, -, hy2⟩ := HY.out.keep (Same.of_below hbw HQ.out)
      injection hz1 with z1 z2 z3
      injection hy1 with y1 y2 y3
      subst z1 z3 y1 y3
      rcases hz2 with hz2 | ⟨b, off, rfl, -, hz2⟩
      · rw [hz2] at hkl; simp at hkl
      rcases hy2 with hy2 | ⟨b2, off2, rfl, -, hy2⟩
      · rw [hy2] at hkl; simp at hkl
      obtain ⟨xa, xn, xc, a0, hs1⟩ := hz2 k hkl
      obtain ⟨ja, jn, jc, b0, hs2⟩ := hy2 k hkl
      have HC := Lib.hid (same1_any P Q _ _ _ wr hs1 hs2)
      clear hz2 hy2 hs1 hs2 z2 y2 hbw
      go_wp2_with fail
      refine HC.out.mono ?_
      rintro e w3 ⟨rfl, hb3⟩
      have HB3 := Lib.hid (belowStep hb3 HBW.out)
      clear hb3 a0 b0
      go_wp2
      go_roundg (gk - 1)
      case measure => omega
      case rel => exact ⟨k + 1, by omega, by go_num, by omega, HB3.out⟩
    · clear hbw
      go_wp2
      go_ret
      exact ⟨rfl, HBW.out⟩
theorem same_any (P Q : Nat → Prop) (pss : List (List ByteArray)) (w : World) (v u : Value) (hP : ∀ b, P b → b < w.heap.size) (hQ : ∀ b, Q b → b < w.heap.size) (hz : PathsAt w P v pss) (hy : PathsAt w Q u pss) :
    Calls Try.prog 23 #[v, u] w fun e w' => e = .returned (.bool true) ∧ Below w.heap.size w w' := by
  have HC := Lib.hid (eqPaths_any P Q pss w v u hP hQ hz hy)
  clear hP hQ hz hy
  go_enter Try.func23, Try.ntmps23
  go_wp2_with fail
  refine HC.out.mono ?_
  rintro e w1 ⟨rfl, hb⟩
  have HB := Lib.hid hb
  clear hb
  go_wp2
  go_ret
  exact ⟨rfl, HB.out⟩
set_option maxRecDepth 100000 in
set_option maxHeartbeats 8000000 in
theorem synPaths_any (P : Nat → Prop) (a : Syn) (w : World) (u : Value) (hP : ∀ i, P i → i < w.heap.size) (ha : SynV w P a u) :
    Calls Try.prog 5 #[u] w fun e w' => e = .returned (.bool true) ∧ Below w.heap.size w w' := by
  have HA := Lib.hid ha
  obtain ⟨na, nn, nc, la, ln, lc, rfl⟩ := ha.form
  have hw0 : Below w.heap.size w (w.alloc (.cells #[.int .i64 a.op, .int .i64 a.n, .string a.s, .slice na nn nc, .slice la ln lc] 25)) := (Below.refl _ _).alloc (Nat.le_refl _) _
  have hbx := blk_new w #[.int .i64 a.op, .int .i64 a.n, .string a.s, .slice na nn nc, .slice la ln lc] 25
  have HW0 := Lib.hid hw0
  have HBX := Lib.hid hbx
  have HP := Lib.hid hP
  clear ha hw0 hbx hP
  go_enter Try.func5, Try.ntmps5
  go_wp2_with fail
  generalize w.alloc (.cells #[.int .i64 a.op, .int .i64 a.n, .string a.s, .slice na nn nc, .slice la ln lc] 25) = w0 at *
  refine (awake_any _).mono ?_
  rintro e w1 ⟨rfl, hb1⟩
  have HB1 := Lib.hid (HW0.out.trans (hb1.mono HW0.out.size))
  have HX1 := Lib.hid (Blk.of_eq HBX.out (hb1.block _ (Blk.lt HBX.out)))
  obtain ⟨x0, x1, x2, x3, x4⟩ := box_cells HX1.out
  clear hb1
  go_wp2_with fail
  refine (fits_any P a w1 _ (fun i hi => Nat.lt_of_lt_of_le (HP.out i hi) HB1.out.size) (HA.out.keep (Same.of_below HB1.out HP.out))).mono ?_
  rintro e w2 ⟨r, rfl, hr, hb2⟩
  have HB2 := Lib.hid (belowStep hb2 HB1.out)
  have HX2 := Lib.hid (Blk.of_eq HX1.out (hb2.block _ (Blk.lt HX1.out)))
  have HR := Lib.hid hr
  clear hb2 hr x0 x1 x2 x3 x4
  obtain ⟨x0, x1, x2, x3, x4⟩ := box_cells HX2.out
  cases r
  · go_wp2
    go_ret
    exact ⟨rfl, HB2.out⟩
  have hba := HR.out rfl
  have HPW := Lib.hid (fun W (hW : Below w.heap.size w W) i (hi : P i) => Nat.lt_of_lt_of_le (HP.out i hi) hW.size)
  have HAW := Lib.hid (fun W (hW : Below w.heap.size w W) => HA.out.keep (Same.of_below hW HP.out))
  have HBIG := Lib.hid (show a.big ≤ 536870912 from by omega)
  clear hba
  go_wp2_with fail
  refine (paths_any P a w2 _ (HPW.out _ HB2.out) (HAW.out _ HB2.out) HBIG.out).mono ?_
  rintro e w3 ⟨hr3, hb3⟩
  have HB3 := Lib.hid (belowStep hb3 HB2.out)
  have HX3 := Lib.hid (Blk.of_eq HX2.out (hb3.block _ (Blk.lt HX2.out)))
  have HY := Lib.hid (rany_any P a w3 _ (HPW.out _ HB3.out) (HAW.out _ HB3.out) (Nat.le_trans HBIG.out (by decide)))
  clear hb3 x0 x1 x2 x3 x4
  obtain ⟨x0, x1, x2, x3, x4⟩ := box_cells HX3.out
  rcases hr3 with ⟨hany, pv, rfl, hpa⟩ | ⟨hany, rfl⟩
  · rw [hany] at HY
    have HPA := Lib.hid hpa
    obtain ⟨pa, pc, rfl, hpl, -⟩ := hpa
    clear hany
    generalize hpn : a.paths.length = pn at *
    go_wp2_with fail
    refine HY.out.mono ?_
    rintro e w4 ⟨rfl, hb4⟩
    have HB4 := Lib.hid (belowStep hb4 HB3.out)
    have HX4 := Lib.hid (Blk.of_eq HX3.out (hb4.block _ (Blk.lt HX3.out)))
    have HPA4 := Lib.hid (HPA.out.keep (Same.of_below hb4 (fun b hb => hb)))
    have HW34 := Lib.hid hb4
    clear hb4 x0 x1 x2 x3 x4
    obtain ⟨x0, x1, x2, x3, x4⟩ := box_cells HX4.out
    go_wp2_with fail
    refine (rpaths_any P a w4 _ (HPW.out _ HB4.out) (HAW.out _ HB4.out) HBIG.out).mono ?_
    rintro e w5 ⟨⟨qv, us, rfl, ho, hro⟩, hb5⟩
    have HB5 := Lib.hid (belowStep hb5 HB4.out)
    have hq : PathsAt w5 (fun b => b < w5.heap.size) qv a.paths := pathsAt_of hro.1 ho (fun b hb => (ho.lt b hb).2) (fun j hj hj' => (hro.2.2 j hj hj').mono (fun b hb => Nat.lt_of_lt_of_le (HPW.out _ HB4.out b hb) hb5.size))
    have hp5 := HPA4.out.keep (Same.of_below hb5 (fun b hb => Nat.lt_of_lt_of_le hb HW34.out.size))
    have HC := Lib.hid (same_any _ _ a.paths w5 _ _ (fun b hb => Nat.lt_of_lt_of_le hb (Nat.le_trans HW34.out.size hb5.size)) (fun b hb => hb) hp5 hq)
    rw [hpn] at ho
    clear hb5 ho hro hq hp5 hpn x0 x1 x2 x3 x4
    go_wp2_with fail
    refine HC.out.mono ?_
    rintro e w6 ⟨rfl, hb6⟩
    have HB6 := Lib.hid (belowStep hb6 HB5.out)
    clear hb6
    go_wp2
    go_ret
    exact ⟨rfl, HB6.out⟩
  · rw [hany] at HY
    clear hany
    go_wp2_with fail
    refine HY.out.mono ?_
    rintro e w4 ⟨rfl, hb4⟩
    have HB4 := Lib.hid (belowStep hb4 HB3.out)
    clear hb4 x0 x1 x2 x3 x4
    go_wp2
    go_ret
    exact ⟨rfl, HB4.out⟩
end Go.Proofs.Ytkhpihacjhhklaa
