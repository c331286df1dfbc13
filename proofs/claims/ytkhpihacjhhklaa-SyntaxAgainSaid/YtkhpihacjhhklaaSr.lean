/-
  Walks of layer 3: Equal.
-/
import Derived.Test.YtkhpihacjhhklaaSq
import Derived.Test.YtkhpihacjhhklaaShelf
namespace Go.Proofs.Ytkhpihacjhhklaa
open Go Go.RowKit
open Pl (Syn)

theorem StrsIn.getD {w : World} {b off : Nat} {zs : List ByteArray} (h : StrsIn w b off zs) : ∀ j, j < zs.length → w.cell? ⟨b, off + j, none⟩ = some (.string (zs.getD j ByteArray.empty)) := fun j hj => by
  rw [h j hj]; simp [List.getD, hj]
theorem strsEq_any (P Q : Nat → Prop) (v u : Value) (zs ys : List ByteArray) (w : World) (hz : StrSl w P v zs) (hy : StrSl w Q u ys) :
    Calls Try.prog 30 #[v, u] w fun e w' => e = .returned (.bool (decide (zs = ys))) ∧ ∃ q, w' = w.drewN q := by
  obtain ⟨a1, c1, rfl, h1, h2, -, -, h3⟩ := hz
  obtain ⟨a2, c2, rfl, k1, k2, -, -, k3⟩ := hy
  unfold maxLen at h2 k2
  by_cases hl : zs.length = ys.length
  · rcases h3 with h3 | ⟨b1, o1, rfl, -, h3⟩
    · subst h3
      refine (Try.slices_Equal_string_empty a1 a2 c1 ys.length c2 w (by omega)).mono ?_
      rintro e w' ⟨rfl, rfl⟩
      have h0 : ys = [] := List.eq_nil_of_length_eq_zero hl.symm
      subst h0
      exact ⟨rfl, 0, by rfl⟩
    · rcases k3 with k3 | ⟨b2, o2, rfl, -, k3⟩
      · subst k3
        have h0 : zs = [] := List.eq_nil_of_length_eq_zero hl
        subst h0
        refine (Try.slices_Equal_string_empty _ a2 c1 0 c2 w (by omega)).mono ?_
        rintro e w' ⟨rfl, rfl⟩
        exact ⟨rfl, 0, by rfl⟩
      · have h := Try.slices_Equal_string b1 o1 zs.length c1 b2 o2 ys.length c2 zs ys w (Nat.le_refl _) (Nat.le_refl _) (by omega) (by omega) h3.getD k3.getD
        rw [List.take_length, List.take_length] at h
        exact h
  · refine (Try.slices_Equal_string_lens a1 a2 zs.length c1 ys.length c2 w hl).mono ?_
    rintro e w' ⟨rfl, rfl⟩
    have : zs ≠ ys := fun h => hl (by rw [h])
    exact ⟨by rw [decide_eq_false this], 0, by rfl⟩
/-- a call answers a bool: whether this holds -/
def Tells (p : Prop) (w : World) (e : Ending) (w' : World) : Prop := ∃ r : Bool, e = .returned (.bool r) ∧ (r = true ↔ p) ∧ Below w.heap.size w w'
theorem tells_no {p : Prop} {w w' : World} (hp : ¬ p) (hb : Below w.heap.size w w') : Tells p w (.returned (.bool false)) w' := ⟨false, rfl, ⟨fun h => (by cases h), fun h => absurd h hp⟩, hb⟩
theorem tells_yes {p : Prop} {w w' : World} (hp : p) (hb : Below w.heap.size w w') : Tells p w (.returned (.bool true)) w' := ⟨true, rfl, ⟨fun _ => hp, fun _ => rfl⟩, hb⟩
def EqSpec (x : Syn) : Prop := ∀ (P Q : Nat → Prop) (y : Syn) (w : World) (v u : Value), (∀ b, P b → b < w.heap.size) → (∀ b, Q b → b < w.heap.size) → SynV w P x v → SynV w Q y u → Calls Try.prog 19 #[v, u] w (Tells (x = y) w)
theorem take_eq_snoc {l m : List Syn} (k : Nat) (hl : k < l.length) (hm : k < m.length) (h : l.take k = m.take k) : l.take (k + 1) = m.take (k + 1) ↔ l[k] = m[k] := by
  rw [List.take_succ_eq_append_getElem hl, List.take_succ_eq_append_getElem hm, h]
  simp only [List.append_cancel_left_eq, List.cons.injEq, and_true]
theorem same_drewN (P : Nat → Prop) (w : World) (q : Nat) : Same P w (w.drewN q) := fun _ _ => rfl
theorem below_drewN {B : Nat} {a w : World} (h : Below B a w) (n : Nat) : Below B a (w.drewN n) := ⟨h.os, h.tape, h.output, h.size, h.block⟩
theorem below2 (w : World) (o1 o2 : Obj) : Below w.heap.size w ((w.alloc o1).alloc o2) := (((Below.refl _ _).alloc (Nat.le_refl _) _).alloc (by simp) _)
set_option maxRecDepth 100000 in
set_option maxHeartbeats 4000000 in
theorem eqFunc_any (P Q : Nat → Prop) (l m : List Syn) (w : World) (v u : Value) (hP : ∀ b, P b → b < w.heap.size) (hQ : ∀ b, Q b → b < w.heap.size) (hl : SynSl w P v l) (hm : SynSl w Q u m) (ih : ∀ x ∈ l, EqSpec x) :
    Calls Try.prog 38 #[v, u, .func (.func 19) #[] #[]] w (Tells (l = m) w) := by
  have HBL := Lib.hid (Below.refl w.heap.size w)
  rcases hl.cases with ⟨rfl, a, c, rfl, -, -⟩ | ⟨b, off, n, c, rfl, hnl, hn0, hnc, hcm, hPb, hka⟩
  · obtain ⟨a2, c2, rfl, h2, h3, -, -⟩ := hm
    unfold maxLen at h3
    by_cases h0 : m = []
    · subst h0
      clear hl ih
      simp only [List.length_nil]
      go_enter Try.func38, Try.ntmps38
      go_wp2_with fail
      go_loopg [17] 1 (fun g i wr => i = .int .i64 0 ∧ wr = w)
      case atStart => exact ⟨rfl, rfl⟩
      case round =>
        obtain ⟨rfl, rfl⟩ := hrel
        go_wp2
        go_ret
        exact tells_yes trivial HBL.out
    · have hml : 0 < m.length := by cases m with | nil => exact absurd rfl h0 | cons x r => simp
      have HNE := Lib.hid h0
      generalize m.length = mn at *
      clear h0 hl ih
      have q1 : ((0 : Int) != (mn : Int)) = true := by simp; omega
      go_enter Try.func38, Try.ntmps38
      go_wp2_with fail
      go_ret
      exact tells_no (fun h => HNE.out h.symm) HBL.out
  · by_cases hlm : m.length = n
    · rcases hm.cases with ⟨rfl, -⟩ | ⟨b2, off2, n2, c2, rfl, hnl2, -, hnc2, hcm2, hPb2, hka2⟩
      · exfalso; simp at hlm; omega
      · obtain rfl : n = n2 := by omega
        have HP := Lib.hid hP
        have HQ := Lib.hid hQ
        have HPB := Lib.hid hPb
        have HQB := Lib.hid hPb2
        have HKA := Lib.hid hka
        have HKB := Lib.hid hka2
        have HNL := Lib.hid hnl
        have HNM := Lib.hid hnl2
        have HIH := Lib.hid ih
        unfold maxLen at hcm hcm2
        clear hP hQ hPb hPb2 hka hka2 hnl hnl2 ih hl hm hlm
        go_enter Try.func38, Try.ntmps38
        go_wp2_with fail
        go_loopg [17] (n + 1) (fun g i wr => ∃ k : Nat, k ≤ n ∧ i = .int .i64 k ∧ g = n + 1 - k ∧ Below w.heap.size w wr ∧ l.take k = m.take k)
        case atStart => exact ⟨0, by omega, rfl, by omega, HBL.out, rfl⟩
        case round =>
          obtain ⟨k, hk, rfl, hg, hbw, htk⟩ := hrel
          have HTK := Lib.hid htk
          have HBW := Lib.hid hbw
          by_cases hlt : k < n
          · have hkl : k < l.length := by rw [HNL.out]; exact hlt
            have hkm : k < m.length := by rw [HNM.out]; exact hlt
            obtain ⟨xo, xn, xs, na, nn, nc, la, ln, lc, -, a0, a1, a2, a3, a4, hxs⟩ := (HKA.out.keep (Same.of_below hbw HP.out) HPB.out).part k hkl
            obtain ⟨yo, yn, ys, ma, mn, mc, ka, kn, kc, -, e0, e1, e2, e3, e4, hys⟩ := (HKB.out.keep (Same.of_below hbw HQ.out) HQB.out).part k hkm
            have hb2 := below2 wr (.cells #[.int .i64 xo, .int .i64 xn, .string xs, .slice na nn nc, .slice la ln lc] 25) (.cells #[.int .i64 yo, .int .i64 yn, .string ys, .slice ma mn mc, .slice ka kn kc] 25)
            have hPw : ∀ b, P b → b < wr.heap.size := fun b hb => Nat.lt_of_lt_of_le (HP.out b hb) hbw.size
            have hQw : ∀ b, Q b → b < wr.heap.size := fun b hb => Nat.lt_of_lt_of_le (HQ.out b hb) hbw.size
            have HC := Lib.hid (HIH.out _ (List.getElem_mem hkl) P Q m[k] _ _ _ (fun b hb => Nat.lt_of_lt_of_le (hPw b hb) hb2.size) (fun b hb => Nat.lt_of_lt_of_le (hQw b hb) hb2.size) (hxs.keep (Same.of_below hb2 hPw)) (hys.keep (Same.of_below hb2 hQw)))
            have f0 := (((Below.refl wr.heap.size wr).alloc (Nat.le_refl _) (.cells #[.int .i64 xo, .int .i64 xn, .string xs, .slice na nn nc, .slice la ln lc] 25)).cell (p := ⟨b2, off2 + k * 5, none⟩) (hQw b2 HQB.out)).trans e0
            have f1 := (((Below.refl wr.heap.size wr).alloc (Nat.le_refl _) (.cells #[.int .i64 xo, .int .i64 xn, .string xs, .slice na nn nc, .slice la ln lc] 25)).cell (p := ⟨b2, off2 + k * 5 + 1, none⟩) (hQw b2 HQB.out)).trans e1
            have f2 := (((Below.refl wr.heap.size wr).alloc (Nat.le_refl _) (.cells #[.int .i64 xo, .int .i64 xn, .string xs, .slice na nn nc, .slice la ln lc] 25)).cell (p := ⟨b2, off2 + k * 5 + 2, none⟩) (hQw b2 HQB.out)).trans e2
            have f3 := (((Below.refl wr.heap.size wr).alloc (Nat.le_refl _) (.cells #[.int .i64 xo, .int .i64 xn, .string xs, .slice na nn nc, .slice la ln lc] 25)).cell (p := ⟨b2, off2 + k * 5 + 3, none⟩) (hQw b2 HQB.out)).trans e3
            have f4 := (((Below.refl wr.heap.size wr).alloc (Nat.le_refl _) (.cells #[.int .i64 xo, .int .i64 xn, .string xs, .slice na nn nc, .slice la ln lc] 25)).cell (p := ⟨b2, off2 + k * 5 + 4, none⟩) (hQw b2 HQB.out)).trans e4
            have HBA := Lib.hid (hbw.trans (hb2.mono hbw.size))
            have HSN := Lib.hid (take_eq_snoc k hkl hkm htk)
            have HGE := Lib.hid (show l = m → l[k] = m[k] from fun h => by subst h; rfl)
            generalize l[k] = x at *
            generalize m[k] = y at *
            clear hbw htk hxs hys hb2 hPw hQw e0 e1 e2 e3 e4
            go_wp2_with fail
            refine HC.out.mono ?_
            rintro e w3 ⟨r, rfl, hr, hb3⟩
            have HB3 := Lib.hid (HBA.out.trans (hb3.mono HBA.out.size))
            have HRR := Lib.hid hr
            clear hb3 a0 a1 a2 a3 a4 f0 f1 f2 f3 f4 hr
            cases r
            · go_wp2
              go_ret
              exact tells_no (fun h => absurd (HRR.out.2 (HGE.out h)) (by simp)) HB3.out
            · go_wp2
              go_roundg (gk - 1)
              case measure => omega
              case rel => exact ⟨k + 1, by omega, by go_num, by omega, HB3.out, HSN.out.2 (HRR.out.1 trivial)⟩
          · have hkn : l = m := by
              have := htk
              rw [List.take_of_length_le (by rw [HNL.out]; omega), List.take_of_length_le (by rw [HNM.out]; omega)] at this
              exact this
            have HE := Lib.hid hkn
            clear hbw htk hkn
            go_wp2
            go_ret
            exact tells_yes HE.out HBW.out
    · obtain ⟨a2, c2, rfl, h2, h3, -, -⟩ := hm
      have HNE := Lib.hid (show l ≠ m from fun h => hlm (by rw [← h]; exact hnl))
      unfold maxLen at h3 hcm
      generalize m.length = mn at *
      have q1 : ((n : Int) != (mn : Int)) = true := by simp; omega
      clear hl ih hlm hnl hka
      go_enter Try.func38, Try.ntmps38
      go_wp2_with fail
      go_ret
      exact tells_no HNE.out HBL.out
theorem syn_ext {x y : Syn} : x = y ↔ x.op = y.op ∧ x.n = y.n ∧ x.s = y.s ∧ x.names = y.names ∧ x.l = y.l := by
  obtain ⟨a, b, c, d, e⟩ := x
  obtain ⟨a', b', c', d', e'⟩ := y
  simp
set_option maxRecDepth 100000 in
set_option maxHeartbeats 4000000 in
theorem equal_any (x : Syn) : EqSpec x := by
  induction x using Syn.ind with
  | h x ih =>
  intro P Q y w v u hP hQ hx hy
  rw [synV_iff] at hx hy
  obtain ⟨-, xnv, xlv, rfl, hxn, hxl⟩ := hx
  obtain ⟨-, ynv, ylv, rfl, hyn, hyl⟩ := hy
  have hpq := syn_ext (x := x) (y := y)
  have hb := below2 w (.cells #[.int .i64 x.op, .int .i64 x.n, .string x.s, xnv, xlv] 25) (.cells #[.int .i64 y.op, .int .i64 y.n, .string y.s, ynv, ylv] 25)
  have bx := (blk_new w #[.int .i64 x.op, .int .i64 x.n, .string x.s, xnv, xlv] 25).alloc (.cells #[.int .i64 y.op, .int .i64 y.n, .string y.s, ynv, ylv] 25)
  have bY := blk_new (w.alloc (.cells #[.int .i64 x.op, .int .i64 x.n, .string x.s, xnv, xlv] 25)) #[.int .i64 y.op, .int .i64 y.n, .string y.s, ynv, ylv] 25
  rw [size_alloc] at bY
  have x0 := bx.cell 0 _ rfl
  have x1 := bx.cell 1 _ rfl
  have x2 := bx.cell 2 _ rfl
  have x3 := bx.cell 3 _ rfl
  have x4 := bx.cell 4 _ rfl
  have y0 := bY.cell 0 _ rfl
  have y1 := bY.cell 1 _ rfl
  have y2 := bY.cell 2 _ rfl
  have y3 := bY.cell 3 _ rfl
  have y4 := bY.cell 4 _ rfl
  have HC1 := Lib.hid (strsEq_any P Q xnv ynv x.names y.names _ (hxn.keep (Same.of_below hb hP)) (hyn.keep (Same.of_below hb hQ)))
  have HC2 := Lib.hid (fun q => eqFunc_any P Q x.l y.l (World.drewN ((w.alloc (.cells #[.int .i64 x.op, .int .i64 x.n, .string x.s, xnv, xlv] 25)).alloc (.cells #[.int .i64 y.op, .int .i64 y.n, .string y.s, ynv, ylv] 25)) q) xlv ylv (fun b h => Nat.lt_of_lt_of_le (hP b h) hb.size) (fun b h => Nat.lt_of_lt_of_le (hQ b h) hb.size) ((hxl.keep (Same.of_below hb hP)).keep (same_drewN _ _ q)) ((hyl.keep (Same.of_below hb hQ)).keep (same_drewN _ _ q)) ih)
  have HB := Lib.hid hb
  clear hxn hxl hyn hyl bx bY hb hP hQ ih
  generalize x.op = xo at *
  generalize x.n = xn at *
  generalize x.s = xs at *
  generalize x.names = xm at *
  generalize x.l = xl at *
  generalize y.op = yo at *
  generalize y.n = yn at *
  generalize y.s = ys at *
  generalize y.names = ym at *
  generalize y.l = yl at *
  have HPQ := Lib.hid hpq
  clear hpq
  by_cases h0 : xo = yo
  · have q0 : (xo == yo) = true := beq_iff_eq.2 h0
    have H0 := Lib.hid h0
    clear h0
    by_cases h1 : xn = yn
    · have q1 : (xn == yn) = true := beq_iff_eq.2 h1
      have H1 := Lib.hid h1
      clear h1
      by_cases h2 : xs = ys
      · have q2 : (xs.toList == ys.toList) = true := (Lib.bytes_beq_iff _ _).2 h2
        have H2 := Lib.hid h2
        clear h2
        by_cases h3 : xm = ym
        · rw [decide_eq_true h3] at HC1
          have H3 := Lib.hid h3
          clear h3
          go_enter Try.func19, Try.ntmps19
          go_wp2_with fail
          refine HC1.out.mono ?_
          rintro e w3 ⟨rfl, q, rfl⟩
          go_wp2_with fail
          refine (HC2.out q).mono ?_
          rintro e w4 ⟨r, rfl, hr, hb4⟩
          have HR := Lib.hid hr
          have HB4 := Lib.hid hb4
          clear hr hb4
          go_wp2
          go_ret
          exact ⟨r, rfl, HR.out.trans ⟨fun h => HPQ.out.2 ⟨H0.out, H1.out, H2.out, H3.out, h⟩, fun h => (HPQ.out.1 h).2.2.2.2⟩, (below_drewN HB.out q).trans (HB4.out.mono HB.out.size)⟩
        · rw [decide_eq_false h3] at HC1
          have H3 := Lib.hid h3
          clear h3
          go_enter Try.func19, Try.ntmps19
          go_wp2_with fail
          refine HC1.out.mono ?_
          rintro e w3 ⟨rfl, q, rfl⟩
          go_wp2
          go_ret
          exact tells_no (fun h => H3.out (HPQ.out.1 h).2.2.2.1) (below_drewN HB.out q)
      · have q2 : (xs.toList == ys.toList) = false := (Lib.bytes_beq_false_iff _ _).2 h2
        have H2 := Lib.hid h2
        clear h2
        go_enter Try.func19, Try.ntmps19
        go_wp2
        go_ret
        exact tells_no (fun h => H2.out (HPQ.out.1 h).2.2.1) HB.out
    · have q1 : (xn == yn) = false := beq_eq_false_iff_ne.2 h1
      have H1 := Lib.hid h1
      clear h1
      go_enter Try.func19, Try.ntmps19
      go_wp2
      go_ret
      exact tells_no (fun h => H1.out (HPQ.out.1 h).2.1) HB.out
  · have q0 : (xo == yo) = false := beq_eq_false_iff_ne.2 h0
    have H0 := Lib.hid h0
    clear h0
    go_enter Try.func19, Try.ntmps19
    go_wp2
    go_ret
    exact tells_no (fun h => H0.out (HPQ.out.1 h).1) HB.out
end Go.Proofs.Ytkhpihacjhhklaa
