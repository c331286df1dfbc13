/-
  Walks and plain mathematics, several texts in one (Sr Ss St).
-/
import Derived.Test.YtkhpihacjhhklaaG3
import Derived.Test.YtkhpihacjhhklaaShelf
import Derived.Deep.QuietTactic
import Derived.StillTailTactics
/-
  Walks of layer 3: Equal.
-/
namespace Go.Proofs.Ytkhpihacjhhklaa
open Go Go.RowKit
open Pl (Syn)

theorem StrsIn.getD {w : World} {b off : Nat} {zs : List ByteArray} (h : StrsIn w b off zs) : ∀ j, j < zs.length → w.cell? ⟨b, off + j, none⟩ = some (.string (zs.getD j ByteArray.empty)) := fun j hj => by
  rw [h j hj]; simp [List.getD, hj]
theorem strsEq_any (P Q : Nat → Prop) (v u : Value) (zs ys : List ByteArray) (w : World) (hz : StrSl w P v zs) (hy : StrSl w Q u ys) :
    Calls Try.prog 30 #[v, u] w fun e w' => e = .returned (.bool (decide (zs = ys))) ∧ ∃ q, w' = w.drewN q := by
  obtain ⟨a1, c1, rfl, h1, h2, -, -, h3⟩ := hz
  obtain ⟨a2, c2, rfl, k1, k2, -, -, k3⟩ := hy
  unfold maxLen at h2 k2
  by_cases hl : zs.length = ys.length
  · rcases h3 with h3 | ⟨b1, o1, rfl, -, h3⟩
    · subst h3
      refine (Try.slices_Equal_string_empty a1 a2 c1 ys.length c2 w (by omega)).mono ?_
      rintro e w' ⟨rfl, rfl⟩
      have h0 : ys = [] := List.eq_nil_of_length_eq_zero hl.symm
      subst h0
      exact ⟨rfl, 0, by rfl⟩
    · rcases k3 with k3 | ⟨b2, o2, rfl, -, k3⟩
      · subst k3
        have h0 : zs = [] := List.eq_nil_of_length_eq_zero hl
        subst h0
        refine (Try.slices_Equal_string_empty _ a2 c1 0 c2 w (by omega)).mono ?_
        rintro e w' ⟨rfl, rfl⟩
        exact ⟨rfl, 0, by rfl⟩
      · have h := Try.slices_Equal_string b1 o1 zs.length c1 b2 o2 ys.length c2 zs ys w (Nat.le_refl _) (Nat.le_refl _) (by omega) (by omega) h3.getD k3.getD
        rw [List.take_length, List.take_length] at h
        exact h
  · refine (Try.slices_Equal_string_lens a1 a2 zs.length c1 ys.length c2 w hl).mono ?_
    rintro e w' ⟨rfl, rfl⟩
    have : zs ≠ ys := fun h => hl (by rw [h])
    exact ⟨by rw [decide_eq_false this], 0, by rfl⟩
/-- a call answers a bool: whether this holds -/
def Tells (p : Prop) (w : World) (e : Ending) (w' : World) : Prop := ∃ r : Bool, e = .returned (.bool r) ∧ (r = true ↔ p) ∧ Below w.heap.size w w'
theorem tells_no {p : Prop} {w w' : World} (hp : ¬ p) (hb : Below w.heap.size w w') : Tells p w (.returned (.bool false)) w' := ⟨false, rfl, ⟨fun h => (by cases h), fun h => absurd h hp⟩, hb⟩
theorem tells_yes {p : Prop} {w w' : World} (hp : p) (hb : Below w.heap.size w w') : Tells p w (.returned (.bool true)) w' := ⟨true, rfl, ⟨fun _ => hp, fun _ => rfl⟩, hb⟩
def EqSpec (x : Syn) : Prop := ∀ (P Q : Nat → Prop) (y : Syn) (w : World) (v u : Value), (∀ b, P b → b < w.heap.size) → (∀ b, Q b → b < w.heap.size) → SynV w P x v → SynV w Q y u → Calls Try.prog 19 #[v, u] w (Tells (x = y) w)
theorem take_eq_snoc {l m : List Syn} (k : Nat) (hl : k < l.length) (hm : k < m.length) (h : l.take k = m.take k) : l.take (k + 1) = m.take (k + 1) ↔ l[k] = m[k] := by
  rw [List.take_succ_eq_append_getElem hl, List.take_succ_eq_append_getElem hm, h]
  simp only [List.append_cancel_left_eq, List.cons.injEq, and_true]
theorem same_drewN (P : Nat → Prop) (w : World) (q : Nat) : Same P w (w.drewN q) := fun _ _ => rfl
theorem below_drewN {B : Nat} {a w : World} (h : Below B a w) (n : Nat) : Below B a (w.drewN n) := ⟨h.os, h.tape, h.output, h.size, h.block⟩
theorem below2 (w : World) (o1 o2 : Obj) : Below w.heap.size w ((w.alloc o1).alloc o2) := (((Below.refl _ _).alloc (Nat.le_refl _) _).alloc (by simp) _)
set_option maxRecDepth 100000 in
set_option maxHeartbeats 4000000 in
theorem eqFunc_any (P Q : Nat → Prop) (l m : List Syn) (w : World) (v u : Value) (hP : ∀ b, P b → b < w.heap.size) (hQ : ∀ b, Q b → b < w.heap.size) (hl : SynSl w P v l) (hm : SynSl w Q u m) (ih : ∀ x ∈ l, EqSpec x) :
    Calls Try.prog 38 #[v, u, .func (.func 19) #[] #[]] w (Tells (l = m) w) := by
  have HBL := Lib.hid (Below.refl w.heap.size w)
  rcases hl.cases with ⟨rfl, a, c, rfl, -, -⟩ | ⟨b, off, n, c, rfl, hnl, hn0, hnc, hcm, hPb, hka⟩
  · obtain ⟨a2, c2, rfl, h2, h3, -, -⟩ := hm
    unfold maxLen at h3
    by_cases h0 : m = []
    · subst h0
      clear hl ih
      simp only [List.length_nil]
      go_enter Try.func38, Try.ntmps38
      go_wp2_with fail
      go_loopg [17] 1 (fun g i wr => i = .int .i64 0 ∧ wr = w)
      case atStart => exact ⟨rfl, rfl⟩
      case round =>
        obtain ⟨rfl, rfl⟩ := hrel
        go_wp2
        go_ret
        exact tells_yes trivial HBL.out
    · have hml : 0 < m.length := by cases m with | nil => exact absurd rfl h0 | cons x r => simp
      have HNE := Lib.hid h0
      generalize m.length = mn at *
      clear h0 hl ih
      have q1 : ((0 : Int) != (mn : Int)) = true := by simp; omega
      go_enter Try.func38, Try.ntmps38
      go_wp2_with fail
      go_ret
      exact tells_no (fun h => HNE.out h.symm) HBL.out
  · by_cases hlm : m.length = n
    · rcases hm.cases with ⟨rfl, -⟩ | ⟨b2, off2, n2, c2, rfl, hnl2, -, hnc2, hcm2, hPb2, hka2⟩
      · exfalso; simp at hlm; omega
      · obtain rfl : n = n2 := by omega
        have HP := Lib.hid hP
        have HQ := Lib.hid hQ
        have HPB := Lib.hid hPb
        have HQB := Lib.hid hPb2
        have HKA := Lib.hid hka
        have HKB := Lib.hid hka2
        have HNL := Lib.hid hnl
        have HNM := Lib.hid hnl2
        have HIH := Lib.hid ih
        unfold maxLen at hcm hcm2
        clear hP hQ hPb hPb2 hka hka2 hnl hnl2 ih hl hm hlm
        go_enter Try.func38, Try.ntmps38
        go_wp2_with fail
        go_loopg [17] (n + 1) (fun g i wr => ∃ k : Nat, k ≤ n ∧ i = .int .i64 k ∧ g = n + 1 - k ∧ Below w.heap.size w wr ∧ l.take k = m.take k)
        case atStart => exact ⟨0, by omega, rfl, by omega, HBL.out, rfl⟩
        case round =>
          obtain ⟨k, hk, rfl, hg, hbw, htk⟩ := hrel
          have HTK := Lib.hid htk
          have HBW := Lib.hid hbw
          by_cases hlt : k < n
          · have hkl : k < l.length := by rw [HNL.out]; exact hlt
            have hkm : k < m.length := by rw [HNM.out]; exact hlt
            obtain ⟨xo, xn, xs, na, nn, nc, la, ln, lc, -, a0, a1, a2, a3, a4, hxs⟩ := (HKA.out.keep (Same.of_below hbw HP.out) HPB.out).part k hkl
            obtain ⟨yo, yn, ys, ma, mn, mc, ka, kn, kc, -, e0, e1, e2, e3, e4, hys⟩ := (HKB.out.keep (Same.of_below hbw HQ.out) HQB.out).part k hkm
            have hb2 := below2 wr (.cells #[.int .i64 xo, .int .i64 xn, .string xs, .slice na nn nc, .slice la ln lc] 25) (.cells #[.int .i64 yo, .int .i64 yn, .string ys, .slice ma mn mc, .slice ka kn kc] 25)
            have hPw : ∀ b, P b → b < wr.heap.size := fun b hb => Nat.lt_of_lt_of_le (HP.out b hb) hbw.size
            have hQw : ∀ b, Q b → b < wr.heap.size := fun b hb => Nat.lt_of_lt_of_le (HQ.out b hb) hbw.size
            have HC := Lib.hid (HIH.out _ (List.getElem_mem hkl) P Q m[k] _ _ _ (fun b hb => Nat.lt_of_lt_of_le (hPw b hb) hb2.size) (fun b hb => Nat.lt_of_lt_of_le (hQw b hb) hb2.size) (hxs.keep (Same.of_below hb2 hPw)) (hys.keep (Same.of_below hb2 hQw)))
            have f0 := (((Below.refl wr.heap.size wr).alloc (Nat.le_refl _) (.cells #[.int .i64 xo, .int .i64 xn, .string xs, .slice na nn nc, .slice la ln lc] 25)).cell (p := ⟨b2, off2 + k * 5, none⟩) (hQw b2 HQB.out)).trans e0
            have f1 := (((Below.refl wr.heap.size wr).alloc (Nat.le_refl _) (.cells #[.int .i64 xo, .int .i64 xn, .string xs, .slice na nn nc, .slice la ln lc] 25)).cell (p := ⟨b2, off2 + k * 5 + 1, none⟩) (hQw b2 HQB.out)).trans e1
            have f2 := (((Below.refl wr.heap.size wr).alloc (Nat.le_refl _) (.cells #[.int .i64 xo, .int .i64 xn, .string xs, .slice na nn nc, .slice la ln lc] 25)).cell (p := ⟨b2, off2 + k * 5 + 2, none⟩) (hQw b2 HQB.out)).trans e2
            have f3 := (((Below.refl wr.heap.size wr).alloc (Nat.le_refl _) (.cells #[.int .i64 xo, .int .i64 xn, .string xs, .slice na nn nc, .slice la ln lc] 25)).cell (p := ⟨b2, off2 + k * 5 + 3, none⟩) (hQw b2 HQB.out)).trans e3
            have f4 := (((Below.refl wr.heap.size wr).alloc (Nat.le_refl _) (.cells #[.int .i64 xo, .int .i64 xn, .string xs, .slice na nn nc, .slice la ln lc] 25)).cell (p := ⟨b2, off2 + k * 5 + 4, none⟩) (hQw b2 HQB.out)).trans e4
            have HBA := Lib.hid (hbw.trans (hb2.mono hbw.size))
            have HSN := Lib.hid (take_eq_snoc k hkl hkm htk)
            have HGE := Lib.hid (show l = m → l[k] = m[k] from fun h => by subst h; rfl)
            generalize l[k] = x at *
            generalize m[k] = y at *
            clear hbw htk hxs hys hb2 hPw hQw e0 e1 e2 e3 e4
            go_wp2_with fail
            refine HC.out.mono ?_
            rintro e w3 ⟨r, rfl, hr, hb3⟩
            have HB3 := Lib.hid (HBA.out.trans (hb3.mono HBA.out.size))
            have HRR := Lib.hid hr
            clear hb3 a0 a1 a2 a3 a4 f0 f1 f2 f3 f4 hr
            cases r
            · go_wp2
              go_ret
              exact tells_no (fun h => absurd (HRR.out.2 (HGE.out h)) (by simp)) HB3.out
            · go_wp2
              go_roundg (gk - 1)
              case measure => omega
              case rel => exact ⟨k + 1, by omega, by go_num, by omega, HB3.out, HSN.out.2 (HRR.out.1 trivial)⟩
          · have hkn : l = m := by
              have := htk
              rw [List.take_of_length_le (by rw [HNL.out]; omega), List.take_of_length_le (by rw [HNM.out]; omega)] at this
              exact this
            have HE := Lib.hid hkn
            clear hbw htk hkn
            go_wp2
            go_ret
            exact tells_yes HE.out HBW.out
    · obtain ⟨a2, c2, rfl, h2, h3, -, -⟩ := hm
      have HNE := Lib.hid (show l ≠ m from fun h => hlm (by rw [← h]; exact hnl))
      unfold maxLen at h3 hcm
      generalize m.length = mn at *
      have q1 : ((n : Int) != (mn : Int)) = true := by simp; omega
      clear hl ih hlm hnl hka
      go_enter Try.func38, Try.ntmps38
      go_wp2_with fail
      go_ret
      exact tells_no HNE.out HBL.out
theorem syn_ext {x y : Syn} : x = y ↔ x.op = y.op ∧ x.n = y.n ∧ x.s = y.s ∧ x.names = y.names ∧ x.l = y.l := by
  obtain ⟨a, b, c, d, e⟩ := x
  obtain ⟨a', b', c', d', e'⟩ := y
  simp
set_option maxRecDepth 100000 in
set_option maxHeartbeats 4000000 in
theorem equal_any (x : Syn) : EqSpec x := by
  induction x using Syn.ind with
  | h x ih =>
  intro P Q y w v u hP hQ hx hy
  rw [synV_iff] at hx hy
  obtain ⟨-, xnv, xlv, rfl, hxn, hxl⟩ := hx
  obtain ⟨-, ynv, ylv, rfl, hyn, hyl⟩ := hy
  have hpq := syn_ext (x := x) (y := y)
  have hb := below2 w (.cells #[.int .i64 x.op, .int .i64 x.n, .string x.s, xnv, xlv] 25) (.cells #[.int .i64 y.op, .int .i64 y.n, .string y.s, ynv, ylv] 25)
  have bx := (blk_new w #[.int .i64 x.op, .int .i64 x.n, .string x.s, xnv, xlv] 25).alloc (.cells #[.int .i64 y.op, .int .i64 y.n, .string y.s, ynv, ylv] 25)
  have bY := blk_new (w.alloc (.cells #[.int .i64 x.op, .int .i64 x.n, .string x.s, xnv, xlv] 25)) #[.int .i64 y.op, .int .i64 y.n, .string y.s, ynv, ylv] 25
  rw [size_alloc] at bY
  have x0 := bx.cell 0 _ rfl
  have x1 := bx.cell 1 _ rfl
  have x2 := bx.cell 2 _ rfl
  have x3 := bx.cell 3 _ rfl
  have x4 := bx.cell 4 _ rfl
  have y0 := bY.cell 0 _ rfl
  have y1 := bY.cell 1 _ rfl
  have y2 := bY.cell 2 _ rfl
  have y3 := bY.cell 3 _ rfl
  have y4 := bY.cell 4 _ rfl
  have HC1 := Lib.hid (strsEq_any P Q xnv ynv x.names y.names _ (hxn.keep (Same.of_below hb hP)) (hyn.keep (Same.of_below hb hQ)))
  have HC2 := Lib.hid (fun q => eqFunc_any P Q x.l y.l (World.drewN ((w.alloc (.cells #[.int .i64 x.op, .int .i64 x.n, .string x.s, xnv, xlv] 25)).alloc (.cells #[.int .i64 y.op, .int .i64 y.n, .string y.s, ynv, ylv] 25)) q) xlv ylv (fun b h => Nat.lt_of_lt_of_le (hP b h) hb.size) (fun b h => Nat.lt_of_lt_of_le (hQ b h) hb.size) ((hxl.keep (Same.of_below hb hP)).keep (same_drewN _ _ q)) ((hyl.keep (Same.of_below hb hQ)).keep (same_drewN _ _ q)) ih)
  have HB := Lib.hid hb
  clear hxn hxl hyn hyl bx bY hb hP hQ ih
  generalize x.op = xo at *
  generalize x.n = xn at *
  generalize x.s = xs at *
  generalize x.names = xm at *
  generalize x.l = xl at *
  generalize y.op = yo at *
  generalize y.n = yn at *
  generalize y.s = ys at *
  generalize y.names = ym at *
  generalize y.l = yl at *
  have HPQ := Lib.hid hpq
  clear hpq
  by_cases h0 : xo = yo
  · have q0 : (xo == yo) = true := beq_iff_eq.2 h0
    have H0 := Lib.hid h0
    clear h0
    by_cases h1 : xn = yn
    · have q1 : (xn == yn) = true := beq_iff_eq.2 h1
      have H1 := Lib.hid h1
      clear h1
      by_cases h2 : xs = ys
      · have q2 : (xs.toList == ys.toList) = true := (Lib.bytes_beq_iff _ _).2 h2
        have H2 := Lib.hid h2
        clear h2
        by_cases h3 : xm = ym
        · rw [decide_eq_true h3] at HC1
          have H3 := Lib.hid h3
          clear h3
          go_enter Try.func19, Try.ntmps19
          go_wp2_with fail
          refine HC1.out.mono ?_
          rintro e w3 ⟨rfl, q, rfl⟩
          go_wp2_with fail
          refine (HC2.out q).mono ?_
          rintro e w4 ⟨r, rfl, hr, hb4⟩
          have HR := Lib.hid hr
          have HB4 := Lib.hid hb4
          clear hr hb4
          go_wp2
          go_ret
          exact ⟨r, rfl, HR.out.trans ⟨fun h => HPQ.out.2 ⟨H0.out, H1.out, H2.out, H3.out, h⟩, fun h => (HPQ.out.1 h).2.2.2.2⟩, (below_drewN HB.out q).trans (HB4.out.mono HB.out.size)⟩
        · rw [decide_eq_false h3] at HC1
          have H3 := Lib.hid h3
          clear h3
          go_enter Try.func19, Try.ntmps19
          go_wp2_with fail
          refine HC1.out.mono ?_
          rintro e w3 ⟨rfl, q, rfl⟩
          go_wp2
          go_ret
          exact tells_no (fun h => H3.out (HPQ.out.1 h).2.2.2.1) (below_drewN HB.out q)
      · have q2 : (xs.toList == ys.toList) = false := (Lib.bytes_beq_false_iff _ _).2 h2
        have H2 := Lib.hid h2
        clear h2
        go_enter Try.func19, Try.ntmps19
        go_wp2
        go_ret
        exact tells_no (fun h => H2.out (HPQ.out.1 h).2.2.1) HB.out
    · have q1 : (xn == yn) = false := beq_eq_false_iff_ne.2 h1
      have H1 := Lib.hid h1
      clear h1
      go_enter Try.func19, Try.ntmps19
      go_wp2
      go_ret
      exact tells_no (fun h => H1.out (HPQ.out.1 h).2.1) HB.out
  · have q0 : (xo == yo) = false := beq_eq_false_iff_ne.2 h0
    have H0 := Lib.hid h0
    clear h0
    go_enter Try.func19, Try.ntmps19
    go_wp2
    go_ret
    exact tells_no (fun h => H0.out (HPQ.out.1 h).1) HB.out
end Go.Proofs.Ytkhpihacjhhklaa

/-
  Walks of layer 3: the reference's Equal.
-/
namespace Go.Proofs.Ytkhpihacjhhklaa
open Go Go.RowKit
open Pl (Syn)

theorem StrSl.at {w : World} {P : Nat → Prop} {v : Value} {zs : List ByteArray} (h : StrSl w P v zs) (k : Nat) (hk : k < zs.length) : ∃ b off c, v = .slice (some ⟨b, off, none⟩) zs.length c ∧ P b ∧ zs.length ≤ maxLen ∧ w.cell? ⟨b, off + k, none⟩ = some (.string zs[k]) := by
  obtain ⟨a, c, rfl, h1, h2, h3, h4, h5⟩ := h
  rcases h5 with h5 | ⟨b, off, rfl, h6, h7⟩
  · rw [h5] at hk; simp at hk
  · exact ⟨b, off, c, rfl, h6, Nat.le_trans h1 h2, h7 k hk⟩
theorem SynSl.at {w : World} {P : Nat → Prop} {v : Value} {l : List Syn} (h : SynSl w P v l) (k : Nat) (hk : k < l.length) : ∃ b off c, v = .slice (some ⟨b, off, none⟩) l.length c ∧ P b ∧ l.length ≤ maxLen ∧ KidsAt w P l b off := by
  obtain ⟨a, c, rfl, h1, h2, h3, h5⟩ := h
  rcases h5 with h5 | ⟨b, off, rfl, h6, h7⟩
  · rw [h5] at hk; simp at hk
  · exact ⟨b, off, c, rfl, h6, Nat.le_trans h1 h2, h7⟩
theorem SynSl.form {w : World} {P : Nat → Prop} {v : Value} {l : List Syn} (h : SynSl w P v l) : ∃ a c, v = .slice a l.length c ∧ l.length ≤ maxLen := by
  obtain ⟨a, c, rfl, h1, h2, _⟩ := h
  exact ⟨a, c, rfl, Nat.le_trans h1 h2⟩
theorem StrSl.form {w : World} {P : Nat → Prop} {v : Value} {l : List ByteArray} (h : StrSl w P v l) : ∃ a c, v = .slice a l.length c ∧ l.length ≤ maxLen := by
  obtain ⟨a, c, rfl, h1, h2, _⟩ := h
  exact ⟨a, c, rfl, Nat.le_trans h1 h2⟩
theorem takes_snoc {l m : List ByteArray} (k : Nat) (hl : k < l.length) (hm : k < m.length) (h : l.take k = m.take k) : l.take (k + 1) = m.take (k + 1) ↔ l[k] = m[k] := by
  rw [List.take_succ_eq_append_getElem hl, List.take_succ_eq_append_getElem hm, h]
  simp only [List.append_cancel_left_eq, List.cons.injEq, and_true]
theorem ne_lists {a b : ByteArray} (h : a ≠ b) : ¬ a.toList = b.toList := fun e => h ((Lib.bytes_beq_iff _ _).1 (by simp [e]))
def REqSpec (x : Syn) : Prop := ∀ (P Q : Nat → Prop) (y : Syn) (w : World) (v u : Value), (∀ b, P b → b < w.heap.size) → (∀ b, Q b → b < w.heap.size) → SynV w P x v → SynV w Q y u → Calls Try.prog 20 #[v, u] w (Tells (x = y) w)
/-- two boxed trees -/
def Boxes (g : Nat) (xs ys : Array Value) (w : World) : Prop := Blk w g 25 xs ∧ Blk w (g + 1) 25 ys
theorem Boxes.below {g : Nat} {xs ys : Array Value} {w w' : World} (h : Boxes g xs ys w) (hb : Below w.heap.size w w') : Boxes g xs ys w' := ⟨h.1.of_eq (hb.block _ h.1.lt), h.2.of_eq (hb.block _ h.2.lt)⟩
theorem boxes_new (w : World) (xs ys : Array Value) : Boxes w.heap.size xs ys ((w.alloc (.cells xs 25)).alloc (.cells ys 25)) := by
  have h := blk_new (w.alloc (.cells xs 25)) ys 25
  rw [size_alloc] at h
  exact ⟨(blk_new w xs 25).alloc _, h⟩
set_option maxRecDepth 100000 in
set_option maxHeartbeats 8000000 in
theorem requal_any (x : Syn) : REqSpec x := by
  induction x using Syn.ind with
  | h x ih =>
  intro P Q y w v u hP hQ hx hy
  rw [synV_iff] at hx hy
  obtain ⟨-, xnv, xlv, rfl, hxn, hxl⟩ := hx
  obtain ⟨-, ynv, ylv, rfl, hyn, hyl⟩ := hy
  have hpq := syn_ext (x := x) (y := y)
  have hb := below2 w (.cells #[.int .i64 x.op, .int .i64 x.n, .string x.s, xnv, xlv] 25) (.cells #[.int .i64 y.op, .int .i64 y.n, .string y.s, ynv, ylv] 25)
  have hbx := boxes_new w #[.int .i64 x.op, .int .i64 x.n, .string x.s, xnv, xlv] #[.int .i64 y.op, .int .i64 y.n, .string y.s, ynv, ylv]
  have HIH := Lib.hid ih
  have HB := Lib.hid hb
  have HP := Lib.hid hP
  have HQ := Lib.hid hQ
  have HXN := Lib.hid hxn
  have HXL := Lib.hid hxl
  have HYN := Lib.hid hyn
  have HYL := Lib.hid hyl
  clear hP hQ ih hb
  obtain ⟨na, nc, rfl, hnm⟩ := hxn.form
  obtain ⟨la, lc, rfl, hlm⟩ := hxl.form
  obtain ⟨ma, mc, rfl, hmm⟩ := hyn.form
  obtain ⟨ka, kc, rfl, hkm⟩ := hyl.form
  unfold maxLen at hnm hlm hmm hkm
  clear hxn hxl hyn hyl
  have x0 := hbx.1.cell 0 _ rfl
  have x1 := hbx.1.cell 1 _ rfl
  have x2 := hbx.1.cell 2 _ rfl
  have x3 := hbx.1.cell 3 _ rfl
  have x4 := hbx.1.cell 4 _ rfl
  have y0 := hbx.2.cell 0 _ rfl
  have y1 := hbx.2.cell 1 _ rfl
  have y2 := hbx.2.cell 2 _ rfl
  have y3 := hbx.2.cell 3 _ rfl
  have y4 := hbx.2.cell 4 _ rfl
  generalize hsn : x.names.length = sn at *
  generalize hsm : y.names.length = sm at *
  generalize hn : x.l.length = n at *
  generalize hm : y.l.length = m at *
  generalize x.op = xo at *
  generalize x.n = xn at *
  generalize x.s = xs at *
  generalize x.names = xm at *
  generalize x.l = xl at *
  generalize y.op = yo at *
  generalize y.n = yn at *
  generalize y.s = ys at *
  generalize y.names = ym at *
  generalize y.l = yl at *
  have HPQ := Lib.hid hpq
  have HBX := Lib.hid hbx
  have HSN := Lib.hid hsn
  have HSM := Lib.hid hsm
  have HN := Lib.hid hn
  have HM := Lib.hid hm
  clear hpq hbx hsn hsm hn hm
  by_cases h0 : xo = yo
  · have q0 : (xo != yo) = false := by simp [h0]
    have H0 := Lib.hid h0
    clear h0
    by_cases h1 : xn = yn
    · have q1 : (xn != yn) = false := by simp [h1]
      have H1 := Lib.hid h1
      clear h1
      by_cases h2 : xs = ys
      · subst h2
        by_cases h3 : sn = sm
        · by_cases h4 : n = m
          · subst h3 h4
            have q3 : ((sn : Int) != (sn : Int)) = false := by simp
            have q4 : ((n : Int) != (n : Int)) = false := by simp
            go_enter Try.func20, Try.ntmps20
            go_wp2_with fail
            clear x0 x1 x2 x3 x4 y0 y1 y2 y3 y4
            generalize ((w.alloc (.cells #[.int .i64 xo, .int .i64 xn, .string xs, .slice na sn nc, .slice la n lc] 25)).alloc (.cells #[.int .i64 yo, .int .i64 yn, .string xs, .slice ma sn mc, .slice ka n kc] 25)) = w2 at *
            generalize Value.slice na sn nc = g1
            generalize Value.slice la n lc = g2
            generalize Value.slice ma sn mc = g3
            generalize Value.slice ka n kc = g4
            go_loopg [5] (sn + 1) (fun g i wr => ∃ k : Nat, k ≤ sn ∧ i = .int .i64 k ∧ g = sn + 1 - k ∧ Below w2.heap.size w2 wr ∧ xm.take k = ym.take k)
            case atStart => exact ⟨0, by omega, rfl, by omega, Below.refl _ _, rfl⟩
            case round =>
              obtain ⟨k, hk, rfl, hg, hbw, htk⟩ := hrel
              have HTK := Lib.hid htk
              have HBW := Lib.hid hbw
              have hbx := HBX.out.below hbw
              have z3 := hbx.1.cell 3 _ rfl
              have u3 := hbx.2.cell 3 _ rfl
              have z4 := hbx.1.cell 4 _ rfl
              have hw0 : Below w.heap.size w wr := HB.out.trans (hbw.mono HB.out.size)
              by_cases hlt : k < sn
              · have hkl : k < xm.length := by rw [HSN.out]; exact hlt
                have hkm : k < ym.length := by rw [HSM.out]; exact hlt
                obtain ⟨b1, o1, c1, e1, hp1, -, cx⟩ := (HXN.out.keep (Same.of_below hw0 HP.out)).at k hkl
                obtain ⟨b2, o2, c2, e2, hp2, -, cy⟩ := (HYN.out.keep (Same.of_below hw0 HQ.out)).at k hkm
                have e1' : na = some ⟨b1, o1, none⟩ := by injection e1
                have e2' : ma = some ⟨b2, o2, none⟩ := by injection e2
                clear e1 e2
                subst e1' e2'
                have HS := Lib.hid (takes_snoc k hkl hkm htk)
                have HGE := Lib.hid (show xm = ym → xm[k] = ym[k] from fun h => by subst h; rfl)
                generalize xm[k] = zx at *
                generalize ym[k] = zy at *
                clear hbw htk hbx hw0 hp1 hp2
                by_cases he : zx = zy
                · subst he
                  go_wp2
                  go_quiet (fail)
                  go_wp2
                  go_roundg (gk - 1)
                  case measure => omega
                  case rel => exact ⟨k + 1, by omega, by go_num, by omega, below_drewN HBW.out _, HS.out.2 trivial⟩
                · have q5 : ¬ zx.toList = zy.toList := ne_lists he
                  have q6 : (zx.toList == zy.toList) = false := (Lib.bytes_beq_false_iff _ _).2 he
                  have HE := Lib.hid he
                  clear he
                  go_wp2
                  go_quiet (fail)
                  go_wp2
                  go_ret
                  exact tells_no (fun h => HE.out (HGE.out (HPQ.out.1 h).2.2.2.1)) (below_drewN (HB.out.trans (HBW.out.mono HB.out.size)) _)
              · have hkn : xm = ym := by
                  have := htk
                  rw [List.take_of_length_le (by rw [HSN.out]; omega), List.take_of_length_le (by rw [HSM.out]; omega)] at this
                  exact this
                have H3 := Lib.hid hkn
                clear hbw htk hkn hbx hw0
                rename World => wa
                go_wp2_with fail
                go_loopg [6] (n + 1) (fun g i wr => ∃ k : Nat, k ≤ n ∧ i = .int .i64 k ∧ g = n + 1 - k ∧ Below w2.heap.size w2 wr ∧ xl.take k = yl.take k)
                case atStart => exact ⟨0, by omega, rfl, by omega, HBW.out, rfl⟩
                case round =>
                  clear z3 u3 z4 HBW HTK hlt hk hg
                  obtain ⟨k, hk, rfl, hg, hbw, htk⟩ := hrel
                  have HTK := Lib.hid htk
                  have HBW := Lib.hid hbw
                  have hbx := HBX.out.below hbw
                  have z4 := hbx.1.cell 4 _ rfl
                  have u4 := hbx.2.cell 4 _ rfl
                  have hw0 : Below w.heap.size w wr := HB.out.trans (hbw.mono HB.out.size)
                  by_cases hlt : k < n
                  · have hkl : k < xl.length := by rw [HN.out]; exact hlt
                    have hkm : k < yl.length := by rw [HM.out]; exact hlt
                    obtain ⟨b1, o1, c1, e1, hp1, -, kx⟩ := (HXL.out.keep (Same.of_below hw0 HP.out)).at k hkl
                    obtain ⟨b2, o2, c2, e2, hp2, -, ky⟩ := (HYL.out.keep (Same.of_below hw0 HQ.out)).at k hkm
                    have e1' : la = some ⟨b1, o1, none⟩ := by injection e1
                    have e2' : ka = some ⟨b2, o2, none⟩ := by injection e2
                    clear e1 e2
                    subst e1' e2'
                    obtain ⟨po, pn, ps, pa, pl, pc, qa, ql, qc, -, a0, a1, a2, a3, a4, hxs⟩ := kx.part k hkl
                    obtain ⟨ro, rn, rs, ra, rl, rc, sa, sl, sc, -, f0, f1, f2, f3, f4, hys⟩ := ky.part k hkm
                    have HC := Lib.hid (fun W (hW : Below wr.heap.size wr W) => HIH.out _ (List.getElem_mem hkl) P Q yl[k] W _ _ (fun b hb => Nat.lt_of_lt_of_le (HP.out b hb) (Nat.le_trans hw0.size hW.size)) (fun b hb => Nat.lt_of_lt_of_le (HQ.out b hb) (Nat.le_trans hw0.size hW.size)) (hxs.keep (Same.of_below hW (fun b hb => Nat.lt_of_lt_of_le (HP.out b hb) hw0.size))) (hys.keep (Same.of_below hW (fun b hb => Nat.lt_of_lt_of_le (HQ.out b hb) hw0.size))))
                    have HS := Lib.hid (take_eq_snoc k hkl hkm htk)
                    have HGE := Lib.hid (show xl = yl → xl[k] = yl[k] from fun h => by subst h; rfl)
                    generalize xl[k] = zx at *
                    generalize yl[k] = zy at *
                    have hzl := hbx.1.lt
                    have hul := hbx.2.lt
                    have hl1 := Nat.lt_of_lt_of_le (HP.out _ hp1) hw0.size
                    have hl2 := Nat.lt_of_lt_of_le (HQ.out _ hp2) hw0.size
                    clear hbw htk hbx hw0 hp1 hp2 kx ky hxs hys
                    go_wp2
                    refine wp_region_still_tail 10 (by kernel_rfl) (by kernel_rfl) ?_
                    have hwd : Below wr.heap.size wr wr.drew := (Below.refl _ _).drew
                    have z4d := (hwd.cell (p := ⟨w.heap.size, 4, none⟩) hzl).trans z4
                    have u4d := (hwd.cell (p := ⟨w.heap.size + 1, 4, none⟩) hul).trans u4
                    have a0d := (hwd.cell (p := ⟨b1, o1 + k * 5, none⟩) hl1).trans a0
                    have a1d := (hwd.cell (p := ⟨b1, o1 + k * 5 + 1, none⟩) hl1).trans a1
                    have a2d := (hwd.cell (p := ⟨b1, o1 + k * 5 + 2, none⟩) hl1).trans a2
                    have a3d := (hwd.cell (p := ⟨b1, o1 + k * 5 + 3, none⟩) hl1).trans a3
                    have a4d := (hwd.cell (p := ⟨b1, o1 + k * 5 + 4, none⟩) hl1).trans a4
                    have f0d := (hwd.cell (p := ⟨b2, o2 + k * 5, none⟩) hl2).trans f0
                    have f1d := (hwd.cell (p := ⟨b2, o2 + k * 5 + 1, none⟩) hl2).trans f1
                    have f2d := (hwd.cell (p := ⟨b2, o2 + k * 5 + 2, none⟩) hl2).trans f2
                    have f3d := (hwd.cell (p := ⟨b2, o2 + k * 5 + 3, none⟩) hl2).trans f3
                    have f4d := (hwd.cell (p := ⟨b2, o2 + k * 5 + 4, none⟩) hl2).trans f4
                    have HWD := Lib.hid hwd
                    clear z4 u4 a0 a1 a2 a3 a4 f0 f1 f2 f3 f4 hwd
                    change wpStill _ _ wr.drew (fun a' => wpList _ _ _ _ a' wr.drew) _ _
                    generalize wr.drew = wd at *
                    simp only [List.take_succ_cons, List.take_zero, List.drop_succ_cons, List.drop_zero]
                    repeat still_step
                    refine wpStill_nil ?_
                    go_wp2_with fail
                    refine (HC.out _ HWD.out).mono ?_
                    rintro e w3 ⟨r, rfl, hr, hb3⟩
                    have HB3 := Lib.hid ((HBW.out.trans (HWD.out.mono HBW.out.size)).trans (hb3.mono (Nat.le_trans HBW.out.size HWD.out.size)))
                    have HRR := Lib.hid hr
                    clear hb3 hr a0d a1d a2d a3d a4d f0d f1d f2d f3d f4d z4d u4d
                    cases r
                    · go_wp2
                      go_ret
                      exact tells_no (fun h => absurd (HRR.out.2 (HGE.out (HPQ.out.1 h).2.2.2.2)) (by simp)) (HB.out.trans (HB3.out.mono HB.out.size))
                    · go_wp2
                      go_roundg (gk - 1)
                      case measure => omega
                      case rel => exact ⟨k + 1, by omega, by go_num, by omega, HB3.out, HS.out.2 (HRR.out.1 trivial)⟩
                  · have hkn : xl = yl := by
                      have := htk
                      rw [List.take_of_length_le (by rw [HN.out]; omega), List.take_of_length_le (by rw [HM.out]; omega)] at this
                      exact this
                    have H4 := Lib.hid hkn
                    have HW0 := Lib.hid hw0
                    clear hbw htk hkn hbx hw0
                    go_wp2
                    go_ret
                    exact tells_yes (HPQ.out.2 ⟨H0.out, H1.out, trivial, H3.out, H4.out⟩) HW0.out
          · subst h3
            have q3 : ((sn : Int) != (sn : Int)) = false := by simp
            have q4 : ((n : Int) != (m : Int)) = true := by simp; omega
            have HNE := Lib.hid (show ¬ xl = yl from fun h => h4 (by rw [← HN.out, ← HM.out, h]))
            go_enter Try.func20, Try.ntmps20
            go_wp2
            go_ret
            exact tells_no (fun h => HNE.out (HPQ.out.1 h).2.2.2.2) HB.out
        · have q3 : ((sn : Int) != (sm : Int)) = true := by simp; omega
          have HNE := Lib.hid (show ¬ xm = ym from fun h => h3 (by rw [← HSN.out, ← HSM.out, h]))
          go_enter Try.func20, Try.ntmps20
          go_wp2
          go_ret
          exact tells_no (fun h => HNE.out (HPQ.out.1 h).2.2.2.1) HB.out
      · have q2 : ¬ xs.toList = ys.toList := ne_lists h2
        have q6 : (xs.toList == ys.toList) = false := (Lib.bytes_beq_false_iff _ _).2 h2
        have HNE := Lib.hid h2
        clear h2
        go_enter Try.func20, Try.ntmps20
        go_wp2
        go_ret
        exact tells_no (fun h => HNE.out (HPQ.out.1 h).2.2.1) HB.out
    · have q1 : (xn != yn) = true := by simpa using h1
      have HNE := Lib.hid h1
      clear h1
      go_enter Try.func20, Try.ntmps20
      go_wp2
      go_ret
      exact tells_no (fun h => HNE.out (HPQ.out.1 h).2.1) HB.out
  · have q0 : (xo != yo) = true := by simpa using h0
    have HNE := Lib.hid h0
    clear h0
    go_enter Try.func20, Try.ntmps20
    go_wp2
    go_ret
    exact tells_no (fun h => HNE.out (HPQ.out.1 h).1) HB.out
end Go.Proofs.Ytkhpihacjhhklaa

/-
  Walks of layer 3: few.
-/
namespace Go.Proofs.Ytkhpihacjhhklaa
open Go Go.RowKit
open Pl (Syn)

set_option maxHeartbeats 400000 in
theorem few1_any (s : ByteArray) (w : World) : Calls Try.prog 51 #[.string s] w fun e w' => e = .returned (.bool (decide (60 < (s.size : Int)))) ∧ w = w' := by
  go_enter Try.func51, Try.ntmps51
  go_wp2
  go_ret
  exact ⟨rfl, rfl⟩
def SomeInt (w : World) (e : Ending) (w' : World) : Prop := ∃ r : Int, e = .returned (.int .i64 r) ∧ w = w'
def SomeBool (w : World) (e : Ending) (w' : World) : Prop := ∃ r : Bool, e = .returned (.bool r) ∧ w = w'
set_option maxRecDepth 100000 in
set_option maxHeartbeats 2000000 in
theorem longName_any (P : Nat → Prop) (v : Value) (zs : List ByteArray) (w : World) (h : StrSl w P v zs) : Calls Try.prog 59 #[v, .func (.func 51) #[] #[]] w (SomeInt w) := by
  obtain ⟨a, c, rfl, h1, h2, -, h4, h5⟩ := h
  unfold maxLen at h2
  clear h4
  rcases h5 with h5 | ⟨b, off, rfl, -, h5⟩
  · subst h5
    go_enter Try.func59, Try.ntmps59
    go_wp2_with fail
    go_loopg [8] 1 (fun g v wr => v = .int .i64 0 ∧ wr = w)
    case atStart => exact ⟨rfl, rfl⟩
    case round =>
      obtain ⟨rfl, rfl⟩ := hrel
      go_wp2
      go_ret
      exact ⟨_, rfl, rfl⟩
  · have H5 := Lib.hid h5
    clear h5
    generalize hn : zs.length = n at *
    have HN := Lib.hid hn
    clear hn
    go_enter Try.func59, Try.ntmps59
    go_wp2_with fail
    go_loopg [8] (n + 1) (fun g v wr => ∃ k : Nat, k ≤ n ∧ v = .int .i64 k ∧ g = n + 1 - k ∧ wr = w)
    case atStart => exact ⟨0, by omega, rfl, by omega, rfl⟩
    case round =>
      obtain ⟨k, hk, rfl, hg, rfl⟩ := hrel
      by_cases hlt : k < n
      · have hkl : k < zs.length := by rw [HN.out]; exact hlt
        have a0 := H5.out k hkl
        have hc := fun W => few1_any zs[k] W
        generalize zs[k] = z at *
        have HC := Lib.hid hc
        clear hc
        go_wp2_with fail
        refine (HC.out _).mono ?_
        rintro e w2 ⟨rfl, rfl⟩
        go_wp2
        · go_ret
          exact ⟨_, rfl, rfl⟩
        · go_roundg (gk - 1)
          case measure => omega
          case rel => exact ⟨k + 1, by omega, by go_num, by omega, rfl⟩
      · go_wp2
        go_ret
        exact ⟨_, rfl, rfl⟩
set_option maxHeartbeats 400000 in
theorem longNames_any (P : Nat → Prop) (v : Value) (zs : List ByteArray) (w : World) (h : StrSl w P v zs) : Calls Try.prog 50 #[v, .func (.func 51) #[] #[]] w (SomeBool w) := by
  have HC := Lib.hid (longName_any P v zs w h)
  clear h
  go_enter Try.func50, Try.ntmps50
  go_wp2_with fail
  refine HC.out.mono ?_
  rintro e w2 ⟨r, rfl, rfl⟩
  go_wp2
  go_ret
  exact ⟨_, rfl, rfl⟩

/-- what is left behind a tree, or a list of trees, that are few -/
def FewRes (g : Nat) (left : Int) (n b : Nat) (r : Bool) (w w' : World) : Prop :=
  ∃ left', Cell1 g left' w' ∧ Fr (· = g) (· = g) w w' ∧ -1 ≤ left' ∧ left' ≤ left ∧ (r = true → left' = left - n ∧ 0 ≤ left' ∧ b ≤ 31 * n)
def FewPost (g : Nat) (left : Int) (n b : Nat) (w : World) (e : Ending) (w' : World) : Prop := ∃ r : Bool, e = .returned (.bool r) ∧ FewRes g left n b r w w'
def NotFew (g : Nat) (left : Int) (n b : Nat) (w : World) (e : Ending) (w' : World) : Prop := ∃ r : Bool, e = .returned (.bool (!r)) ∧ FewRes g left n b r w w'
def FewSpec (t : Syn) : Prop := ∀ (P : Nat → Prop) (w : World) (v : Value) (g : Nat) (left depth : Int), Cell1 g left w → SynV w P t v → (∀ b, P b → b < w.heap.size ∧ b ≠ g) → 0 ≤ left → left ≤ 1073741824 → 0 ≤ depth → depth ≤ 501 →
  Calls Try.prog 27 #[v, .pointer (some ⟨g, 0, none⟩), .int .i64 depth] w (FewPost g left t.size t.big w)
set_option maxRecDepth 100000 in
set_option maxHeartbeats 2000000 in
theorem few2_any (t : Syn) (ht : FewSpec t) (P : Nat → Prop) (w : World) (v : Value) (g b4 b5 : Nat) (left depth : Int) (hc : Cell1 g left w) (hv : SynV w P t v) (hP : ∀ b, P b → b < w.heap.size ∧ b ≠ g) (h0 : 0 ≤ left) (h1 : left ≤ 1073741824) (h2 : 0 ≤ depth) (h3 : depth ≤ 500)
    (h4 : Blk w b4 46 #[.pointer (some ⟨g, 0, none⟩)]) (h5 : Blk w b5 3 #[.int .i64 depth]) :
    Calls Try.prog 53 #[v, .pointer (some ⟨b4, 0, none⟩), .pointer (some ⟨b5, 0, none⟩)] w (NotFew g left t.size t.big w) := by
  have HV := Lib.hid hv
  obtain ⟨na, nn, nc, la, ln, lc, rfl⟩ := hv.form
  have hb : Below w.heap.size w (w.alloc (.cells #[.int .i64 t.op, .int .i64 t.n, .string t.s, .slice na nn nc, .slice la ln lc] 25)) := (Below.refl _ _).alloc (Nat.le_refl _) _
  have HC := Lib.hid (ht P _ _ g left (depth + 1) (hc.below hb) (HV.out.keep (Same.of_below hb (fun b h => (hP b h).1))) (fun b h => ⟨Nat.lt_of_lt_of_le (hP b h).1 hb.size, (hP b h).2⟩) h0 h1 (by omega) (by omega))
  have c4 := (h4.alloc (.cells #[.int .i64 t.op, .int .i64 t.n, .string t.s, .slice na nn nc, .slice la ln lc] 25)).cell 0 _ rfl
  have c5 := (h5.alloc (.cells #[.int .i64 t.op, .int .i64 t.n, .string t.s, .slice na nn nc, .slice la ln lc] 25)).cell 0 _ rfl
  have HB := Lib.hid hb
  clear hv hb hc hP h4 h5 ht
  go_enter Try.func53, Try.ntmps53
  go_wp2_with fail
  refine HC.out.mono ?_
  rintro e w2 ⟨r, rfl, left', hl, hf, hr⟩
  have HR := Lib.hid hr
  have HL := Lib.hid hl
  have HF := Lib.hid ((Fr.of_below HB.out).trans hf)
  clear hr hl hf
  go_wp2
  go_ret
  exact ⟨r, rfl, left', HL.out, HF.out, HR.out⟩
def IdxPost (g : Nat) (left : Int) (n b : Nat) (w : World) (e : Ending) (w' : World) : Prop := ∃ r : Int, e = .returned (.int .i64 r) ∧ FewRes g left n b (decide (r < 0)) w w'
set_option maxRecDepth 100000 in
set_option maxHeartbeats 4000000 in
theorem manyIdx_any (l : List Syn) (hl : ∀ x ∈ l, FewSpec x) (P : Nat → Prop) (w : World) (v : Value) (g b4 b5 : Nat) (left depth : Int) (hc : Cell1 g left w) (hv : SynSl w P v l) (hP : ∀ b, P b → b < w.heap.size ∧ b ≠ g) (h0 : 0 ≤ left) (h1 : left ≤ 1073741824) (h2 : 0 ≤ depth) (h3 : depth ≤ 500)
    (h4 : Blk w b4 46 #[.pointer (some ⟨g, 0, none⟩)]) (h5 : Blk w b5 3 #[.int .i64 depth]) (h45 : b4 ≠ g ∧ b5 ≠ g) :
    Calls Try.prog 60 #[v, .func (.func 53) #[] #[.pointer (some ⟨b4, 0, none⟩), .pointer (some ⟨b5, 0, none⟩)]] w (IdxPost g left (Pl.sizes l) (Pl.bigs l) w) := by
  rcases hv.cases with ⟨rfl, a, c, rfl, -, -⟩ | ⟨b, off, n, c, rfl, hnl, hn0, hnc, hcm, hPb, hka⟩
  · have HC := Lib.hid hc
    clear hl hv hP h4 h5 h45 hc
    go_enter Try.func60, Try.ntmps60
    go_wp2_with fail
    go_loopg [8] 1 (fun g v wr => v = .int .i64 0 ∧ wr = w)
    case atStart => exact ⟨rfl, rfl⟩
    case round =>
      obtain ⟨rfl, rfl⟩ := hrel
      go_wp2
      go_ret
      exact ⟨-1, rfl, left, HC.out, Fr.refl _ _, by omega, Int.le_refl _, fun _ => by rw [Pl.sizes_nil, Pl.bigs_nil]; omega⟩
  · unfold maxLen at hcm
    have HNL := Lib.hid hnl
    have HIH := Lib.hid hl
    have HKA := Lib.hid hka
    have HP := Lib.hid hP
    have HPB := Lib.hid hPb
    have HC := Lib.hid hc
    have H4 := Lib.hid h4
    have H5 := Lib.hid h5
    have H45 := Lib.hid h45
    clear hv hnl hl hka hP hPb hc h4 h5 h45
    go_enter Try.func60, Try.ntmps60
    go_wp2_with fail
    go_loopg [8] (n + 1) (fun gg v wr => ∃ k : Nat, k ≤ n ∧ v = .int .i64 k ∧ gg = n + 1 - k ∧ FewRes g left (Pl.sizes (l.take k)) (Pl.bigs (l.take k)) true w wr)
    case atStart => exact ⟨0, by omega, rfl, by omega, left, HC.out, Fr.refl _ _, by omega, Int.le_refl _, fun _ => by rw [List.take_zero, Pl.sizes_nil, Pl.bigs_nil]; omega⟩
    case round =>
      obtain ⟨k, hk, rfl, hg, lk, hck, hfk, hk1, hk2, hk3⟩ := hrel
      obtain ⟨hk3, hk4, hk5⟩ := hk3 rfl
      by_cases hlt : k < n
      · have hkl : k < l.length := by rw [HNL.out]; exact hlt
        have hP1 := hfk.still HP.out
        obtain ⟨xo, xn, xs, na, nn, nc, la, ln, lc, -, a0, a1, a2, a3, a4, hxs⟩ := (HKA.out.keep (hfk.same HP.out) HPB.out).part k hkl
        have hcall := few2_any l[k] (HIH.out _ (List.getElem_mem hkl)) P wr _ g b4 b5 lk depth hck hxs hP1 hk4 (by omega) h2 h3 (H4.out.of_eq (hfk.block H4.out.lt H45.out.1)) (H5.out.of_eq (hfk.block H5.out.lt H45.out.2))
        have HCA := Lib.hid hcall
        have HFK := Lib.hid hfk
        have HSS := Lib.hid (Pl.sizes_snoc l k hkl)
        have HBS := Lib.hid (Pl.bigs_app (l.take k) [l[k]])
        have HTS := Lib.hid (List.take_succ_eq_append_getElem hkl)
        have HB1 := Lib.hid (show Pl.bigs [l[k]] = l[k].big from by rw [Pl.bigs_cons, Pl.bigs_nil]; rfl)
        generalize l[k] = x at *
        have HK3 := Lib.hid hk3
        clear hcall hfk hP1 hxs hck hk3
        go_wp2_with fail
        refine HCA.out.mono ?_
        rintro e w3 ⟨r, rfl, left', hl3, hf3, hr1, hr2, hr3⟩
        have HF3 := Lib.hid (HFK.out.trans hf3)
        have HL3 := Lib.hid hl3
        have HR3 := Lib.hid hr3
        clear hf3 hl3 hr3 a0 a1 a2 a3 a4
        cases r
        · go_wp2
          go_ret
          refine ⟨k, rfl, left', HL3.out, HF3.out, hr1, by omega, fun h => ?_⟩
          rw [decide_eq_true_eq] at h; omega
        · go_wp2
          go_roundg (gk - 1)
          case measure => omega
          case rel =>
            have h1 := HR3.out trivial
            have h2 := HK3.out
            refine ⟨k + 1, by omega, by go_num, by omega, left', HL3.out, HF3.out, hr1, by omega, fun _ => ?_⟩
            rw [HSS.out, HTS.out, HBS.out, HB1.out]
            omega
      · have hkn : l.take k = l := List.take_of_length_le (by rw [HNL.out]; omega)
        rw [hkn] at hk3 hk5
        have HCK := Lib.hid hck
        have HFK := Lib.hid hfk
        have HK3 := Lib.hid hk3
        clear hck hfk hk3 hkn
        go_wp2
        go_ret
        exact ⟨-1, rfl, lk, HCK.out, HFK.out, hk1, hk2, fun _ => ⟨HK3.out, hk4, hk5⟩⟩
set_option maxHeartbeats 2000000 in
theorem manyCon_any (l : List Syn) (hl : ∀ x ∈ l, FewSpec x) (P : Nat → Prop) (w : World) (v : Value) (g b4 b5 : Nat) (left depth : Int) (hc : Cell1 g left w) (hv : SynSl w P v l) (hP : ∀ b, P b → b < w.heap.size ∧ b ≠ g) (h0 : 0 ≤ left) (h1 : left ≤ 1073741824) (h2 : 0 ≤ depth) (h3 : depth ≤ 500)
    (h4 : Blk w b4 46 #[.pointer (some ⟨g, 0, none⟩)]) (h5 : Blk w b5 3 #[.int .i64 depth]) (h45 : b4 ≠ g ∧ b5 ≠ g) :
    Calls Try.prog 52 #[v, .func (.func 53) #[] #[.pointer (some ⟨b4, 0, none⟩), .pointer (some ⟨b5, 0, none⟩)]] w (NotFew g left (Pl.sizes l) (Pl.bigs l) w) := by
  have HC := Lib.hid (manyIdx_any l hl P w v g b4 b5 left depth hc hv hP h0 h1 h2 h3 h4 h5 h45)
  clear hc hv hP h4 h5 h45 hl
  go_enter Try.func52, Try.ntmps52
  go_wp2_with fail
  refine HC.out.mono ?_
  rintro e w2 ⟨r, rfl, hr⟩
  have HR := Lib.hid hr
  clear hr
  by_cases hr0 : r < 0
  · have q : decide ((0 : Int) ≤ r) = false := by simp; omega
    go_wp2
    go_ret
    exact ⟨true, rfl, by have := HR.out; rw [decide_eq_true hr0] at this; exact this⟩
  · have q : decide ((0 : Int) ≤ r) = true := by simp; omega
    go_wp2
    go_ret
    exact ⟨false, rfl, by have := HR.out; rw [decide_eq_false (show ¬ r < 0 from by omega)] at this; exact this⟩
theorem cell1_setw {g : Nat} {n x : Int} {w : World} (h : Cell1 g n w) : Cell1 g x (w.setCell ⟨g, 0, none⟩ (.int .i64 x)) := by
  have := Blk.set h 0 (.int .i64 x)
  simpa [Cell1] using this
theorem size_setCell (w : World) (p : Addr) (v : Value) : (w.setCell p v).heap.size = w.heap.size := by simp [World.setCell]
/-- few's three variables -/
def few3 (w : World) (xs : Array Value) (g : Nat) (depth : Int) : World := ((w.alloc (.cells xs 25)).alloc (.cells #[.pointer (some ⟨g, 0, none⟩)] 46)).alloc (.cells #[.int .i64 depth] 3)
theorem few3_below (w : World) (xs : Array Value) (g : Nat) (depth : Int) : Below w.heap.size w (few3 w xs g depth) := (((Below.refl _ _).alloc (Nat.le_refl _) _).alloc (by simp) _).alloc (by simp; omega) _
theorem few3_b3 (w : World) (xs : Array Value) (g : Nat) (depth : Int) : Blk (few3 w xs g depth) w.heap.size 25 xs := ((blk_new w xs 25).alloc _).alloc _
theorem few3_b4 (w : World) (xs : Array Value) (g : Nat) (depth : Int) : Blk (few3 w xs g depth) (w.heap.size + 1) 46 #[.pointer (some ⟨g, 0, none⟩)] := by
  have := (blk_new (w.alloc (.cells xs 25)) #[.pointer (some ⟨g, 0, none⟩)] 46).alloc (.cells #[.int .i64 depth] 3)
  rw [size_alloc] at this
  exact this
theorem few3_b5 (w : World) (xs : Array Value) (g : Nat) (depth : Int) : Blk (few3 w xs g depth) (w.heap.size + 1 + 1) 3 #[.int .i64 depth] := by
  have := blk_new ((w.alloc (.cells xs 25)).alloc (.cells #[.pointer (some ⟨g, 0, none⟩)] 46)) #[.int .i64 depth] 3
  rw [size_alloc, size_alloc] at this
  exact this
theorem few_no {g : Nat} {left : Int} {n b : Nat} {w w' : World} (h : Cell1 g (left - 1) w' ∧ Fr (· = g) (· = g) w w') (h0 : 0 ≤ left) : FewPost g left n b w (.returned (.bool false)) w' :=
  ⟨false, rfl, left - 1, h.1, h.2, by omega, by omega, fun h => (by cases h)⟩
set_option maxRecDepth 100000 in
set_option maxHeartbeats 8000000 in
theorem few_any (t : Syn) : FewSpec t := by
  induction t using Syn.ind with
  | h t ih =>
  intro P w v g left depth hc hv hP h0 h1 h2 h3
  have hsz := Pl.size_pos t
  have HBG := Lib.hid (Pl.big_eq t)
  have HSQ := Lib.hid (Pl.size_eq t)
  rw [synV_iff] at hv
  obtain ⟨hs, nv, lv, rfl, hn, hl⟩ := hv
  unfold maxLen at hs
  have hgl := Blk.lt hc
  obtain ⟨na, nc, rfl, hnm⟩ := hn.form
  obtain ⟨la, lc, rfl, hlm⟩ := hl.form
  unfold maxLen at hnm hlm
  have hbw := few3_below w #[.int .i64 t.op, .int .i64 t.n, .string t.s, .slice na t.names.length nc, .slice la t.l.length lc] g depth
  have d4 := (few3_b4 w #[.int .i64 t.op, .int .i64 t.n, .string t.s, .slice na t.names.length nc, .slice la t.l.length lc] g depth).cell 0 _ rfl
  have hcw : Cell1 g left _ := hc.below hbw
  have dg := Blk.cell hcw 0 _ rfl
  have fg := Blk.thaw hcw 0
  have hce := cell1_setw (x := left - 1) hcw
  have hfe := fr_set (g := g) (.int .i64 (left - 1)) 0 hbw
  have b3 := (few3_b3 w #[.int .i64 t.op, .int .i64 t.n, .string t.s, .slice na t.names.length nc, .slice la t.l.length lc] g depth).other ⟨g, 0, none⟩ (.int .i64 (left - 1)) (by show w.heap.size ≠ g; omega)
  have b4 := (few3_b4 w #[.int .i64 t.op, .int .i64 t.n, .string t.s, .slice na t.names.length nc, .slice la t.l.length lc] g depth).other ⟨g, 0, none⟩ (.int .i64 (left - 1)) (by show w.heap.size + 1 ≠ g; omega)
  have b5 := (few3_b5 w #[.int .i64 t.op, .int .i64 t.n, .string t.s, .slice na t.names.length nc, .slice la t.l.length lc] g depth).other ⟨g, 0, none⟩ (.int .i64 (left - 1)) (by show w.heap.size + 1 + 1 ≠ g; omega)
  have HEND := Lib.hid (And.intro hce hfe)
  have hsame := hfe.same (P := P) hP
  have hP2 := hfe.still (P := P) hP
  have HC1 := Lib.hid (longNames_any P _ _ _ (hn.keep hsame))
  have HC2 := Lib.hid (fun (a1 : 0 ≤ left - 1) (a2 : depth ≤ 500) => manyCon_any t.l ih P _ _ g (w.heap.size + 1) (w.heap.size + 1 + 1) (left - 1) depth hce (hl.keep hsame) hP2 a1 (by omega) h2 a2 b4 b5 ⟨by omega, by omega⟩)
  have e2 := b3.cell 2 _ rfl
  have e3 := b3.cell 3 _ rfl
  have e4 := b3.cell 4 _ rfl
  have k4 := b4.cell 0 _ rfl
  have k5 := b5.cell 0 _ rfl
  unfold few3 at HEND HC1 HC2 e2 e3 e4 k4 k5 dg fg d4
  clear b3 b4 b5 hbw hcw hce hfe hsame hP2 hn hl hP hc ih
  generalize t.names.length = sn at *
  generalize hnl : t.l.length = n at *
  generalize t.op = xo at *
  generalize t.n = xn at *
  generalize t.s = xs at *
  by_cases c1 : left < 1
  · go_enter Try.func27, Try.ntmps27
    go_wp2
    go_ret
    exact few_no HEND.out h0
  by_cases c2 : 500 < depth
  · go_enter Try.func27, Try.ntmps27
    go_wp2
    go_ret
    exact few_no HEND.out h0
  by_cases c3 : 30 < sn
  · have q3 : decide ((30 : Int) < (sn : Int)) = true := by simp; omega
    go_enter Try.func27, Try.ntmps27
    go_wp2
    go_ret
    exact few_no HEND.out h0
  have q3 : decide ((30 : Int) < (sn : Int)) = false := by simp; omega
  by_cases c4 : 16484 < xs.size
  · have q4 : decide ((500 : Int) < (xs.size : Int)) = true := by simp; omega
    have q5 : decide ((xs.size : Int) ≤ 16384) = false := by simp; omega
    have q6 : decide ((16484 : Int) < (xs.size : Int)) = true := by simp; omega
    go_enter Try.func27, Try.ntmps27
    go_wp2
    go_ret
    exact few_no HEND.out h0
  have q6 : decide ((16484 : Int) < (xs.size : Int)) = false := by simp; omega
  by_cases c5 : 500 < xs.size ∧ xs.size ≤ 16384
  · have q4 : decide ((500 : Int) < (xs.size : Int)) = true := by simp; omega
    have q5 : decide ((xs.size : Int) ≤ 16384) = true := by simp; omega
    go_enter Try.func27, Try.ntmps27
    go_wp2
    go_ret
    exact few_no HEND.out h0
  have HC2' := Lib.hid (HC2.out (by omega) (by omega))
  clear HC2
  by_cases c6 : 500 < xs.size
  · have q4 : decide ((500 : Int) < (xs.size : Int)) = true := by simp; omega
    have q5 : decide ((xs.size : Int) ≤ 16384) = false := by simp; omega
    go_enter Try.func27, Try.ntmps27
    go_wp2_with fail
    refine HC1.out.mono ?_
    rintro e w2 ⟨r, rfl, rfl⟩
    cases r
    · go_wp2_with fail
      refine HC2'.out.mono ?_
      rintro e w2 ⟨r, rfl, left', hr1, hr2, hr3, hr4, hr5⟩
      have HR1 := Lib.hid hr1
      have HR2 := Lib.hid (HEND.out.2.trans hr2)
      have HR5 := Lib.hid hr5
      clear hr1 hr2 hr5
      go_wp2
      go_ret
      refine ⟨r, by simp, left', HR1.out, HR2.out, hr3, by omega, fun h => ?_⟩
      have := HR5.out h
      have := HBG.out
      have := HSQ.out
      omega
    · go_wp2
      go_ret
      exact few_no HEND.out h0
  · have q4 : decide ((500 : Int) < (xs.size : Int)) = false := by simp; omega
    go_enter Try.func27, Try.ntmps27
    go_wp2_with fail
    refine HC1.out.mono ?_
    rintro e w2 ⟨r, rfl, rfl⟩
    cases r
    · go_wp2_with fail
      refine HC2'.out.mono ?_
      rintro e w2 ⟨r, rfl, left', hr1, hr2, hr3, hr4, hr5⟩
      have HR1 := Lib.hid hr1
      have HR2 := Lib.hid (HEND.out.2.trans hr2)
      have HR5 := Lib.hid hr5
      clear hr1 hr2 hr5
      go_wp2
      go_ret
      refine ⟨r, by simp, left', HR1.out, HR2.out, hr3, by omega, fun h => ?_⟩
      have := HR5.out h
      have := HBG.out
      have := HSQ.out
      omega
    · go_wp2
      go_ret
      exact few_no HEND.out h0
end Go.Proofs.Ytkhpihacjhhklaa
