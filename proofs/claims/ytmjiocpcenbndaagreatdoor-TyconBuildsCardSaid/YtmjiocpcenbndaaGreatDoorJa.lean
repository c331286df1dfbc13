/-
  Walks of layer 8's code: what counts nodes (isKind), Valid, and the small ones.
-/
import Derived.Test.YtmjiocpcenbndaaGreatDoorKn
import Derived.Deep.LoopGhost
namespace Go.Proofs.YtmjiocpcenbndaaGreatDoor
open Go Go.RowKit
open Pl (K)
set_option linter.unusedSimpArgs false

namespace Pl.K
theorem fit_two (x y : K) (left d : Int) : Fit (.mk [x, y]) left d ↔ Fit x (left - 1) (d - 1) ∧ Fit y (left - 1 - size x) (d - 1) := by
  unfold Fit
  rw [size_two, ok, oks, oks, oks, depth, depths, depths, depths]
  have h1 := size_pos x
  have h2 := size_pos y
  have h3 := depth_pos x
  have h4 := depth_pos y
  simp only [List.length_cons, List.length_nil, Bool.and_eq_true]
  constructor
  · rintro ⟨⟨-, a, b, -⟩, c, d⟩
    exact ⟨⟨a, by omega, by omega⟩, b, by omega, by omega⟩
  · rintro ⟨⟨a, c1, d1⟩, b, c2, d2⟩
    exact ⟨⟨by decide, a, b, trivial⟩, by omega, by omega⟩
theorem fit_nil (left d : Int) (h1 : 1 ≤ left) (h2 : 1 ≤ d) : Fit (.mk []) left d := ⟨by decide +kernel, by rw [size, sizes]; omega, by rw [depth, depths]; omega⟩
theorem fit_bad (l : List K) (h1 : l.length ≠ 0) (h2 : l.length ≠ 2) (left d : Int) : ¬ Fit (.mk l) left d := fun h => by
  have := h.1
  rw [ok, Bool.and_eq_true, Bool.or_eq_true, beq_iff_eq, beq_iff_eq] at this
  rcases this.1 with h | h
  · exact h1 h
  · exact h2 h
theorem fit_left (t : K) (d : Int) : ¬ Fit t 0 d := fun h => by
  have := h.2.1; have := size_pos t; omega
theorem fit_depth (t : K) (left : Int) : ¬ Fit t left 0 := fun h => by
  have := h.2.2; have := depth_pos t; omega
end Pl.K
/-- what the code's count leaves behind -/
def IsK (N : Nat) (t : K) (left d : Int) (w : World) (e : Ending) (w' : World) : Prop :=
  ∃ (r : Bool) (c : Int), e = .returned (.bool r) ∧ Blk w' N 3 #[.int .i64 c] ∧ 0 ≤ c ∧ c ≤ left ∧ (r = true ↔ K.Fit t left d) ∧ (r = true → c = left - K.size t) ∧ Only N w w'
set_option maxRecDepth 100000 in
set_option maxHeartbeats 1000000 in
theorem isKind_any (P : Nat → Prop) (N : Nat) (t : K) : ∀ (left d : Int) (w : World) (v : Value), (∀ b, P b → b < w.heap.size ∧ b ≠ N) → Blk w N 3 #[.int .i64 left] → KV w P t v → 0 ≤ left → left ≤ 1000000 → 0 ≤ d → d ≤ 1000000 →
    Calls Tryz.prog 126 #[v, .pointer (some ⟨N, 0, none⟩), .int .i64 d] w (IsK N t left d w) := by
  induction t using K.ind with
  | h t ih =>
  intro left d w v hP hN ht hl0 hl1 hd0 hd1
  have HIH := Lib.hid ih
  clear ih
  obtain ⟨l⟩ := t
  obtain ⟨a, cc, rfl, hlc, hcm, hka⟩ := ht.open
  replace hka : ∀ (j : Nat) (hj : j < l.length), ∃ b off x, a = some ⟨b, off, none⟩ ∧ P b ∧ w.cell? ⟨b, off + j, none⟩ = some x ∧ KidV w P l[j] x := hka
  change Calls _ _ #[.agg #[.slice a l.length cc], _, _] _ _
  have hll : l.length ≤ 9223372036854775807 := by
    have h1 : l.length ≤ cc := hlc
    unfold maxLen at hcm; omega
  obtain ⟨n, hn⟩ : ∃ n, n = l.length := ⟨_, rfl⟩
  rw [← hn] at hll ⊢
  have HLN := Lib.hid hn
  have HKA := Lib.hid hka
  have HP := Lib.hid hP
  clear ht hlc hcm hka hn hP
  obtain ⟨hbx, hb⟩ := box_new w 24 (.slice a n cc)
  have hn1 := hN.of_eq (hb.block _ hN.lt)
  have hgn : ¬ w.heap.size = N := fun e => by have := hN.lt; omega
  have cn := hn1.cell 0 (.int .i64 left) rfl
  have fn := hn1.thaw 0
  have w1 : wrap64 (left - 1) = left - 1 := by rw [wrap64]; omega
  have w2 : wrap64 (d - 1) = d - 1 := by rw [wrap64]; omega
  have HO1 := Lib.hid (show Only N w (w.alloc (.cells #[.slice a n cc] 24)) from (Only.refl N w).alloc _)
  have HN1 := Lib.hid hn1
  have HR := Lib.hid (fun h => K.fit_left (.mk l) d h)
  have HD := Lib.hid (fun h => K.fit_depth (.mk l) left h)
  have HO := Lib.hid (show Only N w ((w.alloc (.cells #[.slice a n cc] 24)).setCell ⟨N, 0, none⟩ (.int .i64 (left - 1))) from ((Only.refl N w).alloc _).setCell (p := ⟨N, 0, none⟩) (.inl rfl) _)
  have HN := Lib.hid (show Blk ((w.alloc (.cells #[.slice a n cc] 24)).setCell ⟨N, 0, none⟩ (.int .i64 (left - 1))) N 3 #[.int .i64 (left - 1)] from blk_one hn1)
  have HG := Lib.hid (hbx.other ⟨N, 0, none⟩ (.int .i64 (left - 1)) hgn)
  have HGN := Lib.hid hgn
  clear hn1 hN hb
  by_cases h1 : left = 0
  · have q1 : (left == 0) = true := by rw [h1]; rfl
    have HE := Lib.hid h1
    clear h1 hbx hgn
    go_enter Tryz.func126, Tryz.ntmps126
    go_wp2
    go_ret
    exact ⟨false, left, rfl, HN1.out, hl0, Int.le_refl _, ⟨(fun h => by cases h), (fun h => absurd (HE.out ▸ h) HR.out)⟩, (fun h => by cases h), HO1.out⟩
  have q1 : (left == 0) = false := beq_eq_false_iff_ne.2 h1
  by_cases h2 : d = 0
  · have q2 : (d == 0) = true := by rw [h2]; rfl
    have HE := Lib.hid h2
    clear h1 h2 hbx hgn
    go_enter Tryz.func126, Tryz.ntmps126
    go_wp2
    go_ret
    exact ⟨false, left, rfl, HN1.out, hl0, Int.le_refl _, ⟨(fun h => by cases h), (fun h => absurd (HE.out ▸ h) HD.out)⟩, (fun h => by cases h), HO1.out⟩
  have q2 : (d == 0) = false := beq_eq_false_iff_ne.2 h2
  have cg := HG.out.cell 0 (.slice a n cc) rfl
  by_cases h3 : n = 0
  · have q3 : ((n : Int) == 0) = true := by rw [h3]; rfl
    obtain rfl : l = [] := List.eq_nil_of_length_eq_zero (by rw [← HLN.out]; exact h3)
    have HF := Lib.hid (K.fit_nil left d (by omega) (by omega))
    clear h1 h2 h3 hbx hgn HKA HLN
    go_enter Tryz.func126, Tryz.ntmps126
    go_wp2
    go_ret
    exact ⟨true, left - 1, rfl, HN.out, by have := HF.out.2.1; rw [K.size, K.sizes] at this; omega, by omega, ⟨fun _ => HF.out, fun _ => rfl⟩, (fun _ => by rw [K.size, K.sizes]; omega), HO.out⟩
  have q3 : ((n : Int) == 0) = false := beq_eq_false_iff_ne.2 (by omega)
  by_cases h4 : n = 2
  rotate_left
  · have q4 : ((n : Int) == 2) = false := beq_eq_false_iff_ne.2 (by omega)
    have HF := Lib.hid (K.fit_bad l (by rw [← HLN.out]; exact h3) (by rw [← HLN.out]; exact h4) left d)
    have hlz : 0 ≤ left - 1 := by omega
    clear h1 h2 h3 h4 hbx hgn HKA HLN
    go_enter Tryz.func126, Tryz.ntmps126
    go_wp2
    go_ret
    exact ⟨false, left - 1, rfl, HN.out, hlz, by omega, ⟨(fun h => by cases h), fun h => absurd h HF.out⟩, (fun h => by cases h), HO.out⟩
  obtain ⟨x, y, rfl⟩ : ∃ x y, l = [x, y] := by
    match l, HLN.out.symm.trans h4 with
    | [x, y], _ => exact ⟨x, y, rfl⟩
  subst h4
  obtain ⟨b0, o0, rfl, hPb, hke⟩ := kids_each HKA.out (by simp)
  obtain ⟨x0, hx0, hkx⟩ := hke 0 (by simp)
  obtain ⟨y0, hy0, hky⟩ := hke 1 (by simp)
  have hkx : KidV w P x x0 := hkx
  have hky : KidV w P y y0 := hky
  rw [Nat.add_zero] at hx0
  have hb0 := HP.out b0 hPb
  have HIX := Lib.hid (HIH.out x (by simp [K.l]))
  have HIY := Lib.hid (HIH.out y (by simp [K.l]))
  have HF2 := Lib.hid (K.fit_two x y left d)
  have HSZ := Lib.hid (K.size_two x y)
  have hsx : (1 : Int) ≤ K.size x := by have := K.size_pos x; omega
  generalize K.size (.mk [x, y]) = sz at *
  have hlz : 0 ≤ left - 1 := by omega
  have hdz : 0 ≤ d - 1 := by omega
  have HX0 := Lib.hid hx0
  have HY0 := Lib.hid hy0
  have HKX := Lib.hid hkx
  have HKY := Lib.hid hky
  have q4 : ((2 : Int) == 2) = true := rfl
  have q5 : ((2 : Int) == 0) = false := rfl
  obtain ⟨a7, c7, rfl⟩ := hkx.form
  obtain ⟨a8, c8, rfl⟩ := hky.form
  have fx := (cell_only HO.out hb0.1 hb0.2).trans hx0
  have HP2 := Lib.hid (fun b h => (⟨Nat.lt_of_lt_of_le (HP.out b h).1 HO.out.size, (HP.out b h).2⟩ : b < _ ∧ b ≠ N))
  have HC := Lib.hid (HIX.out (left - 1) (d - 1) _ (.agg #[.slice a7 x.l.length c7]) HP2.out HN.out ⟨_, rfl, hkx.keep (fun b h => World.grownBy.block HO.out b (HP.out b h).1 (fun e => by injection e with e; exact (HP.out b h).2 e))⟩ hlz (by omega) hdz (by omega))
  have HS := Lib.hid (fun W (hW : Only N w W) (c : Int) (hN : Blk W N 3 #[.int .i64 c]) (h0 : 0 ≤ c) (h1 : c ≤ 1000000) => HIY.out c (d - 1) W (.agg #[.slice a8 y.l.length c8]) (fun b h => ⟨Nat.lt_of_lt_of_le (HP.out b h).1 hW.size, (HP.out b h).2⟩) hN ⟨_, rfl, hky.keep (fun b h => World.grownBy.block hW b (HP.out b h).1 (fun e => by injection e with e; exact (HP.out b h).2 e))⟩ h0 h1 hdz (by omega))
  generalize x.l.length = n7 at *
  generalize y.l.length = n8 at *
  clear h1 h2 h3 hbx hgn HKA HLN HIH q3 hke hkx hky HR HD hx0 HIX HIY
  go_enter Tryz.func126, Tryz.ntmps126
  go_wp2_with fail
  refine HC.out.mono ?_
  rintro e w3 ⟨r1, c1, rfl, hn3, h30, h31, hr1, hc1, ho3⟩
  have HW3 := Lib.hid (HO.out.trans ho3)
  have HG3 := Lib.hid (ho3.blk HG.out HGN.out)
  have HN3 := Lib.hid hn3
  have HR1 := Lib.hid hr1
  have HC1 := Lib.hid hc1
  have fy := (cell_only HW3.out hb0.1 hb0.2).trans HY0.out
  clear hn3 hr1 hc1 ho3 cg fx cn fn
  have cg := HG3.out.cell 0 (.slice (some ⟨b0, o0, none⟩) 2 cc) rfl
  cases r1
  · clear fy hy0
    go_wp2
    go_ret
    exact ⟨false, c1, rfl, HN3.out, h30, by omega, ⟨(fun h => by cases h), fun h => HR1.out.2 (HF2.out.1 h).1⟩, (fun h => by cases h), HW3.out⟩
  have HS3 := Lib.hid (HS.out w3 HW3.out c1 HN3.out h30 (by omega))
  clear hy0 HS
  go_wp2_with fail
  refine HS3.out.mono ?_
  rintro e w4 ⟨r2, c2, rfl, hn4, h40, h41, hr2, hc2, ho4⟩
  have HW4 := Lib.hid (HW3.out.trans ho4)
  have HN4 := Lib.hid hn4
  have HR2 := Lib.hid hr2
  have HC2 := Lib.hid hc2
  clear hn4 hr2 hc2 ho4 cg fy
  have e1 := HC1.out (by first | exact rfl | trivial)
  have HE1 := Lib.hid e1
  clear e1
  go_wp2
  go_ret
  refine ⟨r2, c2, rfl, HN4.out, h40, by omega, ?_, ?_, HW4.out⟩
  · rw [HR2.out, HF2.out, HE1.out]
    exact ⟨fun h => ⟨HR1.out.1 (by first | exact rfl | trivial), h⟩, fun h => h.2⟩
  · intro h
    have h1 := HC2.out h
    have h2 := HE1.out
    have h3 := K.size_two x y
    omega
/-- nothing but a new block has turned -/
theorem only_new {N : Nat} {w w' : World} (h : Only N w w') {B : Nat} (hB : B ≤ N) (hs : B ≤ w.heap.size) : Below B w w' := h.to hB hs
set_option maxRecDepth 100000 in
theorem valid_any (P : Nat → Prop) (t : K) (w : World) (v : Value) (hP : ∀ b, P b → b < w.heap.size) (ht : KV w P t v) :
    Calls Tryz.prog 109 #[v] w fun e w' => e = .returned (.bool (K.valid t)) ∧ Below w.heap.size w w' := by
  obtain ⟨a, c, rfl⟩ := ht.form
  have hk := ht.kid
  clear ht
  obtain ⟨hbx, hb⟩ := box_new w 24 (.slice a t.l.length c)
  obtain ⟨hn, hb2⟩ := box_new (w.alloc (.cells #[.slice a t.l.length c] 24)) 3 (.int .i64 20000)
  obtain ⟨hm, -⟩ := box_new (w.alloc (.cells #[.slice a t.l.length c] 24)) 3 (.int .i64 0)
  have fm := hm.thaw 0
  rw [size_alloc] at hn hb2 fm
  have hbb : Below w.heap.size w ((w.alloc (.cells #[.slice a t.l.length c] 24)).alloc (.cells #[.int .i64 20000] 3)) := hb.trans (hb2.mono (Nat.le_succ _))
  have hc := (hbx.alloc (.cells #[.int .i64 20000] 3)).cell 0 (.slice a t.l.length c) rfl
  have HC := Lib.hid (isKind_any P (w.heap.size + 1) t 20000 400 _ (.agg #[.slice a t.l.length c]) (fun b h => ⟨Nat.lt_of_lt_of_le (hP b h) hbb.size, by have := hP b h; omega⟩) hn ⟨_, rfl, hk.keep (Same.of_below hbb hP)⟩ (by omega) (by omega) (by omega) (by omega))
  have HV := Lib.hid (K.valid_iff t)
  have HB := Lib.hid hbb
  generalize K.valid t = z at HV ⊢
  generalize t.l.length = n at *
  clear hk hb hbb hn hb2 hbx hm
  go_enter Tryz.func109, Tryz.ntmps109
  go_wp2_with fail
  refine HC.out.mono ?_
  rintro e w3 ⟨r, c3, rfl, -, -, -, hr, -, ho⟩
  have hz : z = r := by
    have h1 := HV.out.trans hr.symm
    cases z <;> cases r <;> simp_all
  subst hz
  have HB3 := Lib.hid (HB.out.trans (ho.to (B := w.heap.size) (Nat.le_succ _) HB.out.size))
  clear hr ho hc fm
  go_wp2
  go_ret
  exact ⟨rfl, HB3.out⟩
theorem isNone_any (P : Nat → Prop) (t : K) (w : World) (v : Value) (hP : ∀ b, P b → b < w.heap.size) (ht : KV w P t v) :
    Calls Tryz.prog 111 #[v] w fun e w' => e = .returned (.bool (!K.valid t)) ∧ Below w.heap.size w w' := by
  obtain ⟨a, c, rfl⟩ := ht.form
  have hk := ht.kid
  clear ht
  obtain ⟨hbx, hb⟩ := box_new w 24 (.slice a t.l.length c)
  have c0 := hbx.cell 0 (.slice a t.l.length c) rfl
  have HC := Lib.hid (valid_any P t _ (.agg #[.slice a t.l.length c]) (fun b h => Nat.lt_of_lt_of_le (hP b h) hb.size) ⟨_, rfl, hk.keep (Same.of_below hb hP)⟩)
  have HB := Lib.hid hb
  generalize K.valid t = z at HC ⊢
  generalize t.l.length = n at *
  clear hk hb hbx
  go_enter Tryz.func111, Tryz.ntmps111
  go_wp2_with fail
  refine HC.out.mono ?_
  rintro e w3 ⟨rfl, hb3⟩
  have HB3 := Lib.hid (belowStep hb3 HB.out)
  clear hb3 c0
  go_wp2
  go_ret
  exact ⟨rfl, HB3.out⟩
theorem isStar_any (P : Nat → Prop) (t : K) (w : World) (v : Value) (ht : KV w P t v) :
    Calls Tryz.prog 129 #[v] w fun e w' => e = .returned (.bool (t.l.length == 0)) ∧ Below w.heap.size w w' := by
  obtain ⟨a, c, rfl⟩ := ht.form
  clear ht
  generalize t.l.length = n
  obtain ⟨hbx, hb⟩ := box_new w 24 (.slice a n c)
  have c0 := hbx.cell 0 (.slice a n c) rfl
  have HB := Lib.hid hb
  clear hbx hb
  have hn : ((n : Int) == 0) = (n == 0) := by cases n <;> rfl
  generalize (n == 0) = r at hn ⊢
  go_enter Tryz.func129, Tryz.ntmps129
  go_wp2
  go_ret
  exact ⟨by first | rfl | (rw [hn]; rfl), HB.out⟩
theorem star_any (w : World) : Calls Tryz.prog 130 #[] w fun e w' => e = .returned (.agg #[.slice none 0 0]) ∧ Below w.heap.size w w' := by
  obtain ⟨hbx, hb⟩ := box_new w 24 (.slice none 0 0)
  have c0 := hbx.cell 0 (.slice none 0 0) rfl
  have f0 := hbx.thaw 0
  have hb1 := blk_one (y := .slice none 0 0) hbx
  have d0 := hb1.cell 0 (.slice none 0 0) rfl
  have HB := Lib.hid (below_set hb (Nat.le_refl _) (.slice none 0 0))
  have HB0 := Lib.hid hb
  clear hbx hb hb1
  go_enter Tryz.func130, Tryz.ntmps130
  go_wp2
  refine bodyPost_ret (v := .agg #[.slice none 0 0]) (by first | (simp [results, Tryz.results130, go_sem, d0]; done) | (simp [results, Tryz.results130, go_sem, c0]; done)) rfl ?_
  refine ⟨rfl, ?_⟩
  first | exact HB.out | exact HB0.out
end Go.Proofs.YtmjiocpcenbndaaGreatDoor
