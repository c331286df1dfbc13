/-
  Layer 8: KindCurries returns true.
-/
import Derived.Test.YthamhgnhdjahgaaJv
import Derived.Test.YthamhgnhdjahgaaKw
import Derived.Deep.RegionHeld3
import Derived.Deep.CutRange
namespace Go.Proofs.Ythamhgnhdjahgaa
open Go Go.RowKit
open Pl (K)
set_option linter.unusedSimpArgs false

theorem parts_len (t : K) : (K.parts t).length + 1 ≤ K.depth t := by
  have h := K.depth_arrow (K.parts t) (.mk [])
  induction t using K.ind with
  | h t ih =>
    obtain ⟨l⟩ := t
    by_cases h2 : l.length = 2
    · obtain ⟨x, y, rfl⟩ : ∃ x y, l = [x, y] := by
        match l, h2 with
        | [x, y], _ => exact ⟨x, y, rfl⟩
      have := ih y (by simp [K.l]) (K.depth_arrow _ _)
      rw [K.parts_two, K.depth_two, List.length_cons]
      omega
    · rw [parts_not l h2]
      have := K.depth_pos (.mk l)
      simpa using this
def cEq (a b : K) : Bool := K.valid a && K.valid b && K.eqv a b
theorem cEq_self (a : K) (h : K.valid a = true) : cEq a a = true := by unfold cEq; rw [h, eqv_self]; rfl
set_option maxRecDepth 100000 in
set_option maxHeartbeats 8000000 in
theorem curries_done (t : K) (l : List K) (w : World) (v x : Value) (ht : KV w (· < w.heap.size) t v) (hl : KSl w (· < w.heap.size) x l) :
    Calls Try.prog 8 #[v, x] w fun e w' => e = .returned (.bool true) ∧ Below w.heap.size w w' := by
  have HA := Lib.hid awake_any
  have HKT := Lib.hid (fun W (hW : Below w.heap.size w W) => ht.below (fun _ h => h) hW)
  have HKL := Lib.hid (fun W (hW : Below w.heap.size w W) => hl.keep (Same.of_below hW (fun _ h => h)))
  have HBT := Lib.hid (fun W (hW : Below w.heap.size w W) => big_any (· < w.heap.size) t W v (fun _ h => Nat.lt_of_lt_of_le h hW.size) (HKT.out W hW))
  have HBL := Lib.hid (fun W (hW : Below w.heap.size w W) => bigContains_any (· < w.heap.size) l W x (fun _ h => Nat.lt_of_lt_of_le h hW.size) (HKL.out W hW))
  have HRV := Lib.hid (fun W (hW : Below w.heap.size w W) => rvalid_any (· < w.heap.size) t W v (fun _ h => Nat.lt_of_lt_of_le h hW.size) (HKT.out W hW))
  have HRA := Lib.hid (fun W (hW : Below w.heap.size w W) => rall_any (· < w.heap.size) l W x (fun _ h => Nat.lt_of_lt_of_le h hW.size) (HKL.out W hW))
  have HPA := Lib.hid (fun W (hW : Below w.heap.size w W) => cparts_any (· < w.heap.size) t W v (fun _ h => Nat.lt_of_lt_of_le h hW.size) (HKT.out W hW))
  obtain ⟨a0, c0, rfl⟩ := ht.form
  obtain ⟨a1, c1, rfl, hlc1, hcm1, -⟩ := hl.each
  obtain ⟨n1, hn1⟩ : ∃ n, n = l.length := ⟨_, rfl⟩
  have HN1 := Lib.hid hn1
  have hl63 : n1 ≤ 9223372036854775807 := by unfold maxLen at hcm1; omega
  rw [← hn1] at HKL HBL HRA hlc1 ⊢
  generalize hzt : K.valid t = zt at HRV
  generalize hzl : l.all K.valid = zl at HRA
  have HZT := Lib.hid hzt
  have HZL := Lib.hid hzl
  generalize t.l.length = n0 at *
  obtain ⟨h0, hb0⟩ := box_new w 24 (.slice a0 n0 c0)
  have H0 := Lib.hid h0
  have HB := Lib.hid hb0
  clear h0 hb0 ht hl hn1 hcm1 hzt hzl
  have e0 := H0.out.cell 0 (.slice a0 n0 c0) rfl
  go_enter Try.func8, Try.ntmps8
  go_wp2_with fail
  generalize w.alloc (.cells #[.slice a0 n0 c0] 24) = w2 at *
  refine (HA.out _).mono ?_
  rintro e w3 ⟨rfl, hb⟩
  replace HB := Lib.hid (belowStep hb HB.out)
  replace H0 := Lib.hid (H0.out.of_eq (hb.block _ H0.out.lt))
  clear hb e0
  have e0 := H0.out.cell 0 (.slice a0 n0 c0) rfl
  go_wp2_with fail
  refine (HBT.out _ HB.out).mono ?_
  rintro e w4 ⟨⟨r, rfl, -⟩, hb⟩
  replace HB := Lib.hid (belowStep hb HB.out)
  replace H0 := Lib.hid (H0.out.of_eq (hb.block _ H0.out.lt))
  clear hb e0
  have e0 := H0.out.cell 0 (.slice a0 n0 c0) rfl
  cases r
  rotate_left
  · go_wp2
    go_ret
    exact ⟨rfl, HB.out⟩
  by_cases hbig : 10 < n1
  · have q1 : decide ((10 : Int) < (n1 : Int)) = true := decide_eq_true (by omega)
    go_wp2
    go_ret
    exact ⟨rfl, HB.out⟩
  have q1 : decide ((10 : Int) < (n1 : Int)) = false := decide_eq_false (by omega)
  go_wp2_with fail
  refine (HBL.out _ HB.out).mono ?_
  rintro e w5 ⟨⟨r, rfl, -⟩, hb⟩
  replace HB := Lib.hid (belowStep hb HB.out)
  replace H0 := Lib.hid (H0.out.of_eq (hb.block _ H0.out.lt))
  clear hb e0
  have e0 := H0.out.cell 0 (.slice a0 n0 c0) rfl
  cases r
  rotate_left
  · go_wp2
    go_ret
    exact ⟨rfl, HB.out⟩
  go_wp2_with fail
  refine (HRV.out _ HB.out).mono ?_
  rintro e w6 ⟨rfl, hb⟩
  replace HB := Lib.hid (belowStep hb HB.out)
  replace H0 := Lib.hid (H0.out.of_eq (hb.block _ H0.out.lt))
  clear hb e0
  have e0 := H0.out.cell 0 (.slice a0 n0 c0) rfl
  cases zt
  · go_wp2
    go_ret
    exact ⟨rfl, HB.out⟩
  go_wp2_with fail
  refine (HRA.out _ HB.out).mono ?_
  rintro e w7 ⟨rfl, hb⟩
  replace HB := Lib.hid (belowStep hb HB.out)
  replace H0 := Lib.hid (H0.out.of_eq (hb.block _ H0.out.lt))
  clear hb e0
  have e0 := H0.out.cell 0 (.slice a0 n0 c0) rfl
  cases zl
  · go_wp2
    go_ret
    exact ⟨rfl, HB.out⟩
  clear HBT HBL HRV HRA e0
  obtain ⟨np, hnp⟩ : ∃ n, n = (K.parts t).length := ⟨_, rfl⟩
  have HNP := Lib.hid hnp
  have HNP4 := Lib.hid (show np ≤ 400 from by
    have := parts_len t
    have := ((K.valid_iff t).1 HZT.out).2.2
    omega)
  have HPG := Lib.hid (show Calls Try.prog 23 #[.agg #[.slice a0 n0 c0]] w7 fun e w' => (∃ a c, e = .returned (.tuple #[.slice a np c, .agg #[.slice none 0 0], .int .i64 0]) ∧ KSl w' (· < w'.heap.size) (.slice a np c) (K.parts t)) ∧ Below w7.heap.size w7 w' from by
    refine (HPA.out w7 HB.out).mono ?_
    rintro e w' ⟨⟨y, rfl, hy⟩, hb⟩
    rw [HZT.out] at hy ⊢
    have hy : KSl w' (Ext (· < w.heap.size) w7 w') y (K.parts t) := hy
    obtain ⟨a, c, rfl, -⟩ := hy.each
    rw [hnp]
    refine ⟨⟨a, c, rfl, hy.mono (fun q hq => ?_)⟩, hb⟩
    rcases hq with hq | hq
    · exact Nat.lt_of_lt_of_le hq (Nat.le_trans HB.out.size hb.size)
    · exact hq.2)
  clear hnp HPA
  have e0 := H0.out.cell 0 (.slice a0 n0 c0) rfl
  go_wp2_with fail
  refine HPG.out.mono ?_
  rintro e w8 ⟨⟨pa, pc, rfl, hpk⟩, hb⟩
  replace HB := Lib.hid (belowStep hb HB.out)
  replace H0 := Lib.hid (H0.out.of_eq (hb.block _ H0.out.lt))
  have HPK := Lib.hid (fun W (hW : Below w8.heap.size w8 W) => hpk.keep (Same.of_below hW (fun _ h => h)))
  have HBW8 := Lib.hid HB.out
  have H08 := Lib.hid H0.out
  clear hb e0 hpk HPG
  obtain ⟨h6, hb6⟩ := box_new w8 24 (.slice none 0 0)
  have HB89 := Lib.hid hb6
  replace HB := Lib.hid (belowStep hb6 HB.out)
  replace H0 := Lib.hid (H0.out.of_eq (hb6.block _ H0.out.lt))
  have e6 := h6.cell 0 (.slice none 0 0) rfl
  have HAR := Lib.hid (show Calls Try.prog 19 #[.slice pa np pc, .agg #[.slice none 0 0]] (w8.alloc (.cells #[.slice none 0 0] 24)) fun e w' => (∃ a n c, e = .returned (.tuple #[.agg #[.slice a n c], .int .i64 0]) ∧ KidV w' (· < w'.heap.size) t (.slice a n c)) ∧ Below (w8.alloc (.cells #[.slice none 0 0] 24)).heap.size (w8.alloc (.cells #[.slice none 0 0] 24)) w' from by
    have h := carrow_any (· < w8.heap.size) (K.parts t) (.mk []) _ _ _ (fun q hq => Nat.lt_of_lt_of_le hq hb6.size) (HPK.out _ hb6) (kV_none _ _)
    rw [K.arrowOut_parts t HZT.out] at h
    refine h.mono ?_
    rintro e w' ⟨⟨y, rfl, hy⟩, hb⟩
    obtain ⟨a, c, rfl⟩ := hy.form
    exact ⟨⟨a, _, c, rfl, hy.kid.mono (fun q hq => hq.2)⟩, hb⟩)
  clear h6 hb6
  go_wp2_with fail
  generalize w8.alloc (.cells #[.slice none 0 0] 24) = w9 at *
  refine HAR.out.mono ?_
  rintro e w10 ⟨⟨xa, xn, xc, rfl, hxk⟩, hb⟩
  replace HB := Lib.hid (belowStep hb HB.out)
  replace H0 := Lib.hid (H0.out.of_eq (hb.block _ H0.out.lt))
  have HB810 := Lib.hid (belowStep hb HB89.out)
  obtain ⟨h8, hb8⟩ := box_new w10 24 (.slice xa xn xc)
  replace HB := Lib.hid (belowStep hb8 HB.out)
  replace H0 := Lib.hid (H0.out.of_eq (hb8.block _ H0.out.lt))
  have H8 := Lib.hid h8
  have HB811 := Lib.hid (belowStep hb8 HB810.out)
  have HX := Lib.hid (show KidV (w10.alloc (.cells #[.slice xa xn xc] 24)) (But w10.heap.size (w10.alloc (.cells #[.slice xa xn xc] 24))) t (.slice xa xn xc) from (hxk.keep (Same.of_below hb8 (fun _ h => h))).mono (fun q hq => ⟨Nat.lt_of_lt_of_le hq hb8.size, Nat.ne_of_lt hq⟩))
  have HG8 := Lib.hid (show w8.heap.size ≤ w10.heap.size from HB810.out.size)
  have e8 := h8.cell 0 (.slice xa xn xc) rfl
  have e0 := H0.out.cell 0 (.slice a0 n0 c0) rfl
  have HEQ := Lib.hid (show Calls Try.prog 14 #[.agg #[.slice xa xn xc], .agg #[.slice a0 n0 c0]] (w10.alloc (.cells #[.slice xa xn xc] 24)) fun e w' => e = .returned (.bool true) ∧ Below (w10.alloc (.cells #[.slice xa xn xc] 24)).heap.size (w10.alloc (.cells #[.slice xa xn xc] 24)) w' from by
    have h := equal_any _ (· < w.heap.size) t t _ _ _ (fun q hq => hq.1) (fun q hq => Nat.lt_of_lt_of_le hq HB.out.size) ⟨_, rfl, HX.out⟩ (HKT.out _ HB.out)
    rw [HZT.out, eqv_self] at h
    exact h)
  clear hb hxk h8 hb8 HAR e6 HB89 HB810
  go_wp2_with fail
  obtain ⟨GX, hGX⟩ : ∃ G, G = w10.heap.size := ⟨_, rfl⟩
  rw [← hGX] at H8 HX e8 HG8 ⊢
  generalize w10.alloc (.cells #[.slice xa xn xc] 24) = w11 at *
  clear hGX
  refine HEQ.out.mono ?_
  rintro e w12 ⟨rfl, hb⟩
  replace HB := Lib.hid (belowStep hb HB.out)
  replace H0 := Lib.hid (H0.out.of_eq (hb.block _ H0.out.lt))
  replace H8 := Lib.hid (H8.out.of_eq (hb.block _ H8.out.lt))
  replace HB811 := Lib.hid (belowStep hb HB811.out)
  replace HX := Lib.hid ((HX.out.keep (Same.of_below hb (fun q hq => hq.1))).mono (fun q hq => (show But GX w12 q from ⟨Nat.lt_of_lt_of_le hq.1 hb.size, hq.2⟩)))
  clear hb e0 e8 HEQ
  go_wp2_with fail
  have HLI := Lib.hid (fun i (hi : i < np) => K.left_step t HZT.out i (by rw [← HNP.out]; exact hi))
  have HLE := Lib.hid (show K.left t np = .mk [] from by rw [HNP.out]; exact K.left_end t)
  have HX0 := Lib.hid (show KidV w12 (But GX w12) (K.left t 0) (.slice xa xn xc) from by rw [K.left_zero t HZT.out]; exact HX.out)
  have hnp63 : np ≤ 9223372036854775807 := by have := HNP4.out; omega
  clear HX HB H0
  go_loopg [69] (np + 1) (fun g k wr => ∃ (i : Nat) (b : Option Addr) (m d : Nat), i ≤ np ∧ k = .int .i64 i ∧ g = np + 1 - i ∧ Blk wr GX 24 #[.slice b m d] ∧ KidV wr (But GX wr) (K.left t i) (.slice b m d) ∧ Below w8.heap.size w8 wr)
  case atStart => exact ⟨0, xa, xn, xc, Nat.zero_le _, rfl, rfl, H8.out, HX0.out, HB811.out⟩
  case round =>
    obtain ⟨i, b, m, d, hi, rfl, hg, h8, hk, hbw⟩ := hrel
    have H8 := Lib.hid h8
    have HK := Lib.hid hk
    have HBW := Lib.hid hbw
    clear h8 hk hbw
    by_cases hlt : i < np
    · have q5 : decide ((i : Int) < (np : Int)) = true := decide_eq_true (by omega)
      have hil : i < (K.parts t).length := by rw [← HNP.out]; exact hlt
      obtain ⟨pa', pc', e, -, -, hka⟩ := (HPK.out _ HBW.out).each
      injection e with e1 e2 e3
      subst e1 e3
      clear e2
      obtain ⟨bp, op, xx, rfl, hPb, hxx, hkx⟩ := hka i hil
      obtain ⟨ya, yc, rfl⟩ := hkx.form
      have hls := HLI.out i hlt
      obtain ⟨hb11, hb⟩ := box_new wr 24 (.slice ya (K.parts t)[i].l.length yc)
      have HAP := Lib.hid (show Calls Try.prog 26 #[.agg #[.slice b m d], .agg #[.slice ya (K.parts t)[i].l.length yc]] (wr.alloc (.cells #[.slice ya (K.parts t)[i].l.length yc] 24)) fun e w' => (∃ a n c, e = .returned (.tuple #[.agg #[.slice a n c], .int .i64 0]) ∧ KidV w' (But GX w') (K.left t (i + 1)) (.slice a n c)) ∧ Below (wr.alloc (.cells #[.slice ya (K.parts t)[i].l.length yc] 24)).heap.size (wr.alloc (.cells #[.slice ya (K.parts t)[i].l.length yc] 24)) w' from by
        have h := capply_any (But GX (wr.alloc (.cells #[.slice ya (K.parts t)[i].l.length yc] 24))) (K.left t i) (K.parts t)[i] _ (.agg #[.slice b m d]) (.agg #[.slice ya (K.parts t)[i].l.length yc]) (fun q hq => hq.1) ⟨_, rfl, (HK.out.keep (Same.of_below hb (fun q hq => hq.1))).mono (fun q hq => ⟨Nat.lt_of_lt_of_le hq.1 hb.size, hq.2⟩)⟩ ⟨_, rfl, (hkx.keep (Same.of_below hb (fun q hq => Nat.lt_of_lt_of_le hq HBW.out.size))).mono (fun q hq => ⟨Nat.lt_of_lt_of_le hq (Nat.le_trans HBW.out.size hb.size), by have := HG8.out; have : q < w8.heap.size := hq; omega⟩)⟩
        rw [hls] at h
        refine h.mono ?_
        rintro e w' ⟨⟨y, rfl, hy⟩, hb'⟩
        obtain ⟨a, c, rfl⟩ := hy.form
        refine ⟨⟨a, _, c, rfl, hy.kid.mono (fun q hq => ?_)⟩, hb'⟩
        have hgl : GX < (wr.alloc (.cells #[.slice ya (K.parts t)[i].l.length yc] 24)).heap.size := Nat.lt_of_lt_of_le H8.out.lt hb.size
        rcases hq with hq | hq
        · exact ⟨Nat.lt_of_lt_of_le hq.1 hb'.size, hq.2⟩
        · exact ⟨hq.2, by have := hq.1; omega⟩)
      generalize (K.parts t)[i].l.length = yn at *
      have e1 := hxx
      have c8 := (H8.out.of_eq (hb.block _ H8.out.lt)).cell 0 (.slice b m d) rfl
      have c11 := hb11.cell 0 (.slice ya yn yc) rfl
      have H8b := Lib.hid (H8.out.of_eq (hb.block _ H8.out.lt))
      have HBb := Lib.hid (belowStep hb HBW.out)
      clear hka hkx hxx hls hb11 hb hPb hil HK H8 HBW
      go_wp2_with fail
      generalize wr.alloc (.cells #[.slice ya yn yc] 24) = w13 at *
      refine HAP.out.mono ?_
      rintro e w14 ⟨⟨za, zn, zc, rfl, hz⟩, hb⟩
      have h8 := H8b.out.of_eq (hb.block _ H8b.out.lt)
      have e8 := h8.cell 0 (.slice b m d) rfl
      have f8 := h8.thaw 0
      have HX1 := Lib.hid (blk_one (y := .slice za zn zc) h8)
      have HY1 := Lib.hid (below_set (belowStep hb HBb.out) HG8.out (.slice za zn zc))
      have HZ1 := Lib.hid (show KidV (w14.setCell ⟨GX, 0, none⟩ (.slice za zn zc)) (But GX (w14.setCell ⟨GX, 0, none⟩ (.slice za zn zc))) (K.left t (i + 1)) (.slice za zn zc) from (hz.keep (Same.set (w := w14) ⟨GX, 0, none⟩ (.slice za zn zc) (fun q h => h.2))).mono (fun q hq => ⟨by rw [size_set]; exact hq.1, hq.2⟩))
      have HJ := Lib.hid hlt
      clear hz hb h8 hlt c8 c11 e1 HAP
      go_wp2
      go_roundg (gk - 1)
      case measure => have := HJ.out; omega
      case rel => exact ⟨i + 1, za, zn, zc, HJ.out, (by have := HJ.out; have := HNP4.out; first | go_num | (rw [wrap64_id (by omega) (by omega)]; rfl) | (congr 1; unfold wrap64; omega)), by omega, HX1.out, HZ1.out, HY1.out⟩
    · obtain rfl : i = np := by omega
      have q5 : decide ((i : Int) < (i : Int)) = false := decide_eq_false (by omega)
      have hk0 := HK.out
      rw [HLE.out] at hk0
      obtain ⟨_, _, e⟩ := hk0.form
      injection e with e1 e2 e3
      subst e1 e3
      obtain rfl : m = 0 := e2
      have HK0 := Lib.hid hk0
      clear hk0 hlt HK HLI HLE HX0 HB811
      have HST := Lib.hid (fun W => star_any W)
      have HEQ := Lib.hid (fun W (hW : Below wr.heap.size wr W) => (show Calls Try.prog 14 #[.agg #[.slice b 0 d], .agg #[.slice none 0 0]] W fun e w' => e = .returned (.bool true) ∧ Below W.heap.size W w' from by
        have h := equal_any (But GX wr) (fun _ => False) (.mk []) (.mk []) W (.agg #[.slice b 0 d]) (.agg #[.slice none 0 0]) (fun q hq => Nat.lt_of_lt_of_le hq.1 hW.size) (fun q hq => hq.elim) ⟨_, rfl, HK0.out.keep (Same.of_below hW (fun q hq => hq.1))⟩ (kV_none _ _)
        rw [show (K.valid (.mk []) && K.valid (.mk []) && K.eqv (.mk []) (.mk [])) = true from by decide +kernel] at h
        exact h))
      have HAP := Lib.hid (fun W (hW : Below wr.heap.size wr W) => (show Calls Try.prog 26 #[.agg #[.slice b 0 d], .agg #[.slice none 0 0]] W fun e w' => (∃ a n c, e = .returned (.tuple #[.agg #[.slice a n c], .int .i64 11])) ∧ Below W.heap.size W w' from by
        have h := capply_any (But GX wr) (.mk []) (.mk []) W (.agg #[.slice b 0 d]) (.agg #[.slice none 0 0]) (fun q hq => Nat.lt_of_lt_of_le hq.1 hW.size) ⟨_, rfl, HK0.out.keep (Same.of_below hW (fun q hq => hq.1))⟩ (kV_none _ _)
        rw [K.apply_star] at h
        refine h.mono ?_
        rintro e w' ⟨⟨y, rfl, hy⟩, hb⟩
        obtain ⟨a, c, rfl⟩ := hy.form
        exact ⟨⟨a, _, c, rfl⟩, hb⟩))
      have HD0 := Lib.hid (Below.refl wr.heap.size wr).drew
      have HSS := Lib.hid (fun W (hW : Below wr.heap.size wr W) => (show Below wr.heap.size wr W ∧ W.cell? ⟨GX, 0, none⟩ = some (.slice b 0 d) from ⟨hW, (H8.out.of_eq (hW.block _ H8.out.lt)).cell 0 _ rfl⟩))
      go_wp2
      go_region_held3 (fun W => Below wr.heap.size wr W ∧ W.cell? ⟨GX, 0, none⟩ = some (.slice b 0 d))
        (exact HSS.out _ (by with_reducible (repeat (first | exact Below.refl _ _ | exact HD0.out | refine Below.drew ?_ | refine below_new ?_ | refine belowStep (by assumption) ?_ | refine below_set ?_ ?_ _ | exact Nat.le_refl _ | refine le1 ?_ | refine sizeB ?_))))
        (first
        | (go_at_call 17; (with_reducible refine (HST.out _).mono ?_); rintro e wn ⟨rfl, hbn⟩)
        | (go_at_call 14; (with_reducible refine Calls.mono (HEQ.out _ ?_) ?_); (focus with_reducible (repeat (first | exact Below.refl _ _ | exact HD0.out | refine Below.drew ?_ | refine below_new ?_ | refine belowStep (by assumption) ?_ | refine below_set ?_ ?_ _ | exact Nat.le_refl _ | refine le1 ?_ | refine sizeB ?_))); rintro e wk ⟨rfl, hbk⟩))
      rename_i hHeld
      have HBA := Lib.hid hHeld.1
      clear hbk hbn hHeld HSS HD0 HEQ
      generalize hxx : wk = wx at HBA ⊢
      clear hxx
      go_wp2
      have HD0 := Lib.hid (Below.refl wx.heap.size wx).drew
      have HSS := Lib.hid (fun W (hW : Below wx.heap.size wx W) => (show Below wx.heap.size wx W ∧ W.cell? ⟨GX, 0, none⟩ = some (.slice b 0 d) from ⟨hW, (H8.out.of_eq ((belowStep hW HBA.out).block _ H8.out.lt)).cell 0 _ rfl⟩))
      have HAP2 := Lib.hid (fun W (hW : Below wx.heap.size wx W) => HAP.out W (belowStep hW HBA.out))
      go_cut [13, 14] from 86 to 91 (fun s13 s14 W => s14 = .int .i64 11 ∧ Below wx.heap.size wx W)
      case first =>
        go_region_held3 (fun W => Below wx.heap.size wx W ∧ W.cell? ⟨GX, 0, none⟩ = some (.slice b 0 d))
          (exact HSS.out _ (by with_reducible (repeat (first | exact Below.refl _ _ | exact HD0.out | refine Below.drew ?_ | refine below_new ?_ | refine belowStep (by assumption) ?_ | refine below_set ?_ ?_ _ | exact Nat.le_refl _ | refine le1 ?_ | refine sizeB ?_))))
          (first
          | (go_at_call 17; (with_reducible refine (HST.out _).mono ?_); rintro e wn ⟨rfl, hbn⟩; (first | (have hzq := boxC hbn; obtain ⟨hgl, hz⟩ := hzq) | (have hzq := boxD hbn; obtain ⟨hgl, hz⟩ := hzq) | (have hzq := boxA hbn; obtain ⟨hgl, hz⟩ := hzq) | (have hzq := boxB hbn; obtain ⟨hgl, hz⟩ := hzq) | (have hzq := carry2 hbn hz; obtain ⟨hgl, hz⟩ := hzq) | (have hzq := carry2 hbn (hz.alloc _); obtain ⟨hgl, hz⟩ := hzq) | skip))
          | (go_at_call 26; (with_reducible refine Calls.mono (HAP2.out _ ?_) ?_); (focus with_reducible (repeat (first | exact Below.refl _ _ | exact HD0.out | refine Below.drew ?_ | refine below_new ?_ | refine belowStep (by assumption) ?_ | refine below_set ?_ ?_ _ | exact Nat.le_refl _ | refine le1 ?_ | refine sizeB ?_))); rintro e wk ⟨⟨ka, kn, kc, rfl⟩, hbk⟩; (first | (have hzq := boxC hbk; obtain ⟨hgl, hz⟩ := hzq) | (have hzq := boxD hbk; obtain ⟨hgl, hz⟩ := hzq) | (have hzq := boxA hbk; obtain ⟨hgl, hz⟩ := hzq) | (have hzq := boxB hbk; obtain ⟨hgl, hz⟩ := hzq) | (have hzq := carry2 hbk hz; obtain ⟨hgl, hz⟩ := hzq) | (have hzq := carry2 hbk (hz.alloc _); obtain ⟨hgl, hz⟩ := hzq) | skip); (try have hzc := hz.cell 0 _ rfl); (try have hzf := hz.thaw 0)))
        all_goals (go_wp2; go_meet)
        all_goals (rename_i hHeld; exact ⟨rfl, hHeld.1⟩)
      case rest =>
        obtain ⟨rfl, hwc⟩ := hcut
        have HBC8 := Lib.hid (belowStep hwc (belowStep HBA.out HBW.out))
        have HBC := Lib.hid (belowStep HBC8.out HBW8.out)
        have e0 := (H08.out.of_eq (HBC8.out.block _ H08.out.lt)).cell 0 (.slice a0 n0 c0) rfl
        have hAR := carrow_any (· < w.heap.size) l t wc _ _ (fun q hq => Nat.lt_of_lt_of_le hq HBC.out.size) (HKL.out _ HBC.out) (HKT.out _ HBC.out)
        rcases K.arrowOut_more l t HZL.out HZT.out with ⟨hao, hva⟩ | hao
        rotate_left
        · rw [hao] at hAR
          have HAR := Lib.hid hAR
          clear hAR hao hwc HAP HAP2 HSS HD0 HK0 HST
          go_wp2_with fail
          refine HAR.out.mono ?_
          rintro e wd ⟨⟨y, rfl, hy⟩, hb⟩
          obtain ⟨ya, yc, rfl⟩ := hy.form
          have HNO := Lib.hid (fun W (hW : Below wd.heap.size wd W) => none8_any (From wc.heap.size wd) (.mk []) W _ (hy.below (fun q h => h.2) hW))
          have HBD := Lib.hid (belowStep hb HBC.out)
          clear hb hy HAR
          go_wp2_with fail
          refine (HNO.out _ (below_new (Below.refl _ _))).mono ?_
          rintro e we ⟨rfl, hb⟩
          have HBE := Lib.hid (belowStep hb (below_new HBD.out))
          clear hb HNO
          go_wp2
          go_ret
          exact ⟨rfl, HBE.out⟩
        · rw [hao] at hAR
          have HAR := Lib.hid hAR
          have HVA := Lib.hid hva
          clear hAR hao hva hwc HAP HAP2 HSS HD0 HK0 HST
          go_wp2_with fail
          refine HAR.out.mono ?_
          rintro e wd ⟨⟨y, rfl, hy⟩, hb⟩
          obtain ⟨ya, yc, rfl⟩ := hy.form
          obtain ⟨-, hbd⟩ := box_new wd 24 (.slice ya (K.arrow l t).l.length yc)
          have HPY := Lib.hid (show Calls Try.prog 23 #[.agg #[.slice ya (K.arrow l t).l.length yc]] (wd.alloc (.cells #[.slice ya (K.arrow l t).l.length yc] 24)) fun e w' => (∃ a n c, e = .returned (.tuple #[.slice a n c, .agg #[.slice none 0 0], .int .i64 0]) ∧ KSl w' (· < w'.heap.size) (.slice a n c) (l ++ K.parts t)) ∧ Below (wd.alloc (.cells #[.slice ya (K.arrow l t).l.length yc] 24)).heap.size (wd.alloc (.cells #[.slice ya (K.arrow l t).l.length yc] 24)) w' from by
            have h := cparts_any (From wc.heap.size wd) (K.arrow l t) (wd.alloc (.cells #[.slice ya (K.arrow l t).l.length yc] 24)) _ (fun q h => Nat.lt_of_lt_of_le h.2 hbd.size) (hy.below (fun q h => h.2) hbd)
            refine h.mono ?_
            rintro e w' ⟨⟨y, rfl, hy⟩, hb'⟩
            rw [HVA.out] at hy ⊢
            have hy : KSl w' (Ext (From wc.heap.size wd) _ w') y (K.parts (K.arrow l t)) := hy
            rw [K.parts_arrow] at hy
            obtain ⟨a, c, rfl, -⟩ := hy.each
            refine ⟨⟨a, _, c, rfl, hy.mono (fun q hq => ?_)⟩, hb'⟩
            rcases hq with hq | hq
            · exact Nat.lt_of_lt_of_le hq.2 (Nat.le_trans hbd.size hb'.size)
            · exact hq.2)
          have HB8D := Lib.hid (belowStep hbd (belowStep hb HBC8.out))
          generalize (K.arrow l t).l.length = yn at *
          clear hb hy HAR e0 hbd HVA
          go_wp2_with fail
          generalize wd.alloc (.cells #[.slice ya yn yc] 24) = we at *
          refine HPY.out.mono ?_
          rintro e wf ⟨⟨qa, qn, qc, rfl, hq⟩, hb⟩
          have HBF := Lib.hid (belowStep hb HB8D.out)
          have HQ := Lib.hid (fun W (hW : Below wf.heap.size wf W) => hq.keep (Same.of_below hW (fun _ h => h)))
          clear hb hq HPY HB8D
          go_wp2_with fail
          have hbg : Below wf.heap.size wf ((wf.alloc (.cells #[.slice none 0 0] 24)).alloc (.cells #[.slice a1 n1 c1, .slice pa i pc] 22)) := below_new (below_new (Below.refl _ _))
          have HB8G := Lib.hid (belowStep hbg HBF.out)
          have HBFG := Lib.hid hbg
          have HCC := Lib.hid (show Calls Try.prog 32 #[.slice (some ⟨wf.heap.size + 1, 0, none⟩) 2 2] ((wf.alloc (.cells #[.slice none 0 0] 24)).alloc (.cells #[.slice a1 n1 c1, .slice pa i pc] 22)) fun e w' => (∃ a n c, e = .returned (.slice a n c) ∧ KSl w' (· < w'.heap.size) (.slice a n c) (l ++ K.parts t)) ∧ Below ((wf.alloc (.cells #[.slice none 0 0] 24)).alloc (.cells #[.slice a1 n1 c1, .slice pa i pc] 22)).heap.size ((wf.alloc (.cells #[.slice none 0 0] 24)).alloc (.cells #[.slice a1 n1 c1, .slice pa i pc] 22)) w' from by
            have h := concatK_any (· < w8.heap.size) (wf.heap.size + 1) (.slice a1 n1 c1) (.slice pa i pc) l (K.parts t) _ (fun q hq => Nat.lt_of_lt_of_le hq HB8G.out.size) (blk_new1 wf _ _ _) ((HKL.out _ (belowStep HB8G.out HBW8.out)).mono (fun q hq => Nat.lt_of_lt_of_le hq HBW8.out.size)) (HPK.out _ HB8G.out) (by rw [← HN1.out]; omega) (by rw [← HNP.out]; have := HNP4.out; omega)
            refine h.mono ?_
            rintro e w' ⟨⟨a, n, c, rfl, hy⟩, hb'⟩
            refine ⟨⟨a, n, c, rfl, hy.mono (fun q hq => ?_)⟩, hb'⟩
            rcases hq with hq | hq
            · exact Nat.lt_of_lt_of_le hq (Nat.le_trans HB8G.out.size hb'.size)
            · exact hq.2)
          generalize (wf.alloc (.cells #[.slice none 0 0] 24)).alloc (.cells #[.slice a1 n1 c1, .slice pa i pc] 22) = wg at *
          clear hbg HBF
          refine HCC.out.mono ?_
          rintro e wh ⟨⟨za, zn, zc, rfl, hz⟩, hb⟩
          have HBH := Lib.hid (belowStep hb HBFG.out)
          have HBZ := Lib.hid (belowStep (belowStep hb HB8G.out) HBW8.out)
          have HEF := Lib.hid (show Calls Try.prog 24 #[.slice qa qn qc, .slice za zn zc, .func (.func 14) #[] #[]] wh fun e w' => e = .returned (.bool true) ∧ Below wh.heap.size wh w' from by
            have h := eqFunc8_any 14 cEq (fun _ _ => rfl) (fun P Q t u W v x hP hQ ht hu => equal_any P Q t u W v x hP hQ ht hu) (· < wf.heap.size) (· < wh.heap.size) (l ++ K.parts t) (l ++ K.parts t) wh (.slice qa qn qc) (.slice za zn zc) (fun q hq => Nat.lt_of_lt_of_le hq HBH.out.size) (fun q hq => hq) (HQ.out _ HBH.out) hz
            rw [show ((l ++ K.parts t).length == (l ++ K.parts t).length && eqAllB cEq (l ++ K.parts t) (l ++ K.parts t)) = true from by
              rw [eqAll_self cEq (l ++ K.parts t) (fun p hp => cEq_self p (by
                rcases List.mem_append.1 hp with hp | hp
                · exact List.all_eq_true.1 HZL.out p hp
                · exact K.parts_valid _ t (Nat.le_refl _) HZT.out p hp))]
              simp] at h
            exact h)
          clear hb hz HCC HQ HBFG HB8G HBH
          go_wp2_with fail
          refine HEF.out.mono ?_
          rintro e wi ⟨rfl, hb⟩
          have HBE := Lib.hid (belowStep hb HBZ.out)
          clear hb HEF
          go_wp2
          go_ret
          exact ⟨rfl, HBE.out⟩
end Go.Proofs.Ythamhgnhdjahgaa
