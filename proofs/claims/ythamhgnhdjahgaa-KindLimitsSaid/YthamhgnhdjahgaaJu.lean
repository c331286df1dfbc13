/-
  Layer 8: KindLimits returns true.
-/
import Derived.Test.YthamhgnhdjahgaaKu
import Derived.Test.YthamhgnhdjahgaaJo
namespace Go.Proofs.Ythamhgnhdjahgaa
open Go Go.RowKit
open Pl (K)
set_option linter.unusedSimpArgs false

/-- a chain of arrows that goes on in the first or in the second parts -/
def chainOf (first : Bool) : Nat → K
  | 0 => .mk []
  | i + 1 => if first = true then .mk [chainOf first i, .mk []] else .mk [.mk [], chainOf first i]
theorem chainOf_sizes (first : Bool) (n : Nat) : K.size (chainOf first n) = 2 * n + 1 ∧ K.depth (chainOf first n) = n + 1 ∧ K.ok (chainOf first n) = true := by
  induction n with
  | zero => exact K.star_sizes
  | succ n ih =>
    obtain ⟨h1, h2, h3⟩ := ih
    rw [chainOf]
    cases first
    · rw [if_neg (by decide)]
      refine ⟨?_, ?_, K.ok_mk2 K.star_sizes.2.2 h3⟩
      · rw [K.size_two, K.star_sizes.1, h1]; omega
      · rw [K.depth_two, K.star_sizes.2.1, h2]; omega
    · rw [if_pos rfl]
      refine ⟨?_, ?_, K.ok_mk2 h3 K.star_sizes.2.2⟩
      · rw [K.size_two, K.star_sizes.1, h1]; omega
      · rw [K.depth_two, K.star_sizes.2.1, h2]; omega
theorem chainOf_valid (first : Bool) (n : Nat) (hn : n ≤ 500) : K.valid (chainOf first n) = decide (n + 1 ≤ 400) := K.chain_valid _ n hn (chainOf_sizes first n)
theorem chainOf_text (first : Bool) (n : Nat) (hn : n ≤ 500) : (K.textOut (chainOf first n)).2 = if n + 1 ≤ 400 then 0 else 1 := by
  unfold K.textOut
  rw [chainOf_valid first n hn]
  by_cases h : n + 1 ≤ 400
  · rw [if_pos (decide_eq_true h), if_pos h, if_pos]
    have h1 := K.text_len _ (chainOf_sizes first n).2.2
    rw [(chainOf_sizes first n).1] at h1
    omega
  · rw [if_neg (by simp; omega), if_neg h]
theorem chainOf_arrow (first : Bool) (n : Nat) (hn : n < 500) : (K.arrowOut [.mk []] (chainOf first n)).2 = if n + 1 ≤ 400 then (if n + 2 ≤ 400 then 0 else 5) else 1 := by
  have h2 : K.valid (K.arrow [.mk []] (chainOf first n)) = decide (n + 2 ≤ 400) := by
    obtain ⟨h1, h2, h3⟩ := chainOf_sizes first n
    rw [K.arrow_cons]
    refine K.chain_valid _ (n + 1) (by omega) ⟨?_, ?_, K.ok_mk2 K.star_sizes.2.2 h3⟩
    · rw [K.size_two, K.star_sizes.1]; show 1 + (1 + K.size (chainOf first n)) = _; omega
    · rw [K.depth_two, K.star_sizes.2.1]; show 1 + max 1 (K.depth (chainOf first n)) = _; omega
  have hs : K.valid (.mk []) = true := by decide +kernel
  unfold K.arrowOut
  rw [h2]
  show (if ((K.valid (.mk []) && true) && K.valid (chainOf first n)) = true then _ else _ : K × Int).2 = _
  rw [hs, chainOf_valid first n (by omega)]
  by_cases h : n + 1 ≤ 400
  · rw [if_pos h]
    rw [decide_eq_true h, if_pos (show (true && true && true) = true from rfl)]
    by_cases h3 : n + 2 ≤ 400
    · rw [if_pos h3, decide_eq_true h3, if_pos rfl]
    · rw [if_neg h3, decide_eq_false h3, if_neg (by decide)]
  · rw [if_neg h, decide_eq_false h]
    rfl
/-- the arrow of * and a kind, the row in a new block -/
theorem one_arrow (t : K) (w : World) (b : Option Addr) (nn d S : Nat) (hk : KidV w (· < S) t (.slice b nn d)) (hS : S ≤ w.heap.size) :
    Calls Try.prog 19 #[.slice (some ⟨w.heap.size, 0, none⟩) 1 1, .agg #[.slice b nn d]] (w.alloc (.cells #[.slice none 0 0] 24)) fun e w' => (∃ a n c, e = .returned (.tuple #[.agg #[.slice a n c], .int .i64 (K.arrowOut [.mk []] t).2])) ∧ Below w.heap.size w w' := by
  obtain ⟨hb, hw⟩ := box_new w 24 (.slice none 0 0)
  have hl : KSl (w.alloc (.cells #[.slice none 0 0] 24)) (· < (w.alloc (.cells #[.slice none 0 0] 24)).heap.size) (.slice (some ⟨w.heap.size, 0, none⟩) 1 1) [.mk []] := by
    refine (kidV_iff _ _ _ _).2 ⟨_, 1, rfl, Nat.le_refl _, by unfold maxLen; omega, (fun h => by cases h), .inr ⟨w.heap.size, 0, rfl, hb.lt, (kidsK_iff _ _ _ _ _).2 fun j hj => ?_⟩⟩
    match j, hj with
    | 0, _ => exact ⟨_, hb.cell 0 _ rfl, kidV_none _ _⟩
  refine (carrow_any _ [.mk []] t _ _ _ (fun _ h => h) hl ⟨_, rfl, (hk.keep (Same.of_below hw (fun q hq => Nat.lt_of_lt_of_le hq hS))).mono (fun q hq => Nat.lt_of_lt_of_le hq (Nat.le_trans hS hw.size))⟩).mono ?_
  rintro e w' ⟨⟨y, rfl, hy⟩, hb2⟩
  obtain ⟨a, c, rfl⟩ := hy.form
  exact ⟨⟨a, _, c, rfl⟩, belowStep hb2 hw⟩
set_option maxRecDepth 100000 in
set_option maxHeartbeats 4000000 in
theorem limits_done (n : Int) (first : Bool) (w : World) (hn : (Lit.int .u16 n).wf = true) :
    Calls Try.prog 9 #[.int .u16 n, .bool first] w fun e w' => e = .returned (.bool true) ∧ Below w.heap.size w w' := by
  have HA := Lib.hid awake_any
  have hnb : 0 ≤ n ∧ n ≤ 65535 := by
    rw [Lit.wf, Bool.and_eq_true, decide_eq_true_iff, decide_eq_true_iff] at hn
    exact ⟨hn.1, hn.2⟩
  obtain ⟨m, hm, hm5⟩ : ∃ m : Nat, n.tmod 500 = (m : Int) ∧ m < 500 := ⟨(n.tmod 500).toNat, by
    have := Int.tmod_nonneg 500 hnb.1
    omega, by
    have := Int.tmod_lt_of_pos n (show (0 : Int) < 500 by omega)
    omega⟩
  clear hn hnb
  go_enter Try.func9, Try.ntmps9
  go_wp2_with fail
  refine (HA.out _).mono ?_
  rintro e w1 ⟨rfl, hb1⟩
  have HB := Lib.hid hb1
  clear hb1
  go_wp2_with fail
  clear hm
  obtain ⟨hg, hb2⟩ := box_new w1 24 (.slice none 0 0)
  have H0 := Lib.hid hg
  have HBB := Lib.hid (belowStep hb2 HB.out)
  obtain ⟨G, hG⟩ : ∃ G, G = w1.heap.size := ⟨_, rfl⟩
  have HGS := Lib.hid (show w.heap.size ≤ G from by rw [hG]; exact HB.out.size)
  clear hg hb2
  rw [← hG] at H0 ⊢
  generalize w1.alloc (.cells #[.slice none 0 0] 24) = w2 at *
  clear hG HB
  go_loopg [19] (m + 1) (fun g i wr => ∃ (j : Nat) (b : Option Addr) (nn d : Nat), j ≤ m ∧ i = .int .u16 j ∧ g = m + 1 - j ∧ Blk wr G 24 #[.slice b nn d] ∧ KidV wr (fun q => G + 1 ≤ q ∧ q < wr.heap.size) (chainOf first j) (.slice b nn d) ∧ Below w.heap.size w wr)
  case atStart => exact ⟨0, none, 0, 0, Nat.zero_le _, rfl, rfl, H0.out, kidV_none _ _, HBB.out⟩
  case round =>
    obtain ⟨j, b, nn, d, hj, rfl, hg, h0, hk, hbw⟩ := hrel
    have H1 := Lib.hid h0
    have HK := Lib.hid hk
    have HBW := Lib.hid hbw
    have c0 := h0.cell 0 (.slice b nn d) rfl
    by_cases hlt : j < m
    · have q1 : decide ((j : Int) < (m : Int)) = true := decide_eq_true (by omega)
      have q1n : decide (j < m) = true := decide_eq_true hlt
      have w16 : IntKind.u16.wrap ((j : Int) + 1) = (j : Int) + 1 := by rw [IntKind.wrap_u16]; omega
      clear h0 hk hbw
      cases first
      · have hb4 : Below wr.heap.size wr (wr.alloc (.cells #[.slice none 0 0, .slice b nn d] 24)) := (Below.refl _ _).alloc (Nat.le_refl _) _
        have h4 := H1.out.of_eq (hb4.block _ H1.out.lt)
        have c4 := h4.cell 0 (.slice b nn d) rfl
        have f4 := h4.thaw 0
        have hpk : KidV (wr.alloc (.cells #[.slice none 0 0, .slice b nn d] 24)) (Ext (fun q => G + 1 ≤ q ∧ q < wr.heap.size) wr (wr.alloc (.cells #[.slice none 0 0, .slice b nn d] 24))) (.mk [.mk [], chainOf false j]) (.slice (some ⟨wr.heap.size, 0, none⟩) 2 2) := pair_kids (fun q hq => hq.2) (kidV_none _ _) HK.out
        have HX := Lib.hid (blk_one (y := .slice (some ⟨wr.heap.size, 0, none⟩) 2 2) h4)
        have HY := Lib.hid (below_set (belowStep hb4 HBW.out) HGS.out (.slice (some ⟨wr.heap.size, 0, none⟩) 2 2))
        have HZ := Lib.hid (show KidV ((wr.alloc (.cells #[.slice none 0 0, .slice b nn d] 24)).setCell ⟨G, 0, none⟩ (.slice (some ⟨wr.heap.size, 0, none⟩) 2 2)) (fun q => G + 1 ≤ q ∧ q < ((wr.alloc (.cells #[.slice none 0 0, .slice b nn d] 24)).setCell ⟨G, 0, none⟩ (.slice (some ⟨wr.heap.size, 0, none⟩) 2 2)).heap.size) (chainOf false (j + 1)) (.slice (some ⟨wr.heap.size, 0, none⟩) 2 2) from by
          rw [chainOf]
          refine (hpk.keep (Same.set (w := (wr.alloc (.cells #[.slice none 0 0, .slice b nn d] 24))) ⟨G, 0, none⟩ (.slice (some ⟨wr.heap.size, 0, none⟩) 2 2) (fun q h e => by
            have e : q = G := e
            have := H1.out.lt
            rcases h with h | h
            · have := h.1; omega
            · have := h.1; omega))).mono (fun q h => ?_)
          have := H1.out.lt
          have := hb4.size
          rw [size_set]
          rcases h with h | h
          · exact ⟨h.1, by have := h.2; omega⟩
          · exact ⟨by have := h.1; omega, h.2⟩)
        have HJ := Lib.hid hlt
        clear h4 hpk hb4 hlt
        go_wp2
        go_roundg (gk - 1)
        case measure => omega
        case rel => exact ⟨j + 1, some ⟨wr.heap.size, 0, none⟩, 2, 2, HJ.out, (by first | rfl | (congr 1; omega)), by omega, HX.out, HZ.out, HY.out⟩
      · have hb4 : Below wr.heap.size wr (wr.alloc (.cells #[.slice b nn d, .slice none 0 0] 24)) := (Below.refl _ _).alloc (Nat.le_refl _) _
        have h4 := H1.out.of_eq (hb4.block _ H1.out.lt)
        have c4 := h4.cell 0 (.slice b nn d) rfl
        have f4 := h4.thaw 0
        have hpk : KidV (wr.alloc (.cells #[.slice b nn d, .slice none 0 0] 24)) (Ext (fun q => G + 1 ≤ q ∧ q < wr.heap.size) wr (wr.alloc (.cells #[.slice b nn d, .slice none 0 0] 24))) (.mk [chainOf true j, .mk []]) (.slice (some ⟨wr.heap.size, 0, none⟩) 2 2) := pair_kids (fun q hq => hq.2) HK.out (kidV_none _ _)
        have HX := Lib.hid (blk_one (y := .slice (some ⟨wr.heap.size, 0, none⟩) 2 2) h4)
        have HY := Lib.hid (below_set (belowStep hb4 HBW.out) HGS.out (.slice (some ⟨wr.heap.size, 0, none⟩) 2 2))
        have HZ := Lib.hid (show KidV ((wr.alloc (.cells #[.slice b nn d, .slice none 0 0] 24)).setCell ⟨G, 0, none⟩ (.slice (some ⟨wr.heap.size, 0, none⟩) 2 2)) (fun q => G + 1 ≤ q ∧ q < ((wr.alloc (.cells #[.slice b nn d, .slice none 0 0] 24)).setCell ⟨G, 0, none⟩ (.slice (some ⟨wr.heap.size, 0, none⟩) 2 2)).heap.size) (chainOf true (j + 1)) (.slice (some ⟨wr.heap.size, 0, none⟩) 2 2) from by
          rw [chainOf]
          refine (hpk.keep (Same.set (w := (wr.alloc (.cells #[.slice b nn d, .slice none 0 0] 24))) ⟨G, 0, none⟩ (.slice (some ⟨wr.heap.size, 0, none⟩) 2 2) (fun q h e => by
            have e : q = G := e
            have := H1.out.lt
            rcases h with h | h
            · have := h.1; omega
            · have := h.1; omega))).mono (fun q h => ?_)
          have := H1.out.lt
          have := hb4.size
          rw [size_set]
          rcases h with h | h
          · exact ⟨h.1, by have := h.2; omega⟩
          · exact ⟨by have := h.1; omega, h.2⟩)
        have HJ := Lib.hid hlt
        clear h4 hpk hb4 hlt
        go_wp2
        go_roundg (gk - 1)
        case measure => omega
        case rel => exact ⟨j + 1, some ⟨wr.heap.size, 0, none⟩, 2, 2, HJ.out, (by first | rfl | (congr 1; omega)), by omega, HX.out, HZ.out, HY.out⟩
    · have q1 : decide ((j : Int) < (m : Int)) = false := decide_eq_false (by omega)
      have q1n : decide (j < m) = false := decide_eq_false hlt
      obtain rfl : j = m := by omega
      have hk6 : KidV wr (· < wr.heap.size) (chainOf first j) (.slice b nn d) := hk.mono (fun q hq => hq.2)
      have HPA := Lib.hid (cparts_any (· < wr.heap.size) (chainOf first j) wr (.agg #[.slice b nn d]) (fun _ h => h) ⟨_, rfl, hk6⟩)
      have HTX := Lib.hid (fun W (hW : Below wr.heap.size wr W) => ctext_any (· < wr.heap.size) (chainOf first j) W (.agg #[.slice b nn d]) (fun _ h => Nat.lt_of_lt_of_le h hW.size) ⟨_, rfl, hk6.keep (Same.of_below hW (fun _ h => h))⟩)
      have HVA := Lib.hid (fun W (hW : Below wr.heap.size wr W) => valid_any (· < wr.heap.size) (chainOf first j) W (.agg #[.slice b nn d]) (fun _ h => Nat.lt_of_lt_of_le h hW.size) ⟨_, rfl, hk6.keep (Same.of_below hW (fun _ h => h))⟩)
      have HAR := Lib.hid (fun W (hW : Below wr.heap.size wr W) => one_arrow (chainOf first j) W b nn d wr.heap.size (hk6.keep (Same.of_below hW (fun _ h => h))) hW.size)
      have HBX := Lib.hid (fun W (hW : Below wr.heap.size wr W) => (H1.out.of_eq (hW.block _ H1.out.lt)).cell 0 (.slice b nn d) rfl)
      rw [chainOf_valid first j (by omega)] at HVA
      have hpp : PartsP (· < wr.heap.size) (chainOf first j) wr = fun e w' => (∃ y, e = .returned (.tuple #[y, .agg #[.slice none 0 0], .int .i64 (if decide (j + 1 ≤ 400) = true then 0 else 1)]) ∧ KSl w' (Ext (· < wr.heap.size) wr w') y (if decide (j + 1 ≤ 400) = true then K.parts (chainOf first j) else [])) ∧ Below wr.heap.size wr w' := by
        unfold PartsP
        rw [chainOf_valid first j (by omega)]
      rw [hpp] at HPA
      rw [chainOf_text first j (by omega)] at HTX
      rw [chainOf_arrow first j (by omega)] at HAR
      have w1 : wrap64 ((j : Int) + 1) = (j : Int) + 1 := by rw [wrap64]; omega
      have w2' : wrap64 ((j : Int) + 2) = (j : Int) + 2 := by rw [wrap64]; omega
      have w3 : IntKind.i64.wrap (j : Int) = (j : Int) := by rw [IntKind.wrap_i64]; omega
      obtain ⟨z1, hz1⟩ : ∃ z, z = decide (j + 1 ≤ 400) := ⟨_, rfl⟩
      obtain ⟨z2, hz2⟩ : ∃ z, z = decide (j + 2 ≤ 400) := ⟨_, rfl⟩
      have q5 : decide ((j : Int) + 1 ≤ 400) = z1 := by rw [hz1]; exact decide_eq_decide.2 (by omega)
      have q6 : decide ((j : Int) + 2 ≤ 400) = z2 := by rw [hz2]; exact decide_eq_decide.2 (by omega)
      have hc : (z1 = true ∧ z2 = true) ∨ (z1 = true ∧ z2 = false) ∨ (z1 = false ∧ z2 = false) := by
        rw [hz1, hz2, decide_eq_true_iff, decide_eq_true_iff, decide_eq_false_iff_not, decide_eq_false_iff_not]
        omega
      have e5 : (if j + 1 ≤ 400 then (if j + 2 ≤ 400 then (0 : Int) else 5) else 1) = (if z1 = true then (if z2 = true then 0 else 5) else 1) := by
        rw [hz1, hz2]
        simp only [decide_eq_true_iff]
      have e6 : (if j + 1 ≤ 400 then (0 : Int) else 1) = (if z1 = true then 0 else 1) := by
        rw [hz1]
        simp only [decide_eq_true_iff]
      rw [e5] at HAR
      rw [e6] at HTX
      rw [← hz1] at HVA HPA
      clear hk hk6 h0 hbw hlt hpp hz1 hz2 e5 e6
      rcases hc with ⟨rfl, rfl⟩ | ⟨rfl, rfl⟩ | ⟨rfl, rfl⟩
      · go_wp2_with fail
        refine HPA.out.mono ?_
        rintro e w6 ⟨⟨y, rfl, hy⟩, hb6⟩
        obtain ⟨pa, pc, rfl, -, -, -⟩ := hy.each
        clear hy
        generalize List.length _ = pn
        obtain ⟨-, hb7⟩ := box_new w6 24 (.slice none 0 0)
        have HB7 := Lib.hid (belowStep hb7 hb6)
        have c7 := HBX.out _ HB7.out
        clear hb6 hb7 c0
        go_wp2_with fail
        generalize w6.alloc (.cells #[.slice none 0 0] 24) = w7 at *
        refine (HTX.out _ HB7.out).mono ?_
        rintro e w8 ⟨rfl, hb8⟩
        have HB8 := Lib.hid (belowStep hb8 HB7.out)
        have c8 := HBX.out _ HB8.out
        clear hb8 c7
        go_wp2_with fail
        refine (HVA.out _ HB8.out).mono ?_
        rintro e w9 ⟨rfl, hb9⟩
        have HB9 := Lib.hid (belowStep hb9 HB8.out)
        have HA9 := Lib.hid (HAR.out _ HB9.out)
        have c9 := HBX.out _ (below_new (o := .cells #[.slice none 0 0] 24) HB9.out)
        clear hb9 c8
        go_wp2_with fail
        refine HA9.out.mono ?_
        rintro e w10 ⟨⟨xa, xn, xc, rfl⟩, hb10⟩
        have HBE := Lib.hid (below_new (o := .cells #[.slice xa xn xc] 24) (belowStep (belowStep hb10 HB9.out) HBW.out))
        clear hb10 c9
        go_wp2
        go_ret
        exact ⟨rfl, HBE.out⟩
      · go_wp2_with fail
        refine HPA.out.mono ?_
        rintro e w6 ⟨⟨y, rfl, hy⟩, hb6⟩
        obtain ⟨pa, pc, rfl, -, -, -⟩ := hy.each
        clear hy
        generalize List.length _ = pn
        obtain ⟨-, hb7⟩ := box_new w6 24 (.slice none 0 0)
        have HB7 := Lib.hid (belowStep hb7 hb6)
        have c7 := HBX.out _ HB7.out
        clear hb6 hb7 c0
        go_wp2_with fail
        generalize w6.alloc (.cells #[.slice none 0 0] 24) = w7 at *
        refine (HTX.out _ HB7.out).mono ?_
        rintro e w8 ⟨rfl, hb8⟩
        have HB8 := Lib.hid (belowStep hb8 HB7.out)
        have c8 := HBX.out _ HB8.out
        clear hb8 c7
        go_wp2_with fail
        refine (HVA.out _ HB8.out).mono ?_
        rintro e w9 ⟨rfl, hb9⟩
        have HB9 := Lib.hid (belowStep hb9 HB8.out)
        have HA9 := Lib.hid (HAR.out _ HB9.out)
        have c9 := HBX.out _ (below_new (o := .cells #[.slice none 0 0] 24) HB9.out)
        clear hb9 c8
        go_wp2_with fail
        refine HA9.out.mono ?_
        rintro e w10 ⟨⟨xa, xn, xc, rfl⟩, hb10⟩
        have HBE := Lib.hid (below_new (o := .cells #[.slice xa xn xc] 24) (belowStep (belowStep hb10 HB9.out) HBW.out))
        clear hb10 c9
        go_wp2
        go_ret
        exact ⟨rfl, HBE.out⟩
      · go_wp2_with fail
        refine HPA.out.mono ?_
        rintro e w6 ⟨⟨y, rfl, hy⟩, hb6⟩
        obtain ⟨pa, pc, rfl, -, -, -⟩ := hy.each
        clear hy
        generalize List.length _ = pn
        obtain ⟨-, hb7⟩ := box_new w6 24 (.slice none 0 0)
        have HB7 := Lib.hid (belowStep hb7 hb6)
        have c7 := HBX.out _ HB7.out
        clear hb6 hb7 c0
        go_wp2_with fail
        generalize w6.alloc (.cells #[.slice none 0 0] 24) = w7 at *
        refine (HTX.out _ HB7.out).mono ?_
        rintro e w8 ⟨rfl, hb8⟩
        have HB8 := Lib.hid (belowStep hb8 HB7.out)
        have c8 := HBX.out _ HB8.out
        clear hb8 c7
        go_wp2_with fail
        refine (HVA.out _ HB8.out).mono ?_
        rintro e w9 ⟨rfl, hb9⟩
        have HB9 := Lib.hid (belowStep hb9 HB8.out)
        have HA9 := Lib.hid (HAR.out _ HB9.out)
        have c9 := HBX.out _ (below_new (o := .cells #[.slice none 0 0] 24) HB9.out)
        clear hb9 c8
        go_wp2_with fail
        refine HA9.out.mono ?_
        rintro e w10 ⟨⟨xa, xn, xc, rfl⟩, hb10⟩
        have HBE := Lib.hid (below_new (o := .cells #[.slice xa xn xc] 24) (belowStep (belowStep hb10 HB9.out) HBW.out))
        clear hb10 c9
        go_wp2
        go_ret
        exact ⟨rfl, HBE.out⟩
end Go.Proofs.Ythamhgnhdjahgaa
