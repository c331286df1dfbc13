/-
  Walks of layer 8's code: read, Parse.
-/
import Derived.Test.YthamhgnhdjahgaaJl
import Derived.Deep.RegionHeld3
namespace Go.Proofs.Ythamhgnhdjahgaa
open Go Go.RowKit
open Pl (K)
set_option linter.unusedSimpArgs false

theorem rd_step (d : Nat) (l : List UInt8) : rd (d + 1) l = match rdFrom (rd d) l with
    | none => none
    | some p => rdTail (rd d) p := by
  rw [rd]
  rfl
theorem rdTail_stop {f : List UInt8 → Option (K × List UInt8)} {p : K × List UInt8} (h : cutL [32, 45, 62, 32] p.2 = none) : rdTail f p = if p.1.l.length = 0 then some p else none := by unfold rdTail; rw [h]
theorem rdTail_go {f : List UInt8 → Option (K × List UInt8)} {p : K × List UInt8} {a : List UInt8} (h : cutL [32, 45, 62, 32] p.2 = some a) : rdTail f p = match f a with
    | none => none
    | some q => some (.mk [p.1, q.1], q.2) := by
  unfold rdTail
  rw [h]
  rfl
set_option maxRecDepth 100000 in
set_option maxHeartbeats 2000000 in
theorem read_any (d : Nat) : d ≤ 1000 → ∀ (s : ByteArray) (w : World), Calls Try.prog 48 #[.string s, .int .i64 d] w (RdP (rd d s.toList) w) := by
  induction d with
  | zero =>
    intro _ s w
    obtain ⟨hbx, hb⟩ := box_new w 24 (.slice none 0 0)
    have HB := Lib.hid hb
    have HBX := Lib.hid hbx
    clear hbx hb
    have HR := Lib.hid (show rd 0 s.toList = none from rfl)
    generalize rd 0 s.toList = R at *
    change Calls _ _ #[_, .int .i64 0] _ _
    go_enter Try.func48, Try.ntmps48
    go_wp2_with fail
    have h1 := HBX.out
    have c1 := h1.cell 0 (.slice none 0 0) rfl
    have f1 := h1.thaw 0
    have HX := Lib.hid (blk_one (y := .slice none 0 0) h1)
    have HY := Lib.hid (below_set HB.out (Nat.le_refl w.heap.size) (.slice none 0 0))
    clear h1
    go_wp2
    have d0 := HX.out.cell 0 (.slice none 0 0) rfl
    refine bodyPost_ret (v := .tuple #[.agg #[.slice none 0 0], .string ⟨#[]⟩, .bool false]) (by first | (simp [results, Try.results48, go_sem, d0]; done) | (simp [results, Try.results48, go_sem, c1]; done)) rfl ?_
    rw [HR.out]
    refine ⟨⟨none, 0, 0, _, rfl, fun p hp => by cases hp⟩, ?_⟩
    first | exact HY.out | exact HB.out
  | succ d ih =>
    intro hd s w
    have HD := Lib.hid (ih (by omega))
    have HRF := Lib.hid (readFrom_any (rd d) d (ih (by omega)) s)
    clear ih
    have hd' : d ≤ 1000 := by omega
    obtain ⟨D, hD⟩ : ∃ D : Int, D = ((d + 1 : Nat) : Int) := ⟨_, rfl⟩
    have q1 : (D == 0) = false := beq_eq_false_iff_ne.2 (by omega)
    have w1 : wrap64 (D - 1) = (d : Int) := by rw [wrap64]; omega
    rw [← hD]
    clear hD hd hd'
    have HR0 := Lib.hid (rd_step d s.toList)
    generalize rd (d + 1) s.toList = R at *
    generalize rdFrom (rd d) s.toList = o1 at *
    have HTS := Lib.hid (fun p => @rdTail_stop (rd d) p)
    have HTG := Lib.hid (fun p a => @rdTail_go (rd d) p a)
    have HDD := Lib.hid (fun (r : ByteArray) W => HD.out r W)
    generalize rdTail (rd d) = tl at *
    generalize rd d = f at *
    have HC := Lib.hid (fun (r : ByteArray) W => cutPrefix_any r ⟨#[32, 45, 62, 32]⟩ W)
    rw [arrow_bytes] at HC
    obtain ⟨hbx, hb⟩ := box_new w 24 (.slice none 0 0)
    have HB := Lib.hid hb
    have HBX := Lib.hid hbx
    clear hbx hb HD
    go_enter Try.func48, Try.ntmps48
    go_wp2_with fail
    generalize w.alloc (.cells #[.slice none 0 0] 24) = w2 at *
    have HSZ := Lib.hid HBX.out.lt
    refine (HRF.out _).mono ?_
    rintro e w4 ⟨⟨a1, n1, c1, r1, rfl, hp1⟩, hb4⟩
    have HP1 := Lib.hid hp1
    replace HBX := Lib.hid (HBX.out.of_eq (hb4.block _ HBX.out.lt))
    replace HB := Lib.hid (belowStep hb4 HB.out)
    have HS4 := Lib.hid hb4.size
    clear hp1 hb4 HRF
    obtain ⟨h7, hb7⟩ := box_new w4 24 (.slice a1 n1 c1)
    have H7 := Lib.hid h7
    replace HBX := Lib.hid (HBX.out.of_eq (hb7.block _ HBX.out.lt))
    replace HB := Lib.hid (belowStep hb7 HB.out)
    have HB7 := Lib.hid hb7
    clear h7 hb7
    cases o1 with
    | none =>
      have HR := Lib.hid (show R = none from HR0.out)
      clear HP1 HR0
      have h1 := HBX.out
      have c1 := h1.cell 0 (.slice none 0 0) rfl
      have f1 := h1.thaw 0
      have HX := Lib.hid (blk_one (y := .slice none 0 0) h1)
      have HY := Lib.hid (below_set HB.out (Nat.le_refl w.heap.size) (.slice none 0 0))
      clear h1
      go_wp2
      have d0 := HX.out.cell 0 (.slice none 0 0) rfl
      refine bodyPost_ret (v := .tuple #[.agg #[.slice none 0 0], .string ⟨#[]⟩, .bool false]) (by first | (simp [results, Try.results48, go_sem, d0]; done) | (simp [results, Try.results48, go_sem, c1]; done)) rfl ?_
      rw [HR.out]
      refine ⟨⟨none, 0, 0, _, rfl, fun p hp => by cases hp⟩, ?_⟩
      first | exact HY.out | exact HB.out
    | some p1 =>
      have HR1 := Lib.hid (show R = tl p1 from HR0.out)
      obtain ⟨g1, g2, g3⟩ := HP1.out _ rfl
      have HK1 := Lib.hid ((g3.keep (Same.of_below HB7.out (fun q hq => hq.2))).mono (From.up HB7.out.size))
      have HRL := Lib.hid g1
      have HN1 := Lib.hid g2
      clear g1 g2 g3 HP1 HR0
      have HC1 := Lib.hid (fun W => HC.out r1 W)
      have HTS1 := Lib.hid (show cutL [32, 45, 62, 32] r1.toList = none → R = if n1 = 0 then some p1 else none from fun h => by
        rw [HR1.out, HN1.out]
        exact HTS.out p1 (by rw [← HRL.out]; exact h))
      have HTG1 := Lib.hid (show ∀ a, cutL [32, 45, 62, 32] r1.toList = some a → R = match f a with
          | none => none
          | some q => some (.mk [p1.1, q.1], q.2) from fun a h => by
        rw [HR1.out]
        exact HTG.out p1 a (by rw [← HRL.out]; exact h))
      clear HTS HTG HC HR1
      generalize cutL [32, 45, 62, 32] r1.toList = o2 at *
      go_wp2_with fail
      obtain ⟨G7, hG7⟩ : ∃ G, G = w4.heap.size := ⟨_, rfl⟩
      have HGS := Lib.hid (show w.heap.size + 1 ≤ G7 from by rw [hG7]; exact Nat.le_trans HSZ.out HS4.out)
      have HG2 := Lib.hid (show w2.heap.size ≤ G7 from by rw [hG7]; exact HS4.out)
      rw [← hG7] at H7 ⊢
      generalize w4.alloc (.cells #[.slice a1 n1 c1] 24) = w5 at *
      clear hG7 HB7 HS4
      have HW25 := Lib.hid (show w2.heap.size ≤ w5.heap.size from Nat.le_of_lt (Nat.lt_of_le_of_lt HG2.out H7.out.lt))
      refine (HC1.out _).mono ?_
      rintro e w6 ⟨⟨r2, rfl, hr2⟩, rfl⟩
      have HR2 := Lib.hid hr2
      clear hr2 HC1
      cases o2 with
      | none =>
        have HR := Lib.hid (HTS1.out (by first | exact rfl | trivial))
        clear HTS1 HTG1 HR2
        have HIS := Lib.hid (fun W (hW : Below w5.heap.size w5 W) => isStar_any _ p1.1 W (.agg #[.slice a1 n1 c1]) ⟨_, rfl, HK1.out.keep (Same.of_below hW (fun q hq => hq.2))⟩)
        rw [← HN1.out] at HIS
        generalize hz : (n1 == 0) = z at HIS
        have HZ := Lib.hid hz
        clear hz
        have HD0 := Lib.hid (Below.refl w5.heap.size w5).drew
        have HU := Lib.hid (fun W (hW : Below w5.heap.size w5 W) => belowStep hW HB.out)
        have HSS := Lib.hid (fun W (hW : Below w5.heap.size w5 W) => (show Below w.heap.size w W ∧ W.cell? ⟨G7, 0, none⟩ = some (.slice a1 n1 c1) ∧ W.frozen? ⟨w.heap.size, 0, none⟩ = false from ⟨HU.out W hW, (H7.out.of_eq (hW.block _ H7.out.lt)).cell 0 _ rfl, (HBX.out.of_eq (hW.block _ HBX.out.lt)).thaw 0⟩))
        have HNG := Lib.hid (show ¬ G7 = w.heap.size from fun e => by have := HGS.out; omega)
        have HST := Lib.hid (fun W (hW : Below w5.heap.size w5 W) v => (show Below w.heap.size w (W.setCell ⟨w.heap.size, 0, none⟩ v) ∧ (W.setCell ⟨w.heap.size, 0, none⟩ v).cell? ⟨G7, 0, none⟩ = some (.slice a1 n1 c1) ∧ (W.setCell ⟨w.heap.size, 0, none⟩ v).frozen? ⟨w.heap.size, 0, none⟩ = false from
          ⟨below_set (HU.out W hW) (Nat.le_refl w.heap.size) v, ((H7.out.of_eq (hW.block _ H7.out.lt)).other ⟨w.heap.size, 0, none⟩ v HNG.out).cell 0 _ rfl, (blk_one (y := v) (HBX.out.of_eq (hW.block _ HBX.out.lt))).thaw 0⟩))
        go_wp2
        go_region_held3 (fun W => Below w.heap.size w W ∧ W.cell? ⟨G7, 0, none⟩ = some (.slice a1 n1 c1) ∧ W.frozen? ⟨w.heap.size, 0, none⟩ = false)
          (first | exact HSS.out _ HD0.out | exact HSS.out _ (by assumption) | exact HST.out _ (by assumption) _)
          (first
          | (go_at_call 44; (with_reducible refine (HIS.out _ (by first | assumption | exact HD0.out)).mono ?_); rintro e wn ⟨rfl, hbn⟩; have hbn2 := belowStep (a := w5) hbn (by first | assumption | exact HD0.out); have hc9 := (HBX.out.of_eq (hbn2.block _ HBX.out.lt)).cell 0 _ rfl; have hf9 := (HBX.out.of_eq (hbn2.block _ HBX.out.lt)).thaw 0))
        all_goals (
          have HX := Lib.hid (blk_one (y := .slice a1 n1 c1) (HBX.out.of_eq (hbn2.block _ HBX.out.lt)))
          have HY := Lib.hid (below_set (HU.out _ hbn2) (Nat.le_refl w.heap.size) (.slice a1 n1 c1))
          have HKE := Lib.hid (((HK1.out.keep (Same.of_below hbn2 (fun q hq => hq.2))).keep (Same.set (w := wn) ⟨w.heap.size, 0, none⟩ (.slice a1 n1 c1) (fun q h e => by
            have e : q = w.heap.size := e
            have := h.1
            have := HSZ.out
            omega))).mono (fun q h => (show From w.heap.size (wn.setCell ⟨w.heap.size, 0, none⟩ (.slice a1 n1 c1)) q from ⟨by have := h.1; have := HSZ.out; omega, by rw [size_set]; exact Nat.lt_of_lt_of_le h.2 hbn2.size⟩)))
          clear hbn hbn2 hc9 hf9 HST HSS HU HIS
          generalize wn.setCell ⟨w.heap.size, 0, none⟩ (.slice a1 n1 c1) = w9 at *
          go_wp2
          have d0 := HX.out.cell 0 (.slice a1 n1 c1) rfl
          refine bodyPost_ret (v := .tuple #[.agg #[.slice a1 n1 c1], .string r1, .bool z]) (by simp [results, Try.results48, go_sem, d0]) rfl ?_
          refine ⟨⟨a1, n1, c1, r1, ?_, fun p hp => ?_⟩, HY.out⟩
          · rw [HR.out, ← HZ.out]
            by_cases h0 : n1 = 0
            · rw [if_pos h0, beq_iff_eq.2 h0]; rfl
            · rw [if_neg h0, beq_eq_false_iff_ne.2 h0]; rfl
          · rw [HR.out] at hp
            by_cases h0 : n1 = 0
            · rw [if_pos h0] at hp
              injection hp with hp
              subst hp
              exact ⟨HRL.out, HN1.out, HKE.out⟩
            · rw [if_neg h0] at hp
              cases hp)
      | some q2 =>
        have HR := Lib.hid (HTG1.out q2 rfl)
        have HF2 := Lib.hid (HDD.out r2 w5)
        rw [HR2.out q2 rfl] at HF2
        clear HTS1 HTG1 HR2 HDD
        generalize f q2 = o3 at *
        go_wp2_with fail
        refine HF2.out.mono ?_
        rintro e w6 ⟨⟨a3, n3, c3, r3, rfl, hp3⟩, hb6⟩
        have HP3 := Lib.hid hp3
        have HS6 := Lib.hid hb6.size
        replace HBX := Lib.hid (HBX.out.of_eq (hb6.block _ HBX.out.lt))
        replace H7 := Lib.hid (H7.out.of_eq (hb6.block _ H7.out.lt))
        replace HB := Lib.hid (belowStep hb6 HB.out)
        replace HK1 := Lib.hid ((HK1.out.keep (Same.of_below hb6 (fun q hq => hq.2))).mono (From.up hb6.size))
        clear hp3 hb6 HF2
        obtain ⟨h8, hb8⟩ := box_new w6 24 (.slice a3 n3 c3)
        have H8 := Lib.hid h8
        replace HBX := Lib.hid (HBX.out.of_eq (hb8.block _ HBX.out.lt))
        replace H7 := Lib.hid (H7.out.of_eq (hb8.block _ H7.out.lt))
        replace HB := Lib.hid (belowStep hb8 HB.out)
        replace HK1 := Lib.hid ((HK1.out.keep (Same.of_below hb8 (fun q hq => hq.2))).mono (From.up hb8.size))
        have HB8 := Lib.hid hb8
        clear h8 hb8
        cases o3 with
        | none =>
          have HR' : Hid (R = none) := HR.out
          clear HR
          have HR := HR'
          clear HR' HP3
          have h1 := HBX.out
          have c1 := h1.cell 0 (.slice none 0 0) rfl
          have f1 := h1.thaw 0
          have HX := Lib.hid (blk_one (y := .slice none 0 0) h1)
          have HY := Lib.hid (below_set HB.out (Nat.le_refl w.heap.size) (.slice none 0 0))
          clear h1
          go_wp2
          have d0 := HX.out.cell 0 (.slice none 0 0) rfl
          refine bodyPost_ret (v := .tuple #[.agg #[.slice none 0 0], .string ⟨#[]⟩, .bool false]) (by first | (simp [results, Try.results48, go_sem, d0]; done) | (simp [results, Try.results48, go_sem, c1]; done)) rfl ?_
          rw [HR.out]
          refine ⟨⟨none, 0, 0, _, rfl, fun p hp => by cases hp⟩, ?_⟩
          first | exact HY.out | exact HB.out
        | some p3 =>
          have HR' : Hid (R = some (.mk [p1.1, p3.1], p3.2)) := HR.out
          obtain ⟨g1, g2, g3⟩ := HP3.out _ rfl
          have HK3 := Lib.hid ((g3.keep (Same.of_below HB8.out (fun q hq => hq.2))).mono (fun q hq => (show From w2.heap.size (w6.alloc (.cells #[.slice a3 n3 c3] 24)) q from ⟨Nat.le_trans HW25.out hq.1, Nat.lt_of_lt_of_le hq.2 HB8.out.size⟩)))
          have HRL3 := Lib.hid g1
          have e7 := H7.out.cell 0 (.slice a1 n1 c1) rfl
          have e8 := H8.out.cell 0 (.slice a3 n3 c3) rfl
          have HAR := Lib.hid (arrow_from w2.heap.size p1.1 p3.1 _ _ a1 n1 c1 a3 n3 c3 (Nat.le_trans HW25.out (Nat.le_trans HS6.out HB8.out.size)) HK1.out (Below.refl _ _) HK3.out)
          clear g1 g2 g3 HP3 HR
          go_wp2_with fail
          generalize w6.alloc (.cells #[.slice a3 n3 c3] 24) = w7 at *
          refine HAR.out.mono ?_
          rintro e w8 ⟨⟨ka, kc, rfl, hk⟩, hb8⟩
          have h1 := HBX.out.of_eq (hb8.block _ HBX.out.lt)
          have c1' := h1.cell 0 (.slice none 0 0) rfl
          have f1 := h1.thaw 0
          have HX := Lib.hid (blk_one (y := .slice ka 2 kc) h1)
          have HY := Lib.hid (below_set (belowStep hb8 HB.out) (Nat.le_refl w.heap.size) (.slice ka 2 kc))
          have HKE := Lib.hid ((hk.keep (Same.set (w := w8) ⟨w.heap.size, 0, none⟩ (.slice ka 2 kc) (fun q h e => by
            have e : q = w.heap.size := e
            have := h.1
            have := HSZ.out
            omega))).mono (fun q h => (show From w.heap.size (w8.setCell ⟨w.heap.size, 0, none⟩ (.slice ka 2 kc)) q from ⟨by have := h.1; have := HSZ.out; omega, by rw [size_set]; exact h.2⟩)))
          clear h1 hb8 hk e7 e8
          go_wp2
          have d0 := HX.out.cell 0 (.slice ka 2 kc) rfl
          refine bodyPost_ret (v := .tuple #[.agg #[.slice ka 2 kc], .string r3, .bool true]) (by simp [results, Try.results48, go_sem, d0]) rfl ?_
          rw [HR'.out]
          refine ⟨⟨ka, 2, kc, r3, rfl, fun p hp => ?_⟩, HY.out⟩
          injection hp with hp
          subst hp
          exact ⟨HRL3.out, rfl, HKE.out⟩
set_option maxRecDepth 100000 in
theorem cparse_any (s : ByteArray) (w : World) (hs : s.size ≤ 1099511627776) : Calls Try.prog 29 #[.string s] w (KindCode (fun _ => False) (kparseOut s.toList) w) := by
  have hsz : s.toList.length = s.size := by rw [Pl.toList_eq]; rfl
  have HKP := Lib.hid (show kparseOut s.toList = if 16384 < s.toList.length then (.mk [], 5) else parseOut s.toList from rfl)
  have HRP := Lib.hid (rd_parse s.toList)
  rw [hsz] at HKP HRP
  have HRD := Lib.hid (fun W => read_any 400 (by omega) s W)
  generalize kparseOut s.toList = R at *
  generalize parseOut s.toList = PO at *
  generalize rd 400 s.toList = o1 at *
  obtain ⟨hbx, hb⟩ := box_new w 24 (.slice none 0 0)
  have HB := Lib.hid hb
  have HBX := Lib.hid hbx
  clear hbx hb hsz
  by_cases hbig : 16384 < s.size
  · have HR := Lib.hid (show R = (.mk [], 5) from by rw [HKP.out, if_pos hbig])
    have q1 : decide ((16384 : Int) < (s.size : Int)) = true := decide_eq_true (by omega)
    have c1 := HBX.out.cell 0 (.slice none 0 0) rfl
    have f1 := HBX.out.thaw 0
    have HX := Lib.hid (blk_one (y := .slice none 0 0) HBX.out)
    have HY := Lib.hid (below_set HB.out (Nat.le_refl w.heap.size) (.slice none 0 0))
    clear hbig HRD HRP
    go_enter Try.func29, Try.ntmps29
    go_wp2
    have d0 := HX.out.cell 0 (.slice none 0 0) rfl
    refine bodyPost_ret (v := .tuple #[.agg #[.slice none 0 0], .int .i64 5]) (by first | (simp [results, Try.results29, go_sem, d0]; done) | (simp [results, Try.results29, go_sem, c1]; done)) rfl ?_
    refine ⟨⟨_, by rw [HR.out], by rw [HR.out]; exact kV_none _ _⟩, ?_⟩
    first | exact HY.out | exact HB.out
  have q1 : decide ((16384 : Int) < (s.size : Int)) = false := decide_eq_false (by omega)
  rw [if_neg hbig] at HKP
  have HR0 := Lib.hid (HKP.out.trans (HRP.out (by omega)))
  clear hbig HKP HRP
  go_enter Try.func29, Try.ntmps29
  go_wp2_with fail
  generalize w.alloc (.cells #[.slice none 0 0] 24) = w2 at *
  have HSZ := Lib.hid HBX.out.lt
  refine (HRD.out _).mono ?_
  rintro e w4 ⟨⟨a1, n1, c4, r1, rfl, hp1⟩, hb4⟩
  have HP1 := Lib.hid hp1
  replace HBX := Lib.hid (HBX.out.of_eq (hb4.block _ HBX.out.lt))
  replace HB := Lib.hid (belowStep hb4 HB.out)
  have HS4 := Lib.hid hb4.size
  clear hp1 hb4 HRD
  obtain ⟨h7, hb7⟩ := box_new w4 24 (.slice a1 n1 c4)
  have H7 := Lib.hid h7
  replace HBX := Lib.hid (HBX.out.of_eq (hb7.block _ HBX.out.lt))
  replace HB := Lib.hid (belowStep hb7 HB.out)
  have HB7 := Lib.hid hb7
  clear h7 hb7
  cases o1 with
  | none =>
    have HR : Hid (R = (.mk [], 3)) := HR0.out
    clear HP1 HR0
    have h1 := HBX.out
    have c1 := h1.cell 0 (.slice none 0 0) rfl
    have f1 := h1.thaw 0
    have HX := Lib.hid (blk_one (y := .slice none 0 0) h1)
    have HY := Lib.hid (below_set HB.out (Nat.le_refl w.heap.size) (.slice none 0 0))
    clear h1
    go_wp2
    have d0 := HX.out.cell 0 (.slice none 0 0) rfl
    refine bodyPost_ret (v := .tuple #[.agg #[.slice none 0 0], .int .i64 3]) (by first | (simp [results, Try.results29, go_sem, d0]; done) | (simp [results, Try.results29, go_sem, c1]; done)) rfl ?_
    refine ⟨⟨_, by rw [HR.out], by rw [HR.out]; exact kV_none _ _⟩, ?_⟩
    first | exact HY.out | exact HB.out
  | some p1 =>
    have HR1 : Hid (R = if p1.2.length = 0 then (p1.1, (0 : Int)) else (.mk [], 3)) := HR0.out
    obtain ⟨g1, g2, g3⟩ := HP1.out _ rfl
    have hl : p1.2.length = r1.size := by rw [← g1, Pl.toList_eq]; rfl
    rw [hl] at HR1
    have HK1 := Lib.hid ((g3.keep (Same.of_below HB7.out (fun q hq => hq.2))).mono (From.up HB7.out.size))
    clear g1 g2 g3 HP1 HR0 hl
    by_cases h0 : r1.size = 0
    · have HR := Lib.hid (show R = (p1.1, 0) from by rw [HR1.out, if_pos h0])
      have he : r1.toList.isEmpty = true := by
        rw [Pl.toList_eq, List.isEmpty_iff_length_eq_zero]
        exact h0
      clear h0 HR1
      have c1 := HBX.out.cell 0 (.slice none 0 0) rfl
      have f1 := HBX.out.thaw 0
      have c7 := H7.out.cell 0 (.slice a1 n1 c4) rfl
      have HX := Lib.hid (blk_one (y := .slice a1 n1 c4) HBX.out)
      have HY := Lib.hid (below_set HB.out (Nat.le_refl w.heap.size) (.slice a1 n1 c4))
      have HKE := Lib.hid ((HK1.out.keep (Same.set ⟨w.heap.size, 0, none⟩ (.slice a1 n1 c4) (fun q h e => by
        have e : q = w.heap.size := e
        have := h.1
        have := HSZ.out
        omega))).mono (fun q h => (show Ext (fun _ => False) w ((w4.alloc (.cells #[.slice a1 n1 c4] 24)).setCell ⟨w.heap.size, 0, none⟩ (.slice a1 n1 c4)) q from .inr ⟨by have := h.1; have := HSZ.out; omega, by rw [size_set]; exact h.2⟩)))
      go_wp2
      have d0 := HX.out.cell 0 (.slice a1 n1 c4) rfl
      refine bodyPost_ret (v := .tuple #[.agg #[.slice a1 n1 c4], .int .i64 0]) (by simp [results, Try.results29, go_sem, d0]) rfl ?_
      exact ⟨⟨_, by rw [HR.out], by rw [HR.out]; exact ⟨_, rfl, HKE.out⟩⟩, HY.out⟩
    · have HR := Lib.hid (show R = (.mk [], 3) from by rw [HR1.out, if_neg h0])
      have he : r1.toList.isEmpty = false := by
        cases h : r1.toList.isEmpty
        · rfl
        · exfalso
          rw [Pl.toList_eq, List.isEmpty_iff_length_eq_zero] at h
          exact h0 h
      clear h0 HR1
      have h1 := HBX.out
      have c1 := h1.cell 0 (.slice none 0 0) rfl
      have f1 := h1.thaw 0
      have HX := Lib.hid (blk_one (y := .slice none 0 0) h1)
      have HY := Lib.hid (below_set HB.out (Nat.le_refl w.heap.size) (.slice none 0 0))
      clear h1
      go_wp2
      have d0 := HX.out.cell 0 (.slice none 0 0) rfl
      refine bodyPost_ret (v := .tuple #[.agg #[.slice none 0 0], .int .i64 3]) (by first | (simp [results, Try.results29, go_sem, d0]; done) | (simp [results, Try.results29, go_sem, c1]; done)) rfl ?_
      refine ⟨⟨_, by rw [HR.out], by rw [HR.out]; exact kV_none _ _⟩, ?_⟩
      first | exact HY.out | exact HB.out
end Go.Proofs.Ythamhgnhdjahgaa
