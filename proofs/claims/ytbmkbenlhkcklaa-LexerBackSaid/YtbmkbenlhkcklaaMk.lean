/-
  Walks of layer 2: the reference's Join.
-/
import Derived.Test.YtbmkbenlhkcklaaMj
namespace Go.Proofs.Ytbmkbenlhkcklaa
open Go.RowKit

set_option maxRecDepth 100000 in
set_option maxHeartbeats 8000000 in
theorem refJoin_drop (b off c p : Nat) (us : List Pl.Tok) (last : Pl.Tok) (w : World) (hul : us.length = p) (hc : p + 1 ≤ c) (hm : c ≤ maxLen) (hb : b < w.heap.size) (hlast : TokAt w b (off + p * 4) last) (hk8 : last.kind = 8) (hte : last.text = [])
    (ha : ∀ j (hj : j < us.length), TokAt w b (off + 4 * j) us[j]) (hbig : ∀ j (hj : j < us.length), (us[j]).text.length ≤ 17000) :
    Calls Try.prog 25 #[.slice (some ⟨b, off, none⟩) (p + 1) c] w (JoinPost w (jv us)) := by
  unfold maxLen at hm
  have HA := Lib.hid ha
  have HBIG := Lib.hid hbig
  have HBW : Hid (Below w.heap.size w w) := Below.refl _ _
  obtain ⟨z0, z1, -, -⟩ := hlast
  rw [hk8] at z0
  have hn1 : (Pl.mk last.text).toList = [] := by rw [Pl.mk_toList, hte]
  have hn2 : (Pl.mk last.text).toList.isEmpty = true := by rw [hn1]; rfl
  generalize Pl.mk last.text = tx at z1 hn1 hn2
  clear ha hbig
  by_cases hfull : 20000 < p
  · have q1 : decide ((20000 : Int) < (p : Int)) = true := by simp; omega
    have HJ := Lib.hid (show jv us = ([], 5) from by unfold jv; rw [if_pos (by omega)])
    go_enter Try.func25, Try.ntmps25
    go_wp2_with fail
    go_ret2
    exact ⟨by rw [HJ.out]; rfl, HBW.out⟩
  · have q1 : decide ((20000 : Int) < (p : Int)) = false := by simp; omega
    go_enter Try.func25, Try.ntmps25
    go_wp2_with fail
    clear z0 z1
    go_loopg [6] (p + 1) (fun g v wr => ∃ k : Nat, k ≤ p ∧ v = .int .i64 k ∧ g = p + 1 - k ∧ Below w.heap.size w wr ∧ ∀ j (hj : j < us.length), j < k → refB us[j] = true)
    case atStart => exact ⟨0, by omega, rfl, by omega, HBW.out, fun j hj h => absurd h (Nat.not_lt_zero _)⟩
    case round =>
      obtain ⟨k, hk, rfl, hg, hbw, hall⟩ := hrel
      have HALL := Lib.hid hall
      have HBR := Lib.hid hbw
      by_cases hlt : k < p
      · have hc1 := fun W => right_any (us[k]'(by omega)) W (HBIG.out k (by omega))
        have hbad : refB (us[k]'(by omega)) = false → jv us = ([], 3) := fun h => by
          unfold jv
          rw [if_neg (by omega), if_neg]
          intro hx
          have := List.all_eq_true.1 hx _ (List.getElem_mem (by omega : k < us.length))
          rw [h] at this; cases this
        have HGOOD := Lib.hid (show ∀ r, refB (us[k]'(by omega)) = r → r = true → ∀ j (hj : j < us.length), j < k + 1 → refB us[j] = true from fun r h1 h2 j hj h => by
          rcases Nat.lt_or_ge j k with h3 | h3
          · exact HALL.out j hj h3
          · obtain rfl : j = k := by omega
            exact h1.trans h2)
        unfold tokVal tkc at hc1
        generalize refB (us[k]'(by omega)) = r3 at hbad hc1 HGOOD
        obtain ⟨a0, a1, a2, a3⟩ := (show TokAt wr b (off + k * 4) (us[k]'(by omega)) from by rw [Nat.mul_comm]; exact (HA.out k (by omega)).below hbw hb)
        generalize (us[k]'(by omega)).kind = kd at a0 hc1
        generalize Pl.mk (us[k]'(by omega)).text = tx at a1 hc1
        generalize (us[k]'(by omega)).line = li at a2 hc1
        generalize (us[k]'(by omega)).col = co at a3 hc1
        have HC1 := Lib.hid hc1
        have HBAD := Lib.hid hbad
        clear hc1 hbad hall hbw
        go_wp2_with fail
        refine (HC1.out _).mono ?_
        rintro e w2 ⟨rfl, hb2⟩
        have HB2 := Lib.hid (HBR.out.trans (hb2.mono HBR.out.size))
        clear hb2 a0 a1 a2 a3
        cases r3
        · have HJ := Lib.hid (HBAD.out rfl)
          go_wp2
          go_ret2
          exact ⟨by rw [HJ.out]; rfl, HB2.out⟩
        · have HG := Lib.hid (HGOOD.out true rfl rfl)
          go_wp2
          go_roundg (gk - 1)
          case measure => omega
          case rel => exact ⟨k + 1, by omega, by go_num, by omega, HB2.out, HG.out⟩
      · rename World => wa
        have hkn : k = p := by omega
        have hjv : jv us = if 16384 < (jn us).length then ([], 5) else (jn us, 0) := by
          unfold jv
          rw [if_neg (by omega), if_pos]
          refine List.all_eq_true.2 fun t ht => ?_
          obtain ⟨j, hj, rfl⟩ := List.getElem_of_mem ht
          exact HALL.out j hj (by omega)
        have HJV := Lib.hid hjv
        have HAA := Lib.hid (show ∀ j (hj : j < us.length), TokAt wa b (off + 4 * j) us[j] from fun j hj => (HA.out j hj).below hbw hb)
        clear hkn hjv hall hbw HALL hg
        go_wp2_with fail
        clear hlt hk
        go_loopg [5, 7] (p + 1) (fun g o v wr => ∃ k : Nat, k ≤ p ∧ v = .int .i64 k ∧ o = .string (Pl.mk (jn (us.take k))) ∧ g = p + 1 - k ∧ wr = wa ∧ (jn (us.take k)).length ≤ 60000)
        case atStart => exact ⟨0, by omega, rfl, rfl, by omega, rfl, by simp [jn_nil]⟩
        case round =>
          obtain ⟨k, hk, rfl, rfl, hg, rfl, hlen⟩ := hrel
          by_cases hlt : k < p
          · by_cases hov : (jn (us.take k)).length ≤ 16384
            · have hwl := wrT_len (us[k]'(by omega)) (HBIG.out k (by omega))
              have htl := HBIG.out k (by omega)
              have hsn := jn_take us k (by omega)
              have hwd : wrT (us[k]'(by omega)) = if (us[k]'(by omega)).kind = 5 then Pl.lit (us[k]'(by omega)).text else (us[k]'(by omega)).text := rfl
              obtain ⟨a0, a1, -, -⟩ := (show TokAt wr b (off + k * 4) (us[k]'(by omega)) from by rw [Nat.mul_comm]; exact HAA.out k (by omega))
              generalize wrT (us[k]'(by omega)) = wt at hwl hsn hwd
              have hqt := fun W => rQuote_any (Pl.mk (us[k]'(by omega)).text) W (by rw [Pl.mk_size]; omega)
              have hts : (Pl.mk (us[k]'(by omega)).text).size ≤ 17000 := by rw [Pl.mk_size]; exact htl
              rw [Pl.mk_toList] at hqt
              have htx : Pl.mk (us[k]'(by omega)).text = Pl.mk (us[k]'(by omega)).text := rfl
              generalize hkd : (us[k]'(by omega)).kind = kd at a0 hwd
              generalize htt : (us[k]'(by omega)).text = tt at a1 hwd hqt hts htl
              clear hkd htt htx
              have hq1 : decide (((Pl.mk (jn (us.take k))).size : Int) ≤ 16384) = true := by rw [Pl.mk_size]; simp; omega
              have hos : (Pl.mk (jn (us.take k))).size ≤ 16384 := by rw [Pl.mk_size]; exact hov
              have hz : k = 0 → jn (us.take k) = [] := fun h => by rw [h]; rfl
              generalize hj1 : jn (us.take (k + 1)) = j1 at hsn
              generalize jn (us.take k) = jk at hsn hlen hz hq1 hos hov ⊢
              have HJ1 := Lib.hid hj1
              have HQT := Lib.hid hqt
              have z0 : (Pl.mk jk).size + (⟨#[32]⟩ : ByteArray).size ≤ 9223372036854775807 := by show (Pl.mk jk).size + 1 ≤ _; omega
              clear hj1 hqt
              by_cases h0 : k = 0
              · have q0 : decide (0 < k) = false := decide_eq_false (by omega)
                have q0i : ¬ 0 < k := by omega
                have hz2 := hz h0
                subst hz2
                rw [if_pos h0] at hsn
                by_cases h5 : kd = 5
                · have p5 : (kd == 5) = true := beq_iff_eq.2 h5
                  rw [if_pos h5] at hwd
                  have HF := Lib.hid (show Pl.mk [] ++ Pl.mk (Pl.lit tt) = Pl.mk j1 from by rw [Pl.mk_add, hsn, hwd]; rfl)
                  have HL := Lib.hid (show j1.length ≤ 60000 from by rw [hsn]; omega)
                  have z1 : (Pl.mk []).size + (Pl.mk (Pl.lit tt)).size ≤ 9223372036854775807 := by rw [Pl.mk_size (Pl.lit tt), ← hwd]; omega
                  clear hwd hsn hz h5 h0
                  go_wp2_with fail
                  refine (HQT.out _).mono ?_
                  rintro e w' ⟨rfl, rfl⟩
                  go_wp2
                  go_roundg (gk - 1)
                  case measure => omega
                  case rel => exact ⟨k + 1, by omega, by go_num, str_eq (by rw [HJ1.out]; exact HF.out), by omega, rfl, by rw [HJ1.out]; exact HL.out⟩
                · have p5 : (kd == 5) = false := beq_eq_false_iff_ne.2 h5
                  rw [if_neg h5] at hwd
                  have HF := Lib.hid (show Pl.mk [] ++ Pl.mk tt = Pl.mk j1 from by rw [Pl.mk_add, hsn, hwd]; rfl)
                  have HL := Lib.hid (show j1.length ≤ 60000 from by rw [hsn]; omega)
                  have z1 : (Pl.mk []).size + (Pl.mk tt).size ≤ 9223372036854775807 := by omega
                  clear hwd hsn hz h5 h0
                  go_wp2
                  go_roundg (gk - 1)
                  case measure => omega
                  case rel => exact ⟨k + 1, by omega, by go_num, str_eq (by rw [HJ1.out]; exact HF.out), by omega, rfl, by rw [HJ1.out]; exact HL.out⟩
              · have q0 : decide (0 < k) = true := decide_eq_true (by omega)
                have q0i : 0 < k := by omega
                rw [if_neg h0] at hsn
                have hsp : (Pl.mk jk ++ (⟨#[32]⟩ : ByteArray)).size ≤ 16385 := by rw [ByteArray.size_append]; show (Pl.mk jk).size + 1 ≤ _; omega
                by_cases h5 : kd = 5
                · have p5 : (kd == 5) = true := beq_iff_eq.2 h5
                  rw [if_pos h5] at hwd
                  have HF := Lib.hid (show Pl.mk jk ++ (⟨#[32]⟩ : ByteArray) ++ Pl.mk (Pl.lit tt) = Pl.mk j1 from by rw [show (⟨#[32]⟩ : ByteArray) = Pl.mk [32] from rfl, Pl.mk_add, Pl.mk_add, hsn, hwd]; simp)
                  have HL := Lib.hid (show j1.length ≤ 60000 from by rw [hsn, List.length_append, List.length_cons]; omega)
                  have z1 : (Pl.mk jk ++ (⟨#[32]⟩ : ByteArray)).size + (Pl.mk (Pl.lit tt)).size ≤ 9223372036854775807 := by rw [Pl.mk_size (Pl.lit tt), ← hwd]; omega
                  clear hwd hsn hz h5 h0
                  go_wp2_with fail
                  refine (HQT.out _).mono ?_
                  rintro e w' ⟨rfl, rfl⟩
                  go_wp2
                  go_roundg (gk - 1)
                  case measure => omega
                  case rel => exact ⟨k + 1, by omega, by go_num, str_eq (by rw [HJ1.out]; exact HF.out), by omega, rfl, by rw [HJ1.out]; exact HL.out⟩
                · have p5 : (kd == 5) = false := beq_eq_false_iff_ne.2 h5
                  rw [if_neg h5] at hwd
                  have HF := Lib.hid (show Pl.mk jk ++ (⟨#[32]⟩ : ByteArray) ++ Pl.mk tt = Pl.mk j1 from by rw [show (⟨#[32]⟩ : ByteArray) = Pl.mk [32] from rfl, Pl.mk_add, Pl.mk_add, hsn, hwd]; simp)
                  have HL := Lib.hid (show j1.length ≤ 60000 from by rw [hsn, List.length_append, List.length_cons]; omega)
                  have z1 : (Pl.mk jk ++ (⟨#[32]⟩ : ByteArray)).size + (Pl.mk tt).size ≤ 9223372036854775807 := by omega
                  clear hwd hsn hz h5 h0
                  go_wp2
                  go_roundg (gk - 1)
                  case measure => omega
                  case rel => exact ⟨k + 1, by omega, by go_num, str_eq (by rw [HJ1.out]; exact HF.out), by omega, rfl, by rw [HJ1.out]; exact HL.out⟩
            · have hq1 : decide (((Pl.mk (jn (us.take k))).size : Int) ≤ 16384) = false := by rw [Pl.mk_size]; simp; omega
              have hq2 : decide ((16384 : Int) < ((Pl.mk (jn (us.take k))).size : Int)) = true := by rw [Pl.mk_size]; simp; omega
              have HJL := Lib.hid (show jv us = ([], 5) from by rw [HJV.out, if_pos]; have := jn_le us k (by omega); omega)
              generalize Pl.mk (jn (us.take k)) = o at hq1 hq2 ⊢
              go_wp2
              go_ret2
              exact ⟨by rw [HJL.out]; rfl, HBR.out⟩
          · have hkn : k = p := by omega
            have hfin : jn (us.take k) = jn us := by rw [hkn, ← hul, List.take_length]
            rw [hfin] at hlen ⊢
            by_cases hov : 16384 < (jn us).length
            · have hq2 : decide ((16384 : Int) < ((Pl.mk (jn us)).size : Int)) = true := by rw [Pl.mk_size]; simp; omega
              have HJL := Lib.hid (show jv us = ([], 5) from by rw [HJV.out, if_pos hov])
              generalize Pl.mk (jn us) = o at hq2 ⊢
              clear hkn hfin hlen hov
              go_wp2
              go_ret2
              exact ⟨by rw [HJL.out]; rfl, HBR.out⟩
            · have hq2 : decide ((16384 : Int) < ((Pl.mk (jn us)).size : Int)) = false := by rw [Pl.mk_size]; simp; omega
              have HJL := Lib.hid (show jv us = (jn us, 0) from by rw [HJV.out, if_neg hov])
              generalize ho : Pl.mk (jn us) = o at hq2 ⊢
              have HO := Lib.hid ho
              clear hkn hfin hlen hov ho
              go_wp2
              go_ret2
              exact ⟨by rw [HJL.out, HO.out]; rfl, HBR.out⟩
set_option maxRecDepth 100000 in
set_option maxHeartbeats 8000000 in
theorem refJoin_keepA (b off c p : Nat) (us : List Pl.Tok) (last : Pl.Tok) (w : World) (hul : us.length = (p + 1)) (hc : p + 1 ≤ c) (hm : c ≤ maxLen) (hb : b < w.heap.size) (hlast : TokAt w b (off + p * 4) last) (hk8 : last.kind ≠ 8)
    (ha : ∀ j (hj : j < us.length), TokAt w b (off + 4 * j) us[j]) (hbig : ∀ j (hj : j < us.length), (us[j]).text.length ≤ 17000) :
    Calls Try.prog 25 #[.slice (some ⟨b, off, none⟩) (p + 1) c] w (JoinPost w (jv us)) := by
  unfold maxLen at hm
  have HA := Lib.hid ha
  have HBIG := Lib.hid hbig
  have HBW : Hid (Below w.heap.size w w) := Below.refl _ _
  obtain ⟨z0, z1, -, -⟩ := hlast
  generalize last.kind = kl at z0 hk8
  generalize Pl.mk last.text = tl at z1
  have p8 : (kl == 8) = false := beq_eq_false_iff_ne.2 hk8
  clear hk8
  clear ha hbig
  by_cases hfull : 20000 < (p + 1)
  · have q1 : decide ((20000 : Int) < (p : Int) + 1) = true := by simp; omega
    have HJ := Lib.hid (show jv us = ([], 5) from by unfold jv; rw [if_pos (by omega)])
    go_enter Try.func25, Try.ntmps25
    go_wp2_with fail
    go_ret2
    exact ⟨by rw [HJ.out]; rfl, HBW.out⟩
  · have q1 : decide ((20000 : Int) < (p : Int) + 1) = false := by simp; omega
    go_enter Try.func25, Try.ntmps25
    go_wp2_with fail
    clear z0 z1
    go_loopg [6] ((p + 1) + 1) (fun g v wr => ∃ k : Nat, k ≤ (p + 1) ∧ v = .int .i64 k ∧ g = (p + 1) + 1 - k ∧ Below w.heap.size w wr ∧ ∀ j (hj : j < us.length), j < k → refB us[j] = true)
    case atStart => exact ⟨0, by omega, rfl, by omega, HBW.out, fun j hj h => absurd h (Nat.not_lt_zero _)⟩
    case round =>
      obtain ⟨k, hk, rfl, hg, hbw, hall⟩ := hrel
      have HALL := Lib.hid hall
      have HBR := Lib.hid hbw
      by_cases hlt : k < (p + 1)
      · have hc1 := fun W => right_any (us[k]'(by omega)) W (HBIG.out k (by omega))
        have hbad : refB (us[k]'(by omega)) = false → jv us = ([], 3) := fun h => by
          unfold jv
          rw [if_neg (by omega), if_neg]
          intro hx
          have := List.all_eq_true.1 hx _ (List.getElem_mem (by omega : k < us.length))
          rw [h] at this; cases this
        have HGOOD := Lib.hid (show ∀ r, refB (us[k]'(by omega)) = r → r = true → ∀ j (hj : j < us.length), j < k + 1 → refB us[j] = true from fun r h1 h2 j hj h => by
          rcases Nat.lt_or_ge j k with h3 | h3
          · exact HALL.out j hj h3
          · obtain rfl : j = k := by omega
            exact h1.trans h2)
        unfold tokVal tkc at hc1
        generalize refB (us[k]'(by omega)) = r3 at hbad hc1 HGOOD
        obtain ⟨a0, a1, a2, a3⟩ := (show TokAt wr b (off + k * 4) (us[k]'(by omega)) from by rw [Nat.mul_comm]; exact (HA.out k (by omega)).below hbw hb)
        generalize (us[k]'(by omega)).kind = kd at a0 hc1
        generalize Pl.mk (us[k]'(by omega)).text = tx at a1 hc1
        generalize (us[k]'(by omega)).line = li at a2 hc1
        generalize (us[k]'(by omega)).col = co at a3 hc1
        have HC1 := Lib.hid hc1
        have HBAD := Lib.hid hbad
        clear hc1 hbad hall hbw
        go_wp2_with fail
        refine (HC1.out _).mono ?_
        rintro e w2 ⟨rfl, hb2⟩
        have HB2 := Lib.hid (HBR.out.trans (hb2.mono HBR.out.size))
        clear hb2 a0 a1 a2 a3
        cases r3
        · have HJ := Lib.hid (HBAD.out rfl)
          go_wp2
          go_ret2
          exact ⟨by rw [HJ.out]; rfl, HB2.out⟩
        · have HG := Lib.hid (HGOOD.out true rfl rfl)
          go_wp2
          go_roundg (gk - 1)
          case measure => omega
          case rel => exact ⟨k + 1, by omega, by go_num, by omega, HB2.out, HG.out⟩
      · rename World => wa
        have hkn : k = (p + 1) := by omega
        have hjv : jv us = if 16384 < (jn us).length then ([], 5) else (jn us, 0) := by
          unfold jv
          rw [if_neg (by omega), if_pos]
          refine List.all_eq_true.2 fun t ht => ?_
          obtain ⟨j, hj, rfl⟩ := List.getElem_of_mem ht
          exact HALL.out j hj (by omega)
        have HJV := Lib.hid hjv
        have HAA := Lib.hid (show ∀ j (hj : j < us.length), TokAt wa b (off + 4 * j) us[j] from fun j hj => (HA.out j hj).below hbw hb)
        clear hkn hjv hall hbw HALL hg
        go_wp2_with fail
        clear hlt hk
        go_loopg [5, 7] ((p + 1) + 1) (fun g o v wr => ∃ k : Nat, k ≤ (p + 1) ∧ v = .int .i64 k ∧ o = .string (Pl.mk (jn (us.take k))) ∧ g = (p + 1) + 1 - k ∧ wr = wa ∧ (jn (us.take k)).length ≤ 60000)
        case atStart => exact ⟨0, by omega, rfl, rfl, by omega, rfl, by simp [jn_nil]⟩
        case round =>
          obtain ⟨k, hk, rfl, rfl, hg, rfl, hlen⟩ := hrel
          by_cases hlt : k < (p + 1)
          · by_cases hov : (jn (us.take k)).length ≤ 16384
            · have hwl := wrT_len (us[k]'(by omega)) (HBIG.out k (by omega))
              have htl := HBIG.out k (by omega)
              have hsn := jn_take us k (by omega)
              have hwd : wrT (us[k]'(by omega)) = if (us[k]'(by omega)).kind = 5 then Pl.lit (us[k]'(by omega)).text else (us[k]'(by omega)).text := rfl
              obtain ⟨a0, a1, -, -⟩ := (show TokAt wr b (off + k * 4) (us[k]'(by omega)) from by rw [Nat.mul_comm]; exact HAA.out k (by omega))
              generalize wrT (us[k]'(by omega)) = wt at hwl hsn hwd
              have hqt := fun W => rQuote_any (Pl.mk (us[k]'(by omega)).text) W (by rw [Pl.mk_size]; omega)
              have hts : (Pl.mk (us[k]'(by omega)).text).size ≤ 17000 := by rw [Pl.mk_size]; exact htl
              rw [Pl.mk_toList] at hqt
              have htx : Pl.mk (us[k]'(by omega)).text = Pl.mk (us[k]'(by omega)).text := rfl
              generalize hkd : (us[k]'(by omega)).kind = kd at a0 hwd
              generalize htt : (us[k]'(by omega)).text = tt at a1 hwd hqt hts htl
              clear hkd htt htx
              have hq1 : decide (((Pl.mk (jn (us.take k))).size : Int) ≤ 16384) = true := by rw [Pl.mk_size]; simp; omega
              have hos : (Pl.mk (jn (us.take k))).size ≤ 16384 := by rw [Pl.mk_size]; exact hov
              have hz : k = 0 → jn (us.take k) = [] := fun h => by rw [h]; rfl
              generalize hj1 : jn (us.take (k + 1)) = j1 at hsn
              generalize jn (us.take k) = jk at hsn hlen hz hq1 hos hov ⊢
              have HJ1 := Lib.hid hj1
              have HQT := Lib.hid hqt
              have z0 : (Pl.mk jk).size + (⟨#[32]⟩ : ByteArray).size ≤ 9223372036854775807 := by show (Pl.mk jk).size + 1 ≤ _; omega
              clear hj1 hqt
              by_cases h0 : k = 0
              · have q0 : decide (0 < k) = false := decide_eq_false (by omega)
                have q0i : ¬ 0 < k := by omega
                have hz2 := hz h0
                subst hz2
                rw [if_pos h0] at hsn
                by_cases h5 : kd = 5
                · have p5 : (kd == 5) = true := beq_iff_eq.2 h5
                  rw [if_pos h5] at hwd
                  have HF := Lib.hid (show Pl.mk [] ++ Pl.mk (Pl.lit tt) = Pl.mk j1 from by rw [Pl.mk_add, hsn, hwd]; rfl)
                  have HL := Lib.hid (show j1.length ≤ 60000 from by rw [hsn]; omega)
                  have z1 : (Pl.mk []).size + (Pl.mk (Pl.lit tt)).size ≤ 9223372036854775807 := by rw [Pl.mk_size (Pl.lit tt), ← hwd]; omega
                  clear hwd hsn hz h5 h0
                  go_wp2_with fail
                  refine (HQT.out _).mono ?_
                  rintro e w' ⟨rfl, rfl⟩
                  go_wp2
                  go_roundg (gk - 1)
                  case measure => omega
                  case rel => exact ⟨k + 1, by omega, by go_num, str_eq (by rw [HJ1.out]; exact HF.out), by omega, rfl, by rw [HJ1.out]; exact HL.out⟩
                · have p5 : (kd == 5) = false := beq_eq_false_iff_ne.2 h5
                  rw [if_neg h5] at hwd
                  have HF := Lib.hid (show Pl.mk [] ++ Pl.mk tt = Pl.mk j1 from by rw [Pl.mk_add, hsn, hwd]; rfl)
                  have HL := Lib.hid (show j1.length ≤ 60000 from by rw [hsn]; omega)
                  have z1 : (Pl.mk []).size + (Pl.mk tt).size ≤ 9223372036854775807 := by omega
                  clear hwd hsn hz h5 h0
                  go_wp2
                  go_roundg (gk - 1)
                  case measure => omega
                  case rel => exact ⟨k + 1, by omega, by go_num, str_eq (by rw [HJ1.out]; exact HF.out), by omega, rfl, by rw [HJ1.out]; exact HL.out⟩
              · have q0 : decide (0 < k) = true := decide_eq_true (by omega)
                have q0i : 0 < k := by omega
                rw [if_neg h0] at hsn
                have hsp : (Pl.mk jk ++ (⟨#[32]⟩ : ByteArray)).size ≤ 16385 := by rw [ByteArray.size_append]; show (Pl.mk jk).size + 1 ≤ _; omega
                by_cases h5 : kd = 5
                · have p5 : (kd == 5) = true := beq_iff_eq.2 h5
                  rw [if_pos h5] at hwd
                  have HF := Lib.hid (show Pl.mk jk ++ (⟨#[32]⟩ : ByteArray) ++ Pl.mk (Pl.lit tt) = Pl.mk j1 from by rw [show (⟨#[32]⟩ : ByteArray) = Pl.mk [32] from rfl, Pl.mk_add, Pl.mk_add, hsn, hwd]; simp)
                  have HL := Lib.hid (show j1.length ≤ 60000 from by rw [hsn, List.length_append, List.length_cons]; omega)
                  have z1 : (Pl.mk jk ++ (⟨#[32]⟩ : ByteArray)).size + (Pl.mk (Pl.lit tt)).size ≤ 9223372036854775807 := by rw [Pl.mk_size (Pl.lit tt), ← hwd]; omega
                  clear hwd hsn hz h5 h0
                  go_wp2_with fail
                  refine (HQT.out _).mono ?_
                  rintro e w' ⟨rfl, rfl⟩
                  go_wp2
                  go_roundg (gk - 1)
                  case measure => omega
                  case rel => exact ⟨k + 1, by omega, by go_num, str_eq (by rw [HJ1.out]; exact HF.out), by omega, rfl, by rw [HJ1.out]; exact HL.out⟩
                · have p5 : (kd == 5) = false := beq_eq_false_iff_ne.2 h5
                  rw [if_neg h5] at hwd
                  have HF := Lib.hid (show Pl.mk jk ++ (⟨#[32]⟩ : ByteArray) ++ Pl.mk tt = Pl.mk j1 from by rw [show (⟨#[32]⟩ : ByteArray) = Pl.mk [32] from rfl, Pl.mk_add, Pl.mk_add, hsn, hwd]; simp)
                  have HL := Lib.hid (show j1.length ≤ 60000 from by rw [hsn, List.length_append, List.length_cons]; omega)
                  have z1 : (Pl.mk jk ++ (⟨#[32]⟩ : ByteArray)).size + (Pl.mk tt).size ≤ 9223372036854775807 := by omega
                  clear hwd hsn hz h5 h0
                  go_wp2
                  go_roundg (gk - 1)
                  case measure => omega
                  case rel => exact ⟨k + 1, by omega, by go_num, str_eq (by rw [HJ1.out]; exact HF.out), by omega, rfl, by rw [HJ1.out]; exact HL.out⟩
            · have hq1 : decide (((Pl.mk (jn (us.take k))).size : Int) ≤ 16384) = false := by rw [Pl.mk_size]; simp; omega
              have hq2 : decide ((16384 : Int) < ((Pl.mk (jn (us.take k))).size : Int)) = true := by rw [Pl.mk_size]; simp; omega
              have HJL := Lib.hid (show jv us = ([], 5) from by rw [HJV.out, if_pos]; have := jn_le us k (by omega); omega)
              generalize Pl.mk (jn (us.take k)) = o at hq1 hq2 ⊢
              go_wp2
              go_ret2
              exact ⟨by rw [HJL.out]; rfl, HBR.out⟩
          · have hkn : k = (p + 1) := by omega
            have hfin : jn (us.take k) = jn us := by rw [hkn, ← hul, List.take_length]
            rw [hfin] at hlen ⊢
            by_cases hov : 16384 < (jn us).length
            · have hq2 : decide ((16384 : Int) < ((Pl.mk (jn us)).size : Int)) = true := by rw [Pl.mk_size]; simp; omega
              have HJL := Lib.hid (show jv us = ([], 5) from by rw [HJV.out, if_pos hov])
              generalize Pl.mk (jn us) = o at hq2 ⊢
              clear hkn hfin hlen hov
              go_wp2
              go_ret2
              exact ⟨by rw [HJL.out]; rfl, HBR.out⟩
            · have hq2 : decide ((16384 : Int) < ((Pl.mk (jn us)).size : Int)) = false := by rw [Pl.mk_size]; simp; omega
              have HJL := Lib.hid (show jv us = (jn us, 0) from by rw [HJV.out, if_neg hov])
              generalize ho : Pl.mk (jn us) = o at hq2 ⊢
              have HO := Lib.hid ho
              clear hkn hfin hlen hov ho
              go_wp2
              go_ret2
              exact ⟨by rw [HJL.out, HO.out]; rfl, HBR.out⟩
set_option maxRecDepth 100000 in
set_option maxHeartbeats 8000000 in
theorem refJoin_keepB (b off c p : Nat) (us : List Pl.Tok) (last : Pl.Tok) (w : World) (hul : us.length = (p + 1)) (hc : p + 1 ≤ c) (hm : c ≤ maxLen) (hb : b < w.heap.size) (hlast : TokAt w b (off + p * 4) last) (hk8 : last.kind = 8) (hte : last.text ≠ [])
    (ha : ∀ j (hj : j < us.length), TokAt w b (off + 4 * j) us[j]) (hbig : ∀ j (hj : j < us.length), (us[j]).text.length ≤ 17000) :
    Calls Try.prog 25 #[.slice (some ⟨b, off, none⟩) (p + 1) c] w (JoinPost w (jv us)) := by
  unfold maxLen at hm
  have HA := Lib.hid ha
  have HBIG := Lib.hid hbig
  have HBW : Hid (Below w.heap.size w w) := Below.refl _ _
  obtain ⟨z0, z1, -, -⟩ := hlast
  rw [hk8] at z0
  have hn1 : ¬ (Pl.mk last.text).toList = [] := by rw [Pl.mk_toList]; exact hte
  have hn2 : (Pl.mk last.text).toList.isEmpty = false := by simpa using hn1
  generalize Pl.mk last.text = tl at z1 hn1 hn2
  clear ha hbig
  by_cases hfull : 20000 < (p + 1)
  · have q1 : decide ((20000 : Int) < (p : Int) + 1) = true := by simp; omega
    have HJ := Lib.hid (show jv us = ([], 5) from by unfold jv; rw [if_pos (by omega)])
    go_enter Try.func25, Try.ntmps25
    go_wp2_with fail
    go_ret2
    exact ⟨by rw [HJ.out]; rfl, HBW.out⟩
  · have q1 : decide ((20000 : Int) < (p : Int) + 1) = false := by simp; omega
    go_enter Try.func25, Try.ntmps25
    go_wp2_with fail
    clear z0 z1
    go_loopg [6] ((p + 1) + 1) (fun g v wr => ∃ k : Nat, k ≤ (p + 1) ∧ v = .int .i64 k ∧ g = (p + 1) + 1 - k ∧ Below w.heap.size w wr ∧ ∀ j (hj : j < us.length), j < k → refB us[j] = true)
    case atStart => exact ⟨0, by omega, rfl, by omega, HBW.out, fun j hj h => absurd h (Nat.not_lt_zero _)⟩
    case round =>
      obtain ⟨k, hk, rfl, hg, hbw, hall⟩ := hrel
      have HALL := Lib.hid hall
      have HBR := Lib.hid hbw
      by_cases hlt : k < (p + 1)
      · have hc1 := fun W => right_any (us[k]'(by omega)) W (HBIG.out k (by omega))
        have hbad : refB (us[k]'(by omega)) = false → jv us = ([], 3) := fun h => by
          unfold jv
          rw [if_neg (by omega), if_neg]
          intro hx
          have := List.all_eq_true.1 hx _ (List.getElem_mem (by omega : k < us.length))
          rw [h] at this; cases this
        have HGOOD := Lib.hid (show ∀ r, refB (us[k]'(by omega)) = r → r = true → ∀ j (hj : j < us.length), j < k + 1 → refB us[j] = true from fun r h1 h2 j hj h => by
          rcases Nat.lt_or_ge j k with h3 | h3
          · exact HALL.out j hj h3
          · obtain rfl : j = k := by omega
            exact h1.trans h2)
        unfold tokVal tkc at hc1
        generalize refB (us[k]'(by omega)) = r3 at hbad hc1 HGOOD
        obtain ⟨a0, a1, a2, a3⟩ := (show TokAt wr b (off + k * 4) (us[k]'(by omega)) from by rw [Nat.mul_comm]; exact (HA.out k (by omega)).below hbw hb)
        generalize (us[k]'(by omega)).kind = kd at a0 hc1
        generalize Pl.mk (us[k]'(by omega)).text = tx at a1 hc1
        generalize (us[k]'(by omega)).line = li at a2 hc1
        generalize (us[k]'(by omega)).col = co at a3 hc1
        have HC1 := Lib.hid hc1
        have HBAD := Lib.hid hbad
        clear hc1 hbad hall hbw
        go_wp2_with fail
        refine (HC1.out _).mono ?_
        rintro e w2 ⟨rfl, hb2⟩
        have HB2 := Lib.hid (HBR.out.trans (hb2.mono HBR.out.size))
        clear hb2 a0 a1 a2 a3
        cases r3
        · have HJ := Lib.hid (HBAD.out rfl)
          go_wp2
          go_ret2
          exact ⟨by rw [HJ.out]; rfl, HB2.out⟩
        · have HG := Lib.hid (HGOOD.out true rfl rfl)
          go_wp2
          go_roundg (gk - 1)
          case measure => omega
          case rel => exact ⟨k + 1, by omega, by go_num, by omega, HB2.out, HG.out⟩
      · rename World => wa
        have hkn : k = (p + 1) := by omega
        have hjv : jv us = if 16384 < (jn us).length then ([], 5) else (jn us, 0) := by
          unfold jv
          rw [if_neg (by omega), if_pos]
          refine List.all_eq_true.2 fun t ht => ?_
          obtain ⟨j, hj, rfl⟩ := List.getElem_of_mem ht
          exact HALL.out j hj (by omega)
        have HJV := Lib.hid hjv
        have HAA := Lib.hid (show ∀ j (hj : j < us.length), TokAt wa b (off + 4 * j) us[j] from fun j hj => (HA.out j hj).below hbw hb)
        clear hkn hjv hall hbw HALL hg
        go_wp2_with fail
        clear hlt hk
        go_loopg [5, 7] ((p + 1) + 1) (fun g o v wr => ∃ k : Nat, k ≤ (p + 1) ∧ v = .int .i64 k ∧ o = .string (Pl.mk (jn (us.take k))) ∧ g = (p + 1) + 1 - k ∧ wr = wa ∧ (jn (us.take k)).length ≤ 60000)
        case atStart => exact ⟨0, by omega, rfl, rfl, by omega, rfl, by simp [jn_nil]⟩
        case round =>
          obtain ⟨k, hk, rfl, rfl, hg, rfl, hlen⟩ := hrel
          by_cases hlt : k < (p + 1)
          · by_cases hov : (jn (us.take k)).length ≤ 16384
            · have hwl := wrT_len (us[k]'(by omega)) (HBIG.out k (by omega))
              have htl := HBIG.out k (by omega)
              have hsn := jn_take us k (by omega)
              have hwd : wrT (us[k]'(by omega)) = if (us[k]'(by omega)).kind = 5 then Pl.lit (us[k]'(by omega)).text else (us[k]'(by omega)).text := rfl
              obtain ⟨a0, a1, -, -⟩ := (show TokAt wr b (off + k * 4) (us[k]'(by omega)) from by rw [Nat.mul_comm]; exact HAA.out k (by omega))
              generalize wrT (us[k]'(by omega)) = wt at hwl hsn hwd
              have hqt := fun W => rQuote_any (Pl.mk (us[k]'(by omega)).text) W (by rw [Pl.mk_size]; omega)
              have hts : (Pl.mk (us[k]'(by omega)).text).size ≤ 17000 := by rw [Pl.mk_size]; exact htl
              rw [Pl.mk_toList] at hqt
              have htx : Pl.mk (us[k]'(by omega)).text = Pl.mk (us[k]'(by omega)).text := rfl
              generalize hkd : (us[k]'(by omega)).kind = kd at a0 hwd
              generalize htt : (us[k]'(by omega)).text = tt at a1 hwd hqt hts htl
              clear hkd htt htx
              have hq1 : decide (((Pl.mk (jn (us.take k))).size : Int) ≤ 16384) = true := by rw [Pl.mk_size]; simp; omega
              have hos : (Pl.mk (jn (us.take k))).size ≤ 16384 := by rw [Pl.mk_size]; exact hov
              have hz : k = 0 → jn (us.take k) = [] := fun h => by rw [h]; rfl
              generalize hj1 : jn (us.take (k + 1)) = j1 at hsn
              generalize jn (us.take k) = jk at hsn hlen hz hq1 hos hov ⊢
              have HJ1 := Lib.hid hj1
              have HQT := Lib.hid hqt
              have z0 : (Pl.mk jk).size + (⟨#[32]⟩ : ByteArray).size ≤ 9223372036854775807 := by show (Pl.mk jk).size + 1 ≤ _; omega
              clear hj1 hqt
              by_cases h0 : k = 0
              · have q0 : decide (0 < k) = false := decide_eq_false (by omega)
                have q0i : ¬ 0 < k := by omega
                have hz2 := hz h0
                subst hz2
                rw [if_pos h0] at hsn
                by_cases h5 : kd = 5
                · have p5 : (kd == 5) = true := beq_iff_eq.2 h5
                  rw [if_pos h5] at hwd
                  have HF := Lib.hid (show Pl.mk [] ++ Pl.mk (Pl.lit tt) = Pl.mk j1 from by rw [Pl.mk_add, hsn, hwd]; rfl)
                  have HL := Lib.hid (show j1.length ≤ 60000 from by rw [hsn]; omega)
                  have z1 : (Pl.mk []).size + (Pl.mk (Pl.lit tt)).size ≤ 9223372036854775807 := by rw [Pl.mk_size (Pl.lit tt), ← hwd]; omega
                  clear hwd hsn hz h5 h0
                  go_wp2_with fail
                  refine (HQT.out _).mono ?_
                  rintro e w' ⟨rfl, rfl⟩
                  go_wp2
                  go_roundg (gk - 1)
                  case measure => omega
                  case rel => exact ⟨k + 1, by omega, by go_num, str_eq (by rw [HJ1.out]; exact HF.out), by omega, rfl, by rw [HJ1.out]; exact HL.out⟩
                · have p5 : (kd == 5) = false := beq_eq_false_iff_ne.2 h5
                  rw [if_neg h5] at hwd
                  have HF := Lib.hid (show Pl.mk [] ++ Pl.mk tt = Pl.mk j1 from by rw [Pl.mk_add, hsn, hwd]; rfl)
                  have HL := Lib.hid (show j1.length ≤ 60000 from by rw [hsn]; omega)
                  have z1 : (Pl.mk []).size + (Pl.mk tt).size ≤ 9223372036854775807 := by omega
                  clear hwd hsn hz h5 h0
                  go_wp2
                  go_roundg (gk - 1)
                  case measure => omega
                  case rel => exact ⟨k + 1, by omega, by go_num, str_eq (by rw [HJ1.out]; exact HF.out), by omega, rfl, by rw [HJ1.out]; exact HL.out⟩
              · have q0 : decide (0 < k) = true := decide_eq_true (by omega)
                have q0i : 0 < k := by omega
                rw [if_neg h0] at hsn
                have hsp : (Pl.mk jk ++ (⟨#[32]⟩ : ByteArray)).size ≤ 16385 := by rw [ByteArray.size_append]; show (Pl.mk jk).size + 1 ≤ _; omega
                by_cases h5 : kd = 5
                · have p5 : (kd == 5) = true := beq_iff_eq.2 h5
                  rw [if_pos h5] at hwd
                  have HF := Lib.hid (show Pl.mk jk ++ (⟨#[32]⟩ : ByteArray) ++ Pl.mk (Pl.lit tt) = Pl.mk j1 from by rw [show (⟨#[32]⟩ : ByteArray) = Pl.mk [32] from rfl, Pl.mk_add, Pl.mk_add, hsn, hwd]; simp)
                  have HL := Lib.hid (show j1.length ≤ 60000 from by rw [hsn, List.length_append, List.length_cons]; omega)
                  have z1 : (Pl.mk jk ++ (⟨#[32]⟩ : ByteArray)).size + (Pl.mk (Pl.lit tt)).size ≤ 9223372036854775807 := by rw [Pl.mk_size (Pl.lit tt), ← hwd]; omega
                  clear hwd hsn hz h5 h0
                  go_wp2_with fail
                  refine (HQT.out _).mono ?_
                  rintro e w' ⟨rfl, rfl⟩
                  go_wp2
                  go_roundg (gk - 1)
                  case measure => omega
                  case rel => exact ⟨k + 1, by omega, by go_num, str_eq (by rw [HJ1.out]; exact HF.out), by omega, rfl, by rw [HJ1.out]; exact HL.out⟩
                · have p5 : (kd == 5) = false := beq_eq_false_iff_ne.2 h5
                  rw [if_neg h5] at hwd
                  have HF := Lib.hid (show Pl.mk jk ++ (⟨#[32]⟩ : ByteArray) ++ Pl.mk tt = Pl.mk j1 from by rw [show (⟨#[32]⟩ : ByteArray) = Pl.mk [32] from rfl, Pl.mk_add, Pl.mk_add, hsn, hwd]; simp)
                  have HL := Lib.hid (show j1.length ≤ 60000 from by rw [hsn, List.length_append, List.length_cons]; omega)
                  have z1 : (Pl.mk jk ++ (⟨#[32]⟩ : ByteArray)).size + (Pl.mk tt).size ≤ 9223372036854775807 := by omega
                  clear hwd hsn hz h5 h0
                  go_wp2
                  go_roundg (gk - 1)
                  case measure => omega
                  case rel => exact ⟨k + 1, by omega, by go_num, str_eq (by rw [HJ1.out]; exact HF.out), by omega, rfl, by rw [HJ1.out]; exact HL.out⟩
            · have hq1 : decide (((Pl.mk (jn (us.take k))).size : Int) ≤ 16384) = false := by rw [Pl.mk_size]; simp; omega
              have hq2 : decide ((16384 : Int) < ((Pl.mk (jn (us.take k))).size : Int)) = true := by rw [Pl.mk_size]; simp; omega
              have HJL := Lib.hid (show jv us = ([], 5) from by rw [HJV.out, if_pos]; have := jn_le us k (by omega); omega)
              generalize Pl.mk (jn (us.take k)) = o at hq1 hq2 ⊢
              go_wp2
              go_ret2
              exact ⟨by rw [HJL.out]; rfl, HBR.out⟩
          · have hkn : k = (p + 1) := by omega
            have hfin : jn (us.take k) = jn us := by rw [hkn, ← hul, List.take_length]
            rw [hfin] at hlen ⊢
            by_cases hov : 16384 < (jn us).length
            · have hq2 : decide ((16384 : Int) < ((Pl.mk (jn us)).size : Int)) = true := by rw [Pl.mk_size]; simp; omega
              have HJL := Lib.hid (show jv us = ([], 5) from by rw [HJV.out, if_pos hov])
              generalize Pl.mk (jn us) = o at hq2 ⊢
              clear hkn hfin hlen hov
              go_wp2
              go_ret2
              exact ⟨by rw [HJL.out]; rfl, HBR.out⟩
            · have hq2 : decide ((16384 : Int) < ((Pl.mk (jn us)).size : Int)) = false := by rw [Pl.mk_size]; simp; omega
              have HJL := Lib.hid (show jv us = (jn us, 0) from by rw [HJV.out, if_neg hov])
              generalize ho : Pl.mk (jn us) = o at hq2 ⊢
              have HO := Lib.hid ho
              clear hkn hfin hlen hov ho
              go_wp2
              go_ret2
              exact ⟨by rw [HJL.out, HO.out]; rfl, HBR.out⟩
set_option maxRecDepth 100000 in
theorem refJoin_none (a c) (w : World) :
    Calls Try.prog 25 #[.slice a 0 c] w (JoinPost w (jv [])) := by
  have HJ := Lib.hid (show jv [] = ([], 0) from rfl)
  have HBW : Hid (Below w.heap.size w w) := Below.refl _ _
  go_enter Try.func25, Try.ntmps25
  go_wp2_with fail
  go_loopg [6] 1 (fun g v wr => v = .int .i64 0 ∧ wr = w)
  case atStart => exact ⟨rfl, rfl⟩
  case round =>
    obtain ⟨rfl, rfl⟩ := hrel
    rename World => wa
    go_wp2_with fail
    go_loopg [5, 7] 1 (fun g o v wr => v = .int .i64 0 ∧ o = .string ⟨#[]⟩ ∧ wr = wa)
    case atStart => exact ⟨rfl, rfl, rfl⟩
    case round =>
      obtain ⟨rfl, rfl, rfl⟩ := hrel
      go_wp2_with fail
      go_ret2
      exact ⟨by rw [HJ.out]; rfl, HBW.out⟩
theorem refJoin_any (v : Value) (ts : List Pl.Tok) (w : World) (h : TokSlice w v ts) (hbig : ∀ t ∈ ts, t.text.length ≤ 17000) :
    Calls Try.prog 25 #[v] w (JoinPost w (jv (unend ts))) := by
  rcases h with ⟨h0, a, c, rfl⟩ | ⟨b, off, c, rfl, h1, h2, h3, h4, h5⟩
  · rw [h0]; exact refJoin_none a c w
  · obtain ⟨us, last, rfl⟩ : ∃ us last, ts = us ++ [last] := by
      have hne : ts ≠ [] := by rintro rfl; simp at h1
      exact ⟨ts.dropLast, ts.getLast hne, (List.dropLast_concat_getLast hne).symm⟩
    have hlen : (us ++ [last]).length = us.length + 1 := by simp
    have hl : TokAt w b (off + us.length * 4) last := by
      have := h5 us.length (by omega)
      rw [List.getElem_append_right (Nat.le_refl _)] at this
      simpa [Nat.mul_comm] using this
    rw [unend_snoc]
    rw [hlen] at h2 ⊢
    by_cases hk8 : last.kind = 8
    · by_cases hte : last.text = []
      · rw [if_pos (by unfold endB; rw [hk8, hte]; rfl)]
        refine refJoin_drop b off c us.length us last w rfl h2 h3 h4 hl hk8 hte (fun j hj => ?_) fun j hj => hbig _ (List.mem_append_left _ (List.getElem_mem hj))
        have := h5 j (by omega)
        rw [List.getElem_append_left hj] at this
        exact this
      · have hie : last.text.isEmpty = false := by simpa using hte
        rw [if_neg (by unfold endB; rw [hie, Bool.and_false]; simp)]
        exact refJoin_keepB b off c us.length (us ++ [last]) last w hlen h2 h3 h4 hl hk8 hte h5 fun j hj => hbig _ (List.getElem_mem hj)
    · rw [if_neg (by unfold endB; rw [decide_eq_false hk8, Bool.false_and]; simp)]
      exact refJoin_keepA b off c us.length (us ++ [last]) last w hlen h2 h3 h4 hl hk8 h5 fun j hj => hbig _ (List.getElem_mem hj)
/-- LexerJoins -/
theorem lexerJoins_walk (v : Value) (ts : List Pl.Tok) (w : World) (h : TokSlice w v ts) :
    Calls Try.prog 5 #[v] w fun e w' => e = .returned (.bool true) ∧ Below w.heap.size w w' := by
  obtain ⟨a, c, hv, -⟩ := h.form
  have HTS := Lib.hid h
  have HV := Lib.hid hv
  have HBW : Hid (Below w.heap.size w w) := Below.refl _ _
  clear h hv
  go_enter Try.func5, Try.ntmps5
  go_wp2_with fail
  refine (awake_any _).mono ?_
  rintro e w1 ⟨rfl, hb1⟩
  have HB1 := Lib.hid hb1
  clear hb1
  go_wp2_with fail
  refine (many_any v ts _ (HTS.out.below HB1.out)).mono ?_
  rintro e w2 ⟨⟨r, rfl, hr⟩, hb2⟩
  have HB2 := Lib.hid (HB1.out.trans (hb2.mono HB1.out.size))
  clear hb2
  cases r
  · have HBIG := Lib.hid (hr rfl)
    clear hr
    go_wp2_with fail
    refine (lexJoin_any v ts _ (HTS.out.below HB2.out) HBIG.out).mono ?_
    rintro e w3 ⟨rfl, hb3⟩
    have HB3 := Lib.hid (HB2.out.trans (hb3.mono HB2.out.size))
    clear hb3
    go_wp2_with fail
    refine (refJoin_any v ts _ (HTS.out.below HB3.out) HBIG.out).mono ?_
    rintro e w4 ⟨rfl, hb4⟩
    have HB4 := Lib.hid (HB3.out.trans (hb4.mono HB3.out.size))
    clear hb4
    generalize Pl.mk (jv (unend ts)).1 = o
    generalize (jv (unend ts)).2 = er
    go_wp2
    go_ret
    exact ⟨rfl, HB4.out⟩
  · clear hr
    go_wp2
    go_ret
    exact ⟨rfl, HB2.out⟩
end Go.Proofs.Ytbmkbenlhkcklaa
