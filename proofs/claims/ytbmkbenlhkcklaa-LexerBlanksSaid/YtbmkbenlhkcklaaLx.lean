/-
  Walks of layer 2: the reference's names, numbers, comments, blanks and places.
-/
import Derived.Test.YtbmkbenlhkcklaaLw
namespace Go.Proofs.Ytbmkbenlhkcklaa
open Go.RowKit
namespace Pl
def letters (l : Bytes) : Bool := headIs small l || headIs capital l
def rnames (l : Bytes) : Nat := if letters l then run innerB l else 0
theorem letters_at (s : ByteArray) (h : 0 < s.size) : letters s.toList = (small s[0].toNat || capital s[0].toNat) := by
  have h1 := headIs_at small s 0 h
  have h2 := headIs_at capital s 0 h
  rw [List.drop_zero] at h1 h2
  unfold letters; rw [h1, h2]
theorem letter_inner (s : ByteArray) (h : 0 < s.size) (hl : letters s.toList = true) : innerB s[0] = true := by
  rw [letters_at s h, Bool.or_eq_true] at hl
  rcases hl with h | h
  · exact small_inner _ h
  · exact capital_inner _ h
theorem com_last (s : ByteArray) (k d j : Nat) (h : s.size ≤ k + 1) : com (s.toList.drop k) false d j = 0 := by
  rcases Nat.lt_or_ge k s.size with hk | hk
  · have ho : opens (s.toList.drop k) = false := by
      rw [Bool.eq_false_iff]; intro hx; obtain ⟨h1, _⟩ := (opens_at s k).1 hx; omega
    have hc : closes (s.toList.drop k) = false := by
      rw [Bool.eq_false_iff]; intro hx; obtain ⟨h1, _⟩ := (closes_at s k).1 hx; omega
    rw [com_step s k d j hk ho hc]
    exact com_end s (k + 1) d (j + 1) h
  · exact com_end s k d j hk
theorem val_stays (s : ByteArray) (hd : digits s.toList = true) (k : Nat) (hv : val (s.toList.take k) = 4503599627370497) : ∀ n, k + n ≤ s.size → val (s.toList.take (k + n)) = 4503599627370497 := by
  intro n
  induction n with
  | zero => intro _; exact hv
  | succ n ih =>
    intro hn
    have hb : digitB s[k + n] = true := List.all_eq_true.1 hd _ (get_mem s (k + n) (by omega))
    rw [show k + (n + 1) = k + n + 1 from rfl, val_take s (k + n) (by omega), ih (by omega), step_stays _ hb]
theorem number_digits (l : Bytes) (hd : digits l = true) (hz : zeroed l = false) : (number l).2 = if 4503599627370496 < val l then 6 else 0 := by
  unfold number; rw [hz, hd]; simp only [Bool.false_eq_true, if_false, if_true]; split <;> rfl
end Pl
set_option maxRecDepth 100000 in
set_option maxHeartbeats 1000000 in
theorem rnames_any (s : ByteArray) (w : World) (hs : s.size ≤ maxLen) :
    Calls Try.prog 57 #[.string s] w fun e w' => e = .returned (.int .i64 (Pl.rnames s.toList)) ∧ w = w' := by
  unfold maxLen at hs
  by_cases h0 : 0 < s.size
  · have he : ¬ s.toList = [] := by intro h; have := Pl.len_size s; rw [h] at this; simp at this; omega
    have he2 : s.toList.isEmpty = false := by simpa using he
    cases hl : Pl.letters s.toList
    · have HR := Lib.hid (show Pl.rnames s.toList = 0 from by unfold Pl.rnames; rw [hl]; rfl)
      rw [Pl.letters_at s h0, Bool.or_eq_false_iff] at hl
      obtain ⟨q1, q2⟩ := hl
      go_enter Try.func57, Try.ntmps57
      go_wp2_with (first | (go_at_call 58; refine (rsmall_any _ _).mono ?_; rintro e w' ⟨rfl, rfl⟩) | (go_at_call 82; refine (rgreat_any _ _).mono ?_; rintro e w' ⟨rfl, rfl⟩))
      go_ret
      exact ⟨ret_int (by rw [HR.out]; rfl), rfl⟩
    · have HR := Lib.hid (show Pl.rnames s.toList = Pl.run Pl.innerB s.toList from by unfold Pl.rnames; rw [hl]; rfl)
      have hin := Pl.letter_inner s h0 hl
      have hrun : Pl.run Pl.innerB s.toList = Pl.run Pl.innerB (s.toList.drop 1) + 1 := by
        have := Pl.run_hit Pl.innerB s 0 h0 hin
        rw [List.drop_zero] at this; exact this
      generalize hj : Pl.run Pl.innerB s.toList = j at hrun
      have HJ := Lib.hid hj
      have HRUN := Lib.hid hrun
      rw [Pl.letters_at s h0, Bool.or_eq_true] at hl
      have hl2 : Pl.small (s[0].toNat : Int) = true ∨ Pl.small (s[0].toNat : Int) = false ∧ Pl.capital (s[0].toNat : Int) = true := by
        cases h : Pl.small (s[0].toNat : Int)
        · rcases hl with h' | h'
          · rw [h] at h'; cases h'
          · exact .inr ⟨rfl, h'⟩
        · exact .inl rfl
      clear hin hrun hj hl
      rcases hl2 with q1 | ⟨q1, q2⟩
      all_goals
        go_enter Try.func57, Try.ntmps57
        go_wp2_with (first | (go_at_call 58; refine (rsmall_any _ _).mono ?_; rintro e w' ⟨rfl, rfl⟩) | (go_at_call 82; refine (rgreat_any _ _).mono ?_; rintro e w' ⟨rfl, rfl⟩))
        go_loop [3] (fun v => ∃ k : Nat, k ≤ s.size ∧ v = .int .i64 k ∧ k + Pl.run Pl.innerB (s.toList.drop k) = j) (fun v => s.size - (intOf v).toNat)
        case atStart => exact ⟨1, by omega, rfl, by have := HRUN.out; omega⟩
        case round =>
          obtain ⟨k, hk, rfl, hin⟩ := hrel
          by_cases hlt : k < s.size
          · cases hp : Pl.inner (s[k].toNat : Int)
            · have HJK := Lib.hid (show j = k from by rw [Pl.run_miss _ s k hlt hp] at hin; omega)
              clear hin
              go_wp2_with (go_at_call 83; refine (rpart_any _ _).mono ?_; rintro e w' ⟨rfl, rfl⟩)
              go_ret
              exact ⟨ret_int (by rw [HR.out, HJ.out, HJK.out]), rfl⟩
            · have HI := Lib.hid (show k + 1 + Pl.run Pl.innerB (s.toList.drop (k + 1)) = j from by rw [Pl.run_hit _ s k hlt hp] at hin; omega)
              clear hin
              go_wp2_with (go_at_call 83; refine (rpart_any _ _).mono ?_; rintro e w' ⟨rfl, rfl⟩)
              go_round
              case rel => exact ⟨k + 1, by omega, by go_num, HI.out⟩
              case measure => simp [intOf]; omega
          · have HJK := Lib.hid (show j = k from by rw [Pl.run_end _ s k (by omega)] at hin; omega)
            clear hin
            go_wp2
            go_ret
            exact ⟨ret_int (by rw [HR.out, HJ.out, HJK.out]), rfl⟩
  · have he := Pl.nil_of_zero s h0
    have he2 : s.toList.isEmpty = true := by rw [he]; rfl
    have HR := Lib.hid (show Pl.rnames s.toList = 0 from by rw [he]; rfl)
    go_enter Try.func57, Try.ntmps57
    go_wp2
    go_ret
    exact ⟨ret_int (by rw [HR.out]; rfl), rfl⟩
set_option maxRecDepth 100000 in
set_option maxHeartbeats 1000000 in
theorem rNumber_any (s : ByteArray) (w : World) (hs : s.size ≤ maxLen) (h0 : 0 < s.size) (hd : Pl.digits s.toList = true) :
    Calls Try.prog 60 #[.string s] w fun e w' => e = .returned (.int .i64 (Pl.number s.toList).2) ∧ w = w' := by
  unfold maxLen at hs
  have HD := Lib.hid hd
  cases hz : Pl.zeroed s.toList
  · have HN := Lib.hid (Pl.number_digits _ hd hz)
    rw [Pl.zeroed_pos s h0] at hz
    have hz2 : decide ((1 : Int) < (s.size : Int)) = false ∨ decide ((1 : Int) < (s.size : Int)) = true ∧ ((s[0].toNat : Int) == 48) = false := by
      by_cases h1 : 1 < s.size
      · right
        refine ⟨by simp; omega, ?_⟩
        rw [decide_eq_true h1, Bool.and_true] at hz
        exact beq_eq_false_iff_ne.2 (by simpa using hz)
      · left; simp; omega
    clear hz hd
    rcases hz2 with q1 | ⟨q1, q2⟩
    all_goals
      go_enter Try.func60, Try.ntmps60
      go_wp2
      go_loop [3, 4] (fun n i => ∃ k : Nat, k ≤ s.size ∧ i = .int .i64 k ∧ n = .int .i64 (Pl.val (s.toList.take k)) ∧ Pl.val (s.toList.take k) ≤ 4503599627370496) (fun _ i => s.size - (intOf i).toNat)
      case atStart => exact ⟨0, by omega, rfl, rfl, by simp [Pl.val]⟩
      case round =>
        obtain ⟨k, hk, rfl, rfl, hv⟩ := hrel
        have hdk : Pl.digits (s.toList.take k) = true := List.all_eq_true.2 (fun b hb => List.all_eq_true.1 HD.out b (List.mem_of_mem_take hb))
        have hv0 := (Pl.val_bound s k hdk).1
        clear hdk
        by_cases hlt : k < s.size
        · have hdb : Pl.digitB s[k] = true := List.all_eq_true.1 HD.out _ (Pl.get_mem s k hlt)
          obtain ⟨hr1, hr2⟩ := Pl.digit_of _ hdb
          have HS := Lib.hid (Pl.val_take s k hlt)
          have HST := Lib.hid (fun h => Pl.val_stays s HD.out (k + 1) h (s.size - (k + 1)) (by omega))
          generalize hvv : Pl.val (s.toList.take k) = v at hv hv0 HS ⊢
          clear hvv hdb
          by_cases hbig : 4503599627370496 < 10 * v + ((s[k].toNat : Int) - 48)
          · have hb2 : decide (4503599627370496 < 10 * v + ((s[k].toNat : Int) - 48)) = true := decide_eq_true hbig
            have HF := Lib.hid (show Pl.val s.toList = 4503599627370497 from by
              have := HST.out (by rw [HS.out, Pl.step_big _ _ hbig])
              rw [show k + 1 + (s.size - (k + 1)) = s.size from by omega, Pl.take_all s s.size (Nat.le_refl _)] at this
              exact this)
            go_wp2
            go_ret
            exact ⟨ret_int (by rw [HN.out, HF.out]; rfl), rfl⟩
          · have hb2 : decide (4503599627370496 < 10 * v + ((s[k].toNat : Int) - 48)) = false := decide_eq_false hbig
            go_wp2
            go_round
            case rel => exact ⟨k + 1, by omega, by go_num, by rw [HS.out, Pl.step_small _ _ (by omega)], by rw [HS.out, Pl.step_small _ _ (by omega)]; omega⟩
            case measure => simp [intOf]; omega
        · have HF := Lib.hid (show ¬ 4503599627370496 < Pl.val s.toList from by rw [← Pl.take_all s k (by omega)]; omega)
          clear hv hv0
          go_wp2
          go_ret
          exact ⟨ret_int (by rw [HN.out, if_neg (by have := HF.out; omega)]), rfl⟩
  · have HN := Lib.hid (show (Pl.number s.toList).2 = 3 from by unfold Pl.number; rw [hz]; rfl)
    rw [Pl.zeroed_pos s h0] at hz
    simp only [Bool.and_eq_true, decide_eq_true_eq] at hz
    obtain ⟨hz1, hz2⟩ := hz
    have q1 : decide ((1 : Int) < (s.size : Int)) = true := by simp; omega
    have q2 : ((s[0].toNat : Int) == 48) = true := by simpa using hz1
    clear hz1 hd
    go_enter Try.func60, Try.ntmps60
    go_wp2
    go_ret
    exact ⟨ret_int HN.out.symm, rfl⟩
set_option maxRecDepth 100000 in
set_option maxHeartbeats 2000000 in
theorem rComment_any (s : ByteArray) (w : World) (ho : Pl.opens s.toList = true) (hs : s.size ≤ 100000) :
    Calls Try.prog 56 #[.string s] w fun e w' => e = .returned (.int .i64 (Pl.com s.toList false 0 0)) ∧ w = w' := by
  generalize hC : Pl.com s.toList false 0 0 = C
  have HC := Lib.hid hC
  have HO := Lib.hid ho
  clear hC ho
  go_enter Try.func56, Try.ntmps56
  go_wp2
  go_loop [3, 4] (fun d i => ∃ (k dd : Nat), k ≤ s.size ∧ i = .int .i64 k ∧ d = .int .i64 dd ∧ dd ≤ k ∧ (dd = 0 → Pl.opens (s.toList.drop k) = true) ∧ Pl.com (s.toList.drop k) false dd k = C) (fun _ i => s.size - (intOf i).toNat)
  case atStart => exact ⟨0, 0, by omega, rfl, rfl, by omega, fun _ => by rw [List.drop_zero]; exact HO.out, by rw [List.drop_zero]; exact HC.out⟩
  case round =>
    obtain ⟨k, dd, hk, rfl, rfl, hdk, hd0, hin⟩ := hrel
    have HD0 := Lib.hid hd0
    clear hd0
    by_cases hlt : k + 1 < s.size
    · have g0 : k < s.size := by omega
      have g1 : (0 : Int) ≤ (k : Int) + 1 := by omega
      have g2 : (k : Int) + 1 < (s.size : Int) := by omega
      cases ho : Pl.opens (s.toList.drop k)
      · have hdd : 1 ≤ dd := by
          rcases Nat.eq_zero_or_pos dd with h | h
          · have := HD0.out h; rw [ho] at this; cases this
          · exact h
        have hno : ((s[k].toNat : Int) == 40) = false ∨ ((s[k].toNat : Int) == 40) = true ∧ ((s[k + 1].toNat : Int) == 42) = false := by
          cases h : ((s[k].toNat : Int) == 40)
          · exact .inl rfl
          · right
            refine ⟨rfl, beq_eq_false_iff_ne.2 fun h2 => ?_⟩
            have := (Pl.opens_at s k).2 ⟨hlt, (Pl.u8_eq _ _).2 (by simpa using h), (Pl.u8_eq _ _).2 h2⟩
            rw [ho] at this; cases this
        cases hc : Pl.closes (s.toList.drop k)
        · have hnc : ((s[k].toNat : Int) == 42) = false ∨ ((s[k].toNat : Int) == 42) = true ∧ ((s[k + 1].toNat : Int) == 41) = false := by
            cases h : ((s[k].toNat : Int) == 42)
            · exact .inl rfl
            · right
              refine ⟨rfl, beq_eq_false_iff_ne.2 fun h2 => ?_⟩
              have := (Pl.closes_at s k).2 ⟨hlt, (Pl.u8_eq _ _).2 (by simpa using h), (Pl.u8_eq _ _).2 h2⟩
              rw [hc] at this; cases this
          have HIN := Lib.hid ((Pl.com_step s k dd k g0 ho hc).symm.trans hin)
          clear ho hc hin
          rcases hno with q1 | ⟨q1, q2⟩ <;> rcases hnc with q3 | ⟨q3, q4⟩
          all_goals
            go_wp2
            go_round
            case rel => exact ⟨k + 1, dd, by omega, by go_num, rfl, by omega, fun h => absurd h (by omega), HIN.out⟩
            case measure => simp [intOf]; omega
        · obtain ⟨_, c1, c2⟩ := (Pl.closes_at s k).1 hc
          have q1 : ((s[k].toNat : Int) == 40) = false := by rw [c1]; rfl
          have q3 : ((s[k].toNat : Int) == 42) = true := by rw [c1]; rfl
          have q4 : ((s[k + 1].toNat : Int) == 41) = true := by rw [c2]; rfl
          have hst := Pl.com_close s k dd k ho hc
          by_cases h1 : dd = 1
          · have HIN := Lib.hid (hin.symm.trans (hst.trans (if_pos (by omega))))
            have t1 : ((dd : Int) - 1 == 0) = true := beq_iff_eq.2 (by omega)
            have H1 := Lib.hid h1
            clear ho hc hin hst c1 c2 h1 hno
            go_wp2
            go_ret
            exact ⟨ret_int (by rw [HIN.out]; rfl), rfl⟩
          · have HIN := Lib.hid ((hst.trans (if_neg (by omega))).symm.trans hin)
            have t1 : ((dd : Int) - 1 == 0) = false := beq_eq_false_iff_ne.2 (by omega)
            clear ho hc hin hst c1 c2 hno
            go_wp2
            go_round
            case rel => exact ⟨k + 2, dd - 1, by omega, by go_num, by congr 1; omega, by omega, fun h => absurd h (by omega), HIN.out⟩
            case measure => simp [intOf]; omega
      · obtain ⟨_, c1, c2⟩ := (Pl.opens_at s k).1 ho
        have q1 : ((s[k].toNat : Int) == 40) = true := by rw [c1]; rfl
        have q2 : ((s[k + 1].toNat : Int) == 42) = true := by rw [c2]; rfl
        have HIN := Lib.hid ((Pl.com_open s k dd k ho).symm.trans hin)
        clear ho hin c1 c2
        go_wp2
        go_round
        case rel => exact ⟨k + 2, dd + 1, by omega, by go_num, by go_num, by omega, fun h => absurd h (by omega), HIN.out⟩
        case measure => simp [intOf]; omega
    · have HIN := Lib.hid (hin.symm.trans (Pl.com_last s k dd k (by omega)))
      have q0 : ¬ (k : Int) + 1 < (s.size : Int) := by omega
      clear hin
      go_wp2
      go_ret
      exact ⟨ret_int (by rw [HIN.out]; rfl), rfl⟩

set_option maxRecDepth 100000 in
set_option maxHeartbeats 2000000 in
theorem rSkip_any (s : ByteArray) (w : World) (hs : s.size ≤ 100000) :
    Calls Try.prog 30 #[.string s] w fun e w' => e = .returned (.tuple #[.int .i64 (Pl.gap s.toList).1, .bool (Pl.gap s.toList).2]) ∧ w = w' := by
  generalize hG : Pl.gap s.toList = G
  have HG := Lib.hid hG
  clear hG
  go_enter Try.func30, Try.ntmps30
  go_wp2
  go_loop [4] (fun i => ∃ k : Nat, k ≤ s.size ∧ i = .int .i64 k ∧ (k + (Pl.gap (s.toList.drop k)).1, (Pl.gap (s.toList.drop k)).2) = G) (fun i => s.size - (intOf i).toNat)
  case atStart => exact ⟨0, by omega, rfl, by rw [List.drop_zero, HG.out, Nat.zero_add]⟩
  case round =>
    obtain ⟨k, hk, rfl, hin⟩ := hrel
    by_cases hlt : k < s.size
    · have hhd := Pl.headIs_at Pl.blank s k hlt
      cases hb : Pl.blank (s[k].toNat : Int)
      · have hq : ((s[k].toNat : Int) == 32) = false ∧ ((s[k].toNat : Int) == 9) = false ∧ ((s[k].toNat : Int) == 10) = false := by
          unfold Pl.blank at hb
          simp only [Bool.or_eq_false_iff, decide_eq_false_iff_not] at hb
          exact ⟨beq_eq_false_iff_ne.2 hb.1.1, beq_eq_false_iff_ne.2 hb.1.2, beq_eq_false_iff_ne.2 hb.2⟩
        obtain ⟨q1, q2, q3⟩ := hq
        rw [hb] at hhd
        have hbg := fun W => begins_any (s.extract k s.size) ⟨#[40, 42]⟩ W
        rw [Pl.extract_end, show (⟨#[40, 42]⟩ : ByteArray) = Pl.mk [40, 42] from rfl, Pl.mk_toList] at hbg
        have hbg2 : ∀ W, Calls Try.prog 39 #[.string (s.extract k s.size), .string ⟨#[40, 42]⟩] W fun e w' => e = .returned (.bool (Pl.opens (s.toList.drop k))) ∧ W = w' := hbg
        clear hbg hb
        cases ho : Pl.opens (s.toList.drop k)
        · rw [ho] at hbg2
          have HBG := Lib.hid hbg2
          have HIN := Lib.hid (show (k, false) = G from by rw [← hin, Pl.gap_none _ ho hhd, Nat.add_zero])
          clear hbg2 ho hin hhd
          go_wp2_with fail
          refine (HBG.out _).mono ?_
          rintro e w' ⟨rfl, rfl⟩
          go_wp2
          go_ret2
          exact ⟨by rw [← HIN.out]; rfl, rfl⟩
        · rw [ho] at hbg2
          have HBG := Lib.hid hbg2
          have hsz : (s.extract k s.size).size ≤ 100000 := by rw [ByteArray.size_extract]; omega
          have hcm := fun W => rComment_any (s.extract k s.size) W (by rw [Pl.extract_end]; exact ho) hsz
          rw [Pl.extract_end] at hcm
          by_cases hc : Pl.com (s.toList.drop k) false 0 0 = 0
          · rw [hc] at hcm
            have HCM := Lib.hid hcm
            have HIN := Lib.hid (show (k, true) = G from by rw [← hin, Pl.gap_bad _ ho hc, Nat.add_zero])
            clear hbg2 hcm ho hin hhd hc hsz
            go_wp2_with fail
            refine (HBG.out _).mono ?_
            rintro e w' ⟨rfl, rfl⟩
            go_wp2_with fail
            refine (HCM.out _).mono ?_
            rintro e w' ⟨rfl, rfl⟩
            go_wp2
            go_ret2
            exact ⟨by rw [← HIN.out]; rfl, rfl⟩
          · have HIN := Lib.hid (show (k + Pl.com (s.toList.drop k) false 0 0 + (Pl.gap (s.toList.drop (k + Pl.com (s.toList.drop k) false 0 0))).1, (Pl.gap (s.toList.drop (k + Pl.com (s.toList.drop k) false 0 0))).2) = G from by rw [← hin, Pl.gap_com _ ho hc, List.drop_drop, Nat.add_assoc])
            have hle := Pl.com_le (s.toList.drop k) false 0 0 hc
            rw [List.length_drop, Pl.len_size] at hle
            generalize Pl.com (s.toList.drop k) false 0 0 = C at hcm HIN hle hc
            obtain ⟨hle1, hle2⟩ := hle
            have HCM := Lib.hid hcm
            have t1 : ((C : Int) == 0) = false := beq_eq_false_iff_ne.2 (by omega)
            clear hbg2 hcm ho hin hhd hc hsz
            go_wp2_with fail
            refine (HBG.out _).mono ?_
            rintro e w' ⟨rfl, rfl⟩
            go_wp2_with fail
            refine (HCM.out _).mono ?_
            rintro e w' ⟨rfl, rfl⟩
            go_wp2
            go_round
            case rel => exact ⟨k + C, by omega, by go_num, HIN.out⟩
            case measure => simp [intOf]; omega
      · have ho : Pl.opens (s.toList.drop k) = false := by
          rw [Bool.eq_false_iff]
          intro h
          obtain ⟨_, h1, _⟩ := (Pl.opens_at s k).1 h
          rw [h1] at hb; exact absurd hb (by decide)
        rw [hb] at hhd
        have hq : ((s[k].toNat : Int) == 32) = true ∨ ((s[k].toNat : Int) == 32) = false ∧ ((s[k].toNat : Int) == 9) = true ∨ ((s[k].toNat : Int) == 32) = false ∧ ((s[k].toNat : Int) == 9) = false ∧ ((s[k].toNat : Int) == 10) = true := by
          unfold Pl.blank at hb
          simp only [Bool.or_eq_true, decide_eq_true_eq] at hb
          rcases hb with (h | h) | h
          · left; rw [h]; rfl
          · right; left; rw [h]; exact ⟨rfl, rfl⟩
          · right; right; rw [h]; exact ⟨rfl, rfl, rfl⟩
        have HIN := Lib.hid (show (k + 1 + (Pl.gap (s.toList.drop (k + 1))).1, (Pl.gap (s.toList.drop (k + 1))).2) = G from by rw [← hin, Pl.gap_blank _ ho hhd, List.drop_drop, Nat.add_assoc])
        clear hb hhd ho hin
        rcases hq with q1 | ⟨q1, q2⟩ | ⟨q1, q2, q3⟩
        all_goals
          go_wp2
          go_round
          case rel => exact ⟨k + 1, by omega, by go_num, HIN.out⟩
          case measure => simp [intOf]; omega
    · have HIN := Lib.hid (show (k, false) = G from by rw [← hin, List.drop_eq_nil_of_le (by rw [Pl.len_size]; omega), Pl.gap_nil, Nat.add_zero])
      clear hin
      go_wp2
      go_ret2
      exact ⟨by rw [← HIN.out]; rfl, rfl⟩
set_option maxRecDepth 100000 in
set_option maxHeartbeats 2000000 in
theorem rPlace_any (s : ByteArray) (n : Nat) (w : World) (hn : n ≤ s.size) (hs : s.size ≤ 100000) :
    Calls Try.prog 31 #[.string s, .int .i64 n] w fun e w' => e = .returned (.agg #[.int .i64 (Pl.lineAt s.toList n), .int .i64 (Pl.colAt s.toList n)]) ∧ Below w.heap.size w w' := by
  have hk0 := (blk_new w #[.int .i64 0, .int .i64 0] 26).alloc (.cells #[.int .i64 1, .int .i64 1] 26)
  have hk1 := blk_new (w.alloc (.cells #[.int .i64 0, .int .i64 0] 26)) #[.int .i64 1, .int .i64 1] 26
  rw [World.size_alloc] at hk1
  have hb0 : Below w.heap.size w ((w.alloc (.cells #[.int .i64 0, .int .i64 0] 26)).alloc (.cells #[.int .i64 1, .int .i64 1] 26)) := ((Below.refl _ _).alloc (Nat.le_refl _) _).alloc (by simp) _
  go_enter Try.func31, Try.ntmps31
  go_wp2
  generalize (w.alloc (.cells #[.int .i64 0, .int .i64 0] 26)).alloc (.cells #[.int .i64 1, .int .i64 1] 26) = w0 at hk0 hk1 hb0 ⊢
  have HK0 := Lib.hid hk0
  have HK1 := Lib.hid hk1
  have HB0 := Lib.hid hb0
  clear hk0 hk1 hb0
  go_loopw [6] (fun v wr => ∃ k : Nat, k ≤ n ∧ v = .int .i64 k ∧ Blk wr w.heap.size 26 #[.int .i64 0, .int .i64 0] ∧ Blk wr (w.heap.size + 1) 26 #[.int .i64 (Pl.lineAt s.toList k), .int .i64 (Pl.colAt s.toList k)] ∧ Below w.heap.size w wr) (fun v _ => n - (intOf v).toNat)
  case atStart => exact ⟨0, by omega, rfl, HK0.out, HK1.out, HB0.out⟩
  case round =>
    obtain ⟨k, hk, rfl, hka, hkb, hb⟩ := hrel
    obtain ⟨d0, d1, e0, e1⟩ := psAt_of hkb
    have HKA := Lib.hid hka
    have HKB := Lib.hid hkb
    have HB := Lib.hid hb
    have hlp := Pl.lineAt_pos s.toList k
    have hcp := Pl.colAt_pos s.toList k
    obtain ⟨hl1, hl2⟩ := hlp
    obtain ⟨hc1, hc2⟩ := hcp
    clear hka hb
    by_cases hlt : k < n
    · have hks : k < s.size := by omega
      have hl := Pl.line_step s k hks
      have hc := Pl.col_step s k hks
      by_cases h10 : s[k] = 10
      · rw [if_pos h10] at hl hc
        have q1 : ((s[k].toNat : Int) == 10) = true := by rw [h10]; rfl
        have HL := Lib.hid hl
        have HC := Lib.hid hc
        clear hkb hl hc h10
        go_wp2
        go_roundw
        case rel => exact ⟨k + 1, by omega, by go_num, (HKA.out.other ⟨w.heap.size + 1, 0, none⟩ _ (by simp)).other ⟨w.heap.size + 1, 1, none⟩ _ (by simp), by rw [HL.out, HC.out]; exact (HKB.out.set 0 _).set 1 _, (HB.out.setCell (p := ⟨w.heap.size + 1, 0, none⟩) (Nat.le_succ _) _).setCell (p := ⟨w.heap.size + 1, 1, none⟩) (Nat.le_succ _) _⟩
        case measure => simp [intOf]; omega
      · rw [if_neg h10] at hl hc
        have q1 : ((s[k].toNat : Int) == 10) = false := beq_eq_false_iff_ne.2 (fun h => h10 ((Pl.u8_eq _ _).2 h))
        have HL := Lib.hid hl
        have HC := Lib.hid hc
        clear hkb hl hc h10
        go_wp2
        go_roundw
        case rel => exact ⟨k + 1, by omega, by go_num, HKA.out.other ⟨w.heap.size + 1, 1, none⟩ _ (by simp), by rw [HL.out, HC.out]; exact HKB.out.set 1 _, HB.out.setCell (p := ⟨w.heap.size + 1, 1, none⟩) (Nat.le_succ _) _⟩
        case measure => simp [intOf]; omega
    · have hkn : k = n := by omega
      subst hkn
      obtain ⟨a0, a1, x0, x1⟩ := psAt_of HKA.out
      generalize hli : Pl.lineAt s.toList k = li at HKB hl1 hl2 d0
      generalize hco : Pl.colAt s.toList k = co at HKB hc1 hc2 d1
      have HLI := Lib.hid hli
      have HCO := Lib.hid hco
      clear hkb hli hco
      go_wp2
      obtain ⟨f0, f1, -, -⟩ := psAt_of (ps_put HKA.out (.int .i64 li) (.int .i64 co))
      exact bodyPost_ret (v := .agg #[.int .i64 li, .int .i64 co]) (by simp [results, Try.results31, go_sem, f0, f1]) rfl ⟨by rw [HLI.out, HCO.out], (HB.out.setCell (p := ⟨w.heap.size, 0, none⟩) (Nat.le_refl _) _).setCell (p := ⟨w.heap.size, 1, none⟩) (Nat.le_refl _) _⟩
end Go.Proofs.Ytbmkbenlhkcklaa
