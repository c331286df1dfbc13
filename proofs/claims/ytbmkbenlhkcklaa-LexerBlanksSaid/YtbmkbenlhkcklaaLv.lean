/-
  Walks of layer 2: the reference's texts and literals.
-/
import Derived.Test.YtbmkbenlhkcklaaLu
namespace Go.Proofs.Ytbmkbenlhkcklaa
open Go.RowKit
namespace Pl
theorem mk_add (a b : Bytes) : mk a ++ mk b = mk (a ++ b) := by rw [add_mk, mk_toList]
theorem one_at (s : ByteArray) (k : Nat) (h : k < s.size) : s.extract k (k + 1) = mk [s[k]] := by
  rw [extract_take s k 1, drop_cons s k h]; rfl
theorem text_at (b : UInt8) : textB b = (decide (b = 10) || (decide (32 ≤ b.toNat) && decide (b.toNat ≤ 126))) := by
  unfold textB textual printable
  rw [Bool.eq_iff_iff]
  simp only [Bool.or_eq_true, Bool.and_eq_true, decide_eq_true_eq, u8_eq]
  constructor
  · rintro (h | ⟨h1, h2⟩)
    · exact .inl h
    · exact .inr ⟨by omega, by omega⟩
  · rintro (h | ⟨h1, h2⟩)
    · exact .inl h
    · exact .inr ⟨by omega, by omega⟩
end Pl
set_option maxRecDepth 100000 in
set_option maxHeartbeats 1000000 in
theorem rPlain_any (s : ByteArray) (w : World) (hs : s.size ≤ maxLen) :
    Calls Try.prog 20 #[.string s] w fun e w' => e = .returned (.bool (Pl.isText s.toList)) ∧ w = w' := by
  unfold maxLen at hs
  go_enter Try.func20, Try.ntmps20
  go_wp2
  go_loop [3] (fun i => ∃ k : Nat, k ≤ s.size ∧ i = .int .i64 k ∧ (s.toList.take k).all Pl.textB = true) (fun i => s.size - (intOf i).toNat)
  case atStart => exact ⟨0, by omega, rfl, by simp⟩
  case round =>
    obtain ⟨k, hk, rfl, hin⟩ := hrel
    have HI := Lib.hid hin
    clear hin
    by_cases hlt : k < s.size
    · have HN := Lib.hid (Pl.all_take Pl.textB s k hlt)
      have HF := Lib.hid (fun h => Pl.all_false Pl.textB s k hlt h)
      cases ht : Pl.textB s[k]
      · have HT := Lib.hid ht
        have h10 : ((s[k].toNat : Int) != 10) = true := by
          have : ¬ s[k] = 10 := by intro h; rw [h] at ht; exact absurd ht (by decide)
          have : ¬ (s[k].toNat : Int) = 10 := fun h => this ((Pl.u8_eq _ _).2 h)
          simpa using this
        rw [Pl.text_at] at ht
        have hr : s[k].toNat < 32 ∨ ¬ s[k].toNat < 32 ∧ 126 < s[k].toNat := by
          simp only [Bool.or_eq_false_iff, Bool.and_eq_false_iff, decide_eq_false_iff_not] at ht
          omega
        clear ht
        rcases hr with hr | ⟨hr, hr2⟩
        all_goals
          go_wp2
          go_ret
          exact ⟨ret_bool (by unfold Pl.isText; exact (HF.out HT.out).symm), rfl⟩
      · have HT := Lib.hid ht
        rw [Pl.text_at] at ht
        have hr : ((s[k].toNat : Int) != 10) = false ∧ s[k].toNat < 32 ∨ ¬ s[k].toNat < 32 ∧ ¬ 126 < s[k].toNat := by
          simp only [Bool.or_eq_true, Bool.and_eq_true, decide_eq_true_eq] at ht
          rcases ht with h | h
          · left; rw [h]; exact ⟨rfl, by decide⟩
          · right; omega
        clear ht
        rcases hr with ⟨hr, hr2⟩ | ⟨hr, hr2⟩
        all_goals
          go_wp2
          go_round
          case rel => exact ⟨k + 1, by omega, by go_num, by rw [HN.out, HI.out, HT.out]; rfl⟩
          case measure => simp [intOf]; omega
    · go_wp2
      go_ret
      have hi := HI.out
      rw [Pl.take_all s k (by omega)] at hi
      exact ⟨ret_bool (by unfold Pl.isText; exact hi.symm), rfl⟩
theorem str_eq {a b : ByteArray} (h : a = b) : Value.string a = .string b := by rw [h]
set_option maxRecDepth 100000 in
set_option maxHeartbeats 1000000 in
theorem rQuote_any (s : ByteArray) (w : World) (hs : s.size ≤ 1000000) :
    Calls Try.prog 21 #[.string s] w fun e w' => e = .returned (.string (Pl.mk (Pl.lit s.toList))) ∧ w = w' := by
  go_enter Try.func21, Try.ntmps21
  go_wp2
  go_loop [3, 4] (fun o i => ∃ k : Nat, k ≤ s.size ∧ i = .int .i64 k ∧ o = .string (Pl.mk (34 :: Pl.body (s.toList.take k)))) (fun _ i => s.size - (intOf i).toNat)
  case atStart => exact ⟨0, by omega, rfl, rfl⟩
  case round =>
    obtain ⟨k, hk, rfl, rfl⟩ := hrel
    have hlen := Pl.body_take_len s k
    have hos : (Pl.mk (34 :: Pl.body (s.toList.take k))).size ≤ 2 * k + 1 := by rw [Pl.mk_size]; simp only [List.length_cons]; omega
    by_cases hlt : k < s.size
    · have hsn := Pl.body_snoc s k hlt
      have h1 := Pl.one_at s k hlt
      have hfin : ∀ z : Pl.Bytes, Pl.escB s[k] = z → Pl.mk (34 :: Pl.body (s.toList.take k)) ++ Pl.mk z = Pl.mk (34 :: Pl.body (s.toList.take (k + 1))) := fun z hz => by
        rw [Pl.mk_add, hsn, hz]; rfl
      have HF := Lib.hid hfin
      have H1 := Lib.hid h1
      have hx1 : (s.extract k (k + 1)).size = 1 := by rw [h1, Pl.mk_size]; rfl
      generalize Pl.mk (34 :: Pl.body (s.toList.take k)) = o at hos HF ⊢
      clear hsn hlen hfin h1
      have z1 : o.size + (⟨#[92, 34]⟩ : ByteArray).size ≤ 9223372036854775807 := by show o.size + 2 ≤ _; omega
      have z2 : o.size + (⟨#[92, 92]⟩ : ByteArray).size ≤ 9223372036854775807 := by show o.size + 2 ≤ _; omega
      have z3 : o.size + (⟨#[92, 110]⟩ : ByteArray).size ≤ 9223372036854775807 := by show o.size + 2 ≤ _; omega
      have z4 : o.size + (s.extract k (k + 1)).size ≤ 9223372036854775807 := by omega
      by_cases h34 : s[k] = 34
      · have q1 : ((s[k].toNat : Int) == 34) = true := by rw [h34]; rfl
        have HE := Lib.hid (HF.out [92, 34] (by rw [h34]; decide))
        clear h34 hx1
        go_wp2
        go_round
        case rel => exact ⟨k + 1, by omega, by go_num, str_eq HE.out⟩
        case measure => simp [intOf]; omega
      · have q1 : ((s[k].toNat : Int) == 34) = false := beq_eq_false_iff_ne.2 (fun h => h34 ((Pl.u8_eq _ _).2 h))
        by_cases h92 : s[k] = 92
        · have q2 : ((s[k].toNat : Int) == 92) = true := by rw [h92]; rfl
          have HE := Lib.hid (HF.out [92, 92] (by rw [h92]; decide))
          clear h34 h92 hx1
          go_wp2
          go_round
          case rel => exact ⟨k + 1, by omega, by go_num, str_eq HE.out⟩
          case measure => simp [intOf]; omega
        · have q2 : ((s[k].toNat : Int) == 92) = false := beq_eq_false_iff_ne.2 (fun h => h92 ((Pl.u8_eq _ _).2 h))
          by_cases h10 : s[k] = 10
          · have q3 : ((s[k].toNat : Int) == 10) = true := by rw [h10]; rfl
            have HE := Lib.hid (HF.out [92, 110] (by rw [h10]; decide))
            clear h34 h92 h10 hx1
            go_wp2
            go_round
            case rel => exact ⟨k + 1, by omega, by go_num, str_eq HE.out⟩
            case measure => simp [intOf]; omega
          · have q3 : ((s[k].toNat : Int) == 10) = false := beq_eq_false_iff_ne.2 (fun h => h10 ((Pl.u8_eq _ _).2 h))
            have HE := Lib.hid (HF.out [s[k]] (by unfold Pl.escB; rw [if_neg h10, if_neg (by simp [h34, h92])]))
            clear h34 h92 h10 hx1
            go_wp2
            go_round
            case rel => exact ⟨k + 1, by omega, by go_num, str_eq (by rw [H1.out]; exact HE.out)⟩
            case measure => simp [intOf]; omega
    · have HTA := Lib.hid (Pl.take_all s k (by omega))
      have z1 : (Pl.mk (34 :: Pl.body (s.toList.take k))).size + (⟨#[34]⟩ : ByteArray).size ≤ 9223372036854775807 := by show (Pl.mk (34 :: Pl.body (s.toList.take k))).size + 1 ≤ _; omega
      have HE := Lib.hid (show Pl.mk (34 :: Pl.body (s.toList.take k)) ++ (⟨#[34]⟩ : ByteArray) = Pl.mk (Pl.lit s.toList) from by rw [HTA.out]; exact Pl.mk_add _ [34])
      generalize Pl.mk (34 :: Pl.body (s.toList.take k)) = o at hos z1 HE ⊢
      clear hlen
      go_wp2
      go_ret
      exact ⟨by rw [← HE.out]; rfl, rfl⟩
/-- what the reference's literal answers -/
def tkVal (t : Pl.Tk) : Value := .tuple #[.string (Pl.mk t.text), .int .i64 t.len, .int .i64 t.err, .int .i64 t.pos]
set_option maxRecDepth 100000 in
set_option maxHeartbeats 2000000 in
theorem rLiteral_any (s : ByteArray) (w : World) (h1 : 1 ≤ s.size) (hs : s.size ≤ 1000000) :
    Calls Try.prog 40 #[.string s] w fun e w' => e = .returned (tkVal (Pl.txt (s.toList.drop 1) false [] 1)) ∧ w = w' := by
  generalize hT : Pl.txt (s.toList.drop 1) false [] 1 = T
  have HT := Lib.hid hT
  clear hT
  go_enter Try.func40, Try.ntmps40
  go_wp2
  go_loop [6, 7] (fun o i => ∃ (k : Nat) (acc : Pl.Bytes), 1 ≤ k ∧ k ≤ s.size ∧ i = .int .i64 k ∧ o = .string (Pl.mk acc) ∧ acc.length ≤ k ∧ Pl.txt (s.toList.drop k) false acc k = T) (fun _ i => s.size - (intOf i).toNat)
  case atStart => exact ⟨1, [], by omega, by omega, rfl, rfl, by simp, HT.out⟩
  case round =>
    obtain ⟨k, acc, hk1, hk, rfl, rfl, hal, hin⟩ := hrel
    have hos : (Pl.mk acc).size ≤ k := by rw [Pl.mk_size]; exact hal
    by_cases hlt : k < s.size
    · by_cases h34 : s[k] = 34
      · have q1 : ((s[k].toNat : Int) != 34) = false := by rw [h34]; rfl
        have q2 : ((k : Int) == (s.size : Int)) = false := beq_eq_false_iff_ne.2 (by omega)
        have HX := Lib.hid (hin.symm.trans (Pl.txt_quote s k acc k hlt h34))
        clear h34 hin
        go_wp2
        refine bodyPost_ret (v := .tuple #[.string (Pl.mk acc), .int .i64 ((k : Int) + 1), .int .i64 0, .int .i64 0]) (by simp [results, Try.results40, go_sem]) rfl ?_
        rw [HX.out]
        exact ⟨rfl, rfl⟩
      have q1 : ((s[k].toNat : Int) != 34) = true := by
        have : ¬ (s[k].toNat : Int) = 34 := fun h => h34 ((Pl.u8_eq _ _).2 h)
        simpa using this
      by_cases h92 : s[k] = 92
      · have q2 : ((s[k].toNat : Int) == 92) = true := by rw [h92]; rfl
        by_cases hend : k + 1 = s.size
        · have q3 : ((k : Int) + 1 == (s.size : Int)) = true := beq_iff_eq.2 (by omega)
          have HX := Lib.hid (hin.symm.trans (Pl.txt_cut s k acc k hlt h92 hend))
          clear h34 h92 hin hend
          go_wp2
          refine bodyPost_ret (v := .tuple #[.string ⟨#[]⟩, .int .i64 0, .int .i64 4, .int .i64 0]) (by simp [results, Try.results40, go_sem]) rfl ?_
          rw [HX.out]
          exact ⟨rfl, rfl⟩
        · have q3 : ((k : Int) + 1 == (s.size : Int)) = false := beq_eq_false_iff_ne.2 (by omega)
          have g1 : (0 : Int) ≤ (k : Int) + 1 := by omega
          have g2 : (k : Int) + 1 < (s.size : Int) := by omega
          have hl1 : k + 1 < s.size := by omega
          have z1 : (Pl.mk acc).size + (⟨#[10]⟩ : ByteArray).size ≤ 9223372036854775807 := by show (Pl.mk acc).size + 1 ≤ _; omega
          have z2 : (Pl.mk acc).size + (⟨#[34]⟩ : ByteArray).size ≤ 9223372036854775807 := by show (Pl.mk acc).size + 1 ≤ _; omega
          have z3 : (Pl.mk acc).size + (⟨#[92]⟩ : ByteArray).size ≤ 9223372036854775807 := by show (Pl.mk acc).size + 1 ≤ _; omega
          have hpair := fun m hm => (Pl.txt_pair s k acc k m hlt h92 hl1 hm).symm.trans hin
          have hbad := fun hm => hin.symm.trans (Pl.txt_bad s k acc k hlt h92 hl1 hm)
          have hcat : ∀ m : UInt8, Pl.mk acc ++ Pl.mk [m] = Pl.mk (acc ++ [m]) := fun m => Pl.mk_add _ _
          have hlc : ∀ m : UInt8, (acc ++ [m]).length ≤ k + 2 := fun m => by rw [List.length_append]; simp; omega
          generalize hma : Pl.mk acc = o at z1 z2 z3 hcat hos ⊢
          have HLC := Lib.hid hlc
          clear hma h34 h92 hin hend hlc
          by_cases hm1 : s[k + 1] = 110
          · have q4 : ((s[k + 1].toNat : Int) == 110) = true := by rw [hm1]; rfl
            have HI := Lib.hid (hpair 10 (by rw [hm1]; decide))
            have HCT := Lib.hid (hcat 10)
            clear hpair hbad hcat hm1
            go_wp2
            go_round
            case rel => exact ⟨k + 2, _, by omega, by omega, by go_num, str_eq HCT.out, HLC.out _, HI.out⟩
            case measure => simp [intOf]; omega
          have q4 : ((s[k + 1].toNat : Int) == 110) = false := beq_eq_false_iff_ne.2 (fun h => hm1 ((Pl.u8_eq _ _).2 h))
          by_cases hm2 : s[k + 1] = 34
          · have q5 : ((s[k + 1].toNat : Int) == 34) = true := by rw [hm2]; rfl
            have HI := Lib.hid (hpair 34 (by rw [hm2]; decide))
            have HCT := Lib.hid (hcat 34)
            clear hpair hbad hcat hm1 hm2
            go_wp2
            go_round
            case rel => exact ⟨k + 2, _, by omega, by omega, by go_num, str_eq HCT.out, HLC.out _, HI.out⟩
            case measure => simp [intOf]; omega
          have q5 : ((s[k + 1].toNat : Int) == 34) = false := beq_eq_false_iff_ne.2 (fun h => hm2 ((Pl.u8_eq _ _).2 h))
          by_cases hm3 : s[k + 1] = 92
          · have q6 : ((s[k + 1].toNat : Int) == 92) = true := by rw [hm3]; rfl
            have HI := Lib.hid (hpair 92 (by rw [hm3]; decide))
            have HCT := Lib.hid (hcat 92)
            clear hpair hbad hcat hm1 hm2 hm3
            go_wp2
            go_round
            case rel => exact ⟨k + 2, _, by omega, by omega, by go_num, str_eq HCT.out, HLC.out _, HI.out⟩
            case measure => simp [intOf]; omega
          have q6 : ((s[k + 1].toNat : Int) == 92) = false := beq_eq_false_iff_ne.2 (fun h => hm3 ((Pl.u8_eq _ _).2 h))
          have HX := Lib.hid (hbad (by unfold Pl.meaning; rw [if_neg hm2, if_neg hm3, if_neg hm1]))
          clear hpair hbad hcat hm1 hm2 hm3
          go_wp2
          refine bodyPost_ret (v := .tuple #[.string ⟨#[]⟩, .int .i64 0, .int .i64 3, .int .i64 k]) (by simp [results, Try.results40, go_sem]) rfl ?_
          rw [HX.out]
          exact ⟨rfl, rfl⟩
      have q2 : ((s[k].toNat : Int) == 92) = false := beq_eq_false_iff_ne.2 (fun h => h92 ((Pl.u8_eq _ _).2 h))
      cases hp : Pl.printable (s[k].toNat : Int)
      · have HX := Lib.hid (hin.symm.trans (Pl.txt_wrong s k acc k hlt h34 h92 hp))
        have hr : s[k].toNat < 32 ∨ ¬ s[k].toNat < 32 ∧ 126 < s[k].toNat := by
          unfold Pl.printable at hp
          simp only [Bool.and_eq_false_iff, decide_eq_false_iff_not] at hp
          omega
        clear h34 h92 hin hp
        rcases hr with hr | ⟨hr, hr2⟩
        all_goals
          go_wp2
          refine bodyPost_ret (v := .tuple #[.string ⟨#[]⟩, .int .i64 0, .int .i64 3, .int .i64 k]) (by simp [results, Try.results40, go_sem]) rfl ?_
          rw [HX.out]
          exact ⟨rfl, rfl⟩
      · have HI := Lib.hid ((Pl.txt_plain s k acc k hlt h34 h92 hp).symm.trans hin)
        have hr : ¬ s[k].toNat < 32 ∧ ¬ 126 < s[k].toNat := by
          unfold Pl.printable at hp
          simp only [Bool.and_eq_true, decide_eq_true_eq] at hp
          omega
        obtain ⟨hr1, hr2⟩ := hr
        have h1e := Pl.one_at s k hlt
        have HCT := Lib.hid (show Pl.mk acc ++ s.extract k (k + 1) = Pl.mk (acc ++ [s[k]]) from by rw [h1e, Pl.mk_add])
        have z1 : (Pl.mk acc).size + (s.extract k (k + 1)).size ≤ 9223372036854775807 := by rw [h1e, Pl.mk_size [_]]; show (Pl.mk acc).size + 1 ≤ _; omega
        have HLC := Lib.hid (show (acc ++ [s[k]]).length ≤ k + 1 from by rw [List.length_append]; simp; omega)
        generalize hma : Pl.mk acc = o at z1 HCT hos ⊢
        clear h34 h92 hin hp hma h1e
        go_wp2
        go_round
        case rel => exact ⟨k + 1, _, by omega, by omega, by go_num, str_eq HCT.out, HLC.out, HI.out⟩
        case measure => simp [intOf]; omega
    · have q1 : ((k : Int) == (s.size : Int)) = true := beq_iff_eq.2 (by omega)
      have HX := Lib.hid (hin.symm.trans (Pl.txt_end s k acc k (by omega)))
      clear hin
      go_wp2
      refine bodyPost_ret (v := .tuple #[.string ⟨#[]⟩, .int .i64 0, .int .i64 4, .int .i64 0]) (by simp [results, Try.results40, go_sem]) rfl ?_
      rw [HX.out]
      exact ⟨rfl, rfl⟩
end Go.Proofs.Ytbmkbenlhkcklaa
