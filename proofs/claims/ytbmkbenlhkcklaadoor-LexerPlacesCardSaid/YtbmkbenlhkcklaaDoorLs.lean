/-
  Plain mathematics of layer 2: texts and their literals; and what Tokens and Unquote answer at a literal.
-/
import Derived.Test.YtbmkbenlhkcklaaDoorLr
namespace Go.Proofs.YtbmkbenlhkcklaaDoor
open Go.RowKit
namespace Pl
theorem meaning_esc (c m : UInt8) (h : meaning c = some m) : escB m = [92, c] ∧ textB m = true := by
  unfold meaning at h
  split at h
  · next hc => obtain rfl := Option.some.inj h; subst hc; exact ⟨by decide, by decide⟩
  · split at h
    · next hc => obtain rfl := Option.some.inj h; subst hc; exact ⟨by decide, by decide⟩
    · split at h
      · next hc => obtain rfl := Option.some.inj h; subst hc; exact ⟨by decide, by decide⟩
      · cases h
theorem print_esc (c : UInt8) (h1 : c ≠ 34) (h2 : c ≠ 92) (hp : printB c = true) : escB c = [c] ∧ textB c = true := by
  have h10 : c ≠ 10 := by rintro rfl; exact absurd hp (by decide)
  refine ⟨by unfold escB; rw [if_neg h10, if_neg (by simp [h1, h2])], ?_⟩
  unfold textB textual
  have : printable c.toNat = true := hp
  rw [this, Bool.or_true]
theorem body_cons (b : UInt8) (r : Bytes) : body (b :: r) = escB b ++ body r := by unfold body; rw [List.flatMap_cons]
/-- a text is read from its literal -/
theorem txt_body : ∀ (l rest acc : Bytes) (k : Nat), isText l = true → txt (body l ++ 34 :: rest) false acc k = good 5 (acc ++ l) (k + (body l).length + 1) := by
  intro l
  induction l with
  | nil => intro rest acc k _; show txt (34 :: rest) false acc k = _; rw [txt, if_pos rfl, List.append_nil]; rfl
  | cons b r ih =>
    intro rest acc k ht
    unfold isText at ht
    rw [List.all_cons, Bool.and_eq_true] at ht
    have ih' := fun a q => ih rest a q ht.2
    rw [body_cons]
    by_cases h10 : b = 10
    · subst h10
      have e : escB 10 = [92, 110] := by decide
      rw [e, List.append_assoc]
      show txt (92 :: 110 :: (body r ++ 34 :: rest)) false acc k = _
      rw [txt, if_neg (by decide), if_pos rfl, txt, show meaning 110 = some 10 from by decide]
      show txt _ false (acc ++ [10]) (k + 1 + 1) = _
      rw [ih', List.append_assoc]
      show good 5 (acc ++ 10 :: r) _ = good 5 _ _
      congr 1
      simp only [List.length_append, List.length_cons, List.length_nil]; omega
    · by_cases hq : b = 34 ∨ b = 92
      · have e : escB b = [92, b] := by unfold escB; rw [if_neg h10, if_pos hq]
        have hm : meaning b = some b := by rcases hq with rfl | rfl <;> decide
        rw [e, List.append_assoc]
        show txt (92 :: b :: (body r ++ 34 :: rest)) false acc k = _
        rw [txt, if_neg (by decide), if_pos rfl, txt, hm]
        show txt _ false (acc ++ [b]) (k + 1 + 1) = _
        rw [ih', List.append_assoc]
        show good 5 (acc ++ b :: r) _ = good 5 _ _
        congr 1
        simp only [List.length_append, List.length_cons, List.length_nil]; omega
      · have e : escB b = [b] := by unfold escB; rw [if_neg h10, if_neg hq]
        have hp : printB b = true := by
          have := ht.1
          unfold textB textual at this
          have h0 : ¬ (b.toNat : Int) = 10 := fun h => h10 ((u8_eq _ _).2 h)
          rw [decide_eq_false h0, Bool.false_or] at this
          exact this
        rw [e, List.append_assoc]
        show txt (b :: (body r ++ 34 :: rest)) false acc k = _
        rw [txt, if_neg (fun h => hq (.inl h)), if_neg (fun h => hq (.inr h)), if_pos hp, ih', List.append_assoc]
        show good 5 (acc ++ b :: r) _ = good 5 _ _
        congr 1
        simp only [List.length_append, List.length_cons, List.length_nil]; omega
/-- what is read is the literal of what it is read as -/
theorem txt_sound : ∀ (r : Bytes),
    (∀ (acc : Bytes) (k : Nat), (txt r false acc k).err = 0 → ∃ u rest, r = body u ++ 34 :: rest ∧ txt r false acc k = good 5 (acc ++ u) (k + (body u).length + 1) ∧ isText u = true) ∧
    (∀ (acc : Bytes) (k : Nat), (txt r true acc k).err = 0 → ∃ c m u rest, meaning c = some m ∧ r = c :: (body u ++ 34 :: rest) ∧ txt r true acc k = good 5 (acc ++ m :: u) (k + 1 + (body u).length + 1) ∧ isText u = true) := by
  intro r
  induction r with
  | nil => exact ⟨fun acc k h => absurd h (show ¬ (4 : Int) = 0 by decide), fun acc k h => absurd h (show ¬ (4 : Int) = 0 by decide)⟩
  | cons c r ih =>
    refine ⟨fun acc k h => ?_, fun acc k h => ?_⟩
    · rw [txt] at h ⊢
      by_cases h34 : c = 34
      · rw [if_pos h34]
        exact ⟨[], r, by rw [h34]; rfl, by rw [List.append_nil]; rfl, rfl⟩
      · rw [if_neg h34] at h ⊢
        by_cases h92 : c = 92
        · rw [if_pos h92] at h ⊢
          obtain ⟨d, m, u, rest, hm, hr, ht, hu⟩ := ih.2 acc (k + 1) h
          obtain ⟨he, htm⟩ := meaning_esc d m hm
          refine ⟨m :: u, rest, ?_, ?_, ?_⟩
          · rw [body_cons, he, h92, hr]; rfl
          · rw [ht, body_cons, he]
            congr 1
            simp only [List.length_append, List.length_cons, List.length_nil]; omega
          · unfold isText at hu ⊢; rw [List.all_cons, htm, hu]; rfl
        · rw [if_neg h92] at h ⊢
          by_cases hp : printB c = true
          · rw [if_pos hp] at h ⊢
            obtain ⟨u, rest, hr, ht, hu⟩ := ih.1 (acc ++ [c]) (k + 1) h
            obtain ⟨he, htc⟩ := print_esc c h34 h92 hp
            refine ⟨c :: u, rest, ?_, ?_, ?_⟩
            · rw [body_cons, he, hr]; rfl
            · rw [ht, body_cons, he, List.append_assoc]
              congr 1
              simp only [List.length_append, List.length_cons, List.length_nil]; omega
            · unfold isText at hu ⊢; rw [List.all_cons, htc, hu]; rfl
          · rw [if_neg hp] at h
            exact absurd h (show ¬ (3 : Int) = 0 by decide)
    · rw [txt] at h ⊢
      cases hm : meaning c with
      | none => rw [hm] at h; exact absurd h (show ¬ (3 : Int) = 0 by decide)
      | some m =>
        rw [hm] at h
        obtain ⟨u, rest, hr, ht, hu⟩ := ih.1 (acc ++ [m]) (k + 1) h
        refine ⟨c, m, u, rest, hm, by rw [hr], ?_, hu⟩
        show txt r false (acc ++ [m]) (k + 1) = _
        rw [ht, List.append_assoc]; rfl
theorem lit_len (l : Bytes) : (lit l).length = (body l).length + 2 := by unfold lit; simp
theorem unquote_lit (l : Bytes) (h : isText l = true) (hl : l.length ≤ 16384) : unquote (lit l) = (l, 0) := by
  have hb := body_len l
  have ht : txt ((lit l).drop 1) false [] 1 = good 5 l ((body l).length + 2) := by
    have := txt_body l [] [] 1 h
    rw [List.nil_append] at this
    show txt (body l ++ [34]) false [] 1 = _
    rw [this]; congr 1; omega
  unfold unquote
  rw [if_neg (by rw [lit_len]; omega), show headIs (fun c => decide (c = 34)) (lit l) = true from rfl, if_pos rfl, ht, if_pos ⟨rfl, by rw [lit_len]; rfl, hl⟩]
  rfl
theorem unquote_sound (l u : Bytes) (h : unquote l = (u, 0)) : l = lit u ∧ isText u = true ∧ u.length ≤ 16384 := by
  unfold unquote at h
  split at h
  · exact absurd (congrArg Prod.snd h) (show ¬ (5 : Int) = 0 by decide)
  · split at h
    · next hq =>
      split at h
      · next hc =>
        obtain ⟨h1, h2, h3⟩ := hc
        obtain ⟨v, rest, hr, ht, hv⟩ := (txt_sound (l.drop 1)).1 [] 1 h1
        rw [ht] at h h2 h3
        have hu : u = v := (congrArg Prod.fst h).symm.trans (List.nil_append v)
        subst hu
        cases l with
        | nil => cases hq
        | cons b r =>
          have hb : b = 34 := (u8_eq b 34).2 (by simpa [headIs] using hq)
          have hr' : r = body u ++ 34 :: rest := hr
          have hrest : rest = [] := by
            have h2' : 1 + (body u).length + 1 = (b :: r).length := h2
            rw [hr'] at h2'
            simp only [List.length_cons, List.length_append] at h2'
            exact List.eq_nil_of_length_eq_zero (by omega)
          subst hrest
          refine ⟨by rw [hb, hr']; rfl, hv, ?_⟩
          have h3' : ([] ++ u).length ≤ 16384 := h3
          simpa using h3'
      · exact absurd (congrArg Prod.snd h) (show ¬ (3 : Int) = 0 by decide)
    · exact absurd (congrArg Prod.snd h) (show ¬ (3 : Int) = 0 by decide)
theorem unquote_err (l : Bytes) (h : (unquote l).2 ≠ 0) : (unquote l).1 = [] := by
  unfold unquote at h ⊢
  split
  · rfl
  · next h1 =>
    rw [if_neg h1] at h
    split
    · next h2 =>
      rw [if_pos h2] at h
      split
      · next h3 => rw [if_pos h3] at h; exact absurd rfl h
      · rfl
    · rfl
theorem quote_text (l : Bytes) (h : isText l = true) (hl : l.length ≤ 16384) : quote l = (lit l, 0) := by
  unfold quote; rw [if_neg (by omega), if_pos h]
theorem quote_ok (l : Bytes) (h : (quote l).2 = 0) : isText l = true ∧ l.length ≤ 16384 ∧ quote l = (lit l, 0) := by
  unfold quote at h ⊢
  split at h
  · exact absurd h (by decide)
  · next hl =>
    split at h
    · next ht => exact ⟨ht, by omega, by rw [if_neg hl, if_pos ht]⟩
    · exact absurd h (by decide)
theorem tokens_lit (l : Bytes) (h : isText l = true) (hl : (lit l).length ≤ 16384) : ∃ c, tokens (lit l) = ⟨[⟨5, l, 1, 1⟩, ⟨8, [], lineAt (lit l) (lit l).length, c⟩], 0, 0, 0⟩ := by
  have hg : gap (lit l) = (0, false) := gap_none _ rfl rfl
  have ht : tok (lit l) = good 5 l (lit l).length := by
    have := txt_body l [] [] 1 h
    rw [List.nil_append] at this
    show txt (body l ++ [34]) false [] 1 = _
    rw [this, lit_len]; congr 1; omega
  refine ⟨colAt (lit l) (lit l).length, ?_⟩
  have h2 := lit_len l
  unfold tokens
  rw [if_neg (by omega), h2, toksF, List.drop_zero, hg]
  simp only [Nat.add_zero, Bool.false_eq_true, if_false, List.drop_zero, ht]
  rw [if_neg (by omega), if_neg (by decide), if_pos (by rfl)]
  show toksF _ (lit l) (0 + (lit l).length) _ = _
  rw [Nat.zero_add, toksF, List.drop_eq_nil_of_le (Nat.le_refl _), gap_nil]
  simp only [Nat.add_zero, Bool.false_eq_true, if_false, if_true]
  rw [← h2]
  rfl
end Pl
end Go.Proofs.YtbmkbenlhkcklaaDoor
