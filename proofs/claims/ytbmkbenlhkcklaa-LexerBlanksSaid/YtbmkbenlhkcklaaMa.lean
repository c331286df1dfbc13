/-
  Walks of layer 2: the reference's Next at every text.
-/
import Derived.Test.YtbmkbenlhkcklaaLz
namespace Go.Proofs.Ytbmkbenlhkcklaa
open Go.RowKit
namespace Pl
theorem run_letters (l : Bytes) (h : letters l = true) : 1 ≤ run innerB l := by
  unfold letters at h
  rw [Bool.or_eq_true] at h
  rcases h with h | h
  · exact run_headIs _ small _ (fun b hb => small_inner _ hb) h
  · exact run_headIs _ capital _ (fun b hb => capital_inner _ hb) h
theorem txt_kind : ∀ (r : Bytes) (esc : Bool) (acc : Bytes) (k : Nat), (txt r esc acc k).err = 0 → (txt r esc acc k).kind = 5 := by
  intro r
  induction r with
  | nil => intro esc acc k h; cases esc <;> exact absurd h (show ¬ (4 : Int) = 0 by decide)
  | cons c r ih =>
    intro esc acc k h
    cases esc
    · rw [txt] at h ⊢
      split at h
      · next hq => rw [if_pos hq]; rfl
      · next hq =>
        rw [if_neg hq]
        split at h
        · next hb => rw [if_pos hb]; exact ih _ _ _ h
        · next hb =>
          rw [if_neg hb]
          split at h
          · next hp => rw [if_pos hp]; exact ih _ _ _ h
          · exact absurd h (show ¬ (3 : Int) = 0 by decide)
    · rw [txt] at h ⊢
      cases hm : meaning c with
      | some m => rw [hm] at h; exact ih _ _ _ h
      | none => rw [hm] at h; exact absurd h (show ¬ (3 : Int) = 0 by decide)
end Pl
theorem next_any (s : ByteArray) (w : World) (h0 : 0 < s.size) (hs : s.size ≤ 100000) :
    Calls Try.prog 32 #[.string s] w (RNext w (Pl.tok s.toList)) := by
  have hm : s.size ≤ maxLen := by unfold maxLen; omega
  have hn := fun W => rnames_any s W hm
  have hat : ∀ p : Int → Bool, Pl.headIs p s.toList = p s[0].toNat := fun p => by
    have := Pl.headIs_at p s 0 h0
    rw [List.drop_zero] at this; exact this
  have hlet := Pl.letters_at s h0
  unfold Pl.tok
  rw [hat, hat, hat, hat, hat, ← hlet]
  cases hl : Pl.letters s.toList
  · have hr : Pl.rnames s.toList = 0 := by unfold Pl.rnames; rw [hl]; rfl
    have hn2 : ∀ W, Calls Try.prog 57 #[.string s] W fun e w' => e = .returned (.int .i64 0) ∧ W = w' := fun W => by have := hn W; rw [hr] at this; exact this
    rw [if_neg (by simp)]
    by_cases h39 : (s[0].toNat : Int) = 39
    · rw [if_pos (by simpa using h39)]
      have q0 : ((s[0].toNat : Int) == 39) = true := by rw [h39]; rfl
      have hx : (s.extract 1 s.size).toList = s.toList.drop 1 := Pl.extract_end s 1
      have hm2 : ∀ W, Calls Try.prog 57 #[.string (s.extract 1 s.size)] W fun e w' => e = .returned (.int .i64 (Pl.rnames (s.toList.drop 1))) ∧ W = w' := fun W => by
        have := rnames_any (s.extract 1 s.size) W (by rw [ByteArray.size_extract]; unfold maxLen; omega)
        rw [hx] at this; exact this
      unfold Pl.varTok
      by_cases h1 : 1 < s.size
      · have hh1 := Pl.headIs_at Pl.small s 1 h1
        cases hsm : Pl.small (s[1].toNat : Int)
        · rw [hh1, hsm, if_neg (by simp)]
          refine next_novar s w _ h0 hn2 q0 hm2 ?_
          cases hll : Pl.letters (s.toList.drop 1)
          · left; unfold Pl.rnames; rw [hll]; rfl
          · right; refine ⟨h1, ?_, hsm⟩
            have := Pl.run_letters _ hll
            unfold Pl.rnames; rw [hll]; exact this
        · have hll : Pl.letters (s.toList.drop 1) = true := by unfold Pl.letters; rw [hh1, hsm]; rfl
          have hrn : Pl.rnames (s.toList.drop 1) = Pl.run Pl.innerB (s.toList.drop 1) := by unfold Pl.rnames; rw [hll]; rfl
          rw [hh1, hsm, if_pos rfl]
          rw [hrn] at hm2
          have hb := Pl.run_bound Pl.innerB s 1 (by omega)
          refine next_var s _ w _ h0 hs hn2 q0 hm2 (Pl.run_letters _ hll) (by omega) hsm ?_
          have := extract_take s 0 (Pl.run Pl.innerB (s.toList.drop 1) + 1)
          rw [Nat.zero_add, List.drop_zero] at this; exact this
      · have he : s.toList.drop 1 = [] := List.drop_eq_nil_of_le (by rw [Pl.len_size]; omega)
        rw [he, if_neg (by simp [Pl.headIs])]
        rw [he] at hm2
        exact next_novar s w _ h0 hn2 q0 hm2 (.inl rfl)
    · rw [if_neg (by simpa using h39)]
      have q0 : ((s[0].toNat : Int) == 39) = false := beq_eq_false_iff_ne.2 h39
      cases q1 : Pl.digit (s[0].toNat : Int)
      · rw [if_neg (by simp)]
        by_cases h34 : (s[0].toNat : Int) = 34
        · rw [if_pos (by simpa using h34)]
          exact next_text s w _ h0 hn2 q0 q1 (by rw [h34]; rfl) (Pl.txt_kind _ _ _ _) fun W => rLiteral_any s W (by omega) (by omega)
        · rw [if_neg (by simpa using h34)]
          have := next_symbol s (symStr s.toList) (s.toList.take (Pl.symLen s.toList)) w h0 hn2 q0 q1 (beq_eq_false_iff_ne.2 h34) rfl fun W => rSymbol_any s W
          have e : (if s.toList.take (Pl.symLen s.toList) = [] then Pl.bad 3 0 else Pl.good 7 (s.toList.take (Pl.symLen s.toList)) (s.toList.take (Pl.symLen s.toList)).length) = Pl.symTok s.toList := by
            have hlen : (s.toList.take (Pl.symLen s.toList)).length = Pl.symLen s.toList := by rw [List.length_take]; have := Pl.symLen_len s.toList; omega
            unfold Pl.symTok
            by_cases hz : Pl.symLen s.toList = 0
            · rw [hz, if_pos rfl, if_pos (by rw [List.take_zero])]
            · rw [if_neg hz, if_neg (fun h => hz (by rw [← hlen, h]; rfl)), hlen]
          rw [e] at this
          exact this
      · rw [if_pos rfl]
        exact next_digits s w h0 hs hn2 q0 q1
  · have hr : Pl.rnames s.toList = Pl.run Pl.innerB s.toList := by unfold Pl.rnames; rw [hl]; rfl
    have hn2 : ∀ W, Calls Try.prog 57 #[.string s] W fun e w' => e = .returned (.int .i64 (Pl.run Pl.innerB s.toList)) ∧ W = w' := fun W => by have := hn W; rw [hr] at this; exact this
    rw [if_pos rfl]
    have hb := Pl.run_bound Pl.innerB s 0 (by omega)
    rw [List.drop_zero, Nat.zero_add] at hb
    have hx := extract_take s 0 (Pl.run Pl.innerB s.toList)
    rw [Nat.zero_add, List.drop_zero] at hx
    refine next_name s _ w _ _ h0 (Pl.run_letters _ hl) hb hx hn2 (by rw [← hlet]; exact hl) ?_
    unfold Pl.nameTok
    rw [hx, Pl.mk_toList, hat]
end Go.Proofs.Ytbmkbenlhkcklaa
