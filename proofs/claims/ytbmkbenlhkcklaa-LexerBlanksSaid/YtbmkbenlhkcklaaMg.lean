/-
  Plain mathematics of layer 2: right tokens. No program.
-/
import Derived.Test.YtbmkbenlhkcklaaMe
namespace Go.Proofs.Ytbmkbenlhkcklaa.Pl
open Go

/-- a token's text, as the class of its kind -/
def cls7 (k : Int) (l : Bytes) : Bool :=
  if k = 1 then isLower l else if k = 2 then isUpper l else if k = 3 then isVar l else if k = 4 then decide ((number l).2 = 0) else if k = 6 then isKey l else if k = 7 then isSym l else false
/-- the whole text is one token of this kind -/
def okT (k : Int) (l : Bytes) : Bool := decide ((tok l).err = 0) && decide ((tok l).len = l.length) && decide ((tok l).kind = k)
theorem key_head : ∀ l, isKey l = true → headIs small l = true ∧ isWord l = true := by
  intro l h
  have hm : l ∈ keys := by simpa [isKey] using h
  have : keys.all (fun l => headIs small l && isWord l) = true := by decide
  have := List.all_eq_true.1 this l hm
  simpa using this
theorem sym_head : ∀ l, isSym l = true → l ≠ [] ∧ headIs small l = false ∧ headIs capital l = false ∧ headIs digit l = false ∧ headIs (fun c => decide (c = 39)) l = false ∧ headIs (fun c => decide (c = 34)) l = false ∧ symLen l = l.length := by
  intro l h
  have hm : l ∈ sym2 ++ sym1 := by simpa [isSym] using h
  have : (sym2 ++ sym1).all (fun l => !l.isEmpty && !headIs small l && !headIs capital l && !headIs digit l && !headIs (fun c => decide (c = 39)) l && !headIs (fun c => decide (c = 34)) l && decide (symLen l = l.length)) = true := by decide
  have := List.all_eq_true.1 this l hm
  simp only [Bool.and_eq_true, Bool.not_eq_true', decide_eq_true_eq, List.isEmpty_eq_false_iff] at this
  obtain ⟨⟨⟨⟨⟨⟨h1, h2⟩, h3⟩, h4⟩, h5⟩, h6⟩, h7⟩ := this
  exact ⟨h1, h2, h3, h4, h5, h6, h7⟩
theorem run_full (p : UInt8 → Bool) (l : Bytes) : run p l = l.length ↔ l.all p = true := by
  induction l with
  | nil => simp [run]
  | cons b r ih =>
    rw [run_cons, List.all_cons]
    cases hp : p b
    · simp
    · simp [ih]
theorem number_zero (l : Bytes) (h : (number l).2 = 0) : l ≠ [] ∧ digits l = true := by
  unfold number at h
  split at h
  · exact absurd h (by decide)
  · next hz =>
    split at h
    · next hd => exact ⟨by rintro rfl; exact hz rfl, hd⟩
    · exact absurd h (by decide)
theorem okT_letters (k : Int) (l : Bytes) (h : letters l = true) : okT k l = (isWord l && decide ((if isKey l then 6 else if headIs capital l then 2 else 1 : Int) = k)) := by
  have h1 := run_letters l h
  have hle := run_le innerB l
  have hf := run_full innerB l
  have ht : tok l = nameTok l := by unfold tok; rw [if_pos (by unfold letters at h; exact h)]
  unfold okT
  rw [ht]
  unfold nameTok isWord innerL
  by_cases h24 : 24 < run innerB l
  · rw [if_pos h24, decide_eq_false (show ¬ l.length ≤ 24 by omega)]
    simp [bad]
  · rw [if_neg h24]
    by_cases hall : l.all innerB = true
    · have hr := hf.2 hall
      rw [hall, hr, List.take_length, decide_eq_true (show 1 ≤ l.length by omega), decide_eq_true (show l.length ≤ 24 by omega)]
      rw [Bool.eq_iff_iff]
      simp [good]
      exact decide_eq_true_iff
    · have hr : run innerB l ≠ l.length := fun hx => hall (hf.1 hx)
      rw [Bool.not_eq_true] at hall
      rw [hall]
      simp [good, hr]
theorem okT_var (k : Int) (b : UInt8) (r : Bytes) (h : letters (b :: r) = false) (hb : b = 39) : okT k (b :: r) = (isVar (b :: r) && decide ((3 : Int) = k)) := by
  have ht : tok (b :: r) = varTok (b :: r) := by
    unfold tok
    rw [if_neg (by unfold letters at h; simp [h]), if_pos (by rw [hb]; rfl)]
  unfold okT
  rw [ht]
  rw [show isVar (b :: r) = (decide (b = 39) && decide ((b :: r).length ≤ 24) && word1 1 r) from rfl]
  unfold varTok
  have hf := run_full innerB r
  have hle := run_le innerB r
  rw [show (b :: r).drop 1 = r from rfl, decide_eq_true hb, List.length_cons]
  cases r with
  | nil => simp [headIs, word1, bad]
  | cons c q =>
    have hw : word1 1 (c :: q) = (small c.toNat && (c :: q).all innerB) := by
      rw [Bool.eq_iff_iff]
      simp only [word1, innerL, Bool.and_eq_true, decide_eq_true_eq, cls_small, List.all_cons]
      constructor
      · rintro ⟨h1, h2⟩; exact ⟨h1, small_inner _ h1, h2⟩
      · rintro ⟨h1, _, h2⟩; exact ⟨h1, h2⟩
    rw [hw, show headIs small (c :: q) = small c.toNat from rfl]
    cases hs : small (c.toNat : Int)
    · simp [bad]
    · rw [if_pos rfl]
      by_cases h24 : 24 < run innerB (c :: q) + 1
      · rw [if_pos h24, decide_eq_false (show ¬ (c :: q).length + 1 ≤ 24 by omega)]
        simp [bad]
      · rw [if_neg h24]
        by_cases hall : (c :: q).all innerB = true
        · have hr := hf.2 hall
          rw [hall, hr, decide_eq_true (show (c :: q).length + 1 ≤ 24 by omega)]
          simp [good]
        · have hr : run innerB (c :: q) ≠ (c :: q).length := fun hx => hall (hf.1 hx)
          rw [Bool.not_eq_true] at hall
          rw [hall]
          have : ¬ run innerB (c :: q) = q.length + 1 := by simpa using hr
          simp [good, this]
theorem okT_num (k : Int) (l : Bytes) (h : letters l = false) (h39 : headIs (fun c => decide (c = 39)) l = false) (hd : headIs digit l = true) : okT k l = (decide ((number l).2 = 0) && decide ((4 : Int) = k)) := by
  have ht : tok l = numTok l := by
    unfold tok
    rw [if_neg (by unfold letters at h; simp [h]), if_neg (by simp [h39]), if_pos hd]
  unfold okT
  rw [ht]
  unfold numTok
  have hf := run_full digitB l
  by_cases hall : l.all digitB = true
  · have hr := hf.2 hall
    rw [hr, List.take_length]
    by_cases hz : (number l).2 = 0
    · rw [if_pos hz, Bool.eq_iff_iff]; simp [good, hz]; exact decide_eq_true_iff
    · rw [if_neg hz]; simp [bad, hz]
  · have hr : run digitB l ≠ l.length := fun hx => hall (hf.1 hx)
    have hn : (number l).2 ≠ 0 := fun hx => hall (number_zero l hx).2
    rw [decide_eq_false hn]
    split
    · simp [good, hr]
    · next hz => simp [bad, hz]
theorem okT_sym (k : Int) (l : Bytes) (hne : l ≠ []) (h : letters l = false) (h39 : headIs (fun c => decide (c = 39)) l = false) (hd : headIs digit l = false) (h34 : headIs (fun c => decide (c = 34)) l = false) : okT k l = (isSym l && decide ((7 : Int) = k)) := by
  have ht : tok l = symTok l := by
    unfold tok
    rw [if_neg (by unfold letters at h; simp [h]), if_neg (by simp [h39]), if_neg (by simp [hd]), if_neg (by simp [h34])]
  unfold okT
  rw [ht]
  unfold symTok
  have hpos : 1 ≤ l.length := by cases l with
    | nil => exact absurd rfl hne
    | cons b r => simp
  cases hs : isSym l
  · by_cases h0 : symLen l = 0
    · rw [if_pos h0]; simp [bad]
    · rw [if_neg h0]
      have : symLen l ≠ l.length := by
        intro hx
        unfold symLen at hx h0
        split at hx
        · omega
        · split at hx
          · next h2 =>
            rw [hx, List.take_length] at h2
            unfold isSym at hs; rw [h2] at hs; cases hs
          · split at hx
            · next h1 =>
              rw [hx, List.take_length] at h1
              unfold isSym at hs; rw [h1, Bool.or_true] at hs; cases hs
            · omega
      simp [good, this]
  · have h7 := (sym_head l hs).2.2.2.2.2.2
    rw [if_neg (by omega)]
    simp [good, h7]
theorem okT_cls (k : Int) (l : Bytes) (hne : l ≠ []) (h34 : headIs (fun c => decide (c = 34)) l = false) : okT k l = cls7 k l := by
  obtain ⟨b, r, rfl⟩ : ∃ b r, l = b :: r := by cases l with
    | nil => exact absurd rfl hne
    | cons b r => exact ⟨b, r, rfl⟩
  have hsc : small (b.toNat : Int) = true → capital (b.toNat : Int) = false := by
    intro h1
    unfold small at h1; unfold capital
    simp only [Bool.and_eq_true, decide_eq_true_eq] at h1
    simp only [Bool.and_eq_false_iff, decide_eq_false_iff_not]; omega
  have hnum : (number (b :: r)).2 = 0 → digit (b.toNat : Int) = true := fun h => by
    have := (number_zero _ h).2
    unfold digits at this
    rw [List.all_cons, Bool.and_eq_true] at this
    exact this.1
  have hkey := key_head (b :: r)
  have hsym := sym_head (b :: r)
  have hvar : isVar (b :: r) = true → (b.toNat : Int) = 39 := fun h => by
    rw [show isVar (b :: r) = (decide (b = 39) && decide ((b :: r).length ≤ 24) && word1 1 r) from rfl] at h
    simp only [Bool.and_eq_true, decide_eq_true_eq] at h
    rw [h.1.1]; rfl
  have hlow : isLower (b :: r) = (isWord (b :: r) && small (b.toNat : Int) && !isKey (b :: r)) := rfl
  have hupp : isUpper (b :: r) = (isWord (b :: r) && capital (b.toNat : Int)) := rfl
  have hlet : letters (b :: r) = (small (b.toNat : Int) || capital (b.toNat : Int)) := rfl
  have hdig : headIs digit (b :: r) = digit (b.toNat : Int) := rfl
  have hq : headIs (fun c => decide (c = 39)) (b :: r) = decide ((b.toNat : Int) = 39) := rfl
  have hhs : headIs small (b :: r) = small (b.toNat : Int) := rfl
  have hhc : headIs capital (b :: r) = capital (b.toNat : Int) := rfl
  have hld : ∀ c : Int, digit c = true → small c = false ∧ capital c = false ∧ c ≠ 39 := by
    intro c h1
    unfold digit at h1; unfold small capital
    simp only [Bool.and_eq_true, decide_eq_true_eq] at h1
    simp only [Bool.and_eq_false_iff, decide_eq_false_iff_not]; omega
  have hlq : small 39 = false ∧ capital 39 = false ∧ digit 39 = false := by decide
  unfold cls7
  cases hl : letters (b :: r)
  · rw [hlet, Bool.or_eq_false_iff] at hl
    obtain ⟨l1, l2⟩ := hl
    have k1 : isLower (b :: r) = false := by rw [hlow, l1, Bool.and_false, Bool.false_and]
    have k2 : isUpper (b :: r) = false := by rw [hupp, l2, Bool.and_false]
    have k6 : isKey (b :: r) = false := by
      rw [Bool.eq_false_iff]; intro h; have := (hkey h).1; rw [hhs, l1] at this; cases this
    have hlf : letters (b :: r) = false := by rw [hlet, l1, l2]; rfl
    rw [k1, k2, k6]
    by_cases h39 : (b.toNat : Int) = 39
    · have hb : b = 39 := (u8_eq _ _).2 h39
      have k4 : ¬ (number (b :: r)).2 = 0 := fun h => by have := hnum h; rw [h39, hlq.2.2] at this; cases this
      have k7 : isSym (b :: r) = false := by
        rw [Bool.eq_false_iff]; intro h; have := (hsym h).2.2.2.2.1; rw [hq, decide_eq_true h39] at this; cases this
      rw [okT_var k b r hlf hb, k7, decide_eq_false k4]
      by_cases hk : k = 3
      · subst hk; simp
      · rw [decide_eq_false (show ¬ (3 : Int) = k from fun h => hk h.symm), if_neg hk]; simp
    · have k3 : isVar (b :: r) = false := by rw [Bool.eq_false_iff]; exact fun h => h39 (hvar h)
      rw [k3]
      cases hd : digit (b.toNat : Int)
      · have k4 : ¬ (number (b :: r)).2 = 0 := fun h => by rw [hnum h] at hd; cases hd
        rw [okT_sym k _ hne hlf (by rw [hq]; exact decide_eq_false h39) (hdig.trans hd) h34, decide_eq_false k4]
        by_cases hk : k = 7
        · subst hk; simp
        · rw [decide_eq_false (show ¬ (7 : Int) = k from fun h => hk h.symm), if_neg hk]; simp
      · have k7 : isSym (b :: r) = false := by
          rw [Bool.eq_false_iff]; intro h; have := (hsym h).2.2.2.1; rw [hdig, hd] at this; cases this
        rw [okT_num k _ hlf (by rw [hq]; exact decide_eq_false h39) (hdig.trans hd), k7]
        by_cases hk : k = 4
        · subst hk; simp
        · rw [decide_eq_false (show ¬ (4 : Int) = k from fun h => hk h.symm), if_neg hk]; simp
  · rw [okT_letters k _ hl]
    rw [hlet, Bool.or_eq_true] at hl
    have h39 : ¬ (b.toNat : Int) = 39 := by
      intro h; rw [h, hlq.1, hlq.2.1] at hl; rcases hl with h | h <;> cases h
    have hd : digit (b.toNat : Int) = false := by
      rw [Bool.eq_false_iff]; intro h; obtain ⟨h1, h2, _⟩ := hld _ h; rw [h1, h2] at hl; rcases hl with h | h <;> cases h
    have k3 : isVar (b :: r) = false := by rw [Bool.eq_false_iff]; exact fun h => h39 (hvar h)
    have k4 : ¬ (number (b :: r)).2 = 0 := fun h => by rw [hnum h] at hd; cases hd
    have k7 : isSym (b :: r) = false := by
      rw [Bool.eq_false_iff]; intro h
      obtain ⟨_, h1, h2, _⟩ := hsym h
      rw [hhs] at h1; rw [hhc] at h2; rw [h1, h2] at hl; rcases hl with h | h <;> cases h
    rw [k3, k7, decide_eq_false k4, hhc, hlow, hupp]
    cases hk : isKey (b :: r)
    · cases hc : capital (b.toNat : Int)
      · have hs : small (b.toNat : Int) = true := by
          cases hl with
          | inl h => exact h
          | inr h => rw [hc] at h; cases h
        rw [hs]
        by_cases h1 : k = 1
        · subst h1; simp
        · simp [h1, show ¬ (1 : Int) = k from fun h => h1 h.symm]
      · by_cases h2 : k = 2
        · subst h2; simp
        · have hs : small (b.toNat : Int) = false := by
            rw [Bool.eq_false_iff]; intro h; rw [hsc h] at hc; cases hc
          simp [h2, hs, show ¬ (2 : Int) = k from fun h => h2 h.symm]
    · obtain ⟨hs, hw⟩ := hkey hk
      rw [hhs] at hs
      have hc := hsc hs
      rw [hw, hc]
      by_cases h6 : k = 6
      · subst h6; simp
      · simp [h6, show ¬ (6 : Int) = k from fun h => h6 h.symm]
end Go.Proofs.Ytbmkbenlhkcklaa.Pl
