/-
  Plain mathematics of layer 1: what names, type variables and labels have to do with each other.
-/
import Derived.Test.YtmegdcjhpokakaaDoorPm
namespace Go.Proofs.YtmegdcjhpokakaaDoor.Pl
open Go

theorem lower_not_upper (l : Bytes) (h : isLower l = true) : isUpper l = false := by
  cases l with
  | nil => rfl
  | cons b r =>
    unfold isLower at h
    simp only [Bool.and_eq_true, headIs, small, decide_eq_true_eq] at h
    unfold isUpper
    simp only [headIs, capital]
    rw [decide_eq_false (show ¬ ((b.toNat : Int) ≤ 90) by omega)]
    simp
theorem name_not_var (l : Bytes) (h : isName l = true) : isVar l = false := by
  cases l with
  | nil => rfl
  | cons b r =>
    unfold isVar
    have hb : b ≠ 39 := by
      intro e; subst e
      unfold isName isLower isUpper at h
      simp [headIs, small, capital] at h
    simp [hb]
theorem var_not_label (l : Bytes) (h : isVar l = true) : isLabel l = false := by
  cases l with
  | nil => rfl
  | cons b r =>
    unfold isVar at h
    simp only [Bool.and_eq_true, decide_eq_true_eq] at h
    have hb := h.1.1
    subst hb
    unfold isLabel
    rw [List.all_cons, show labelB 39 = false from by decide]
    rfl
theorem name_word (l : Bytes) (h : isName l = true) : isWord l = true := by
  unfold isName isLower isUpper at h
  simp only [Bool.or_eq_true, Bool.and_eq_true] at h
  rcases h with h | h
  · exact h.1.1
  · exact h.1
theorem name_label (l : Bytes) (h : isName l = true) : isLabel l = true := by
  have hw := name_word l h
  have hl := isWord_le l hw
  unfold isWord at hw
  simp only [Bool.and_eq_true] at hw
  unfold isLabel
  rw [decide_eq_true hl.1, decide_eq_true (show l.length ≤ 48 by omega), Bool.and_true, Bool.and_true, List.all_eq_true]
  intro b hb
  unfold labelB
  rw [List.all_eq_true.1 hw.2 b hb]; rfl
theorem name_nodot (l : Bytes) (h : isName l = true) : 46 ∉ l := by
  intro hm
  have hw := name_word l h
  unfold isWord at hw
  simp only [Bool.and_eq_true] at hw
  have := List.all_eq_true.1 hw.2 46 hm
  exact absurd this (by decide)
theorem name_split (s : ByteArray) (h : isName s.toList = true) : splitS s = [s] := by
  unfold splitS
  rw [split_none _ (name_nodot _ h), List.map_cons, List.map_nil, mk_of]
theorem isPath_one (s : ByteArray) : isPath [s] = isName s.toList := by
  unfold isPath; simp [el, List.getD]
theorem more_inner (l : Bytes) : innerL (l ++ [48]) = innerL l := by
  unfold innerL; rw [List.all_append]; rw [show [(48 : UInt8)].all innerB = true from by decide]; simp
theorem more_word (l : Bytes) (h : isWord l = true) : isWord (l ++ [48]) = decide (l.length + 1 ≤ 24) := by
  unfold isWord at *
  simp only [Bool.and_eq_true] at h
  rw [more_inner, h.2, List.length_append, Bool.and_true]
  simp
theorem more_head (p : Int → Bool) (l : Bytes) (h : 1 ≤ l.length) : headIs p (l ++ [48]) = headIs p l := by
  cases l with
  | nil => simp at h
  | cons b r => rfl
theorem more_key (l : Bytes) : isKey (l ++ [48]) = false := by
  rw [Bool.eq_false_iff]
  intro h
  have hm : l ++ [48] ∈ keys := by simpa [isKey] using h
  have hk : keys.all (fun k => k.getLast? != some 48) = true := by decide
  have := List.all_eq_true.1 hk _ hm
  simp at this
theorem more_lower (l : Bytes) (h : isName l = true) : isLower (l ++ [48]) = (isLower l && decide (l.length + 1 ≤ 24)) := by
  have hw := name_word l h
  have hl := isWord_le l hw
  unfold isLower
  rw [more_word l hw, more_head _ l hl.1, more_key, hw]
  unfold isName isLower isUpper at h
  cases hs : headIs small l
  · simp
  · rw [hs, hw] at h
    cases hk : isKey l
    · simp
    · rw [hk] at h
      cases l with
      | nil => simp at hl
      | cons b r =>
        simp only [headIs, small, capital, Bool.and_eq_true, decide_eq_true_eq, Bool.or_eq_true] at h hs
        simp at h
        omega
theorem more_upper (l : Bytes) (h : isName l = true) : isUpper (l ++ [48]) = (isUpper l && decide (l.length + 1 ≤ 24)) := by
  have hw := name_word l h
  have hl := isWord_le l hw
  unfold isUpper
  rw [more_word l hw, more_head _ l hl.1, hw]
  simp [Bool.and_comm]
theorem add_one (s : ByteArray) : (s ++ (⟨#[48]⟩ : ByteArray)).toList = s.toList ++ [48] := by
  rw [toList_eq, toList_eq]; simp [ByteArray.data_append]

end Go.Proofs.YtmegdcjhpokakaaDoor.Pl
