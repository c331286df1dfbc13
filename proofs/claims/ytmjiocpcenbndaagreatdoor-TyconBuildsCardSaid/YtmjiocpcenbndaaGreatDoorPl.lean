/-
  Plain mathematics of layer 1: bytes, names, labels, paths and numbers as functions on lists of bytes. No program.
-/
import Derived.Laws.Strings
import Derived.Lib.Strings
namespace Go.Proofs.YtmjiocpcenbndaaGreatDoor.Pl
open Go

def small (c : Int) : Bool := decide (97 ≤ c) && decide (c ≤ 122)
def capital (c : Int) : Bool := decide (65 ≤ c) && decide (c ≤ 90)
def digit (c : Int) : Bool := decide (48 ≤ c) && decide (c ≤ 57)
def inner (c : Int) : Bool := small c || capital c || digit c || decide (c = 95)
def cls (c : Int) : Int :=
  if 97 ≤ c ∧ c ≤ 122 then 1 else if 65 ≤ c ∧ c ≤ 90 then 2 else if 48 ≤ c ∧ c ≤ 57 then 3 else if c = 95 then 4 else if c = 46 then 5 else 0

theorem cls_range (c : Int) : 0 ≤ cls c ∧ cls c ≤ 5 := by
  unfold cls; repeat' split
  all_goals omega
theorem cls_small (c : Int) : (cls c = 1) = (small c = true) := by
  unfold cls small; simp only [Bool.and_eq_true, decide_eq_true_eq, eq_iff_iff]; repeat' split
  all_goals omega
theorem cls_capital (c : Int) : (cls c = 2) = (capital c = true) := by
  unfold cls capital; simp only [Bool.and_eq_true, decide_eq_true_eq, eq_iff_iff]; repeat' split
  all_goals omega
theorem cls_digit (c : Int) : (cls c = 3) = (digit c = true) := by
  unfold cls digit; simp only [Bool.and_eq_true, decide_eq_true_eq, eq_iff_iff]; repeat' split
  all_goals omega
theorem cls_inner (c : Int) : (inner c = true) = (cls c ≠ 0 ∧ cls c ≠ 5) := by
  unfold cls inner small capital digit; simp only [Bool.and_eq_true, Bool.or_eq_true, decide_eq_true_eq, eq_iff_iff]; repeat' split
  all_goals omega
theorem cls_dot (c : Int) : (cls c = 0) = (inner c = false ∧ c ≠ 46) := by
  unfold cls inner small capital digit; simp only [Bool.and_eq_false_iff, Bool.or_eq_false_iff, decide_eq_false_iff_not, eq_iff_iff]; repeat' split
  all_goals omega

abbrev Bytes := List UInt8
def innerB (b : UInt8) : Bool := inner b.toNat
def innerL (l : Bytes) : Bool := l.all innerB
/-- a word whose first byte is of a class -/
def word1 (first : Int) (l : Bytes) : Bool := match l with
  | [] => false
  | b :: r => decide (cls b.toNat = first) && innerL r
def keys : List Bytes := [[97, 110, 100, 97, 108, 115, 111], [99, 97, 115, 101], [100, 97, 116, 97], [100, 105, 118], [101, 108, 115, 101], [101, 110, 100], [102, 110], [102, 117, 110], [102, 117, 110, 99, 116, 111, 114], [103, 101, 110, 101, 114, 97, 116, 105, 118, 101], [105, 102], [105, 109, 112, 111, 114, 116], [105, 110], [105, 110, 99, 108, 117, 100, 101], [108, 101, 116], [109, 111, 100], [109, 111, 100, 117, 108, 101], [111, 102], [111, 112, 101, 110], [111, 114, 101, 108, 115, 101], [112, 97, 99, 107], [115, 104, 97, 114, 105, 110, 103], [115, 105, 103], [115, 105, 103, 110, 97, 116, 117, 114, 101], [115, 116, 114, 117, 99, 116], [115, 116, 114, 117, 99, 116, 117, 114, 101], [116, 104, 101, 110], [116, 121, 112, 101], [117, 110, 112, 97, 99, 107], [118, 97, 108], [119, 105, 116, 104]]
def isKey (l : Bytes) : Bool := keys.contains l
def isWord (l : Bytes) : Bool := decide (1 ≤ l.length) && decide (l.length ≤ 24) && innerL l
def headIs (p : Int → Bool) (l : Bytes) : Bool := match l with
  | [] => false
  | b :: _ => p b.toNat
def isLower (l : Bytes) : Bool := isWord l && headIs small l && !isKey l
def isUpper (l : Bytes) : Bool := isWord l && headIs capital l
def labelB (b : UInt8) : Bool := innerB b || decide ((b.toNat : Int) = 46)
def isLabel (l : Bytes) : Bool := l.all labelB && (decide (1 ≤ l.length) && decide (l.length ≤ 48))
def isVar (l : Bytes) : Bool := match l with
  | q :: r => decide (q = 39) && decide (l.length ≤ 24) && word1 1 r
  | [] => false

theorem toList_eq (s : ByteArray) : s.toList = s.data.toList := ByteArray.toList_eq s
theorem len_size (s : ByteArray) : s.toList.length = s.size := by rw [toList_eq]; rfl
theorem take_snoc (s : ByteArray) (k : Nat) (h : k < s.size) : s.toList.take (k + 1) = s.toList.take k ++ [s[k]] := by
  rw [toList_eq, List.take_succ_eq_append_getElem (by simpa using h)]; rfl
theorem drop_take_snoc (s : ByteArray) (k : Nat) (h1 : 1 ≤ k) (h : k < s.size) : (s.toList.take (k + 1)).drop 1 = (s.toList.take k).drop 1 ++ [s[k]] := by
  rw [take_snoc s k h, List.drop_append_of_le_length]
  rw [List.length_take, len_size]; omega
theorem all_snoc (p : UInt8 → Bool) (l : Bytes) (b : UInt8) : (l ++ [b]).all p = (l.all p && p b) := by simp
theorem all_take (p : UInt8 → Bool) (s : ByteArray) (k : Nat) (h : k < s.size) : (s.toList.take (k + 1)).all p = ((s.toList.take k).all p && p s[k]) := by
  rw [take_snoc s k h, all_snoc]
theorem get_mem (s : ByteArray) (k : Nat) (h : k < s.size) : s[k] ∈ s.toList := by
  have : s.data.toList[k]'(by simpa using h) ∈ s.data.toList := List.getElem_mem _
  rw [toList_eq]; exact this
theorem all_false (p : UInt8 → Bool) (s : ByteArray) (k : Nat) (h : k < s.size) (hp : p s[k] = false) : s.toList.all p = false := by
  rw [List.all_eq_false]
  exact ⟨s[k], get_mem s k h, by simp [hp]⟩
theorem take_all (s : ByteArray) (k : Nat) (h : s.size ≤ k) : s.toList.take k = s.toList := List.take_of_length_le (by rw [len_size]; exact h)
theorem cons_of_pos (s : ByteArray) (h : 0 < s.size) : ∃ r, s.toList = s[0] :: r := by
  have h1 := take_snoc s 0 h
  simp at h1
  refine ⟨s.toList.drop 1, ?_⟩
  have := List.take_append_drop 1 s.toList
  rw [h1] at this; exact this.symm
theorem nil_of_zero (s : ByteArray) (h : ¬ 0 < s.size) : s.toList = [] := by
  apply List.eq_nil_of_length_eq_zero; rw [len_size]; omega
theorem isEmpty_of (s : ByteArray) : s.toList.isEmpty = decide (s.size = 0) := by
  rw [← len_size]; cases s.toList <;> simp

/-- the answer of isWord, at a string that is not empty: the head's class, and the rest. -/
theorem word1_pos (s : ByteArray) (f : Int) (h : 0 < s.size) : word1 f s.toList = (decide (cls s[0].toNat = f) && innerL (s.toList.drop 1)) := by
  obtain ⟨r, hr⟩ := cons_of_pos s h
  rw [hr]; rfl
theorem rest_false (s : ByteArray) (k : Nat) (h1 : 1 ≤ k) (h : k < s.size) (hp : innerB s[k] = false) : innerL (s.toList.drop 1) = false := by
  unfold innerL
  rw [List.all_eq_false]
  refine ⟨s[k], ?_, by simp [hp]⟩
  rw [toList_eq, List.mem_drop_iff_getElem]
  refine ⟨k - 1, by have : s.data.toList.length = s.size := rfl; omega, ?_⟩
  have e : 1 + (k - 1) = k := by omega
  simp only [e]; rfl
theorem inner_of_cls (b : UInt8) (h0 : cls b.toNat ≠ 0) (h5 : cls b.toNat ≠ 5) : innerB b = true := by
  unfold innerB; rw [cls_inner]; exact ⟨h0, h5⟩
theorem not_inner_of_cls (b : UInt8) (h : cls b.toNat = 0 ∨ cls b.toNat = 5) : innerB b = false := by
  rw [Bool.eq_false_iff]; unfold innerB; rw [Ne, cls_inner]; omega

theorem inner_step1 (s : ByteArray) (k : Nat) (h1 : 1 ≤ k) (h : k < s.size) (hi : innerL ((s.toList.take k).drop 1) = true) (hp : innerB s[k] = true) : innerL ((s.toList.take (k + 1)).drop 1) = true := by
  rw [drop_take_snoc s k h1 h]; unfold innerL at *; rw [all_snoc, hi, hp]; rfl
theorem inner_step (s : ByteArray) (k : Nat) (h : k < s.size) (hi : innerL (s.toList.take k) = true) (hp : innerB s[k] = true) : innerL (s.toList.take (k + 1)) = true := by
  unfold innerL at *; rw [all_take _ s k h, hi, hp]; rfl
theorem label_step (s : ByteArray) (k : Nat) (h : k < s.size) (hi : (s.toList.take k).all labelB = true) (hp : labelB s[k] = true) : (s.toList.take (k + 1)).all labelB = true := by
  rw [all_take _ s k h, hi, hp]; rfl
theorem label_of_cls (b : UInt8) : labelB b = !decide (cls b.toNat = 0) := by
  rw [Bool.eq_iff_iff]
  unfold labelB innerB
  simp only [Bool.or_eq_true, decide_eq_true_eq, Bool.not_eq_true', decide_eq_false_iff_not, cls_dot]
  cases h : inner (b.toNat : Int) <;> simp

/-- the program's names and the reference's -/
theorem head_pos (p : Int → Bool) (s : ByteArray) (h : 0 < s.size) : headIs p s.toList = p s[0].toNat := by
  obtain ⟨r, hr⟩ := cons_of_pos s h
  rw [hr]; rfl
theorem word1_eq (f : Int) (p : Int → Bool) (hp : ∀ c, (cls c = f) = (p c = true)) (hi : ∀ c, p c = true → inner c = true) (l : Bytes) :
    (decide (l.length ≤ 24) && word1 f l) = (isWord l && headIs p l) := by
  cases l with
  | nil => rfl
  | cons b r =>
    rw [Bool.eq_iff_iff]
    simp only [word1, isWord, headIs, innerL, innerB, List.all_cons, Bool.and_eq_true, decide_eq_true_eq, hp, List.length_cons]
    constructor
    · rintro ⟨h1, h2, h3⟩; exact ⟨⟨⟨by omega, h1⟩, hi _ h2, h3⟩, h2⟩
    · rintro ⟨⟨⟨_, h1⟩, _, h3⟩, h2⟩; exact ⟨h1, h2, h3⟩
theorem small_inner (c : Int) (h : small c = true) : inner c = true := by unfold inner; rw [h]; rfl
theorem capital_inner (c : Int) (h : capital c = true) : inner c = true := by unfold inner; rw [h]; simp
theorem lower_eq (l : Bytes) : (decide (l.length ≤ 24) && word1 1 l) = (isWord l && headIs small l) := word1_eq 1 small cls_small small_inner l
theorem upper_eq (l : Bytes) : (decide (l.length ≤ 24) && word1 2 l) = isUpper l := word1_eq 2 capital cls_capital capital_inner l
/-- no key word begins with a capital letter, and each is short. -/
theorem key_small : ∀ l, isKey l = true → headIs capital l = false := by
  intro l h
  have hm : l ∈ keys := by simpa [isKey] using h
  have : keys.all (fun l => !headIs capital l) = true := by decide
  have := List.all_eq_true.1 this l hm
  simpa using this

theorem u8_eq (b c : UInt8) : b = c ↔ (b.toNat : Int) = (c.toNat : Int) := by
  rw [← UInt8.toNat_inj]; omega
theorem drop_cons (s : ByteArray) (k : Nat) (h : k < s.size) : s.toList.drop k = s[k] :: s.toList.drop (k + 1) := by
  rw [toList_eq, List.drop_eq_getElem_cons (by simpa using h)]; rfl
theorem extract_end (s : ByteArray) (k : Nat) : (s.extract k s.size).toList = s.toList.drop k := by
  rw [Lib.extract_toList, toList_eq, List.take_of_length_le]
  have : s.data.toList.length = s.size := rfl
  rw [List.length_drop, this]; exact Nat.le_refl _
theorem isVar_cons (s : ByteArray) (h : 0 < s.size) : isVar s.toList = (decide ((s[0].toNat : Int) = 39) && decide (s.size ≤ 24) && word1 1 (s.toList.drop 1)) := by
  have h1 : s.toList = s[0] :: s.toList.drop 1 := drop_cons s 0 h
  have h2 := len_size s
  rw [h1] at h2
  have h3 : isVar (s[0] :: s.toList.drop 1) = (decide ((s[0].toNat : Int) = 39) && decide (s.size ≤ 24) && word1 1 (s.toList.drop 1)) := by
    simp only [isVar, h2, u8_eq]; rfl
  rw [← h1] at h3; exact h3
theorem isVar_two (s : ByteArray) (h : 2 ≤ s.size) : isVar s.toList = (decide (s.size ≤ 24) && decide ((s[0].toNat : Int) = 39) && small s[1].toNat && innerL (s.extract 1 s.size).toList) := by
  rw [isVar_cons s (by omega), extract_end, drop_cons s 1 (by omega)]
  rw [Bool.eq_iff_iff]
  simp only [word1, innerL, innerB, List.all_cons, Bool.and_eq_true, decide_eq_true_eq, cls_small]
  constructor
  · rintro ⟨⟨h1, h2⟩, h3, h4⟩; exact ⟨⟨⟨h2, h1⟩, h3⟩, small_inner _ h3, h4⟩
  · rintro ⟨⟨⟨h2, h1⟩, h3⟩, _, h4⟩; exact ⟨⟨h1, h2⟩, h3, h4⟩
theorem isVar_short (s : ByteArray) (h : ¬ 2 ≤ s.size) : isVar s.toList = false := by
  by_cases h0 : 0 < s.size
  · rw [isVar_cons s h0]
    have : s.toList.drop 1 = [] := List.drop_eq_nil_of_le (by rw [len_size]; omega)
    rw [this]; simp [word1]
  · rw [nil_of_zero s h0]; rfl

/-- labels: what stands before a name of a kind -/
def head (k : Int) : Bytes :=
  if k = 1 then [118, 97, 108, 46] else if k = 2 then [116, 121, 112, 101, 46] else if k = 3 then [99, 111, 110, 46]
  else if k = 4 then [109, 111, 100, 46] else if k = 5 then [115, 105, 103, 46] else []
def isKind (k : Int) : Bool := decide (1 ≤ k) && decide (k ≤ 5)
def fits (k : Int) (l : Bytes) : Bool := if k = 1 ∨ k = 2 then isLower l else isUpper l
/-- the label, and the code, of Label -/
def label (k : Int) (l : Bytes) : Bytes × Int := if isKind k then (if fits k l then (head k ++ l, 0) else ([], 3)) else ([], 2)
def mk (l : Bytes) : ByteArray := ⟨l.toArray⟩
theorem mk_toList (l : Bytes) : (mk l).toList = l := ByteArray.toList_mk l
theorem mk_of (s : ByteArray) : mk s.toList = s := by rw [toList_eq]; exact Lib.mk_data s
theorem mk_size (l : Bytes) : (mk l).size = l.length := by rw [← len_size, mk_toList]
theorem add_mk (a : Bytes) (s : ByteArray) : mk a ++ s = mk (a ++ s.toList) := by
  have h : (mk a ++ s).toList = a ++ s.toList := by
    rw [toList_eq, toList_eq]; simp [mk, ByteArray.data_append]
  rw [← h, mk_of]
theorem isWord_le (l : Bytes) (h : isWord l = true) : 1 ≤ l.length ∧ l.length ≤ 24 := by
  unfold isWord at h; simp at h; exact ⟨h.1.1, h.1.2⟩
theorem isLower_le (l : Bytes) (h : isLower l = true) : 1 ≤ l.length ∧ l.length ≤ 24 := by
  unfold isLower at h; simp at h; exact isWord_le l h.1.1
theorem isUpper_le (l : Bytes) (h : isUpper l = true) : 1 ≤ l.length ∧ l.length ≤ 24 := by
  unfold isUpper at h; simp at h; exact isWord_le l h.1
theorem fits_le (k : Int) (l : Bytes) (h : fits k l = true) : 1 ≤ l.length ∧ l.length ≤ 24 := by
  unfold fits at h; split at h
  · exact isLower_le l h
  · exact isUpper_le l h

end Go.Proofs.YtmjiocpcenbndaaGreatDoor.Pl
