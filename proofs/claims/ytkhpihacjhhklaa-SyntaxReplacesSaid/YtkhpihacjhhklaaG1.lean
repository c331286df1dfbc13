/-
  Walks and plain mathematics, several texts in one (Pl Sa Sb Sc Sd).
-/
import Derived.Laws.Strings
import Derived.Lib.Strings
/-
  Plain mathematics of layer 1: bytes, names, labels, paths and numbers as functions on lists of bytes. No program.
-/
namespace Go.Proofs.Ytkhpihacjhhklaa.Pl
open Go

def small (c : Int) : Bool := decide (97 ≤ c) && decide (c ≤ 122)
def capital (c : Int) : Bool := decide (65 ≤ c) && decide (c ≤ 90)
def digit (c : Int) : Bool := decide (48 ≤ c) && decide (c ≤ 57)
def inner (c : Int) : Bool := small c || capital c || digit c || decide (c = 95)
def cls (c : Int) : Int :=
  if 97 ≤ c ∧ c ≤ 122 then 1 else if 65 ≤ c ∧ c ≤ 90 then 2 else if 48 ≤ c ∧ c ≤ 57 then 3 else if c = 95 then 4 else if c = 46 then 5 else 0

theorem cls_range (c : Int) : 0 ≤ cls c ∧ cls c ≤ 5 := by
  unfold cls; repeat' split
  all_goals omega
theorem cls_small (c : Int) : (cls c = 1) = (small c = true) := by
  unfold cls small; simp only [Bool.and_eq_true, decide_eq_true_eq, eq_iff_iff]; repeat' split
  all_goals omega
theorem cls_capital (c : Int) : (cls c = 2) = (capital c = true) := by
  unfold cls capital; simp only [Bool.and_eq_true, decide_eq_true_eq, eq_iff_iff]; repeat' split
  all_goals omega
theorem cls_digit (c : Int) : (cls c = 3) = (digit c = true) := by
  unfold cls digit; simp only [Bool.and_eq_true, decide_eq_true_eq, eq_iff_iff]; repeat' split
  all_goals omega
theorem cls_inner (c : Int) : (inner c = true) = (cls c ≠ 0 ∧ cls c ≠ 5) := by
  unfold cls inner small capital digit; simp only [Bool.and_eq_true, Bool.or_eq_true, decide_eq_true_eq, eq_iff_iff]; repeat' split
  all_goals omega
theorem cls_dot (c : Int) : (cls c = 0) = (inner c = false ∧ c ≠ 46) := by
  unfold cls inner small capital digit; simp only [Bool.and_eq_false_iff, Bool.or_eq_false_iff, decide_eq_false_iff_not, eq_iff_iff]; repeat' split
  all_goals omega

abbrev Bytes := List UInt8
def innerB (b : UInt8) : Bool := inner b.toNat
def innerL (l : Bytes) : Bool := l.all innerB
/-- a word whose first byte is of a class -/
def word1 (first : Int) (l : Bytes) : Bool := match l with
  | [] => false
  | b :: r => decide (cls b.toNat = first) && innerL r
def keys : List Bytes := [[97, 110, 100, 97, 108, 115, 111], [99, 97, 115, 101], [100, 97, 116, 97], [100, 105, 118], [101, 108, 115, 101], [101, 110, 100], [102, 110], [102, 117, 110], [102, 117, 110, 99, 116, 111, 114], [103, 101, 110, 101, 114, 97, 116, 105, 118, 101], [105, 102], [105, 109, 112, 111, 114, 116], [105, 110], [105, 110, 99, 108, 117, 100, 101], [108, 101, 116], [109, 111, 100], [109, 111, 100, 117, 108, 101], [111, 102], [111, 112, 101, 110], [111, 114, 101, 108, 115, 101], [112, 97, 99, 107], [115, 104, 97, 114, 105, 110, 103], [115, 105, 103], [115, 105, 103, 110, 97, 116, 117, 114, 101], [115, 116, 114, 117, 99, 116], [115, 116, 114, 117, 99, 116, 117, 114, 101], [116, 104, 101, 110], [116, 121, 112, 101], [117, 110, 112, 97, 99, 107], [118, 97, 108], [119, 105, 116, 104]]
def isKey (l : Bytes) : Bool := keys.contains l
def isWord (l : Bytes) : Bool := decide (1 ≤ l.length) && decide (l.length ≤ 24) && innerL l
def headIs (p : Int → Bool) (l : Bytes) : Bool := match l with
  | [] => false
  | b :: _ => p b.toNat
def isLower (l : Bytes) : Bool := isWord l && headIs small l && !isKey l
def isUpper (l : Bytes) : Bool := isWord l && headIs capital l
def labelB (b : UInt8) : Bool := innerB b || decide ((b.toNat : Int) = 46)
def isLabel (l : Bytes) : Bool := l.all labelB && (decide (1 ≤ l.length) && decide (l.length ≤ 48))
def isVar (l : Bytes) : Bool := match l with
  | q :: r => decide (q = 39) && decide (l.length ≤ 24) && word1 1 r
  | [] => false

theorem toList_eq (s : ByteArray) : s.toList = s.data.toList := ByteArray.toList_eq s
theorem len_size (s : ByteArray) : s.toList.length = s.size := by rw [toList_eq]; rfl
theorem take_snoc (s : ByteArray) (k : Nat) (h : k < s.size) : s.toList.take (k + 1) = s.toList.take k ++ [s[k]] := by
  rw [toList_eq, List.take_succ_eq_append_getElem (by simpa using h)]; rfl
theorem drop_take_snoc (s : ByteArray) (k : Nat) (h1 : 1 ≤ k) (h : k < s.size) : (s.toList.take (k + 1)).drop 1 = (s.toList.take k).drop 1 ++ [s[k]] := by
  rw [take_snoc s k h, List.drop_append_of_le_length]
  rw [List.length_take, len_size]; omega
theorem all_snoc (p : UInt8 → Bool) (l : Bytes) (b : UInt8) : (l ++ [b]).all p = (l.all p && p b) := by simp
theorem all_take (p : UInt8 → Bool) (s : ByteArray) (k : Nat) (h : k < s.size) : (s.toList.take (k + 1)).all p = ((s.toList.take k).all p && p s[k]) := by
  rw [take_snoc s k h, all_snoc]
theorem get_mem (s : ByteArray) (k : Nat) (h : k < s.size) : s[k] ∈ s.toList := by
  have : s.data.toList[k]'(by simpa using h) ∈ s.data.toList := List.getElem_mem _
  rw [toList_eq]; exact this
theorem all_false (p : UInt8 → Bool) (s : ByteArray) (k : Nat) (h : k < s.size) (hp : p s[k] = false) : s.toList.all p = false := by
  rw [List.all_eq_false]
  exact ⟨s[k], get_mem s k h, by simp [hp]⟩
theorem take_all (s : ByteArray) (k : Nat) (h : s.size ≤ k) : s.toList.take k = s.toList := List.take_of_length_le (by rw [len_size]; exact h)
theorem cons_of_pos (s : ByteArray) (h : 0 < s.size) : ∃ r, s.toList = s[0] :: r := by
  have h1 := take_snoc s 0 h
  simp at h1
  refine ⟨s.toList.drop 1, ?_⟩
  have := List.take_append_drop 1 s.toList
  rw [h1] at this; exact this.symm
theorem nil_of_zero (s : ByteArray) (h : ¬ 0 < s.size) : s.toList = [] := by
  apply List.eq_nil_of_length_eq_zero; rw [len_size]; omega
theorem isEmpty_of (s : ByteArray) : s.toList.isEmpty = decide (s.size = 0) := by
  rw [← len_size]; cases s.toList <;> simp

/-- the answer of isWord, at a string that is not empty: the head's class, and the rest. -/
theorem word1_pos (s : ByteArray) (f : Int) (h : 0 < s.size) : word1 f s.toList = (decide (cls s[0].toNat = f) && innerL (s.toList.drop 1)) := by
  obtain ⟨r, hr⟩ := cons_of_pos s h
  rw [hr]; rfl
theorem rest_false (s : ByteArray) (k : Nat) (h1 : 1 ≤ k) (h : k < s.size) (hp : innerB s[k] = false) : innerL (s.toList.drop 1) = false := by
  unfold innerL
  rw [List.all_eq_false]
  refine ⟨s[k], ?_, by simp [hp]⟩
  rw [toList_eq, List.mem_drop_iff_getElem]
  refine ⟨k - 1, by have : s.data.toList.length = s.size := rfl; omega, ?_⟩
  have e : 1 + (k - 1) = k := by omega
  simp only [e]; rfl
theorem inner_of_cls (b : UInt8) (h0 : cls b.toNat ≠ 0) (h5 : cls b.toNat ≠ 5) : innerB b = true := by
  unfold innerB; rw [cls_inner]; exact ⟨h0, h5⟩
theorem not_inner_of_cls (b : UInt8) (h : cls b.toNat = 0 ∨ cls b.toNat = 5) : innerB b = false := by
  rw [Bool.eq_false_iff]; unfold innerB; rw [Ne, cls_inner]; omega

theorem inner_step1 (s : ByteArray) (k : Nat) (h1 : 1 ≤ k) (h : k < s.size) (hi : innerL ((s.toList.take k).drop 1) = true) (hp : innerB s[k] = true) : innerL ((s.toList.take (k + 1)).drop 1) = true := by
  rw [drop_take_snoc s k h1 h]; unfold innerL at *; rw [all_snoc, hi, hp]; rfl
theorem inner_step (s : ByteArray) (k : Nat) (h : k < s.size) (hi : innerL (s.toList.take k) = true) (hp : innerB s[k] = true) : innerL (s.toList.take (k + 1)) = true := by
  unfold innerL at *; rw [all_take _ s k h, hi, hp]; rfl
theorem label_step (s : ByteArray) (k : Nat) (h : k < s.size) (hi : (s.toList.take k).all labelB = true) (hp : labelB s[k] = true) : (s.toList.take (k + 1)).all labelB = true := by
  rw [all_take _ s k h, hi, hp]; rfl
theorem label_of_cls (b : UInt8) : labelB b = !decide (cls b.toNat = 0) := by
  rw [Bool.eq_iff_iff]
  unfold labelB innerB
  simp only [Bool.or_eq_true, decide_eq_true_eq, Bool.not_eq_true', decide_eq_false_iff_not, cls_dot]
  cases h : inner (b.toNat : Int) <;> simp

/-- the program's names and the reference's -/
theorem head_pos (p : Int → Bool) (s : ByteArray) (h : 0 < s.size) : headIs p s.toList = p s[0].toNat := by
  obtain ⟨r, hr⟩ := cons_of_pos s h
  rw [hr]; rfl
theorem word1_eq (f : Int) (p : Int → Bool) (hp : ∀ c, (cls c = f) = (p c = true)) (hi : ∀ c, p c = true → inner c = true) (l : Bytes) :
    (decide (l.length ≤ 24) && word1 f l) = (isWord l && headIs p l) := by
  cases l with
  | nil => rfl
  | cons b r =>
    rw [Bool.eq_iff_iff]
    simp only [word1, isWord, headIs, innerL, innerB, List.all_cons, Bool.and_eq_true, decide_eq_true_eq, hp, List.length_cons]
    constructor
    · rintro ⟨h1, h2, h3⟩; exact ⟨⟨⟨by omega, h1⟩, hi _ h2, h3⟩, h2⟩
    · rintro ⟨⟨⟨_, h1⟩, _, h3⟩, h2⟩; exact ⟨h1, h2, h3⟩
theorem small_inner (c : Int) (h : small c = true) : inner c = true := by unfold inner; rw [h]; rfl
theorem capital_inner (c : Int) (h : capital c = true) : inner c = true := by unfold inner; rw [h]; simp
theorem lower_eq (l : Bytes) : (decide (l.length ≤ 24) && word1 1 l) = (isWord l && headIs small l) := word1_eq 1 small cls_small small_inner l
theorem upper_eq (l : Bytes) : (decide (l.length ≤ 24) && word1 2 l) = isUpper l := word1_eq 2 capital cls_capital capital_inner l
/-- no key word begins with a capital letter, and each is short. -/
theorem key_small : ∀ l, isKey l = true → headIs capital l = false := by
  intro l h
  have hm : l ∈ keys := by simpa [isKey] using h
  have : keys.all (fun l => !headIs capital l) = true := by decide
  have := List.all_eq_true.1 this l hm
  simpa using this

theorem u8_eq (b c : UInt8) : b = c ↔ (b.toNat : Int) = (c.toNat : Int) := by
  rw [← UInt8.toNat_inj]; omega
theorem drop_cons (s : ByteArray) (k : Nat) (h : k < s.size) : s.toList.drop k = s[k] :: s.toList.drop (k + 1) := by
  rw [toList_eq, List.drop_eq_getElem_cons (by simpa using h)]; rfl
theorem extract_end (s : ByteArray) (k : Nat) : (s.extract k s.size).toList = s.toList.drop k := by
  rw [Lib.extract_toList, toList_eq, List.take_of_length_le]
  have : s.data.toList.length = s.size := rfl
  rw [List.length_drop, this]; exact Nat.le_refl _
theorem isVar_cons (s : ByteArray) (h : 0 < s.size) : isVar s.toList = (decide ((s[0].toNat : Int) = 39) && decide (s.size ≤ 24) && word1 1 (s.toList.drop 1)) := by
  have h1 : s.toList = s[0] :: s.toList.drop 1 := drop_cons s 0 h
  have h2 := len_size s
  rw [h1] at h2
  have h3 : isVar (s[0] :: s.toList.drop 1) = (decide ((s[0].toNat : Int) = 39) && decide (s.size ≤ 24) && word1 1 (s.toList.drop 1)) := by
    simp only [isVar, h2, u8_eq]; rfl
  rw [← h1] at h3; exact h3
theorem isVar_two (s : ByteArray) (h : 2 ≤ s.size) : isVar s.toList = (decide (s.size ≤ 24) && decide ((s[0].toNat : Int) = 39) && small s[1].toNat && innerL (s.extract 1 s.size).toList) := by
  rw [isVar_cons s (by omega), extract_end, drop_cons s 1 (by omega)]
  rw [Bool.eq_iff_iff]
  simp only [word1, innerL, innerB, List.all_cons, Bool.and_eq_true, decide_eq_true_eq, cls_small]
  constructor
  · rintro ⟨⟨h1, h2⟩, h3, h4⟩; exact ⟨⟨⟨h2, h1⟩, h3⟩, small_inner _ h3, h4⟩
  · rintro ⟨⟨⟨h2, h1⟩, h3⟩, _, h4⟩; exact ⟨⟨h1, h2⟩, h3, h4⟩
theorem isVar_short (s : ByteArray) (h : ¬ 2 ≤ s.size) : isVar s.toList = false := by
  by_cases h0 : 0 < s.size
  · rw [isVar_cons s h0]
    have : s.toList.drop 1 = [] := List.drop_eq_nil_of_le (by rw [len_size]; omega)
    rw [this]; simp [word1]
  · rw [nil_of_zero s h0]; rfl

/-- labels: what stands before a name of a kind -/
def head (k : Int) : Bytes :=
  if k = 1 then [118, 97, 108, 46] else if k = 2 then [116, 121, 112, 101, 46] else if k = 3 then [99, 111, 110, 46]
  else if k = 4 then [109, 111, 100, 46] else if k = 5 then [115, 105, 103, 46] else []
def isKind (k : Int) : Bool := decide (1 ≤ k) && decide (k ≤ 5)
def fits (k : Int) (l : Bytes) : Bool := if k = 1 ∨ k = 2 then isLower l else isUpper l
/-- the label, and the code, of Label -/
def label (k : Int) (l : Bytes) : Bytes × Int := if isKind k then (if fits k l then (head k ++ l, 0) else ([], 3)) else ([], 2)
def mk (l : Bytes) : ByteArray := ⟨l.toArray⟩
theorem mk_toList (l : Bytes) : (mk l).toList = l := ByteArray.toList_mk l
theorem mk_of (s : ByteArray) : mk s.toList = s := by rw [toList_eq]; exact Lib.mk_data s
theorem mk_size (l : Bytes) : (mk l).size = l.length := by rw [← len_size, mk_toList]
theorem add_mk (a : Bytes) (s : ByteArray) : mk a ++ s = mk (a ++ s.toList) := by
  have h : (mk a ++ s).toList = a ++ s.toList := by
    rw [toList_eq, toList_eq]; simp [mk, ByteArray.data_append]
  rw [← h, mk_of]
theorem isWord_le (l : Bytes) (h : isWord l = true) : 1 ≤ l.length ∧ l.length ≤ 24 := by
  unfold isWord at h; simp at h; exact ⟨h.1.1, h.1.2⟩
theorem isLower_le (l : Bytes) (h : isLower l = true) : 1 ≤ l.length ∧ l.length ≤ 24 := by
  unfold isLower at h; simp at h; exact isWord_le l h.1.1
theorem isUpper_le (l : Bytes) (h : isUpper l = true) : 1 ≤ l.length ∧ l.length ≤ 24 := by
  unfold isUpper at h; simp at h; exact isWord_le l h.1
theorem fits_le (k : Int) (l : Bytes) (h : fits k l = true) : 1 ≤ l.length ∧ l.length ≤ 24 := by
  unfold fits at h; split at h
  · exact isLower_le l h
  · exact isUpper_le l h

end Go.Proofs.Ytkhpihacjhhklaa.Pl

/-
  Plain mathematics of layer 3: trees, their sizes and depths, and what a tree holds. No program.
-/
namespace Go.Proofs.Ytkhpihacjhhklaa.Pl
open Go

structure Syn where
  op : Int
  n : Int
  s : ByteArray
  names : List ByteArray
  l : List Syn
instance : Inhabited Syn := ⟨⟨0, 0, ByteArray.empty, [], []⟩⟩
def none0 : Syn := ⟨0, 0, ByteArray.empty, [], []⟩

mutual
def Syn.size : Syn → Nat
  | ⟨_, _, _, _, l⟩ => 1 + sizes l
def sizes : List Syn → Nat
  | [] => 0
  | t :: r => t.size + sizes r
end
mutual
def Syn.depth : Syn → Nat
  | ⟨_, _, _, _, l⟩ => depths l + 1
def depths : List Syn → Nat
  | [] => 0
  | t :: r => max t.depth (depths r)
end
mutual
/-- nodes, and names -/
def Syn.big : Syn → Nat
  | ⟨_, _, _, names, l⟩ => 1 + names.length + bigs l
def bigs : List Syn → Nat
  | [] => 0
  | t :: r => t.big + bigs r
end
theorem size_eq (t : Syn) : t.size = 1 + sizes t.l := by cases t; rw [Syn.size]
theorem depth_eq (t : Syn) : t.depth = depths t.l + 1 := by cases t; rw [Syn.depth]
theorem big_eq (t : Syn) : t.big = 1 + t.names.length + bigs t.l := by cases t; rw [Syn.big]
theorem sizes_nil : sizes [] = 0 := by rw [sizes]
theorem sizes_cons (t : Syn) (r : List Syn) : sizes (t :: r) = t.size + sizes r := by rw [sizes]
theorem depths_nil : depths [] = 0 := by rw [depths]
theorem depths_cons (t : Syn) (r : List Syn) : depths (t :: r) = max t.depth (depths r) := by rw [depths]
theorem bigs_nil : bigs [] = 0 := by rw [bigs]
theorem bigs_cons (t : Syn) (r : List Syn) : bigs (t :: r) = t.big + bigs r := by rw [bigs]
theorem sizes_app (a b : List Syn) : sizes (a ++ b) = sizes a + sizes b := by
  induction a with
  | nil => rw [sizes_nil]; simp
  | cons t r ih => rw [List.cons_append, sizes_cons, sizes_cons, ih]; omega
theorem bigs_app (a b : List Syn) : bigs (a ++ b) = bigs a + bigs b := by
  induction a with
  | nil => rw [bigs_nil]; simp
  | cons t r ih => rw [List.cons_append, bigs_cons, bigs_cons, ih]; omega
theorem depths_app (a b : List Syn) : depths (a ++ b) = max (depths a) (depths b) := by
  induction a with
  | nil => rw [depths_nil]; simp
  | cons t r ih => rw [List.cons_append, depths_cons, depths_cons, ih]; omega
theorem size_pos (t : Syn) : 1 ≤ t.size := by rw [size_eq]; omega
theorem depth_pos (t : Syn) : 1 ≤ t.depth := by rw [depth_eq]; omega
theorem mem_size {t : Syn} {l : List Syn} (h : t ∈ l) : t.size ≤ sizes l := by
  induction l with
  | nil => cases h
  | cons a r ih =>
    rw [sizes_cons]
    cases h with
    | head => omega
    | tail _ h => have := ih h; omega
theorem mem_big {t : Syn} {l : List Syn} (h : t ∈ l) : t.big ≤ bigs l := by
  induction l with
  | nil => cases h
  | cons a r ih =>
    rw [bigs_cons]
    cases h with
    | head => omega
    | tail _ h => have := ih h; omega
theorem mem_depth {t : Syn} {l : List Syn} (h : t ∈ l) : t.depth ≤ depths l := by
  induction l with
  | nil => cases h
  | cons a r ih =>
    rw [depths_cons]
    cases h with
    | head => omega
    | tail _ h => have := ih h; omega
theorem len_sizes (l : List Syn) : l.length ≤ sizes l := by
  induction l with
  | nil => rw [sizes_nil]; exact Nat.le_refl _
  | cons a r ih => rw [sizes_cons, List.length_cons]; have := size_pos a; omega
theorem sizes_bigs_of (l : List Syn) (h : ∀ t ∈ l, t.size ≤ t.big) : sizes l ≤ bigs l := by
  induction l with
  | nil => rw [sizes_nil, bigs_nil]; exact Nat.le_refl _
  | cons a r ih =>
    rw [sizes_cons, bigs_cons]
    have h1 := h a List.mem_cons_self
    have h2 := ih (fun t ht => h t (List.mem_cons_of_mem _ ht))
    omega
/-- what holds of a tree if it holds of its parts, holds of all trees -/
theorem Syn.ind {P : Syn → Prop} (h : ∀ t : Syn, (∀ x ∈ t.l, P x) → P t) : ∀ t, P t := by
  have main : ∀ (n : Nat) (t : Syn), t.size ≤ n → P t := by
    intro n
    induction n with
    | zero => intro t ht; have := size_pos t; omega
    | succ n ih =>
      intro t ht
      refine h t (fun x hx => ih x ?_)
      have := mem_size hx
      rw [size_eq] at ht
      omega
  exact fun t => main t.size t (Nat.le_refl _)
theorem size_big (t : Syn) : t.size ≤ t.big := by
  induction t using Syn.ind with
  | h t ih =>
    rw [size_eq, big_eq]
    have := sizes_bigs_of t.l ih
    omega
theorem depths_sizes_of (l : List Syn) (h : ∀ t ∈ l, t.depth ≤ t.size) : depths l ≤ sizes l := by
  induction l with
  | nil => rw [sizes_nil, depths_nil]; exact Nat.le_refl _
  | cons a r ih =>
    rw [sizes_cons, depths_cons]
    have h1 := h a List.mem_cons_self
    have h2 := ih (fun t ht => h t (List.mem_cons_of_mem _ ht))
    omega
theorem depth_size (t : Syn) : t.depth ≤ t.size := by
  induction t using Syn.ind with
  | h t ih =>
    rw [size_eq, depth_eq]
    have := depths_sizes_of t.l ih
    omega
theorem len_big (t : Syn) : t.l.length + t.names.length < t.big := by
  rw [big_eq]
  have h1 := len_sizes t.l
  have h2 := sizes_bigs_of t.l (fun x _ => size_big x)
  omega
theorem get_mem' (l : List Syn) (j : Nat) (h : j < l.length) : l[j] ∈ l := List.getElem_mem h
theorem take_sizes (l : List Syn) (j : Nat) : sizes (l.take j) ≤ sizes l := by
  have h := sizes_app (l.take j) (l.drop j)
  rw [List.take_append_drop] at h
  omega
theorem take_depths (l : List Syn) (j : Nat) : depths (l.take j) ≤ depths l := by
  have h := depths_app (l.take j) (l.drop j)
  rw [List.take_append_drop] at h
  omega
theorem sizes_snoc (l : List Syn) (j : Nat) (h : j < l.length) : sizes (l.take (j + 1)) = sizes (l.take j) + l[j].size := by
  rw [List.take_succ_eq_append_getElem h, sizes_app, sizes_cons, sizes_nil]; rfl
theorem depths_snoc (l : List Syn) (j : Nat) (h : j < l.length) : depths (l.take (j + 1)) = max (depths (l.take j)) l[j].depth := by
  rw [List.take_succ_eq_append_getElem h, depths_app, depths_cons, depths_nil]; simp
/-- the paths -/
def hasPath (op : Int) : Bool := decide (op = 2 ∨ op = 5 ∨ op = 14 ∨ op = 23 ∨ op = 24 ∨ op = 34 ∨ op = 48 ∨ op = 49 ∨ op = 66 ∨ op = 72 ∨ op = 74 ∨ op = 82)
mutual
def Syn.paths : Syn → List (List ByteArray)
  | ⟨op, _, _, names, l⟩ => (if hasPath op then [names] else []) ++ pathss l
def pathss : List Syn → List (List ByteArray)
  | [] => []
  | t :: r => t.paths ++ pathss r
end
theorem paths_eq (t : Syn) : t.paths = (if hasPath t.op then [t.names] else []) ++ pathss t.l := by cases t; rw [Syn.paths]
theorem pathss_nil : pathss [] = [] := by rw [pathss]
theorem pathss_cons (t : Syn) (r : List Syn) : pathss (t :: r) = t.paths ++ pathss r := by rw [pathss]
theorem pathss_app (a b : List Syn) : pathss (a ++ b) = pathss a ++ pathss b := by
  induction a with
  | nil => rw [pathss_nil]; simp
  | cons t r ih => rw [List.cons_append, pathss_cons, pathss_cons, ih]; simp
theorem pathss_snoc (l : List Syn) (j : Nat) (h : j < l.length) : pathss (l.take (j + 1)) = pathss (l.take j) ++ l[j].paths := by
  rw [List.take_succ_eq_append_getElem h, pathss_app, pathss_cons, pathss_nil]; simp
theorem len_paths (t : Syn) : t.paths.length ≤ t.size := by
  induction t using Syn.ind with
  | h t ih =>
    rw [paths_eq, size_eq, List.length_append]
    have h1 : (if hasPath t.op then [t.names] else []).length ≤ 1 := by split <;> simp
    have h2 : ∀ l : List Syn, (∀ x ∈ l, x.paths.length ≤ x.size) → (pathss l).length ≤ sizes l := by
      intro l
      induction l with
      | nil => intro _; rw [pathss_nil, sizes_nil]; simp
      | cons a r ihr =>
        intro hl
        rw [pathss_cons, sizes_cons, List.length_append]
        have := hl a List.mem_cons_self
        have := ihr (fun x hx => hl x (List.mem_cons_of_mem _ hx))
        omega
    have := h2 t.l ih
    omega
/-- a tree with another one at a place -/
def put : List Int → Syn → Syn → Option Syn
  | [], _, by' => some by'
  | i :: r, t, by' => if h : 0 ≤ i ∧ i.toNat < t.l.length then (put r (t.l[i.toNat]'h.2) by').map (fun x => { t with l := t.l.set i.toNat x }) else none
def find : List Int → Syn → Option Syn
  | [], t => some t
  | i :: r, t => if h : 0 ≤ i ∧ i.toNat < t.l.length then find r (t.l[i.toNat]'h.2) else none
theorem sizes_set (l : List Syn) (j : Nat) (h : j < l.length) (x : Syn) : sizes (l.set j x) + l[j].size = sizes l + x.size := by
  induction l generalizing j with
  | nil => simp at h
  | cons a r ih =>
    cases j with
    | zero => simp only [List.set_cons_zero, sizes_cons, List.getElem_cons_zero]; omega
    | succ j =>
      simp only [List.set_cons_succ, sizes_cons, List.getElem_cons_succ]
      have := ih j (by simpa using h)
      omega
theorem bigs_set (l : List Syn) (j : Nat) (h : j < l.length) (x : Syn) : bigs (l.set j x) + l[j].big = bigs l + x.big := by
  induction l generalizing j with
  | nil => simp at h
  | cons a r ih =>
    cases j with
    | zero => simp only [List.set_cons_zero, bigs_cons, List.getElem_cons_zero]; omega
    | succ j =>
      simp only [List.set_cons_succ, bigs_cons, List.getElem_cons_succ]
      have := ih j (by simpa using h)
      omega
theorem put_none (at' : List Int) : ∀ t by' : Syn, put at' t by' = none ↔ find at' t = none := by
  induction at' with
  | nil => intro t by'; simp [put, find]
  | cons i r ih =>
    intro t by'
    rw [put, find]
    by_cases h : 0 ≤ i ∧ i.toNat < t.l.length
    · rw [dif_pos h, dif_pos h, Option.map_eq_none_iff]; exact ih _ _
    · rw [dif_neg h, dif_neg h]
theorem put_big (at' : List Int) : ∀ t by' x : Syn, put at' t by' = some x → x.big ≤ t.big + by'.big := by
  induction at' with
  | nil => intro t by' x h; simp [put] at h; subst h; omega
  | cons i r ih =>
    intro t by' x h
    rw [put] at h
    by_cases hi : 0 ≤ i ∧ i.toNat < t.l.length
    · rw [dif_pos hi, Option.map_eq_some_iff] at h
      obtain ⟨y, hy, rfl⟩ := h
      have h1 := ih _ _ _ hy
      have h2 := bigs_set t.l i.toNat hi.2 y
      rw [big_eq, big_eq t]
      show 1 + t.names.length + bigs (t.l.set i.toNat y) ≤ _
      omega
    · rw [dif_neg hi] at h; cases h
/-- putting, finding, and putting again -/
theorem put_find (at' : List Int) : ∀ t by' x : Syn, put at' t by' = some x → find at' x = some by' := by
  induction at' with
  | nil => intro t by' x h; simp [put] at h; subst h; rfl
  | cons i r ih =>
    intro t by' x h
    rw [put] at h
    by_cases hi : 0 ≤ i ∧ i.toNat < t.l.length
    · rw [dif_pos hi, Option.map_eq_some_iff] at h
      obtain ⟨y, hy, rfl⟩ := h
      rw [find, dif_pos (by simpa using hi)]
      simpa using ih _ _ _ hy
    · rw [dif_neg hi] at h; cases h
theorem put_self (at' : List Int) : ∀ t old : Syn, find at' t = some old → put at' t old = some t := by
  induction at' with
  | nil => intro t old h; simp [find] at h; subst h; rfl
  | cons i r ih =>
    intro t old h
    rw [find] at h
    by_cases hi : 0 ≤ i ∧ i.toNat < t.l.length
    · rw [dif_pos hi] at h
      rw [put, dif_pos hi, ih _ _ h]
      cases t
      simp
    · rw [dif_neg hi] at h; cases h
theorem put_put (at' : List Int) : ∀ t by' x z : Syn, put at' t by' = some x → put at' x z = put at' t z := by
  induction at' with
  | nil => intro t by' x z h; rfl
  | cons i r ih =>
    intro t by' x z h
    rw [put] at h
    by_cases hi : 0 ≤ i ∧ i.toNat < t.l.length
    · rw [dif_pos hi, Option.map_eq_some_iff] at h
      obtain ⟨y, hy, rfl⟩ := h
      rw [put, put, dif_pos hi, dif_pos (by simpa using hi)]
      have := ih _ _ _ z hy
      simp only [List.getElem_set_self, this, List.set_set]
    · rw [dif_neg hi] at h; cases h
theorem put_size (at' : List Int) : ∀ t by' x old : Syn, put at' t by' = some x → find at' t = some old → x.size + old.size = t.size + by'.size := by
  induction at' with
  | nil => intro t by' x old h h'; simp [put] at h; simp [find] at h'; subst h h'; omega
  | cons i r ih =>
    intro t by' x old h h'
    rw [put] at h
    rw [find] at h'
    by_cases hi : 0 ≤ i ∧ i.toNat < t.l.length
    · rw [dif_pos hi, Option.map_eq_some_iff] at h
      rw [dif_pos hi] at h'
      obtain ⟨y, hy, rfl⟩ := h
      have h1 := ih _ _ _ _ hy h'
      have h2 := sizes_set t.l i.toNat hi.2 y
      rw [size_eq, size_eq t]
      show 1 + sizes (t.l.set i.toNat y) + _ = _
      omega
    · rw [dif_neg hi] at h; cases h
end Go.Proofs.Ytkhpihacjhhklaa.Pl

/-
  Plain mathematics of layer 3: the forms of nodes, as the program and as the reference look them up. No program.
-/
namespace Go.Proofs.Ytkhpihacjhhklaa.Pl
open Go

def cat (op : Int) : Int :=
  if op = 30 ∨ op = 45 then 0 else if 1 ≤ op ∧ op ≤ 5 then 1 else if 11 ≤ op ∧ op ≤ 15 then 2 else if 21 ≤ op ∧ op ≤ 34 then 3 else if 41 ≤ op ∧ op ≤ 50 then 4
  else if 61 ≤ op ∧ op ≤ 66 then 5 else if 71 ≤ op ∧ op ≤ 74 then 6 else if 81 ≤ op ∧ op ≤ 88 then 7 else 0
def bel (op c : Int) : Bool := if op = 43 ∨ op = 44 then decide (c = 4 ∨ c = 5) else decide (c ≠ 0 ∧ c = cat op)
def rbel (op c : Int) : Bool := decide (cat op = c ∨ (c = 5 ∧ (op = 43 ∨ op = 44)))
theorem cat_range (op : Int) : 0 ≤ cat op ∧ cat op ≤ 7 := by
  unfold cat; repeat' split
  all_goals omega
theorem bel_eq (op c : Int) (h : c ≠ 0) : bel op c = rbel op c := by
  unfold bel rbel
  split
  · next h1 =>
    have : cat op = 4 := by unfold cat; rcases h1 with rfl | rfl <;> decide
    rw [this, Bool.eq_iff_iff, decide_eq_true_eq, decide_eq_true_eq]; omega
  · next h1 => rw [Bool.eq_iff_iff, decide_eq_true_eq, decide_eq_true_eq]; omega
theorem bel_zero (op : Int) : bel op 0 = false := by
  unfold bel; split <;> simp
def parts : List Syn → List Int → Bool
  | [], [] => true
  | t :: r, c :: cs => bel t.op c && parts r cs
  | _, _ => false
def allOf (l : List Syn) (c : Int) : Bool := l.all fun t => bel t.op c
def kinds (l : List Syn) (ks : List Int) : Bool := l.all fun t => ks.contains t.op
def tuple (l : List Syn) (c : Int) : Bool := decide (2 ≤ l.length ∧ l.length ≤ 9) && allOf l c
def emptyS (s : ByteArray) : Bool := s.toList.isEmpty
def lowS (s : ByteArray) : Bool := isLower s.toList
def upS (s : ByteArray) : Bool := isUpper s.toList
def varS (s : ByteArray) : Bool := isVar s.toList
def okByte (b : UInt8) : Bool := decide ((b.toNat : Int) = 10 ∨ (32 ≤ (b.toNat : Int) ∧ (b.toNat : Int) ≤ 126))
def textS (s : ByteArray) : Bool := decide (s.size ≤ 16384) && s.toList.all okByte
def path (low : Bool) : List ByteArray → Bool
  | [] => false
  | [z] => if low then lowS z else upS z
  | z :: y :: r => upS z && path low (y :: r)
def pathOk (low : Bool) (l : List ByteArray) : Bool := decide (l.length ≤ 8) && path low l
def noTwin (l : List ByteArray) : Bool := decide l.Nodup
def params (l : List ByteArray) : Bool := decide (l.length ≤ 4) && l.all varS && noTwin l
def num (op n : Int) : Bool :=
  if op = 13 then decide (-4503599627370496 ≤ n ∧ n ≤ 4503599627370496) else if op = 21 then decide (0 ≤ n ∧ n ≤ 4503599627370496) else if op = 32 then decide (1 ≤ n ∧ n ≤ 12)
  else if op = 73 ∨ op = 83 then decide (n = 0 ∨ n = 1) else decide (n = 0)
def txt (op around : Int) (s : ByteArray) : Bool :=
  if op = 1 then varS s else if op = 12 ∨ op = 41 ∨ op = 42 ∨ op = 44 ∨ op = 61 ∨ op = 62 then lowS s
  else if op = 45 ∨ op = 46 ∨ op = 47 ∨ op = 50 ∨ op = 63 ∨ op = 64 ∨ op = 73 ∨ op = 83 then upS s
  else if op = 25 then emptyS s || lowS s else if op = 22 then textS s else if op = 43 then (if around = 74 then emptyS s else lowS s) else emptyS s
def lowEnd (op : Int) : Bool := decide (op = 2 ∨ op = 23 ∨ op = 66 ∨ op = 74)
def nam (op : Int) (l : List ByteArray) : Bool :=
  if hasPath op then pathOk (lowEnd op) l else if op = 42 then decide (1 ≤ l.length ∧ l.length ≤ 9) && l.all lowS
  else if op = 43 ∨ op = 44 ∨ op = 62 then params l else decide (l.length = 0)
def opAt (l : List Syn) (j : Nat) : Int := (l.getD j none0).op
def core (op n : Int) (l : List Syn) : Bool :=
  if op = 1 ∨ op = 5 ∨ op = 11 ∨ op = 12 ∨ op = 13 ∨ op = 21 ∨ op = 22 ∨ op = 23 ∨ op = 24 then parts l []
  else if op = 2 then decide (l.length ≤ 4) && allOf l 1
  else if op = 3 then parts l [1, 1]
  else if op = 4 then tuple l 1
  else if op = 14 then parts l [] || parts l [2]
  else if op = 15 then parts l [] || tuple l 2
  else if op = 25 then parts l [3]
  else if op = 26 then parts l [3, 3]
  else if op = 27 then parts l [] || tuple l 3
  else if op = 28 then parts l [3, 3, 3]
  else if op = 29 then decide (1 < l.length) && parts (l.take 1) [3] && kinds (l.drop 1) [30]
  else if op = 30 then parts l [2, 3]
  else if op = 31 then decide (1 ≤ l.length) && kinds (l.take (l.length - 1)) [41, 42, 50] && parts (l.drop (l.length - 1)) [3]
  else if op = 32 then (if n = 12 then parts l [3] else parts l [3, 3])
  else if op = 33 then parts l [3, 1]
  else if op = 34 then parts l [6] && decide (opAt l 0 = 72)
  else false
def modl (op : Int) (l : List Syn) : Bool :=
  if op = 48 ∨ op = 49 ∨ op = 62 ∨ op = 72 ∨ op = 82 then parts l []
  else if op = 41 ∨ op = 42 then parts l [3]
  else if op = 43 ∨ op = 61 then parts l [1]
  else if op = 44 then decide (0 < l.length) && kinds l [45] && noTwin (l.map Syn.s)
  else if op = 45 then parts l [] || parts l [1]
  else if op = 46 then parts l [7]
  else if op = 47 ∨ op = 63 ∨ op = 64 ∨ op = 65 then parts l [6]
  else if op = 50 ∨ op = 88 then parts l [3, 6] && decide (opAt l 1 = 72)
  else if op = 66 then parts l [1] && decide (opAt l 0 = 2) && decide ((l.getD 0 none0).l.length = 0)
  else if op = 71 then allOf l 5
  else if op = 73 then parts l [6, 6]
  else if op = 74 then parts l [6, 4] && decide (opAt l 1 = 43)
  else if op = 81 then allOf l 4
  else if op = 83 then parts l [6, 7]
  else if op = 84 then parts l [7, 7]
  else if op = 85 ∨ op = 86 then parts l [7, 6]
  else if op = 87 then decide (1 ≤ l.length) && allOf (l.take (l.length - 1)) 4 && parts (l.drop (l.length - 1)) [7]
  else false
/-- the form that the program looks up -/
def form (t : Syn) (around : Int) : Bool := num t.op t.n && txt t.op around t.s && nam t.op t.names && (core t.op t.n t.l || modl t.op t.l)

/-- the reference's words -/
def rall (l : List Syn) (c : Int) : Bool := l.all fun t => rbel t.op c
def exact : List Syn → List Int → Bool
  | [], [] => true
  | t :: r, c :: cs => (if c = 0 then decide (t.op = 72) else rbel t.op c) && exact r cs
  | _, _ => false
def bare (t : Syn) (n s m : Bool) : Bool := (n || decide (t.n = 0)) && (s || emptyS t.s) && (m || decide (t.names.length = 0))
def typeF (t : Syn) : Bool :=
  if t.op = 1 then bare t false true false && varS t.s && decide (t.l.length = 0)
  else if t.op = 2 then bare t false false true && pathOk true t.names && decide (t.l.length ≤ 4) && rall t.l 1
  else if t.op = 3 then bare t false false false && exact t.l [1, 1]
  else if t.op = 4 then bare t false false false && decide (2 ≤ t.l.length) && decide (t.l.length ≤ 9) && rall t.l 1
  else bare t false false true && pathOk false t.names && decide (t.l.length = 0)
def patF (t : Syn) : Bool :=
  if t.op = 11 then bare t false false false && decide (t.l.length = 0)
  else if t.op = 12 then bare t false true false && lowS t.s && decide (t.l.length = 0)
  else if t.op = 13 then bare t true false false && decide (-4503599627370496 ≤ t.n) && decide (t.n ≤ 4503599627370496) && decide (t.l.length = 0)
  else if t.op = 14 then bare t false false true && pathOk false t.names && decide (t.l.length ≤ 1) && rall t.l 2
  else bare t false false false && decide (t.l.length ≠ 1) && decide (t.l.length ≤ 9) && rall t.l 2
def exprF (t : Syn) : Bool :=
  if t.op = 21 then bare t true false false && decide (0 ≤ t.n) && decide (t.n ≤ 4503599627370496) && decide (t.l.length = 0)
  else if t.op = 22 then bare t false true false && textS t.s && decide (t.l.length = 0)
  else if t.op = 23 then bare t false false true && pathOk true t.names && decide (t.l.length = 0)
  else if t.op = 24 then bare t false false true && pathOk false t.names && decide (t.l.length = 0)
  else if t.op = 25 then bare t false true false && (emptyS t.s || lowS t.s) && exact t.l [3]
  else if t.op = 26 then bare t false false false && exact t.l [3, 3]
  else if t.op = 27 then bare t false false false && decide (t.l.length ≠ 1) && decide (t.l.length ≤ 9) && rall t.l 3
  else if t.op = 28 then bare t false false false && exact t.l [3, 3, 3]
  else if t.op = 29 then bare t false false false && decide (2 ≤ t.l.length) && rall (t.l.take 1) 3 && kinds (t.l.drop 1) [30]
  else if t.op = 30 then bare t false false false && exact t.l [2, 3]
  else if t.op = 31 then bare t false false false && decide (1 ≤ t.l.length) && rall (t.l.drop (t.l.length - 1)) 3 && kinds (t.l.take (t.l.length - 1)) [41, 42, 50]
  else if t.op = 32 then (if t.n = 12 then bare t true false false && exact t.l [3] else bare t true false false && decide (1 ≤ t.n) && decide (t.n ≤ 11) && exact t.l [3, 3])
  else if t.op = 33 then bare t false false false && exact t.l [3, 1]
  else bare t false false true && pathOk false t.names && exact t.l [0]
def declF (t : Syn) : Bool :=
  if t.op = 41 then bare t false true false && lowS t.s && exact t.l [3]
  else if t.op = 42 then bare t false true true && lowS t.s && decide (1 ≤ t.names.length) && decide (t.names.length ≤ 9) && t.names.all lowS && exact t.l [3]
  else if t.op = 43 then bare t false true true && (emptyS t.s || lowS t.s) && params t.names && exact t.l [1]
  else if t.op = 44 then bare t false true true && lowS t.s && params t.names && decide (1 ≤ t.l.length) && (kinds t.l [45] && noTwin (t.l.map Syn.s))
  else if t.op = 45 then bare t false true false && upS t.s && decide (t.l.length ≤ 1) && rall t.l 1
  else if t.op = 46 then bare t false true false && upS t.s && exact t.l [7]
  else if t.op = 47 then bare t false true false && upS t.s && exact t.l [6]
  else if t.op = 48 ∨ t.op = 49 then bare t false false true && pathOk false t.names && decide (t.l.length = 0)
  else bare t false true false && upS t.s && exact t.l [3, 0]
def specF (t : Syn) : Bool :=
  if t.op = 61 then bare t false true false && lowS t.s && exact t.l [1]
  else if t.op = 62 then bare t false true true && lowS t.s && params t.names && decide (t.l.length = 0)
  else if t.op = 63 ∨ t.op = 64 then bare t false true false && upS t.s && exact t.l [6]
  else if t.op = 65 then bare t false false false && exact t.l [6]
  else if t.op = 66 then bare t false false true && pathOk true t.names && decide (t.l.length = 1) && decide (opAt t.l 0 = 2) && decide ((t.l.getD 0 none0).l.length = 0)
  else if t.op = 71 then bare t false false false && rall t.l 5
  else if t.op = 72 then bare t false false true && pathOk false t.names && decide (t.l.length = 0)
  else if t.op = 73 then bare t true true false && decide (t.n = 0 ∨ t.n = 1) && upS t.s && exact t.l [6, 6]
  else bare t false false true && pathOk true t.names && decide (t.l.length = 2) && rall (t.l.take 1) 6 && decide (opAt t.l 1 = 43) && emptyS (t.l.getD 1 none0).s
def modF (t : Syn) : Bool :=
  if t.op = 81 then bare t false false false && rall t.l 4
  else if t.op = 82 then bare t false false true && pathOk false t.names && decide (t.l.length = 0)
  else if t.op = 83 then bare t true true false && decide (t.n = 0 ∨ t.n = 1) && upS t.s && exact t.l [6, 7]
  else if t.op = 84 then bare t false false false && exact t.l [7, 7]
  else if t.op = 85 ∨ t.op = 86 then bare t false false false && exact t.l [7, 6]
  else if t.op = 87 then bare t false false false && decide (1 ≤ t.l.length) && rall (t.l.take (t.l.length - 1)) 4 && rall (t.l.drop (t.l.length - 1)) 7
  else bare t false false false && exact t.l [3, 0]
def rform (t : Syn) (anon : Bool) : Bool :=
  if t.op = 43 ∧ emptyS t.s ≠ anon then false
  else if cat t.op = 1 then typeF t
  else if cat t.op = 2 then patF t
  else if cat t.op = 3 ∨ t.op = 30 then exprF t
  else if cat t.op = 4 ∨ t.op = 45 then declF t
  else if cat t.op = 5 ∨ cat t.op = 6 then specF t
  else decide (cat t.op = 7) && modF t
end Go.Proofs.Ytkhpihacjhhklaa.Pl

/-
  Plain mathematics of layer 3: the two ways to look up a form agree. No program.
-/
namespace Go.Proofs.Ytkhpihacjhhklaa.Pl
open Go

theorem parts_nil (l : List Syn) : parts l [] = decide (l.length = 0) := by cases l <;> simp [parts]
theorem parts_exact (l : List Syn) : ∀ cs : List Int, (∀ c ∈ cs, c ≠ 0) → parts l cs = exact l cs := by
  induction l with
  | nil => intro cs _; cases cs <;> rfl
  | cons t r ih =>
    intro cs h
    cases cs with
    | nil => rfl
    | cons c cs =>
      rw [parts, exact, ih cs (fun x hx => h x (List.mem_cons_of_mem _ hx)), bel_eq _ _ (h c List.mem_cons_self), if_neg (h c List.mem_cons_self)]
theorem allOf_eq (l : List Syn) (c : Int) (h : c ≠ 0) : allOf l c = rall l c := by
  unfold allOf rall
  congr 1
  funext t
  exact bel_eq _ _ h
theorem rall_one (t : Syn) (c : Int) : rall [t] c = rbel t.op c := by simp [rall]
theorem parts_one (l : List Syn) (c : Int) (h : c ≠ 0) : parts l [c] = (decide (l.length = 1) && rall l c) := by
  match l with
  | [] => rfl
  | [t] => simp [parts, rall, bel_eq _ _ h]
  | t :: u :: r => simp [parts]
theorem parts_opt (l : List Syn) (c : Int) (h : c ≠ 0) : (parts l [] || parts l [c]) = (decide (l.length ≤ 1) && rall l c) := by
  rw [parts_nil, parts_one l c h]
  match l with
  | [] => simp [rall]
  | [t] => simp
  | t :: u :: r => simp
theorem parts_tuple (l : List Syn) (c : Int) (h : c ≠ 0) : (parts l [] || tuple l c) = (decide (l.length ≠ 1) && decide (l.length ≤ 9) && rall l c) := by
  rw [parts_nil, tuple, allOf_eq l c h]
  match l with
  | [] => simp [rall]
  | [t] => simp
  | t :: u :: r => simp
theorem tuple_eq (l : List Syn) (c : Int) (h : c ≠ 0) : tuple l c = (decide (2 ≤ l.length) && decide (l.length ≤ 9) && rall l c) := by
  rw [tuple, allOf_eq l c h, Bool.decide_and]
theorem exact_zero (l : List Syn) : (parts l [6] && decide (opAt l 0 = 72)) = exact l [0] := by
  match l with
  | [] => rfl
  | [t] =>
    simp only [parts, exact, opAt, List.getD_cons_zero, if_true, Bool.and_true]
    by_cases h : t.op = 72
    · rw [h]; rfl
    · simp [h]
  | t :: u :: r => simp [parts, exact]
theorem exact_two (l : List Syn) : (parts l [3, 6] && decide (opAt l 1 = 72)) = exact l [3, 0] := by
  match l with
  | [] => rfl
  | [t] => simp [parts, exact]
  | [t, u] =>
    simp only [parts, exact, opAt, List.getD_cons_succ, List.getD_cons_zero, if_true, Bool.and_true]
    rw [bel_eq _ 3 (by decide), if_neg (by decide)]
    by_cases h : u.op = 72
    · rw [h]; simp [bel, cat]
    · simp [h]
  | t :: u :: x :: r => simp [parts, exact]
theorem share_eq (l : List Syn) : (parts l [1] && decide (opAt l 0 = 2) && decide ((l.getD 0 none0).l.length = 0)) = (decide (l.length = 1) && decide (opAt l 0 = 2) && decide ((l.getD 0 none0).l.length = 0)) := by
  match l with
  | [] => rfl
  | [t] =>
    simp only [parts, opAt, List.getD_cons_zero, Bool.and_true, List.length_cons, List.length_nil]
    by_cases h : t.op = 2
    · rw [h]; rfl
    · simp [h]
  | t :: u :: r => simp [parts]
theorem with_eq (l : List Syn) : (parts l [6, 4] && decide (opAt l 1 = 43)) = (decide (l.length = 2) && rall (l.take 1) 6 && decide (opAt l 1 = 43)) := by
  match l with
  | [] => rfl
  | [t] => simp [parts]
  | [t, u] =>
    simp only [parts, opAt, List.getD_cons_succ, List.getD_cons_zero, Bool.and_true, List.length_cons, List.length_nil, List.take_succ_cons, List.take_zero, rall_one]
    rw [bel_eq _ 6 (by decide)]
    by_cases h : u.op = 43
    · rw [h]; simp [bel]
    · simp [h]
  | t :: u :: x :: r => simp [parts]
theorem case_eq (l : List Syn) : (decide (1 < l.length) && parts (l.take 1) [3] && kinds (l.drop 1) [30]) = (decide (2 ≤ l.length) && rall (l.take 1) 3 && kinds (l.drop 1) [30]) := by
  match l with
  | [] => rfl
  | [t] => simp
  | t :: u :: r => simp [parts, rall, bel_eq _ 3 (by decide)]
theorem last_eq (l : List Syn) (c : Int) (hc : c ≠ 0) (h : 1 ≤ l.length) : parts (l.drop (l.length - 1)) [c] = rall (l.drop (l.length - 1)) c := by
  rw [parts_one _ _ hc]
  have : (l.drop (l.length - 1)).length = 1 := by rw [List.length_drop]; omega
  rw [this]; simp
theorem let_eq (l : List Syn) : (decide (1 ≤ l.length) && kinds (l.take (l.length - 1)) [41, 42, 50] && parts (l.drop (l.length - 1)) [3]) = (decide (1 ≤ l.length) && rall (l.drop (l.length - 1)) 3 && kinds (l.take (l.length - 1)) [41, 42, 50]) := by
  by_cases h : 1 ≤ l.length
  · rw [last_eq l 3 (by decide) h]; simp only [decide_eq_true h, Bool.true_and, Bool.and_comm]
  · simp [h]
theorem mlet_eq (l : List Syn) : (decide (1 ≤ l.length) && allOf (l.take (l.length - 1)) 4 && parts (l.drop (l.length - 1)) [7]) = (decide (1 ≤ l.length) && rall (l.take (l.length - 1)) 4 && rall (l.drop (l.length - 1)) 7) := by
  by_cases h : 1 ≤ l.length
  · rw [last_eq l 7 (by decide) h, allOf_eq _ 4 (by decide)]
  · simp [h]
theorem core_or (op n : Int) (l : List Syn) (h : op ≤ 40) : (core op n l || modl op l) = core op n l := by
  have : modl op l = false := by
    unfold modl
    repeat' rw [if_neg (by omega)]
  rw [this, Bool.or_false]
theorem modl_or (op n : Int) (l : List Syn) (h : 40 ≤ op) : (core op n l || modl op l) = modl op l := by
  have : core op n l = false := by
    unfold core
    repeat' rw [if_neg (by omega)]
  rw [this, Bool.false_or]
theorem low_not_empty (s : ByteArray) (h : lowS s = true) : emptyS s = false := by
  have := isLower_le _ h
  unfold emptyS
  cases hs : s.toList
  · rw [hs] at this; simp at this
  · rfl
end Go.Proofs.Ytkhpihacjhhklaa.Pl

/-
  Plain mathematics of layer 3: a form is a form. No program.
-/
namespace Go.Proofs.Ytkhpihacjhhklaa.Pl
open Go
set_option linter.unusedSimpArgs false

theorem p1 (l : List Syn) : parts l [1] = exact l [1] := parts_exact _ _ (by decide)
theorem p3 (l : List Syn) : parts l [3] = exact l [3] := parts_exact _ _ (by decide)
theorem p6 (l : List Syn) : parts l [6] = exact l [6] := parts_exact _ _ (by decide)
theorem p7 (l : List Syn) : parts l [7] = exact l [7] := parts_exact _ _ (by decide)
theorem p11 (l : List Syn) : parts l [1, 1] = exact l [1, 1] := parts_exact _ _ (by decide)
theorem p33 (l : List Syn) : parts l [3, 3] = exact l [3, 3] := parts_exact _ _ (by decide)
theorem p333 (l : List Syn) : parts l [3, 3, 3] = exact l [3, 3, 3] := parts_exact _ _ (by decide)
theorem p23 (l : List Syn) : parts l [2, 3] = exact l [2, 3] := parts_exact _ _ (by decide)
theorem p31 (l : List Syn) : parts l [3, 1] = exact l [3, 1] := parts_exact _ _ (by decide)
theorem p66 (l : List Syn) : parts l [6, 6] = exact l [6, 6] := parts_exact _ _ (by decide)
theorem p67 (l : List Syn) : parts l [6, 7] = exact l [6, 7] := parts_exact _ _ (by decide)
theorem p77 (l : List Syn) : parts l [7, 7] = exact l [7, 7] := parts_exact _ _ (by decide)
theorem p76 (l : List Syn) : parts l [7, 6] = exact l [7, 6] := parts_exact _ _ (by decide)
theorem o1 (l : List Syn) : (parts l [] || parts l [1]) = (decide (l.length ≤ 1) && rall l 1) := parts_opt l 1 (by decide)
theorem o2 (l : List Syn) : (parts l [] || parts l [2]) = (decide (l.length ≤ 1) && rall l 2) := parts_opt l 2 (by decide)
theorem t2 (l : List Syn) : (parts l [] || tuple l 2) = (decide (l.length ≠ 1) && decide (l.length ≤ 9) && rall l 2) := parts_tuple l 2 (by decide)
theorem t3 (l : List Syn) : (parts l [] || tuple l 3) = (decide (l.length ≠ 1) && decide (l.length ≤ 9) && rall l 3) := parts_tuple l 3 (by decide)
theorem t1 (l : List Syn) : tuple l 1 = (decide (2 ≤ l.length) && decide (l.length ≤ 9) && rall l 1) := tuple_eq l 1 (by decide)
theorem a1 (l : List Syn) : allOf l 1 = rall l 1 := allOf_eq l 1 (by decide)
theorem a4 (l : List Syn) : allOf l 4 = rall l 4 := allOf_eq l 4 (by decide)
theorem a5 (l : List Syn) : allOf l 5 = rall l 5 := allOf_eq l 5 (by decide)
theorem mlet2 (l : List Syn) : (decide (1 ≤ l.length) && rall (l.take (l.length - 1)) 4 && parts (l.drop (l.length - 1)) [7]) = (decide (1 ≤ l.length) && rall (l.take (l.length - 1)) 4 && rall (l.drop (l.length - 1)) 7) := by
  rw [← a4, mlet_eq, a4]
theorem op_eq (n : Int) (l : List Syn) (s m : Bool) : (decide (1 ≤ n) && decide (n ≤ 12) && s && m && (if n = 12 then parts l [3] else parts l [3, 3])) = (if n = 12 then s && m && exact l [3] else s && m && decide (1 ≤ n) && decide (n ≤ 11) && exact l [3, 3]) := by
  by_cases h : n = 12
  · rw [if_pos h, if_pos h, p3, h]; simp
  · rw [if_neg h, if_neg h, p33, show decide (n ≤ 12) = decide (n ≤ 11) from by rw [Bool.eq_iff_iff, decide_eq_true_eq, decide_eq_true_eq]; omega]; ac_rfl
theorem form_low (op n around : Int) (s : ByteArray) (m : List ByteArray) (l : List Syn) (anon : Bool) (h : op ≤ 40) : form ⟨op, n, s, m, l⟩ around = rform ⟨op, n, s, m, l⟩ anon := by
  unfold form
  rw [show (core op n l || modl op l) = core op n l from core_or op n l h]
  have hc : op = 1 ∨ op = 2 ∨ op = 3 ∨ op = 4 ∨ op = 5 ∨ op = 11 ∨ op = 12 ∨ op = 13 ∨ op = 14 ∨ op = 15 ∨ op = 21 ∨ op = 22 ∨ op = 23 ∨ op = 24 ∨ op = 25 ∨ op = 26 ∨ op = 27 ∨ op = 28 ∨ op = 29 ∨ op = 30 ∨ op = 31 ∨ op = 32 ∨ op = 33 ∨ op = 34 ∨
      (op ≠ 1 ∧ op ≠ 2 ∧ op ≠ 3 ∧ op ≠ 4 ∧ op ≠ 5 ∧ op ≠ 11 ∧ op ≠ 12 ∧ op ≠ 13 ∧ op ≠ 14 ∧ op ≠ 15 ∧ ¬ (21 ≤ op ∧ op ≤ 34)) := by omega
  rcases hc with rfl | rfl | rfl | rfl | rfl | rfl | rfl | rfl | rfl | rfl | rfl | rfl | rfl | rfl | rfl | rfl | rfl | rfl | rfl | rfl | rfl | rfl | rfl | rfl | h0
  iterate 24
    · (try simp (config := { decide := true }) only [num, txt, nam, core, rform, cat, typeF, patF, exprF, bare, hasPath, lowEnd, if_true, if_false, or_false, false_or, or_true, true_or, and_true, and_false, false_and, true_and, decide_true, decide_false, Bool.true_or, Bool.false_or, Bool.true_and, Bool.and_true, Bool.or_false, o2, t2, t3, t1, a1, exact_zero, case_eq, let_eq, Bool.decide_and, op_eq])
      (try simp only [parts_nil, p1, p3, p11, p33, p333, p23, p31])
      first | done | ac_rfl
  · have h1 : core op n l = false := by
      unfold core
      repeat' rw [if_neg (by omega)]
    have h2 : cat op = 0 := by
      unfold cat
      repeat' split
      all_goals omega
    have h3 : rform ⟨op, n, s, m, l⟩ anon = false := by
      unfold rform
      rw [if_neg (by show ¬ (op = 43 ∧ _); omega)]
      show (if cat op = 1 then _ else if cat op = 2 then _ else if cat op = 3 ∨ op = 30 then _ else if cat op = 4 ∨ op = 45 then _ else if cat op = 5 ∨ cat op = 6 then _ else decide (cat op = 7) && _) = false
      rw [h2]
      rw [if_neg (by decide), if_neg (by decide), if_neg (by omega), if_neg (by omega), if_neg (by decide)]
      rfl
    rw [h1, h3, Bool.and_false]
theorem form_high (op n around : Int) (s : ByteArray) (m : List ByteArray) (l : List Syn) (anon : Bool) (h : 40 ≤ op) (h43 : op ≠ 43) (h74 : op ≠ 74) : form ⟨op, n, s, m, l⟩ around = rform ⟨op, n, s, m, l⟩ anon := by
  unfold form
  rw [show (core op n l || modl op l) = modl op l from modl_or op n l h]
  have hc : op = 41 ∨ op = 42 ∨ op = 44 ∨ op = 45 ∨ op = 46 ∨ op = 47 ∨ op = 48 ∨ op = 49 ∨ op = 50 ∨ op = 61 ∨ op = 62 ∨ op = 63 ∨ op = 64 ∨ op = 65 ∨ op = 66 ∨ op = 71 ∨ op = 72 ∨ op = 73 ∨ op = 81 ∨ op = 82 ∨ op = 83 ∨ op = 84 ∨ op = 85 ∨ op = 86 ∨ op = 87 ∨ op = 88 ∨
      (¬ (41 ≤ op ∧ op ≤ 50) ∧ ¬ (61 ≤ op ∧ op ≤ 66) ∧ ¬ (71 ≤ op ∧ op ≤ 74) ∧ ¬ (81 ≤ op ∧ op ≤ 88)) := by omega
  rcases hc with rfl | rfl | rfl | rfl | rfl | rfl | rfl | rfl | rfl | rfl | rfl | rfl | rfl | rfl | rfl | rfl | rfl | rfl | rfl | rfl | rfl | rfl | rfl | rfl | rfl | rfl | h0
  iterate 26
    · (try simp (config := { decide := true }) only [num, txt, nam, modl, rform, cat, declF, specF, modF, bare, hasPath, lowEnd, if_true, if_false, or_false, false_or, or_true, true_or, and_true, and_false, false_and, true_and, decide_true, decide_false, Bool.true_or, Bool.false_or, Bool.true_and, Bool.and_true, Bool.or_false, o1, a4, a5, exact_two, share_eq, mlet2, Bool.decide_and, params])
      (try simp only [parts_nil, p1, p3, p6, p7, p66, p67, p77, p76])
      first | done | ac_rfl
  · have h1 : modl op l = false := by
      unfold modl
      repeat' rw [if_neg (by omega)]
    have h2 : cat op = 0 := by
      unfold cat
      repeat' split
      all_goals omega
    have h3 : rform ⟨op, n, s, m, l⟩ anon = false := by
      unfold rform
      rw [if_neg (by show ¬ (op = 43 ∧ _); omega)]
      show (if cat op = 1 then _ else if cat op = 2 then _ else if cat op = 3 ∨ op = 30 then _ else if cat op = 4 ∨ op = 45 then _ else if cat op = 5 ∨ cat op = 6 then _ else decide (cat op = 7) && _) = false
      rw [h2]
      rw [if_neg (by decide), if_neg (by decide), if_neg (by omega), if_neg (by omega), if_neg (by decide)]
      rfl
    rw [h1, h3, Bool.and_false]
theorem form_with (n around : Int) (s : ByteArray) (m : List ByteArray) (l : List Syn) (anon : Bool) : rform ⟨74, n, s, m, l⟩ anon = (form ⟨74, n, s, m, l⟩ around && emptyS (l.getD 1 none0).s) := by
  unfold form
  rw [show (core 74 n l || modl 74 l) = modl 74 l from modl_or 74 n l (by decide)]
  simp (config := { decide := true }) only [num, txt, nam, modl, rform, cat, specF, bare, hasPath, lowEnd, if_true, if_false, or_false, false_or, or_true, true_or, and_true, and_false, false_and, true_and, decide_true, decide_false, Bool.true_or, Bool.false_or, Bool.true_and, Bool.and_true, Bool.or_false, with_eq]
  ac_rfl
theorem form_type (n around : Int) (s : ByteArray) (m : List ByteArray) (l : List Syn) (anon : Bool) (h : around = 74 ↔ anon = true) : form ⟨43, n, s, m, l⟩ around = rform ⟨43, n, s, m, l⟩ anon := by
  unfold form
  rw [show (core 43 n l || modl 43 l) = modl 43 l from modl_or 43 n l (by decide)]
  simp (config := { decide := true }) only [num, txt, nam, modl, rform, cat, declF, bare, hasPath, lowEnd, if_true, if_false, or_false, false_or, or_true, true_or, and_true, and_false, false_and, true_and, decide_true, decide_false, Bool.true_or, Bool.false_or, Bool.true_and, Bool.and_true, Bool.or_false, p1]
  cases anon
  · have h0 : ¬ around = 74 := fun e => by have := h.1 e; cases this
    rw [if_neg h0]
    cases hs : emptyS s
    · simp
    · have : lowS s = false := by
        cases hl : lowS s
        · rfl
        · rw [low_not_empty s hl] at hs; cases hs
      simp [this]
  · rw [if_pos (h.2 rfl)]
    cases hs : emptyS s
    · simp
    · simp
/-- a node's form -/
theorem form_eq (t : Syn) (around : Int) (anon : Bool) (h43 : t.op = 43 → (around = 74 ↔ anon = true)) (h74 : t.op ≠ 74) : form t around = rform t anon := by
  obtain ⟨op, n, s, m, l⟩ := t
  by_cases h : op ≤ 40
  · exact form_low op n around s m l anon h
  · by_cases h1 : op = 43
    · subst h1; exact form_type n around s m l anon (h43 rfl)
    · exact form_high op n around s m l anon (by omega) h1 h74

mutual
def Syn.ok : Syn → Int → Bool
  | ⟨op, n, s, m, l⟩, around => form ⟨op, n, s, m, l⟩ around && oks l op
def oks : List Syn → Int → Bool
  | [], _ => true
  | t :: r, around => t.ok around && oks r around
end
theorem ok_eq (t : Syn) (around : Int) : t.ok around = (form t around && oks t.l t.op) := by obtain ⟨op, n, s, m, l⟩ := t; rw [Syn.ok]
theorem oks_all (l : List Syn) (around : Int) : oks l around = l.all (fun t => t.ok around) := by
  induction l with
  | nil => rw [oks]; rfl
  | cons t r ih => rw [oks, ih]; rfl
/-- the reference's: the second part of a GWith has no name -/
def anonAt (op : Int) (j : Nat) : Bool := decide (op = 74 ∧ j = 1)
mutual
def Syn.nodes : Syn → Bool → Bool
  | ⟨op, n, s, m, l⟩, anon => rform ⟨op, n, s, m, l⟩ anon && nodess l op 0
def nodess : List Syn → Int → Nat → Bool
  | [], _, _ => true
  | t :: r, op, j => t.nodes (anonAt op j) && nodess r op (j + 1)
end
theorem nodes_eq (t : Syn) (anon : Bool) : t.nodes anon = (rform t anon && nodess t.l t.op 0) := by obtain ⟨op, n, s, m, l⟩ := t; rw [Syn.nodes]
theorem nodess_nil (op : Int) (j : Nat) : nodess [] op j = true := by rw [nodess]
theorem nodess_cons (t : Syn) (r : List Syn) (op : Int) (j : Nat) : nodess (t :: r) op j = (t.nodes (anonAt op j) && nodess r op (j + 1)) := by rw [nodess]
theorem oks_nil (op : Int) : oks [] op = true := by rw [oks]
theorem oks_cons (t : Syn) (r : List Syn) (op : Int) : oks (t :: r) op = (t.ok op && oks r op) := by rw [oks]
theorem with_parts (t : Syn) (around : Int) (h : t.op = 74) (hf : form t around = true) : ∃ a b, t.l = [a, b] ∧ a.op ≠ 43 ∧ b.op = 43 := by
  obtain ⟨op, n, s, m, l⟩ := t
  have h' : op = 74 := h
  subst h'
  unfold form at hf
  rw [show (core 74 n l || modl 74 l) = modl 74 l from modl_or 74 n l (by decide)] at hf
  have hm : modl 74 l = true := by
    rw [Bool.and_eq_true] at hf; exact hf.2
  have hm2 : (parts l [6, 4] && decide (opAt l 1 = 43)) = true := hm
  match l, hm2 with
  | [a, b], hm2 =>
    refine ⟨a, b, rfl, fun ha => ?_, ?_⟩
    · simp [parts, ha, bel] at hm2
    · simp [opAt] at hm2; exact hm2.2
  | [], hm2 => simp [parts] at hm2
  | [a], hm2 => simp [parts] at hm2
  | a :: b :: c :: r, hm2 => simp [parts] at hm2
theorem type_empty (t : Syn) (h : t.op = 43) (hf : t.ok 74 = true) : emptyS t.s = true := by
  obtain ⟨op, n, s, m, l⟩ := t
  have h' : op = 43 := h
  subst h'
  rw [ok_eq] at hf
  unfold form at hf
  simp only [Bool.and_eq_true] at hf
  have := hf.1.1.1.2
  simpa [txt] using this
theorem nodes_ok (t : Syn) : ∀ (around : Int) (anon : Bool), (t.op = 43 → (around = 74 ↔ anon = true)) → t.ok around = t.nodes anon := by
  induction t using Syn.ind with
  | h t ih =>
    intro around anon h43
    rw [ok_eq, nodes_eq]
    by_cases h74 : t.op = 74
    · have hw : rform t anon = (form t around && emptyS (t.l.getD 1 none0).s) := by
        obtain ⟨op, n, s, m, l⟩ := t
        have h' : op = 74 := h74
        subst h'
        exact form_with n around s m l anon
      rw [hw]
      cases hf : form t around
      · simp
      · obtain ⟨a, b, hl, ha, hb⟩ := with_parts t around h74 hf
        have iha := ih a (by rw [hl]; simp) 74 (anonAt 74 0) (fun h => absurd h ha)
        have ihb := ih b (by rw [hl]; simp) 74 (anonAt 74 1) (fun _ => by simp [anonAt])
        rw [hl, h74, oks_cons, oks_cons, oks_nil, nodess_cons, nodess_cons, nodess_nil, ← iha, ← ihb]
        have hg : ([a, b].getD 1 none0).s = b.s := rfl
        rw [hg]
        cases hbo : b.ok 74
        · simp
        · rw [type_empty b hb hbo]; simp
    · rw [form_eq t around anon h43 h74]
      have hls : ∀ (l : List Syn) (j : Nat), (∀ x ∈ l, ∀ (around : Int) (anon : Bool), (x.op = 43 → (around = 74 ↔ anon = true)) → x.ok around = x.nodes anon) → oks l t.op = nodess l t.op j := by
        intro l
        induction l with
        | nil => intro j _; rw [oks_nil, nodess_nil]
        | cons x r ihr =>
          intro j hx
          rw [oks_cons, nodess_cons, ihr (j + 1) (fun y hy => hx y (List.mem_cons_of_mem _ hy)), hx x List.mem_cons_self t.op (anonAt t.op j) (fun _ => by simp [anonAt, h74])]
      rw [hls t.l 0 ih]
/-- well-formed -/
def formed (t : Syn) : Bool := decide (t.size ≤ 20000) && decide (t.depth ≤ 400) && t.nodes false
theorem formed_ok (t : Syn) : formed t = (decide (t.size ≤ 20000) && decide (t.depth ≤ 400) && t.ok 0) := by
  unfold formed
  rw [nodes_ok t 0 false (fun _ => by simp)]
end Go.Proofs.Ytkhpihacjhhklaa.Pl
