/-
  Walks and plain mathematics, several texts in one (Pl Po La Lb Lc).
-/
import Derived.Laws.Strings
import Derived.Lib.Strings
import Derived.Test.YtjedahcpkcgpeaaGreatDoorProg
import Derived.WalkKit
import Derived.WalkSpells
import Derived.WalkLawsBesides
import Derived.Lib.Hide
import Derived.BigQuiet
import Derived.Deep.QuietTactic
import Derived.StillTailTactics
/-
  Plain mathematics of layer 1: bytes, names, labels, paths and numbers as functions on lists of bytes. No program.
-/
namespace Go.Proofs.YtjedahcpkcgpeaaGreatDoor.Pl
open Go
def small (c : Int) : Bool := decide (97 ≤ c) && decide (c ≤ 122)
def capital (c : Int) : Bool := decide (65 ≤ c) && decide (c ≤ 90)
def digit (c : Int) : Bool := decide (48 ≤ c) && decide (c ≤ 57)
def inner (c : Int) : Bool := small c || capital c || digit c || decide (c = 95)
def cls (c : Int) : Int :=
  if 97 ≤ c ∧ c ≤ 122 then 1 else if 65 ≤ c ∧ c ≤ 90 then 2 else if 48 ≤ c ∧ c ≤ 57 then 3 else if c = 95 then 4 else if c = 46 then 5 else 0
theorem cls_small (c : Int) : (cls c = 1) = (small c = true) := by
  unfold cls small; simp only [Bool.and_eq_true, decide_eq_true_eq, eq_iff_iff]; repeat' split
  all_goals omega
theorem cls_capital (c : Int) : (cls c = 2) = (capital c = true) := by
  unfold cls capital; simp only [Bool.and_eq_true, decide_eq_true_eq, eq_iff_iff]; repeat' split
  all_goals omega
theorem cls_digit (c : Int) : (cls c = 3) = (digit c = true) := by
  unfold cls digit; simp only [Bool.and_eq_true, decide_eq_true_eq, eq_iff_iff]; repeat' split
  all_goals omega
theorem cls_inner (c : Int) : (inner c = true) = (cls c ≠ 0 ∧ cls c ≠ 5) := by
  unfold cls inner small capital digit; simp only [Bool.and_eq_true, Bool.or_eq_true, decide_eq_true_eq, eq_iff_iff]; repeat' split
  all_goals omega
abbrev Bytes := List UInt8
def innerB (b : UInt8) : Bool := inner b.toNat
def innerL (l : Bytes) : Bool := l.all innerB
def word1 (first : Int) (l : Bytes) : Bool := match l with
  | [] => false
  | b :: r => decide (cls b.toNat = first) && innerL r
def keys : List Bytes := [[97, 110, 100, 97, 108, 115, 111], [99, 97, 115, 101], [100, 97, 116, 97], [100, 105, 118], [101, 108, 115, 101], [101, 110, 100], [102, 110], [102, 117, 110], [102, 117, 110, 99, 116, 111, 114], [103, 101, 110, 101, 114, 97, 116, 105, 118, 101], [105, 102], [105, 109, 112, 111, 114, 116], [105, 110], [105, 110, 99, 108, 117, 100, 101], [108, 101, 116], [109, 111, 100], [109, 111, 100, 117, 108, 101], [111, 102], [111, 112, 101, 110], [111, 114, 101, 108, 115, 101], [112, 97, 99, 107], [115, 104, 97, 114, 105, 110, 103], [115, 105, 103], [115, 105, 103, 110, 97, 116, 117, 114, 101], [115, 116, 114, 117, 99, 116], [115, 116, 114, 117, 99, 116, 117, 114, 101], [116, 104, 101, 110], [116, 121, 112, 101], [117, 110, 112, 97, 99, 107], [118, 97, 108], [119, 105, 116, 104]]
def isKey (l : Bytes) : Bool := keys.contains l
def isWord (l : Bytes) : Bool := decide (1 ≤ l.length) && decide (l.length ≤ 24) && innerL l
def headIs (p : Int → Bool) (l : Bytes) : Bool := match l with
  | [] => false
  | b :: _ => p b.toNat
def isLower (l : Bytes) : Bool := isWord l && headIs small l && !isKey l
def isUpper (l : Bytes) : Bool := isWord l && headIs capital l
def isVar (l : Bytes) : Bool := match l with
  | q :: r => decide (q = 39) && decide (l.length ≤ 24) && word1 1 r
  | [] => false
theorem toList_eq (s : ByteArray) : s.toList = s.data.toList := ByteArray.toList_eq s
theorem len_size (s : ByteArray) : s.toList.length = s.size := by rw [toList_eq]; rfl
theorem take_snoc (s : ByteArray) (k : Nat) (h : k < s.size) : s.toList.take (k + 1) = s.toList.take k ++ [s[k]] := by
  rw [toList_eq, List.take_succ_eq_append_getElem (by simpa using h)]; rfl
theorem drop_take_snoc (s : ByteArray) (k : Nat) (h1 : 1 ≤ k) (h : k < s.size) : (s.toList.take (k + 1)).drop 1 = (s.toList.take k).drop 1 ++ [s[k]] := by
  rw [take_snoc s k h, List.drop_append_of_le_length]
  rw [List.length_take, len_size]; omega
theorem all_snoc (p : UInt8 → Bool) (l : Bytes) (b : UInt8) : (l ++ [b]).all p = (l.all p && p b) := by simp
theorem all_take (p : UInt8 → Bool) (s : ByteArray) (k : Nat) (h : k < s.size) : (s.toList.take (k + 1)).all p = ((s.toList.take k).all p && p s[k]) := by
  rw [take_snoc s k h, all_snoc]
theorem get_mem (s : ByteArray) (k : Nat) (h : k < s.size) : s[k] ∈ s.toList := by
  have : s.data.toList[k]'(by simpa using h) ∈ s.data.toList := List.getElem_mem _
  rw [toList_eq]; exact this
theorem all_false (p : UInt8 → Bool) (s : ByteArray) (k : Nat) (h : k < s.size) (hp : p s[k] = false) : s.toList.all p = false := by
  rw [List.all_eq_false]
  exact ⟨s[k], get_mem s k h, by simp [hp]⟩
theorem take_all (s : ByteArray) (k : Nat) (h : s.size ≤ k) : s.toList.take k = s.toList := List.take_of_length_le (by rw [len_size]; exact h)
theorem cons_of_pos (s : ByteArray) (h : 0 < s.size) : ∃ r, s.toList = s[0] :: r := by
  have h1 := take_snoc s 0 h
  simp at h1
  refine ⟨s.toList.drop 1, ?_⟩
  have := List.take_append_drop 1 s.toList
  rw [h1] at this; exact this.symm
theorem nil_of_zero (s : ByteArray) (h : ¬ 0 < s.size) : s.toList = [] := by
  apply List.eq_nil_of_length_eq_zero; rw [len_size]; omega
theorem word1_pos (s : ByteArray) (f : Int) (h : 0 < s.size) : word1 f s.toList = (decide (cls s[0].toNat = f) && innerL (s.toList.drop 1)) := by
  obtain ⟨r, hr⟩ := cons_of_pos s h
  rw [hr]; rfl
theorem rest_false (s : ByteArray) (k : Nat) (h1 : 1 ≤ k) (h : k < s.size) (hp : innerB s[k] = false) : innerL (s.toList.drop 1) = false := by
  unfold innerL
  rw [List.all_eq_false]
  refine ⟨s[k], ?_, by simp [hp]⟩
  rw [toList_eq, List.mem_drop_iff_getElem]
  refine ⟨k - 1, by have : s.data.toList.length = s.size := rfl; omega, ?_⟩
  have e : 1 + (k - 1) = k := by omega
  simp only [e]; rfl
theorem inner_of_cls (b : UInt8) (h0 : cls b.toNat ≠ 0) (h5 : cls b.toNat ≠ 5) : innerB b = true := by
  unfold innerB; rw [cls_inner]; exact ⟨h0, h5⟩
theorem not_inner_of_cls (b : UInt8) (h : cls b.toNat = 0 ∨ cls b.toNat = 5) : innerB b = false := by
  rw [Bool.eq_false_iff]; unfold innerB; rw [Ne, cls_inner]; omega
theorem inner_step1 (s : ByteArray) (k : Nat) (h1 : 1 ≤ k) (h : k < s.size) (hi : innerL ((s.toList.take k).drop 1) = true) (hp : innerB s[k] = true) : innerL ((s.toList.take (k + 1)).drop 1) = true := by
  rw [drop_take_snoc s k h1 h]; unfold innerL at *; rw [all_snoc, hi, hp]; rfl
theorem word1_eq (f : Int) (p : Int → Bool) (hp : ∀ c, (cls c = f) = (p c = true)) (hi : ∀ c, p c = true → inner c = true) (l : Bytes) :
    (decide (l.length ≤ 24) && word1 f l) = (isWord l && headIs p l) := by
  cases l with
  | nil => rfl
  | cons b r =>
    rw [Bool.eq_iff_iff]
    simp only [word1, isWord, headIs, innerL, innerB, List.all_cons, Bool.and_eq_true, decide_eq_true_eq, hp, List.length_cons]
    constructor
    · rintro ⟨h1, h2, h3⟩; exact ⟨⟨⟨by omega, h1⟩, hi _ h2, h3⟩, h2⟩
    · rintro ⟨⟨⟨_, h1⟩, _, h3⟩, h2⟩; exact ⟨h1, h2, h3⟩
theorem small_inner (c : Int) (h : small c = true) : inner c = true := by unfold inner; rw [h]; rfl
theorem capital_inner (c : Int) (h : capital c = true) : inner c = true := by unfold inner; rw [h]; simp
theorem lower_eq (l : Bytes) : (decide (l.length ≤ 24) && word1 1 l) = (isWord l && headIs small l) := word1_eq 1 small cls_small small_inner l
theorem upper_eq (l : Bytes) : (decide (l.length ≤ 24) && word1 2 l) = isUpper l := word1_eq 2 capital cls_capital capital_inner l
theorem u8_eq (b c : UInt8) : b = c ↔ (b.toNat : Int) = (c.toNat : Int) := by
  rw [← UInt8.toNat_inj]; omega
theorem drop_cons (s : ByteArray) (k : Nat) (h : k < s.size) : s.toList.drop k = s[k] :: s.toList.drop (k + 1) := by
  rw [toList_eq, List.drop_eq_getElem_cons (by simpa using h)]; rfl
theorem extract_end (s : ByteArray) (k : Nat) : (s.extract k s.size).toList = s.toList.drop k := by
  rw [Lib.extract_toList, toList_eq, List.take_of_length_le]
  have : s.data.toList.length = s.size := rfl
  rw [List.length_drop, this]; exact Nat.le_refl _
theorem isVar_cons (s : ByteArray) (h : 0 < s.size) : isVar s.toList = (decide ((s[0].toNat : Int) = 39) && decide (s.size ≤ 24) && word1 1 (s.toList.drop 1)) := by
  have h1 : s.toList = s[0] :: s.toList.drop 1 := drop_cons s 0 h
  have h2 := len_size s
  rw [h1] at h2
  have h3 : isVar (s[0] :: s.toList.drop 1) = (decide ((s[0].toNat : Int) = 39) && decide (s.size ≤ 24) && word1 1 (s.toList.drop 1)) := by
    simp only [isVar, h2, u8_eq]; rfl
  rw [← h1] at h3; exact h3
def head (k : Int) : Bytes :=
  if k = 1 then [118, 97, 108, 46] else if k = 2 then [116, 121, 112, 101, 46] else if k = 3 then [99, 111, 110, 46]
  else if k = 4 then [109, 111, 100, 46] else if k = 5 then [115, 105, 103, 46] else []
def mk (l : Bytes) : ByteArray := ⟨l.toArray⟩
theorem mk_toList (l : Bytes) : (mk l).toList = l := ByteArray.toList_mk l
theorem mk_of (s : ByteArray) : mk s.toList = s := by rw [toList_eq]; exact Lib.mk_data s
theorem mk_size (l : Bytes) : (mk l).size = l.length := by rw [← len_size, mk_toList]
theorem isWord_le (l : Bytes) (h : isWord l = true) : 1 ≤ l.length ∧ l.length ≤ 24 := by
  unfold isWord at h; simp at h; exact ⟨h.1.1, h.1.2⟩
theorem isLower_le (l : Bytes) (h : isLower l = true) : 1 ≤ l.length ∧ l.length ≤ 24 := by
  unfold isLower at h; simp at h; exact isWord_le l h.1.1
end Go.Proofs.YtjedahcpkcgpeaaGreatDoor.Pl

/-
  Plain mathematics of layer 1: numbers.
-/
namespace Go.Proofs.YtjedahcpkcgpeaaGreatDoor.Pl
open Go
def digitB (b : UInt8) : Bool := digit b.toNat
def step (n : Int) (b : UInt8) : Int := min 4503599627370497 (10 * n + (b.toNat - 48))
def val (l : Bytes) : Int := l.foldl step 0
def digits (l : Bytes) : Bool := l.all digitB
def zeroed (l : Bytes) : Bool := match l with
  | [] => true
  | b :: r => decide ((b.toNat : Int) = 48) && decide (1 ≤ r.length)
def number (l : Bytes) : Int × Int :=
  if zeroed l then (0, 3) else if digits l then (if 4503599627370496 < val l then (0, 6) else (val l, 0)) else (0, 3)
theorem val_snoc (l : Bytes) (b : UInt8) : val (l ++ [b]) = step (val l) b := by unfold val; rw [List.foldl_append]; rfl
theorem step_range (n : Int) (b : UInt8) (h0 : 0 ≤ n) (hb : digitB b = true) : 0 ≤ step n b ∧ step n b ≤ 4503599627370497 := by
  unfold digitB digit at hb
  simp only [Bool.and_eq_true, decide_eq_true_eq] at hb
  unfold step
  omega
theorem digit_of (b : UInt8) (hb : digitB b = true) : 48 ≤ (b.toNat : Int) ∧ (b.toNat : Int) ≤ 57 := by
  unfold digitB digit at hb
  simpa using hb
theorem val_range : ∀ (n : Nat) (l : Bytes), l.length = n → digits l = true → 0 ≤ val l ∧ val l ≤ 4503599627370497 := by
  intro n
  induction n with
  | zero => intro l h _; rw [List.eq_nil_of_length_eq_zero h]; unfold val; simp
  | succ n ih =>
    intro l h hd
    have hne : l ≠ [] := by intro e; subst e; simp at h
    rw [← List.dropLast_concat_getLast hne] at hd ⊢
    unfold digits at hd
    rw [List.all_append, Bool.and_eq_true] at hd
    rw [val_snoc]
    exact step_range _ _ (ih _ (by rw [List.length_dropLast]; omega) hd.1).1 (by simpa using hd.2)
theorem digits_snoc (s : ByteArray) (k : Nat) (h : k < s.size) (hi : digits (s.toList.take k) = true) (hp : digitB s[k] = true) : digits (s.toList.take (k + 1)) = true := by
  unfold digits at *; rw [all_take _ s k h, hi, hp]; rfl
theorem digits_false (s : ByteArray) (k : Nat) (h : k < s.size) (hp : digitB s[k] = false) : digits s.toList = false := all_false _ s k h hp
theorem val_take (s : ByteArray) (k : Nat) (h : k < s.size) : val (s.toList.take (k + 1)) = step (val (s.toList.take k)) s[k] := by
  rw [take_snoc s k h, val_snoc]
theorem val_bound (s : ByteArray) (k : Nat) (hi : digits (s.toList.take k) = true) : 0 ≤ val (s.toList.take k) ∧ val (s.toList.take k) ≤ 4503599627370497 := val_range _ _ rfl hi
theorem zeroed_pos (s : ByteArray) (h : 0 < s.size) : zeroed s.toList = (decide ((s[0].toNat : Int) = 48) && decide (1 < s.size)) := by
  have h1 : s.toList = s[0] :: s.toList.drop 1 := drop_cons s 0 h
  have h2 : (s.toList.drop 1).length = s.size - 1 := by rw [List.length_drop, len_size]
  rw [h1]
  simp only [zeroed, h2]
  congr 1
  rw [decide_eq_decide]; omega
theorem step_small (n : Int) (b : UInt8) (h : 10 * n + ((b.toNat : Int) - 48) ≤ 4503599627370496) : step n b = 10 * n + (b.toNat - 48) := by
  unfold step; omega
theorem step_big (n : Int) (b : UInt8) (h : 4503599627370496 < 10 * n + ((b.toNat : Int) - 48)) : step n b = 4503599627370497 := by
  unfold step; omega
theorem step_stays (b : UInt8) (hb : digitB b = true) : step 4503599627370497 b = 4503599627370497 := by
  have := digit_of b hb
  unfold step; omega
theorem cls_digitB (b : UInt8) : (cls b.toNat = 3) = (digitB b = true) := cls_digit _
end Go.Proofs.YtjedahcpkcgpeaaGreatDoor.Pl

/-
  Plain mathematics of layer 2: tokens, their places, blanks and comments, as functions on lists of bytes. No program.
-/
namespace Go.Proofs.YtjedahcpkcgpeaaGreatDoor.Pl
open Go
structure Tk where
  kind : Int
  text : Bytes
  len : Nat
  err : Int
  pos : Nat
def bad (e : Int) (p : Nat) : Tk := ⟨0, [], 0, e, p⟩
def good (k : Int) (t : Bytes) (n : Nat) : Tk := ⟨k, t, n, 0, 0⟩
structure Tok where
  kind : Int
  text : Bytes
  line : Int
  col : Int
structure Out where
  toks : List Tok
  line : Int
  col : Int
  err : Int
def blank (c : Int) : Bool := decide (c = 32) || decide (c = 9) || decide (c = 10)
def printable (c : Int) : Bool := decide (32 ≤ c) && decide (c ≤ 126)
def textual (c : Int) : Bool := decide (c = 10) || printable c
def printB (b : UInt8) : Bool := printable b.toNat
def textB (b : UInt8) : Bool := textual b.toNat
def meaning (b : UInt8) : Option UInt8 := if b = 34 then some 34 else if b = 92 then some 92 else if b = 110 then some 10 else none
def run (p : UInt8 → Bool) (l : Bytes) : Nat := (l.takeWhile p).length
def nameTok (l : Bytes) : Tk :=
  if 24 < run innerB l then bad 5 0
  else good (if isKey (l.take (run innerB l)) then 6 else if headIs capital l then 2 else 1) (l.take (run innerB l)) (run innerB l)
def varTok (l : Bytes) : Tk :=
  if headIs small (l.drop 1) then (if 24 < run innerB (l.drop 1) + 1 then bad 5 0 else good 3 (l.take (run innerB (l.drop 1) + 1)) (run innerB (l.drop 1) + 1)) else bad 3 0
def numTok (l : Bytes) : Tk :=
  if (number (l.take (run digitB l))).2 = 0 then good 4 (l.take (run digitB l)) (run digitB l) else bad (number (l.take (run digitB l))).2 0
def txt : Bytes → Bool → Bytes → Nat → Tk
  | [], _, _, _ => bad 4 0
  | c :: r, true, acc, k => match meaning c with
    | some m => txt r false (acc ++ [m]) (k + 1)
    | none => bad 3 (k - 1)
  | c :: r, false, acc, k =>
    if c = 34 then good 5 acc (k + 1)
    else if c = 92 then txt r true acc (k + 1)
    else if printB c then txt r false (acc ++ [c]) (k + 1) else bad 3 k
def sym2 : List Bytes := [[58, 62], [61, 62], [45, 62], [60, 61]]
def sym1 : List Bytes := [[40], [41], [44], [59], [58], [61], [124], [95], [46], [42], [43], [45], [60], [94], [126]]
def isSym (l : Bytes) : Bool := sym2.contains l || sym1.contains l
def opens (l : Bytes) : Bool := [40, 42].isPrefixOf l
def closes (l : Bytes) : Bool := [42, 41].isPrefixOf l
def symLen (l : Bytes) : Nat := if opens l then 0 else if sym2.contains (l.take 2) then 2 else if sym1.contains (l.take 1) then 1 else 0
def symTok (l : Bytes) : Tk := if symLen l = 0 then bad 3 0 else good 7 (l.take (symLen l)) (symLen l)
def tok (l : Bytes) : Tk :=
  if headIs small l || headIs capital l then nameTok l
  else if headIs (fun c => decide (c = 39)) l then varTok l
  else if headIs digit l then numTok l
  else if headIs (fun c => decide (c = 34)) l then txt (l.drop 1) false [] 1
  else symTok l
def com : Bytes → Bool → Nat → Nat → Nat
  | [], _, _, _ => 0
  | _ :: r, true, d, k => if d = 0 then k + 1 else com r false d (k + 1)
  | a :: r, false, d, k =>
    if opens (a :: r) then com r true (d + 1) (k + 1)
    else if closes (a :: r) then com r true (d - 1) (k + 1)
    else com r false d (k + 1)
def gapF : Nat → Bytes → Nat × Bool
  | 0, _ => (0, false)
  | f + 1, l =>
    if opens l then (if com l false 0 0 = 0 then (0, true) else ((com l false 0 0) + (gapF f (l.drop (com l false 0 0))).1, (gapF f (l.drop (com l false 0 0))).2))
    else if headIs blank l then (1 + (gapF f (l.drop 1)).1, (gapF f (l.drop 1)).2)
    else (0, false)
def gap (l : Bytes) : Nat × Bool := gapF l.length l
def plStep (p : Int × Int) (b : UInt8) : Int × Int := if b = 10 then (p.1 + 1, 1) else (p.1, p.2 + 1)
def place (l : Bytes) : Int × Int := l.foldl plStep (1, 1)
def lineAt (l : Bytes) (i : Nat) : Int := (place (l.take i)).1
def colAt (l : Bytes) (i : Nat) : Int := (place (l.take i)).2
def toksF : Nat → Bytes → Nat → List Tok → Out
  | 0, _, _, acc => ⟨acc, 0, 0, 0⟩
  | f + 1, l, i, acc =>
    if (gap (l.drop i)).2 then ⟨[], lineAt l (i + (gap (l.drop i)).1), colAt l (i + (gap (l.drop i)).1), 4⟩
    else if i + (gap (l.drop i)).1 = l.length then ⟨acc ++ [⟨8, [], lineAt l (i + (gap (l.drop i)).1), colAt l (i + (gap (l.drop i)).1)⟩], 0, 0, 0⟩
    else if acc.length = 20000 then ⟨[], lineAt l (i + (gap (l.drop i)).1), colAt l (i + (gap (l.drop i)).1), 5⟩
    else if (tok (l.drop (i + (gap (l.drop i)).1))).err = 0 then
      toksF f l (i + (gap (l.drop i)).1 + (tok (l.drop (i + (gap (l.drop i)).1))).len)
        (acc ++ [⟨(tok (l.drop (i + (gap (l.drop i)).1))).kind, (tok (l.drop (i + (gap (l.drop i)).1))).text, lineAt l (i + (gap (l.drop i)).1), colAt l (i + (gap (l.drop i)).1)⟩])
    else ⟨[], lineAt l (i + (gap (l.drop i)).1 + (tok (l.drop (i + (gap (l.drop i)).1))).pos), colAt l (i + (gap (l.drop i)).1 + (tok (l.drop (i + (gap (l.drop i)).1))).pos), (tok (l.drop (i + (gap (l.drop i)).1))).err⟩
def tokens (l : Bytes) : Out := if 16384 < l.length then ⟨[], 0, 0, 5⟩ else toksF (l.length + 1) l 0 []
theorem run_le (p : UInt8 → Bool) (l : Bytes) : run p l ≤ l.length := by
  unfold run; exact (List.takeWhile_prefix p).length_le
theorem run_cons (p : UInt8 → Bool) (b : UInt8) (r : Bytes) : run p (b :: r) = if p b then run p r + 1 else 0 := by
  unfold run; rw [List.takeWhile_cons]; split <;> simp [*]
theorem run_take (p : UInt8 → Bool) (l : Bytes) : l.take (run p l) = l.takeWhile p := by
  induction l with
  | nil => rfl
  | cons b r ih =>
    rw [run_cons, List.takeWhile_cons]
    split
    · rw [List.take_succ_cons, ih]
    · rfl
theorem run_all (p : UInt8 → Bool) (l : Bytes) : ∀ b ∈ l.take (run p l), p b = true := by
  rw [run_take]; intro b hb; exact List.all_eq_true.1 List.all_takeWhile b hb
theorem run_hit (p : UInt8 → Bool) (s : ByteArray) (i : Nat) (h : i < s.size) (hp : p s[i] = true) : run p (s.toList.drop i) = run p (s.toList.drop (i + 1)) + 1 := by
  rw [drop_cons s i h, run_cons, hp]; rfl
theorem run_miss (p : UInt8 → Bool) (s : ByteArray) (i : Nat) (h : i < s.size) (hp : p s[i] = false) : run p (s.toList.drop i) = 0 := by
  rw [drop_cons s i h, run_cons, hp]; rfl
theorem run_end (p : UInt8 → Bool) (s : ByteArray) (i : Nat) (h : s.size ≤ i) : run p (s.toList.drop i) = 0 := by
  rw [List.drop_eq_nil_of_le (by rw [len_size]; exact h)]; rfl
theorem run_bound (p : UInt8 → Bool) (s : ByteArray) (i : Nat) (h : i ≤ s.size) : i + run p (s.toList.drop i) ≤ s.size := by
  have := run_le p (s.toList.drop i)
  rw [List.length_drop, len_size] at this; omega
theorem place_snoc (l : Bytes) (b : UInt8) : place (l ++ [b]) = plStep (place l) b := by
  unfold place; rw [List.foldl_append]; rfl
theorem place_nil : place [] = (1, 1) := rfl
theorem colAt_pos (l : Bytes) (i : Nat) : 1 ≤ colAt l i ∧ colAt l i ≤ i + 1 := by
  have h : ∀ (n : Nat) (m : Bytes), m.length = n → 1 ≤ (place m).2 ∧ (place m).2 ≤ n + 1 := by
    intro n
    induction n with
    | zero => intro m hm; rw [List.eq_nil_of_length_eq_zero hm]; exact ⟨by decide, by decide⟩
    | succ n ih =>
      intro m hm
      have hne : m ≠ [] := by intro e; subst e; simp at hm
      rw [← List.dropLast_concat_getLast hne, place_snoc]
      have := ih m.dropLast (by rw [List.length_dropLast]; omega)
      unfold plStep
      split <;> simp <;> omega
  have h2 := h _ (l.take i) rfl
  have h3 : (l.take i).length ≤ i := List.length_take_le _ _
  unfold colAt; omega
theorem lineAt_pos (l : Bytes) (i : Nat) : 1 ≤ lineAt l i ∧ lineAt l i ≤ i + 1 := by
  have h : ∀ (n : Nat) (m : Bytes), m.length = n → 1 ≤ (place m).1 ∧ (place m).1 ≤ n + 1 := by
    intro n
    induction n with
    | zero => intro m hm; rw [List.eq_nil_of_length_eq_zero hm]; exact ⟨by decide, by decide⟩
    | succ n ih =>
      intro m hm
      have hne : m ≠ [] := by intro e; subst e; simp at hm
      rw [← List.dropLast_concat_getLast hne, place_snoc]
      have := ih m.dropLast (by rw [List.length_dropLast]; omega)
      unfold plStep
      split <;> simp <;> omega
  have h2 := h _ (l.take i) rfl
  have h3 : (l.take i).length ≤ i := List.length_take_le _ _
  unfold lineAt; omega
theorem line_step (s : ByteArray) (i : Nat) (h : i < s.size) : lineAt s.toList (i + 1) = if s[i] = 10 then lineAt s.toList i + 1 else lineAt s.toList i := by
  unfold lineAt; rw [take_snoc s i h, place_snoc]; unfold plStep; split <;> rfl
theorem col_step (s : ByteArray) (i : Nat) (h : i < s.size) : colAt s.toList (i + 1) = if s[i] = 10 then 1 else colAt s.toList i + 1 := by
  unfold colAt; rw [take_snoc s i h, place_snoc]; unfold plStep; split <;> rfl
theorem place_run (l m : Bytes) (h : 10 ∉ m) : place (l ++ m) = ((place l).1, (place l).2 + m.length) := by
  induction m generalizing l with
  | nil => simp
  | cons b r ih =>
    simp only [List.mem_cons, not_or] at h
    have hb : ¬ b = 10 := fun e => h.1 e.symm
    rw [show l ++ b :: r = (l ++ [b]) ++ r from by simp, ih _ h.2, place_snoc]
    unfold plStep
    rw [if_neg hb]
    simp only [List.length_cons, Prod.mk.injEq, true_and]
    omega
theorem place_on (l : Bytes) (i n : Nat) (hn : i + n ≤ l.length) (h : 10 ∉ (l.drop i).take n) : lineAt l (i + n) = lineAt l i ∧ colAt l (i + n) = colAt l i + n := by
  have e : l.take (i + n) = l.take i ++ (l.drop i).take n := by rw [List.take_add]
  have hl : ((l.drop i).take n).length = n := by rw [List.length_take, List.length_drop]; omega
  unfold lineAt colAt
  rw [e, place_run _ _ h, hl]
  exact ⟨rfl, rfl⟩
end Go.Proofs.YtjedahcpkcgpeaaGreatDoor.Pl

/-
  Walks of layer 2, first part: classes of bytes, of the program and of the reference.
-/
namespace Go.Proofs.YtjedahcpkcgpeaaGreatDoor
open Go.RowKit
theorem ret_int {k : IntKind} {a b : Int} (h : a = b) : Ending.returned (.int k a) = .returned (.int k b) := by rw [h]
theorem ret_bool {a b : Bool} (h : a = b) : Ending.returned (.bool a) = .returned (.bool b) := by rw [h]
set_option maxHeartbeats 400000 in
theorem isBlank_any (c : Int) (w : World) :
    Calls Tryz.prog 75 #[.int .u8 c] w fun e w' => e = .returned (.bool (Pl.blank c)) ∧ w = w' := by
  go_enter Tryz.func75, Tryz.ntmps75
  go_wp2
  all_goals
    go_ret
    refine ⟨ret_bool ?_, rfl⟩
    unfold Pl.blank
    first | (simp [*]; done) | (rw [Bool.eq_iff_iff]; simp only [Bool.or_eq_true, beq_iff_eq, decide_eq_true_eq])
set_option maxHeartbeats 400000 in
theorem isSmall_any (c : Int) (w : World) :
    Calls Tryz.prog 77 #[.int .u8 c] w fun e w' => e = .returned (.bool (Pl.small c)) ∧ w = w' := by
  go_enter Tryz.func77, Tryz.ntmps77
  go_wp2
  all_goals
    go_ret
    refine ⟨ret_bool ?_, rfl⟩
    unfold Pl.small
    simp; try omega
set_option maxHeartbeats 400000 in
theorem isCapital_any (c : Int) (w : World) :
    Calls Tryz.prog 78 #[.int .u8 c] w fun e w' => e = .returned (.bool (Pl.capital c)) ∧ w = w' := by
  go_enter Tryz.func78, Tryz.ntmps78
  go_wp2
  all_goals
    go_ret
    refine ⟨ret_bool ?_, rfl⟩
    unfold Pl.capital
    simp; try omega
set_option maxHeartbeats 400000 in
theorem isDigit_any (c : Int) (w : World) :
    Calls Tryz.prog 81 #[.int .u8 c] w fun e w' => e = .returned (.bool (Pl.digit c)) ∧ w = w' := by
  go_enter Tryz.func81, Tryz.ntmps81
  go_wp2
  all_goals
    go_ret
    refine ⟨ret_bool ?_, rfl⟩
    unfold Pl.digit
    simp; try omega
set_option maxHeartbeats 400000 in
theorem isPrintable_any (c : Int) (w : World) :
    Calls Tryz.prog 89 #[.int .u8 c] w fun e w' => e = .returned (.bool (Pl.printable c)) ∧ w = w' := by
  go_enter Tryz.func89, Tryz.ntmps89
  go_wp2
  all_goals
    go_ret
    refine ⟨ret_bool ?_, rfl⟩
    unfold Pl.printable
    simp; try omega
set_option maxHeartbeats 400000 in
theorem isOfName_any (c : Int) (w : World) :
    Calls Tryz.prog 119 #[.int .u8 c] w fun e w' => e = .returned (.bool (Pl.inner c)) ∧ w = w' := by
  go_enter Tryz.func119, Tryz.ntmps119
  go_wp2_with (first | (go_at_call 77; refine (isSmall_any _ _).mono ?_; rintro e w' ⟨rfl, rfl⟩) | (go_at_call 78; refine (isCapital_any _ _).mono ?_; rintro e w' ⟨rfl, rfl⟩) | (go_at_call 81; refine (isDigit_any _ _).mono ?_; rintro e w' ⟨rfl, rfl⟩))
  all_goals
    go_ret
    refine ⟨ret_bool ?_, rfl⟩
    unfold Pl.inner
    simp_all
  exact (decide_eq_decide.2 Iff.rfl)
def meant (b : UInt8) : Value := match Pl.meaning b with
  | some m => .tuple #[.int .u8 m.toNat, .bool true]
  | none => .tuple #[.int .u8 0, .bool false]
set_option maxHeartbeats 400000 in
theorem meaning_any (b : UInt8) (w : World) :
    Calls Tryz.prog 120 #[.int .u8 b.toNat] w fun e w' => e = .returned (meant b) ∧ w = w' := by
  by_cases h1 : b = 34
  · subst h1
    go_enter Tryz.func120, Tryz.ntmps120
    go_wp2
    go_ret2
    exact ⟨rfl, rfl⟩
  by_cases h2 : b = 92
  · subst h2
    go_enter Tryz.func120, Tryz.ntmps120
    go_wp2
    go_ret2
    exact ⟨rfl, rfl⟩
  by_cases h3 : b = 110
  · subst h3
    go_enter Tryz.func120, Tryz.ntmps120
    go_wp2
    go_ret2
    exact ⟨rfl, rfl⟩
  have HM := Lib.hid (show meant b = .tuple #[.int .u8 0, .bool false] from by unfold meant Pl.meaning; rw [if_neg h1, if_neg h2, if_neg h3])
  have t1 : ((b.toNat : Int) == 34) = false := beq_eq_false_iff_ne.2 (fun h => h1 ((Pl.u8_eq _ _).2 h))
  have t2 : ((b.toNat : Int) == 92) = false := beq_eq_false_iff_ne.2 (fun h => h2 ((Pl.u8_eq _ _).2 h))
  have t3 : ((b.toNat : Int) == 110) = false := beq_eq_false_iff_ne.2 (fun h => h3 ((Pl.u8_eq _ _).2 h))
  clear h1 h2 h3
  go_enter Tryz.func120, Tryz.ntmps120
  go_wp2
  go_ret2
  exact ⟨by rw [HM.out]; rfl, rfl⟩
theorem isSymbol_no (s : ByteArray) (w : World) (h : Pl.isSym s.toList = false) :
    Calls Tryz.prog 50 #[.string s] w fun e w' => e = .returned (.bool false) ∧ w = w' := by
  simp only [Pl.isSym, Pl.sym1, Pl.sym2, List.contains_cons, Bool.or_eq_false_iff] at h
  obtain ⟨⟨h1, h2, h3, h4, -⟩, g1, g2, g3, g4, g5, g6, g7, g8, g9, g10, g11, g12, g13, g14, g15, -⟩ := h
  go_enter Tryz.func50, Tryz.ntmps50
  go_wp2
  go_ret
  exact ⟨rfl, rfl⟩
set_option maxHeartbeats 4000000 in
theorem isSymbol_yes (s : ByteArray) (w : World) (h : Pl.isSym s.toList = true) :
    Calls Tryz.prog 50 #[.string s] w fun e w' => e = .returned (.bool true) ∧ w = w' := by
  have h' : s.toList ∈ Pl.sym2 ++ Pl.sym1 := by simpa [Pl.isSym] using h
  clear h
  simp only [Pl.sym1, Pl.sym2, List.cons_append, List.nil_append, List.mem_cons, List.mem_nil_iff, or_false] at h'
  rcases h' with h | h | h | h | h | h | h | h | h | h | h | h | h | h | h | h | h | h | h
  all_goals
    go_enter Tryz.func50, Tryz.ntmps50
    go_wp2
    go_ret
    exact ⟨rfl, rfl⟩
theorem isSymbol_any (s : ByteArray) (w : World) :
    Calls Tryz.prog 50 #[.string s] w fun e w' => e = .returned (.bool (Pl.isSym s.toList)) ∧ w = w' := by
  cases h : Pl.isSym s.toList
  · exact isSymbol_no s w h
  · exact isSymbol_yes s w h
set_option maxHeartbeats 400000 in
theorem keyword_no (s : ByteArray) (w : World) (h : Pl.isKey s.toList = false) :
    Calls Tryz.prog 49 #[.string s] w fun e w' => e = .returned (.bool false) ∧ w = w' := by
  simp only [Pl.isKey, Pl.keys, List.contains_cons, Bool.or_eq_false_iff] at h
  obtain ⟨h1, h2, h3, h4, h5, h6, h7, h8, h9, h10, h11, h12, h13, h14, h15, h16, h17, h18, h19, h20, h21, h22, h23, h24, h25, h26, h27, h28, h29, h30, h31, h32⟩ := h
  go_enter Tryz.func49, Tryz.ntmps49
  go_wp2
  go_ret
  exact ⟨rfl, rfl⟩
set_option maxHeartbeats 4000000 in
theorem keyword_yes (s : ByteArray) (w : World) (h : Pl.isKey s.toList = true) :
    Calls Tryz.prog 49 #[.string s] w fun e w' => e = .returned (.bool true) ∧ w = w' := by
  have h' : s.toList ∈ Pl.keys := by simpa [Pl.isKey] using h
  clear h
  simp only [Pl.keys, List.mem_cons, List.mem_nil_iff, or_false] at h'
  rcases h' with h | h | h | h | h | h | h | h | h | h | h | h | h | h | h | h | h | h | h | h | h | h | h | h | h | h | h | h | h | h | h
  all_goals
    go_enter Tryz.func49, Tryz.ntmps49
    go_wp2
    go_ret
    exact ⟨rfl, rfl⟩
theorem keyword_any (s : ByteArray) (w : World) :
    Calls Tryz.prog 49 #[.string s] w fun e w' => e = .returned (.bool (Pl.isKey s.toList)) ∧ w = w' := by
  cases h : Pl.isKey s.toList
  · exact keyword_no s w h
  · exact keyword_yes s w h
end Go.Proofs.YtjedahcpkcgpeaaGreatDoor

/-
  Walks of layer 2, second part: the words for memory: a block that is known whole, and the reader.
-/
namespace Go.Proofs.YtjedahcpkcgpeaaGreatDoor
open Go.RowKit
def Blk (w : World) (g : Nat) (t : TypeId) (cs : Array Value) : Prop := w.heap[g]? = some (.cells cs t (0, 0))
theorem Blk.cell {w : World} {g : Nat} {t : TypeId} {cs : Array Value} (h : Blk w g t cs) (j : Nat) (v : Value) (hv : cs[j]? = some v) : w.cell? ⟨g, j, none⟩ = some v := by
  have h' : w.heap[g]? = some (.cells cs t (0, 0)) := h
  simp [World.cell?, h', hv]
theorem Blk.lt {w : World} {g : Nat} {t : TypeId} {cs : Array Value} (h : Blk w g t cs) : g < w.heap.size := by
  rcases Nat.lt_or_ge g w.heap.size with hlt | hge
  · exact hlt
  · exfalso
    have h' : w.heap[g]? = some (.cells cs t (0, 0)) := h
    have hn : w.heap[g]? = none := by simp; omega
    rw [hn] at h'; cases h'
theorem Blk.drew {w : World} {g : Nat} {t : TypeId} {cs : Array Value} (h : Blk w g t cs) : Blk w.drew g t cs := h
theorem blk_new (w : World) (cs : Array Value) (t : TypeId) : Blk (w.alloc (.cells cs t)) w.heap.size t cs := by
  show (w.heap.push _)[w.heap.size]? = _
  simp
theorem Blk.thaw {w : World} {g : Nat} {t : TypeId} {cs : Array Value} (h : Blk w g t cs) (j : Nat) : w.frozen? ⟨g, j, none⟩ = false := by
  have h' : w.heap[g]? = some (.cells cs t (0, 0)) := h
  simp [World.frozen?, h']
theorem Blk.set {w : World} {g : Nat} {t : TypeId} {cs : Array Value} (h : Blk w g t cs) (j : Nat) (v : Value) : Blk (w.setCell ⟨g, j, none⟩ v) g t (cs.setIfInBounds j v) := by
  have h' : w.heap[g]? = some (.cells cs t (0, 0)) := h
  simp [Blk, World.setCell, Array.getElem?_modify, h']
theorem Blk.other {w : World} {g : Nat} {t : TypeId} {cs : Array Value} (h : Blk w g t cs) (p : Addr) (v : Value) (hp : g ≠ p.block) : Blk (w.setCell p v) g t cs := (Below.heap_setCell w p v g hp).trans h
theorem Blk.alloc {w : World} {g : Nat} {t : TypeId} {cs : Array Value} (h : Blk w g t cs) (o : Obj) : Blk (w.alloc o) g t cs := (Below.heap_alloc w o g h.lt).trans h
theorem Blk.drewN {w : World} {g : Nat} {t : TypeId} {cs : Array Value} (h : Blk w g t cs) (n : Nat) : Blk (w.drewN n) g t cs := h
theorem Blk.below {w w' : World} {g B : Nat} {t : TypeId} {cs : Array Value} (h : Blk w g t cs) (hb : Below B w w') (hB : g < B) : Blk w' g t cs := (hb.block g hB).trans h
theorem below_drewN {B : Nat} {a w : World} (h : Below B a w) (n : Nat) : Below B a (w.drewN n) := ⟨h.os, h.tape, h.output, h.size, h.block⟩
def Only (b : Nat) (w w' : World) : Prop := w.grownBy w' (some b)
theorem Only.refl (b : Nat) (w : World) : Only b w w := ⟨rfl, rfl, rfl, Nat.le_refl _, fun _ _ _ => rfl⟩
theorem Only.size {b : Nat} {w w' : World} (h : Only b w w') : w.heap.size ≤ w'.heap.size := World.grownBy.size h
theorem Only.trans {b : Nat} {a c d : World} (h : Only b a c) (k : Only b c d) : Only b a d :=
  ⟨(World.grownBy.os k).trans (World.grownBy.os h), (World.grownBy.tape k).trans (World.grownBy.tape h), (World.grownBy.output k).trans (World.grownBy.output h), Nat.le_trans h.size k.size,
   fun i hi hne => (World.grownBy.block k i (Nat.lt_of_lt_of_le hi h.size) hne).trans (World.grownBy.block h i hi hne)⟩
theorem Only.drew {b : Nat} {a w : World} (h : Only b a w) : Only b a w.drew := h.trans ⟨rfl, rfl, rfl, Nat.le_refl _, fun _ _ _ => rfl⟩
theorem Only.drewN {b : Nat} {a w : World} (h : Only b a w) (n : Nat) : Only b a (w.drewN n) := h.trans ⟨rfl, rfl, rfl, Nat.le_refl _, fun _ _ _ => rfl⟩
theorem Only.alloc {b : Nat} {a w : World} (h : Only b a w) (o : Obj) : Only b a (w.alloc o) :=
  h.trans ⟨rfl, rfl, rfl, by simp, fun i hi _ => Below.heap_alloc w o i hi⟩
theorem Only.setCell {b : Nat} {a w : World} (h : Only b a w) {p : Addr} (hp : p.block = b ∨ a.heap.size ≤ p.block) (v : Value) : Only b a (w.setCell p v) := by
  obtain ⟨h1, h2, h3, h4, h5⟩ := (show a.grownBy w (some b) from h)
  refine ⟨h1, h2, h3, by simpa [World.setCell] using h4, fun i hi hne => ?_⟩
  refine (Below.heap_setCell w p v i ?_).trans (h5 i hi hne)
  rintro rfl
  rcases hp with hp | hp
  · exact hne (by rw [hp])
  · omega
theorem Only.below {b : Nat} {a w w' : World} (h : Only b a w) {B : Nat} (hb : Below B w w') (hB : a.heap.size ≤ B) : Only b a w' :=
  ⟨hb.os.trans (World.grownBy.os h), hb.tape.trans (World.grownBy.tape h), hb.output.trans (World.grownBy.output h), Nat.le_trans h.size hb.size, fun i hi hne => (hb.block i (by omega)).trans (World.grownBy.block h i hi hne)⟩
theorem Only.to {b : Nat} {w w' : World} (h : Only b w w') {B : Nat} (hb : B ≤ b) (hB : B ≤ w.heap.size) : Below B w w' :=
  ⟨World.grownBy.os h, World.grownBy.tape h, World.grownBy.output h, h.size, fun i hi => World.grownBy.block h i (by omega) (fun e => by injection e with e; omega)⟩
theorem Only.blk {b : Nat} {w w' : World} (h : Only b w w') {g : Nat} {t : TypeId} {cs : Array Value} (hg : Blk w g t cs) (hne : g ≠ b) : Blk w' g t cs :=
  (World.grownBy.block h g hg.lt (fun e => by injection e with e; exact hne e)).trans hg
def Rd (w : World) (b : Nat) (s : ByteArray) (n li st lim : Int) : Prop := Blk w b 57 #[.string s, .int .i64 n, .int .i64 li, .int .i64 st, .int .i64 lim]
section
variable {w : World} {b : Nat} {s : ByteArray} {n li st lim : Int} (h : Rd w b s n li st lim)
include h
theorem Rd.c0 : w.cell? ⟨b, 0, none⟩ = some (.string s) := Blk.cell h 0 _ rfl
theorem Rd.c1 : w.cell? ⟨b, 1, none⟩ = some (.int .i64 n) := Blk.cell h 1 _ rfl
theorem Rd.c2 : w.cell? ⟨b, 2, none⟩ = some (.int .i64 li) := Blk.cell h 2 _ rfl
theorem Rd.c3 : w.cell? ⟨b, 3, none⟩ = some (.int .i64 st) := Blk.cell h 3 _ rfl
theorem Rd.c4 : w.cell? ⟨b, 4, none⟩ = some (.int .i64 lim) := Blk.cell h 4 _ rfl
theorem Rd.lt : b < w.heap.size := Blk.lt h
theorem Rd.thaw (j : Nat) : w.frozen? ⟨b, j, none⟩ = false := Blk.thaw h j
theorem Rd.alloc (o : Obj) : Rd (w.alloc o) b s n li st lim := Blk.alloc h o
theorem Rd.drew : Rd w.drew b s n li st lim := h
theorem Rd.drewN (q : Nat) : Rd (w.drewN q) b s n li st lim := h
theorem Rd.other (p : Addr) (v : Value) (hp : b ≠ p.block) : Rd (w.setCell p v) b s n li st lim := Blk.other h p v hp
theorem Rd.below {w' : World} {B : Nat} (hb : Below B w w') (hB : b < B) : Rd w' b s n li st lim := Blk.below h hb hB
theorem Rd.next (x : Int) : Rd (w.setCell ⟨b, 1, none⟩ (.int .i64 x)) b s x li st lim := Blk.set h 1 (.int .i64 x)
theorem Rd.line (x : Int) : Rd (w.setCell ⟨b, 2, none⟩ (.int .i64 x)) b s n x st lim := Blk.set h 2 (.int .i64 x)
theorem Rd.start (x : Int) : Rd (w.setCell ⟨b, 3, none⟩ (.int .i64 x)) b s n li x lim := Blk.set h 3 (.int .i64 x)
end
end Go.Proofs.YtjedahcpkcgpeaaGreatDoor
