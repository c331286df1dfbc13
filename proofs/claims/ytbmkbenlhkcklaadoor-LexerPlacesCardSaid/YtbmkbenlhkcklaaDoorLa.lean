/-
  Plain mathematics of layer 2: tokens, their places, blanks and comments, as functions on lists of bytes. No program.
-/
import Derived.Test.YtbmkbenlhkcklaaDoorPo
namespace Go.Proofs.YtbmkbenlhkcklaaDoor.Pl
open Go

/-- A token without its place, and how many bytes it has; or an error, and the byte where it is. -/
structure Tk where
  kind : Int
  text : Bytes
  len : Nat
  err : Int
  pos : Nat
def bad (e : Int) (p : Nat) : Tk := ⟨0, [], 0, e, p⟩
def good (k : Int) (t : Bytes) (n : Nat) : Tk := ⟨k, t, n, 0, 0⟩
/-- A token with its place. -/
structure Tok where
  kind : Int
  text : Bytes
  line : Int
  col : Int
/-- What Tokens answers. -/
structure Out where
  toks : List Tok
  line : Int
  col : Int
  err : Int

def blank (c : Int) : Bool := decide (c = 32) || decide (c = 9) || decide (c = 10)
def printable (c : Int) : Bool := decide (32 ≤ c) && decide (c ≤ 126)
def textual (c : Int) : Bool := decide (c = 10) || printable c
def blankB (b : UInt8) : Bool := blank b.toNat
def printB (b : UInt8) : Bool := printable b.toNat
def textB (b : UInt8) : Bool := textual b.toNat
def meaning (b : UInt8) : Option UInt8 := if b = 34 then some 34 else if b = 92 then some 92 else if b = 110 then some 10 else none

/-- how many bytes at the beginning are of a class -/
def run (p : UInt8 → Bool) (l : Bytes) : Nat := (l.takeWhile p).length
def nameTok (l : Bytes) : Tk :=
  if 24 < run innerB l then bad 5 0
  else good (if isKey (l.take (run innerB l)) then 6 else if headIs capital l then 2 else 1) (l.take (run innerB l)) (run innerB l)
def varTok (l : Bytes) : Tk :=
  if headIs small (l.drop 1) then (if 24 < run innerB (l.drop 1) + 1 then bad 5 0 else good 3 (l.take (run innerB (l.drop 1) + 1)) (run innerB (l.drop 1) + 1)) else bad 3 0
def numTok (l : Bytes) : Tk :=
  if (number (l.take (run digitB l))).2 = 0 then good 4 (l.take (run digitB l)) (run digitB l) else bad (number (l.take (run digitB l))).2 0
/-- a text behind its first double quote; behind a backslash, if esc is set -/
def txt : Bytes → Bool → Bytes → Nat → Tk
  | [], _, _, _ => bad 4 0
  | c :: r, true, acc, k => match meaning c with
    | some m => txt r false (acc ++ [m]) (k + 1)
    | none => bad 3 (k - 1)
  | c :: r, false, acc, k =>
    if c = 34 then good 5 acc (k + 1)
    else if c = 92 then txt r true acc (k + 1)
    else if printB c then txt r false (acc ++ [c]) (k + 1) else bad 3 k
def sym2 : List Bytes := [[58, 62], [61, 62], [45, 62], [60, 61]]
def sym1 : List Bytes := [[40], [41], [44], [59], [58], [61], [124], [95], [46], [42], [43], [45], [60], [94], [126]]
def isSym (l : Bytes) : Bool := sym2.contains l || sym1.contains l
def opens (l : Bytes) : Bool := [40, 42].isPrefixOf l
def closes (l : Bytes) : Bool := [42, 41].isPrefixOf l
/-- how many bytes the longest symbol has with which a text begins; 0: there is none -/
def symLen (l : Bytes) : Nat := if opens l then 0 else if sym2.contains (l.take 2) then 2 else if sym1.contains (l.take 1) then 1 else 0
def symTok (l : Bytes) : Tk := if symLen l = 0 then bad 3 0 else good 7 (l.take (symLen l)) (symLen l)
def tok (l : Bytes) : Tk :=
  if headIs small l || headIs capital l then nameTok l
  else if headIs (fun c => decide (c = 39)) l then varTok l
  else if headIs digit l then numTok l
  else if headIs (fun c => decide (c = 34)) l then txt (l.drop 1) false [] 1
  else symTok l
/-- how many bytes a comment has, at a depth, behind k bytes of it (the first of a pair among them, if half is set); 0: it does not end -/
def com : Bytes → Bool → Nat → Nat → Nat
  | [], _, _, _ => 0
  | _ :: r, true, d, k => if d = 0 then k + 1 else com r false d (k + 1)
  | a :: r, false, d, k =>
    if opens (a :: r) then com r true (d + 1) (k + 1)
    else if closes (a :: r) then com r true (d - 1) (k + 1)
    else com r false d (k + 1)
/-- how many bytes of blanks and comments there are, and whether a comment begins behind them that does not end -/
def gapF : Nat → Bytes → Nat × Bool
  | 0, _ => (0, false)
  | f + 1, l =>
    if opens l then (if com l false 0 0 = 0 then (0, true) else ((com l false 0 0) + (gapF f (l.drop (com l false 0 0))).1, (gapF f (l.drop (com l false 0 0))).2))
    else if headIs blank l then (1 + (gapF f (l.drop 1)).1, (gapF f (l.drop 1)).2)
    else (0, false)
def gap (l : Bytes) : Nat × Bool := gapF l.length l
/-- the place behind these bytes -/
def plStep (p : Int × Int) (b : UInt8) : Int × Int := if b = 10 then (p.1 + 1, 1) else (p.1, p.2 + 1)
def place (l : Bytes) : Int × Int := l.foldl plStep (1, 1)
def lineAt (l : Bytes) (i : Nat) : Int := (place (l.take i)).1
def colAt (l : Bytes) (i : Nat) : Int := (place (l.take i)).2
/-- the answer, from a byte on, behind these tokens -/
def toksF : Nat → Bytes → Nat → List Tok → Out
  | 0, _, _, acc => ⟨acc, 0, 0, 0⟩
  | f + 1, l, i, acc =>
    if (gap (l.drop i)).2 then ⟨[], lineAt l (i + (gap (l.drop i)).1), colAt l (i + (gap (l.drop i)).1), 4⟩
    else if i + (gap (l.drop i)).1 = l.length then ⟨acc ++ [⟨8, [], lineAt l (i + (gap (l.drop i)).1), colAt l (i + (gap (l.drop i)).1)⟩], 0, 0, 0⟩
    else if acc.length = 20000 then ⟨[], lineAt l (i + (gap (l.drop i)).1), colAt l (i + (gap (l.drop i)).1), 5⟩
    else if (tok (l.drop (i + (gap (l.drop i)).1))).err = 0 then
      toksF f l (i + (gap (l.drop i)).1 + (tok (l.drop (i + (gap (l.drop i)).1))).len)
        (acc ++ [⟨(tok (l.drop (i + (gap (l.drop i)).1))).kind, (tok (l.drop (i + (gap (l.drop i)).1))).text, lineAt l (i + (gap (l.drop i)).1), colAt l (i + (gap (l.drop i)).1)⟩])
    else ⟨[], lineAt l (i + (gap (l.drop i)).1 + (tok (l.drop (i + (gap (l.drop i)).1))).pos), colAt l (i + (gap (l.drop i)).1 + (tok (l.drop (i + (gap (l.drop i)).1))).pos), (tok (l.drop (i + (gap (l.drop i)).1))).err⟩
def tokens (l : Bytes) : Out := if 16384 < l.length then ⟨[], 0, 0, 5⟩ else toksF (l.length + 1) l 0 []

/-- runs of a class -/
theorem run_le (p : UInt8 → Bool) (l : Bytes) : run p l ≤ l.length := by
  unfold run; exact (List.takeWhile_prefix p).length_le
theorem run_nil (p : UInt8 → Bool) : run p [] = 0 := rfl
theorem run_cons (p : UInt8 → Bool) (b : UInt8) (r : Bytes) : run p (b :: r) = if p b then run p r + 1 else 0 := by
  unfold run; rw [List.takeWhile_cons]; split <;> simp [*]
theorem run_take (p : UInt8 → Bool) (l : Bytes) : l.take (run p l) = l.takeWhile p := by
  induction l with
  | nil => rfl
  | cons b r ih =>
    rw [run_cons, List.takeWhile_cons]
    split
    · rw [List.take_succ_cons, ih]
    · rfl
theorem run_all (p : UInt8 → Bool) (l : Bytes) : ∀ b ∈ l.take (run p l), p b = true := by
  rw [run_take]; intro b hb; exact List.all_eq_true.1 List.all_takeWhile b hb
/-- at an index: one more, or the end of the run -/
theorem run_hit (p : UInt8 → Bool) (s : ByteArray) (i : Nat) (h : i < s.size) (hp : p s[i] = true) : run p (s.toList.drop i) = run p (s.toList.drop (i + 1)) + 1 := by
  rw [drop_cons s i h, run_cons, hp]; rfl
theorem run_miss (p : UInt8 → Bool) (s : ByteArray) (i : Nat) (h : i < s.size) (hp : p s[i] = false) : run p (s.toList.drop i) = 0 := by
  rw [drop_cons s i h, run_cons, hp]; rfl
theorem run_end (p : UInt8 → Bool) (s : ByteArray) (i : Nat) (h : s.size ≤ i) : run p (s.toList.drop i) = 0 := by
  rw [List.drop_eq_nil_of_le (by rw [len_size]; exact h)]; rfl
theorem run_bound (p : UInt8 → Bool) (s : ByteArray) (i : Nat) (h : i ≤ s.size) : i + run p (s.toList.drop i) ≤ s.size := by
  have := run_le p (s.toList.drop i)
  rw [List.length_drop, len_size] at this; omega

/-- places -/
theorem place_snoc (l : Bytes) (b : UInt8) : place (l ++ [b]) = plStep (place l) b := by
  unfold place; rw [List.foldl_append]; rfl
theorem place_nil : place [] = (1, 1) := rfl
theorem lineAt_zero (l : Bytes) : lineAt l 0 = 1 := rfl
theorem colAt_zero (l : Bytes) : colAt l 0 = 1 := rfl
theorem colAt_pos (l : Bytes) (i : Nat) : 1 ≤ colAt l i ∧ colAt l i ≤ i + 1 := by
  have h : ∀ (n : Nat) (m : Bytes), m.length = n → 1 ≤ (place m).2 ∧ (place m).2 ≤ n + 1 := by
    intro n
    induction n with
    | zero => intro m hm; rw [List.eq_nil_of_length_eq_zero hm]; exact ⟨by decide, by decide⟩
    | succ n ih =>
      intro m hm
      have hne : m ≠ [] := by intro e; subst e; simp at hm
      rw [← List.dropLast_concat_getLast hne, place_snoc]
      have := ih m.dropLast (by rw [List.length_dropLast]; omega)
      unfold plStep
      split <;> simp <;> omega
  have h2 := h _ (l.take i) rfl
  have h3 : (l.take i).length ≤ i := List.length_take_le _ _
  unfold colAt; omega
theorem lineAt_pos (l : Bytes) (i : Nat) : 1 ≤ lineAt l i ∧ lineAt l i ≤ i + 1 := by
  have h : ∀ (n : Nat) (m : Bytes), m.length = n → 1 ≤ (place m).1 ∧ (place m).1 ≤ n + 1 := by
    intro n
    induction n with
    | zero => intro m hm; rw [List.eq_nil_of_length_eq_zero hm]; exact ⟨by decide, by decide⟩
    | succ n ih =>
      intro m hm
      have hne : m ≠ [] := by intro e; subst e; simp at hm
      rw [← List.dropLast_concat_getLast hne, place_snoc]
      have := ih m.dropLast (by rw [List.length_dropLast]; omega)
      unfold plStep
      split <;> simp <;> omega
  have h2 := h _ (l.take i) rfl
  have h3 : (l.take i).length ≤ i := List.length_take_le _ _
  unfold lineAt; omega
theorem line_step (s : ByteArray) (i : Nat) (h : i < s.size) : lineAt s.toList (i + 1) = if s[i] = 10 then lineAt s.toList i + 1 else lineAt s.toList i := by
  unfold lineAt; rw [take_snoc s i h, place_snoc]; unfold plStep; split <;> rfl
theorem col_step (s : ByteArray) (i : Nat) (h : i < s.size) : colAt s.toList (i + 1) = if s[i] = 10 then 1 else colAt s.toList i + 1 := by
  unfold colAt; rw [take_snoc s i h, place_snoc]; unfold plStep; split <;> rfl
/-- bytes without a newline change the column alone -/
theorem place_run (l m : Bytes) (h : 10 ∉ m) : place (l ++ m) = ((place l).1, (place l).2 + m.length) := by
  induction m generalizing l with
  | nil => simp
  | cons b r ih =>
    simp only [List.mem_cons, not_or] at h
    have hb : ¬ b = 10 := fun e => h.1 e.symm
    rw [show l ++ b :: r = (l ++ [b]) ++ r from by simp, ih _ h.2, place_snoc]
    unfold plStep
    rw [if_neg hb]
    simp only [List.length_cons, Prod.mk.injEq, true_and]
    omega
theorem place_on (l : Bytes) (i n : Nat) (hn : i + n ≤ l.length) (h : 10 ∉ (l.drop i).take n) : lineAt l (i + n) = lineAt l i ∧ colAt l (i + n) = colAt l i + n := by
  have e : l.take (i + n) = l.take i ++ (l.drop i).take n := by rw [List.take_add]
  have hl : ((l.drop i).take n).length = n := by rw [List.length_take, List.length_drop]; omega
  unfold lineAt colAt
  rw [e, place_run _ _ h, hl]
  exact ⟨rfl, rfl⟩
end Go.Proofs.YtbmkbenlhkcklaaDoor.Pl
