/-
  Walks and plain mathematics, several texts in one (Sp St Sc Sd).
-/
import Derived.Test.YtkmgnibopmpcjaaGreatDoorH33
import Derived.Test.YtkmgnibopmpcjaaGreatDoorH35
import Derived.Test.YtkmgnibopmpcjaaGreatDoorH34
/-
  Walks of layer 3: Size and Depth, whole.
-/
namespace Go.Proofs.YtkmgnibopmpcjaaGreatDoor
open Go Go.RowKit
open Pl (Syn)
theorem fr_above {B : Nat} {own own' : Nat → Prop} {a w w' : World} (hb : Below B a w) (h : Fr own own' w w') (hB2 : B ≤ w.heap.size) (ho : ∀ i, own i → B ≤ i) : Below B a w' :=
  ⟨h.1.trans hb.os, h.2.1.trans hb.tape, h.2.2.1.trans hb.output, Nat.le_trans hb.size h.size, fun i hi => (h.block (Nat.lt_of_lt_of_le hi hB2) (fun g => by have := ho i g; omega)).trans (hb.block i hi)⟩
theorem cell1_set {g : Nat} {n x y : Int} {w : World} (h : Cell1 g n w) (hx : x = y) (o : Obj) : Cell1 g y ((w.setCell ⟨g, 0, none⟩ (.int .i64 x)).alloc o) := by
  subst hx
  have := (Blk.set h 0 (.int .i64 x)).alloc o
  simpa [Cell1] using this
end Go.Proofs.YtkmgnibopmpcjaaGreatDoor

/-
  Walks of layer 3: few.
-/
namespace Go.Proofs.YtkmgnibopmpcjaaGreatDoor
open Go Go.RowKit
open Pl (Syn)
theorem size_setCell (w : World) (p : Addr) (v : Value) : (w.setCell p v).heap.size = w.heap.size := by simp [World.setCell]
end Go.Proofs.YtkmgnibopmpcjaaGreatDoor

/-
  Plain mathematics of layer 3: the two ways to look up a form agree. No program.
-/
namespace Go.Proofs.YtkmgnibopmpcjaaGreatDoor.Pl
open Go
theorem parts_nil (l : List Syn) : parts l [] = decide (l.length = 0) := by cases l <;> simp [parts]
theorem parts_exact (l : List Syn) : ∀ cs : List Int, (∀ c ∈ cs, c ≠ 0) → parts l cs = exact l cs := by
  induction l with
  | nil => intro cs _; cases cs <;> rfl
  | cons t r ih =>
    intro cs h
    cases cs with
    | nil => rfl
    | cons c cs =>
      rw [parts, exact, ih cs (fun x hx => h x (List.mem_cons_of_mem _ hx)), bel_eq _ _ (h c List.mem_cons_self), if_neg (h c List.mem_cons_self)]
theorem allOf_eq (l : List Syn) (c : Int) (h : c ≠ 0) : allOf l c = rall l c := by
  unfold allOf rall
  congr 1
  funext t
  exact bel_eq _ _ h
theorem rall_one (t : Syn) (c : Int) : rall [t] c = rbel t.op c := by simp [rall]
theorem parts_one (l : List Syn) (c : Int) (h : c ≠ 0) : parts l [c] = (decide (l.length = 1) && rall l c) := by
  match l with
  | [] => rfl
  | [t] => simp [parts, rall, bel_eq _ _ h]
  | t :: u :: r => simp [parts]
theorem parts_opt (l : List Syn) (c : Int) (h : c ≠ 0) : (parts l [] || parts l [c]) = (decide (l.length ≤ 1) && rall l c) := by
  rw [parts_nil, parts_one l c h]
  match l with
  | [] => simp [rall]
  | [t] => simp
  | t :: u :: r => simp
theorem parts_tuple (l : List Syn) (c : Int) (h : c ≠ 0) : (parts l [] || tuple l c) = (decide (l.length ≠ 1) && decide (l.length ≤ 9) && rall l c) := by
  rw [parts_nil, tuple, allOf_eq l c h]
  match l with
  | [] => simp [rall]
  | [t] => simp
  | t :: u :: r => simp
theorem tuple_eq (l : List Syn) (c : Int) (h : c ≠ 0) : tuple l c = (decide (2 ≤ l.length) && decide (l.length ≤ 9) && rall l c) := by
  rw [tuple, allOf_eq l c h, Bool.decide_and]
theorem exact_zero (l : List Syn) : (parts l [6] && decide (opAt l 0 = 72)) = exact l [0] := by
  match l with
  | [] => rfl
  | [t] =>
    simp only [parts, exact, opAt, List.getD_cons_zero, if_true, Bool.and_true]
    by_cases h : t.op = 72
    · rw [h]; rfl
    · simp [h]
  | t :: u :: r => simp [parts, exact]
theorem exact_two (l : List Syn) : (parts l [3, 6] && decide (opAt l 1 = 72)) = exact l [3, 0] := by
  match l with
  | [] => rfl
  | [t] => simp [parts, exact]
  | [t, u] =>
    simp only [parts, exact, opAt, List.getD_cons_succ, List.getD_cons_zero, if_true, Bool.and_true]
    rw [bel_eq _ 3 (by decide), if_neg (by decide)]
    by_cases h : u.op = 72
    · rw [h]; simp [bel, cat]
    · simp [h]
  | t :: u :: x :: r => simp [parts, exact]
theorem share_eq (l : List Syn) : (parts l [1] && decide (opAt l 0 = 2) && decide ((l.getD 0 none0).l.length = 0)) = (decide (l.length = 1) && decide (opAt l 0 = 2) && decide ((l.getD 0 none0).l.length = 0)) := by
  match l with
  | [] => rfl
  | [t] =>
    simp only [parts, opAt, List.getD_cons_zero, Bool.and_true, List.length_cons, List.length_nil]
    by_cases h : t.op = 2
    · rw [h]; rfl
    · simp [h]
  | t :: u :: r => simp [parts]
theorem with_eq (l : List Syn) : (parts l [6, 4] && decide (opAt l 1 = 43)) = (decide (l.length = 2) && rall (l.take 1) 6 && decide (opAt l 1 = 43)) := by
  match l with
  | [] => rfl
  | [t] => simp [parts]
  | [t, u] =>
    simp only [parts, opAt, List.getD_cons_succ, List.getD_cons_zero, Bool.and_true, List.length_cons, List.length_nil, List.take_succ_cons, List.take_zero, rall_one]
    rw [bel_eq _ 6 (by decide)]
    by_cases h : u.op = 43
    · rw [h]; simp [bel]
    · simp [h]
  | t :: u :: x :: r => simp [parts]
theorem case_eq (l : List Syn) : (decide (1 < l.length) && parts (l.take 1) [3] && kinds (l.drop 1) [30]) = (decide (2 ≤ l.length) && rall (l.take 1) 3 && kinds (l.drop 1) [30]) := by
  match l with
  | [] => rfl
  | [t] => simp
  | t :: u :: r => simp [parts, rall, bel_eq _ 3 (by decide)]
theorem last_eq (l : List Syn) (c : Int) (hc : c ≠ 0) (h : 1 ≤ l.length) : parts (l.drop (l.length - 1)) [c] = rall (l.drop (l.length - 1)) c := by
  rw [parts_one _ _ hc]
  have : (l.drop (l.length - 1)).length = 1 := by rw [List.length_drop]; omega
  rw [this]; simp
theorem let_eq (l : List Syn) : (decide (1 ≤ l.length) && kinds (l.take (l.length - 1)) [41, 42, 50] && parts (l.drop (l.length - 1)) [3]) = (decide (1 ≤ l.length) && rall (l.drop (l.length - 1)) 3 && kinds (l.take (l.length - 1)) [41, 42, 50]) := by
  by_cases h : 1 ≤ l.length
  · rw [last_eq l 3 (by decide) h]; simp only [decide_eq_true h, Bool.true_and, Bool.and_comm]
  · simp [h]
theorem mlet_eq (l : List Syn) : (decide (1 ≤ l.length) && allOf (l.take (l.length - 1)) 4 && parts (l.drop (l.length - 1)) [7]) = (decide (1 ≤ l.length) && rall (l.take (l.length - 1)) 4 && rall (l.drop (l.length - 1)) 7) := by
  by_cases h : 1 ≤ l.length
  · rw [last_eq l 7 (by decide) h, allOf_eq _ 4 (by decide)]
  · simp [h]
theorem core_or (op n : Int) (l : List Syn) (h : op ≤ 40) : (core op n l || modl op l) = core op n l := by
  have : modl op l = false := by
    unfold modl
    repeat' rw [if_neg (by omega)]
  rw [this, Bool.or_false]
theorem modl_or (op n : Int) (l : List Syn) (h : 40 ≤ op) : (core op n l || modl op l) = modl op l := by
  have : core op n l = false := by
    unfold core
    repeat' rw [if_neg (by omega)]
  rw [this, Bool.false_or]
theorem low_not_empty (s : ByteArray) (h : lowS s = true) : emptyS s = false := by
  have := isLower_le _ h
  unfold emptyS
  cases hs : s.toList
  · rw [hs] at this; simp at this
  · rfl
end Go.Proofs.YtkmgnibopmpcjaaGreatDoor.Pl

/-
  Plain mathematics of layer 3: a form is a form. No program.
-/
namespace Go.Proofs.YtkmgnibopmpcjaaGreatDoor.Pl
open Go
set_option linter.unusedSimpArgs false
theorem p1 (l : List Syn) : parts l [1] = exact l [1] := parts_exact _ _ (by decide)
theorem p3 (l : List Syn) : parts l [3] = exact l [3] := parts_exact _ _ (by decide)
theorem p6 (l : List Syn) : parts l [6] = exact l [6] := parts_exact _ _ (by decide)
theorem p7 (l : List Syn) : parts l [7] = exact l [7] := parts_exact _ _ (by decide)
theorem p11 (l : List Syn) : parts l [1, 1] = exact l [1, 1] := parts_exact _ _ (by decide)
theorem p33 (l : List Syn) : parts l [3, 3] = exact l [3, 3] := parts_exact _ _ (by decide)
theorem p333 (l : List Syn) : parts l [3, 3, 3] = exact l [3, 3, 3] := parts_exact _ _ (by decide)
theorem p23 (l : List Syn) : parts l [2, 3] = exact l [2, 3] := parts_exact _ _ (by decide)
theorem p31 (l : List Syn) : parts l [3, 1] = exact l [3, 1] := parts_exact _ _ (by decide)
theorem p66 (l : List Syn) : parts l [6, 6] = exact l [6, 6] := parts_exact _ _ (by decide)
theorem p67 (l : List Syn) : parts l [6, 7] = exact l [6, 7] := parts_exact _ _ (by decide)
theorem p77 (l : List Syn) : parts l [7, 7] = exact l [7, 7] := parts_exact _ _ (by decide)
theorem p76 (l : List Syn) : parts l [7, 6] = exact l [7, 6] := parts_exact _ _ (by decide)
theorem o1 (l : List Syn) : (parts l [] || parts l [1]) = (decide (l.length ≤ 1) && rall l 1) := parts_opt l 1 (by decide)
theorem o2 (l : List Syn) : (parts l [] || parts l [2]) = (decide (l.length ≤ 1) && rall l 2) := parts_opt l 2 (by decide)
theorem t2 (l : List Syn) : (parts l [] || tuple l 2) = (decide (l.length ≠ 1) && decide (l.length ≤ 9) && rall l 2) := parts_tuple l 2 (by decide)
theorem t3 (l : List Syn) : (parts l [] || tuple l 3) = (decide (l.length ≠ 1) && decide (l.length ≤ 9) && rall l 3) := parts_tuple l 3 (by decide)
theorem t1 (l : List Syn) : tuple l 1 = (decide (2 ≤ l.length) && decide (l.length ≤ 9) && rall l 1) := tuple_eq l 1 (by decide)
theorem a1 (l : List Syn) : allOf l 1 = rall l 1 := allOf_eq l 1 (by decide)
theorem a4 (l : List Syn) : allOf l 4 = rall l 4 := allOf_eq l 4 (by decide)
theorem a5 (l : List Syn) : allOf l 5 = rall l 5 := allOf_eq l 5 (by decide)
theorem mlet2 (l : List Syn) : (decide (1 ≤ l.length) && rall (l.take (l.length - 1)) 4 && parts (l.drop (l.length - 1)) [7]) = (decide (1 ≤ l.length) && rall (l.take (l.length - 1)) 4 && rall (l.drop (l.length - 1)) 7) := by
  rw [← a4, mlet_eq, a4]
theorem op_eq (n : Int) (l : List Syn) (s m : Bool) : (decide (1 ≤ n) && decide (n ≤ 12) && s && m && (if n = 12 then parts l [3] else parts l [3, 3])) = (if n = 12 then s && m && exact l [3] else s && m && decide (1 ≤ n) && decide (n ≤ 11) && exact l [3, 3]) := by
  by_cases h : n = 12
  · rw [if_pos h, if_pos h, p3, h]; simp
  · rw [if_neg h, if_neg h, p33, show decide (n ≤ 12) = decide (n ≤ 11) from by rw [Bool.eq_iff_iff, decide_eq_true_eq, decide_eq_true_eq]; omega]; ac_rfl
theorem form_low (op n around : Int) (s : ByteArray) (m : List ByteArray) (l : List Syn) (anon : Bool) (h : op ≤ 40) : form ⟨op, n, s, m, l⟩ around = rform ⟨op, n, s, m, l⟩ anon := by
  unfold form
  rw [show (core op n l || modl op l) = core op n l from core_or op n l h]
  have hc : op = 1 ∨ op = 2 ∨ op = 3 ∨ op = 4 ∨ op = 5 ∨ op = 11 ∨ op = 12 ∨ op = 13 ∨ op = 14 ∨ op = 15 ∨ op = 21 ∨ op = 22 ∨ op = 23 ∨ op = 24 ∨ op = 25 ∨ op = 26 ∨ op = 27 ∨ op = 28 ∨ op = 29 ∨ op = 30 ∨ op = 31 ∨ op = 32 ∨ op = 33 ∨ op = 34 ∨
      (op ≠ 1 ∧ op ≠ 2 ∧ op ≠ 3 ∧ op ≠ 4 ∧ op ≠ 5 ∧ op ≠ 11 ∧ op ≠ 12 ∧ op ≠ 13 ∧ op ≠ 14 ∧ op ≠ 15 ∧ ¬ (21 ≤ op ∧ op ≤ 34)) := by omega
  rcases hc with rfl | rfl | rfl | rfl | rfl | rfl | rfl | rfl | rfl | rfl | rfl | rfl | rfl | rfl | rfl | rfl | rfl | rfl | rfl | rfl | rfl | rfl | rfl | rfl | h0
  iterate 24
    · (try simp (config := { decide := true }) only [num, stxt, nam, core, rform, cat, typeF, patF, exprF, bare, hasPath, lowEnd, if_true, if_false, or_false, false_or, or_true, true_or, and_true, and_false, false_and, true_and, decide_true, decide_false, Bool.true_or, Bool.false_or, Bool.true_and, Bool.and_true, Bool.or_false, o2, t2, t3, t1, a1, exact_zero, case_eq, let_eq, Bool.decide_and, op_eq])
      (try simp only [parts_nil, p1, p3, p11, p33, p333, p23, p31])
      first | done | ac_rfl
  · have h1 : core op n l = false := by
      unfold core
      repeat' rw [if_neg (by omega)]
    have h2 : cat op = 0 := by
      unfold cat
      repeat' split
      all_goals omega
    have h3 : rform ⟨op, n, s, m, l⟩ anon = false := by
      unfold rform
      rw [if_neg (by show ¬ (op = 43 ∧ _); omega)]
      show (if cat op = 1 then _ else if cat op = 2 then _ else if cat op = 3 ∨ op = 30 then _ else if cat op = 4 ∨ op = 45 then _ else if cat op = 5 ∨ cat op = 6 then _ else decide (cat op = 7) && _) = false
      rw [h2]
      rw [if_neg (by decide), if_neg (by decide), if_neg (by omega), if_neg (by omega), if_neg (by decide)]
      rfl
    rw [h1, h3, Bool.and_false]
theorem form_high (op n around : Int) (s : ByteArray) (m : List ByteArray) (l : List Syn) (anon : Bool) (h : 40 ≤ op) (h43 : op ≠ 43) (h74 : op ≠ 74) : form ⟨op, n, s, m, l⟩ around = rform ⟨op, n, s, m, l⟩ anon := by
  unfold form
  rw [show (core op n l || modl op l) = modl op l from modl_or op n l h]
  have hc : op = 41 ∨ op = 42 ∨ op = 44 ∨ op = 45 ∨ op = 46 ∨ op = 47 ∨ op = 48 ∨ op = 49 ∨ op = 50 ∨ op = 61 ∨ op = 62 ∨ op = 63 ∨ op = 64 ∨ op = 65 ∨ op = 66 ∨ op = 71 ∨ op = 72 ∨ op = 73 ∨ op = 81 ∨ op = 82 ∨ op = 83 ∨ op = 84 ∨ op = 85 ∨ op = 86 ∨ op = 87 ∨ op = 88 ∨
      (¬ (41 ≤ op ∧ op ≤ 50) ∧ ¬ (61 ≤ op ∧ op ≤ 66) ∧ ¬ (71 ≤ op ∧ op ≤ 74) ∧ ¬ (81 ≤ op ∧ op ≤ 88)) := by omega
  rcases hc with rfl | rfl | rfl | rfl | rfl | rfl | rfl | rfl | rfl | rfl | rfl | rfl | rfl | rfl | rfl | rfl | rfl | rfl | rfl | rfl | rfl | rfl | rfl | rfl | rfl | rfl | h0
  iterate 26
    · (try simp (config := { decide := true }) only [num, stxt, nam, modl, rform, cat, declF, specF, modF, bare, hasPath, lowEnd, if_true, if_false, or_false, false_or, or_true, true_or, and_true, and_false, false_and, true_and, decide_true, decide_false, Bool.true_or, Bool.false_or, Bool.true_and, Bool.and_true, Bool.or_false, o1, a4, a5, exact_two, share_eq, mlet2, Bool.decide_and, params])
      (try simp only [parts_nil, p1, p3, p6, p7, p66, p67, p77, p76])
      first | done | ac_rfl
  · have h1 : modl op l = false := by
      unfold modl
      repeat' rw [if_neg (by omega)]
    have h2 : cat op = 0 := by
      unfold cat
      repeat' split
      all_goals omega
    have h3 : rform ⟨op, n, s, m, l⟩ anon = false := by
      unfold rform
      rw [if_neg (by show ¬ (op = 43 ∧ _); omega)]
      show (if cat op = 1 then _ else if cat op = 2 then _ else if cat op = 3 ∨ op = 30 then _ else if cat op = 4 ∨ op = 45 then _ else if cat op = 5 ∨ cat op = 6 then _ else decide (cat op = 7) && _) = false
      rw [h2]
      rw [if_neg (by decide), if_neg (by decide), if_neg (by omega), if_neg (by omega), if_neg (by decide)]
      rfl
    rw [h1, h3, Bool.and_false]
theorem form_with (n around : Int) (s : ByteArray) (m : List ByteArray) (l : List Syn) (anon : Bool) : rform ⟨74, n, s, m, l⟩ anon = (form ⟨74, n, s, m, l⟩ around && emptyS (l.getD 1 none0).s) := by
  unfold form
  rw [show (core 74 n l || modl 74 l) = modl 74 l from modl_or 74 n l (by decide)]
  simp (config := { decide := true }) only [num, stxt, nam, modl, rform, cat, specF, bare, hasPath, lowEnd, if_true, if_false, or_false, false_or, or_true, true_or, and_true, and_false, false_and, true_and, decide_true, decide_false, Bool.true_or, Bool.false_or, Bool.true_and, Bool.and_true, Bool.or_false, with_eq]
  ac_rfl
theorem form_type (n around : Int) (s : ByteArray) (m : List ByteArray) (l : List Syn) (anon : Bool) (h : around = 74 ↔ anon = true) : form ⟨43, n, s, m, l⟩ around = rform ⟨43, n, s, m, l⟩ anon := by
  unfold form
  rw [show (core 43 n l || modl 43 l) = modl 43 l from modl_or 43 n l (by decide)]
  simp (config := { decide := true }) only [num, stxt, nam, modl, rform, cat, declF, bare, hasPath, lowEnd, if_true, if_false, or_false, false_or, or_true, true_or, and_true, and_false, false_and, true_and, decide_true, decide_false, Bool.true_or, Bool.false_or, Bool.true_and, Bool.and_true, Bool.or_false, p1]
  cases anon
  · have h0 : ¬ around = 74 := fun e => by have := h.1 e; cases this
    rw [if_neg h0]
    cases hs : emptyS s
    · simp
    · have : lowS s = false := by
        cases hl : lowS s
        · rfl
        · rw [low_not_empty s hl] at hs; cases hs
      simp [this]
  · rw [if_pos (h.2 rfl)]
    cases hs : emptyS s
    · simp
    · simp
theorem form_eq (t : Syn) (around : Int) (anon : Bool) (h43 : t.op = 43 → (around = 74 ↔ anon = true)) (h74 : t.op ≠ 74) : form t around = rform t anon := by
  obtain ⟨op, n, s, m, l⟩ := t
  by_cases h : op ≤ 40
  · exact form_low op n around s m l anon h
  · by_cases h1 : op = 43
    · subst h1; exact form_type n around s m l anon (h43 rfl)
    · exact form_high op n around s m l anon (by omega) h1 h74
mutual
def Syn.ok : Syn → Int → Bool
  | ⟨op, n, s, m, l⟩, around => form ⟨op, n, s, m, l⟩ around && oks l op
def oks : List Syn → Int → Bool
  | [], _ => true
  | t :: r, around => t.ok around && oks r around
end
theorem ok_eq (t : Syn) (around : Int) : t.ok around = (form t around && oks t.l t.op) := by obtain ⟨op, n, s, m, l⟩ := t; rw [Syn.ok]
def anonAt (op : Int) (j : Nat) : Bool := decide (op = 74 ∧ j = 1)
mutual
def Syn.nodes : Syn → Bool → Bool
  | ⟨op, n, s, m, l⟩, anon => rform ⟨op, n, s, m, l⟩ anon && nodess l op 0
def nodess : List Syn → Int → Nat → Bool
  | [], _, _ => true
  | t :: r, op, j => t.nodes (anonAt op j) && nodess r op (j + 1)
end
theorem nodes_eq (t : Syn) (anon : Bool) : t.nodes anon = (rform t anon && nodess t.l t.op 0) := by obtain ⟨op, n, s, m, l⟩ := t; rw [Syn.nodes]
theorem nodess_nil (op : Int) (j : Nat) : nodess [] op j = true := by rw [nodess]
theorem nodess_cons (t : Syn) (r : List Syn) (op : Int) (j : Nat) : nodess (t :: r) op j = (t.nodes (anonAt op j) && nodess r op (j + 1)) := by rw [nodess]
theorem oks_nil (op : Int) : oks [] op = true := by rw [oks]
theorem oks_cons (t : Syn) (r : List Syn) (op : Int) : oks (t :: r) op = (t.ok op && oks r op) := by rw [oks]
theorem with_parts (t : Syn) (around : Int) (h : t.op = 74) (hf : form t around = true) : ∃ a b, t.l = [a, b] ∧ a.op ≠ 43 ∧ b.op = 43 := by
  obtain ⟨op, n, s, m, l⟩ := t
  have h' : op = 74 := h
  subst h'
  unfold form at hf
  rw [show (core 74 n l || modl 74 l) = modl 74 l from modl_or 74 n l (by decide)] at hf
  have hm : modl 74 l = true := by
    rw [Bool.and_eq_true] at hf; exact hf.2
  have hm2 : (parts l [6, 4] && decide (opAt l 1 = 43)) = true := hm
  match l, hm2 with
  | [a, b], hm2 =>
    refine ⟨a, b, rfl, fun ha => ?_, ?_⟩
    · simp [parts, ha, bel] at hm2
    · simp [opAt] at hm2; exact hm2.2
  | [], hm2 => simp [parts] at hm2
  | [a], hm2 => simp [parts] at hm2
  | a :: b :: c :: r, hm2 => simp [parts] at hm2
theorem type_empty (t : Syn) (h : t.op = 43) (hf : t.ok 74 = true) : emptyS t.s = true := by
  obtain ⟨op, n, s, m, l⟩ := t
  have h' : op = 43 := h
  subst h'
  rw [ok_eq] at hf
  unfold form at hf
  simp only [Bool.and_eq_true] at hf
  have := hf.1.1.1.2
  simpa [stxt] using this
theorem nodes_ok (t : Syn) : ∀ (around : Int) (anon : Bool), (t.op = 43 → (around = 74 ↔ anon = true)) → t.ok around = t.nodes anon := by
  induction t using Syn.ind with
  | h t ih =>
    intro around anon h43
    rw [ok_eq, nodes_eq]
    by_cases h74 : t.op = 74
    · have hw : rform t anon = (form t around && emptyS (t.l.getD 1 none0).s) := by
        obtain ⟨op, n, s, m, l⟩ := t
        have h' : op = 74 := h74
        subst h'
        exact form_with n around s m l anon
      rw [hw]
      cases hf : form t around
      · simp
      · obtain ⟨a, b, hl, ha, hb⟩ := with_parts t around h74 hf
        have iha := ih a (by rw [hl]; simp) 74 (anonAt 74 0) (fun h => absurd h ha)
        have ihb := ih b (by rw [hl]; simp) 74 (anonAt 74 1) (fun _ => by simp [anonAt])
        rw [hl, h74, oks_cons, oks_cons, oks_nil, nodess_cons, nodess_cons, nodess_nil, ← iha, ← ihb]
        have hg : ([a, b].getD 1 none0).s = b.s := rfl
        rw [hg]
        cases hbo : b.ok 74
        · simp
        · rw [type_empty b hb hbo]; simp
    · rw [form_eq t around anon h43 h74]
      have hls : ∀ (l : List Syn) (j : Nat), (∀ x ∈ l, ∀ (around : Int) (anon : Bool), (x.op = 43 → (around = 74 ↔ anon = true)) → x.ok around = x.nodes anon) → oks l t.op = nodess l t.op j := by
        intro l
        induction l with
        | nil => intro j _; rw [oks_nil, nodess_nil]
        | cons x r ihr =>
          intro j hx
          rw [oks_cons, nodess_cons, ihr (j + 1) (fun y hy => hx y (List.mem_cons_of_mem _ hy)), hx x List.mem_cons_self t.op (anonAt t.op j) (fun _ => by simp [anonAt, h74])]
      rw [hls t.l 0 ih]
def formed (t : Syn) : Bool := decide (t.size ≤ 20000) && decide (t.depth ≤ 400) && t.nodes false
theorem formed_ok (t : Syn) : formed t = (decide (t.size ≤ 20000) && decide (t.depth ≤ 400) && t.ok 0) := by
  unfold formed
  rw [nodes_ok t 0 false (fun _ => by simp)]
end Go.Proofs.YtkmgnibopmpcjaaGreatDoor.Pl
