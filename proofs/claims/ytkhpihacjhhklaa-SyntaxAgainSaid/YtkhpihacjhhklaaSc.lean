/-
  Plain mathematics of layer 3: the two ways to look up a form agree. No program.
-/
import Derived.Test.YtkhpihacjhhklaaSb
namespace Go.Proofs.Ytkhpihacjhhklaa.Pl
open Go

theorem parts_nil (l : List Syn) : parts l [] = decide (l.length = 0) := by cases l <;> simp [parts]
theorem parts_exact (l : List Syn) : ∀ cs : List Int, (∀ c ∈ cs, c ≠ 0) → parts l cs = exact l cs := by
  induction l with
  | nil => intro cs _; cases cs <;> rfl
  | cons t r ih =>
    intro cs h
    cases cs with
    | nil => rfl
    | cons c cs =>
      rw [parts, exact, ih cs (fun x hx => h x (List.mem_cons_of_mem _ hx)), bel_eq _ _ (h c List.mem_cons_self), if_neg (h c List.mem_cons_self)]
theorem allOf_eq (l : List Syn) (c : Int) (h : c ≠ 0) : allOf l c = rall l c := by
  unfold allOf rall
  congr 1
  funext t
  exact bel_eq _ _ h
theorem rall_one (t : Syn) (c : Int) : rall [t] c = rbel t.op c := by simp [rall]
theorem parts_one (l : List Syn) (c : Int) (h : c ≠ 0) : parts l [c] = (decide (l.length = 1) && rall l c) := by
  match l with
  | [] => rfl
  | [t] => simp [parts, rall, bel_eq _ _ h]
  | t :: u :: r => simp [parts]
theorem parts_opt (l : List Syn) (c : Int) (h : c ≠ 0) : (parts l [] || parts l [c]) = (decide (l.length ≤ 1) && rall l c) := by
  rw [parts_nil, parts_one l c h]
  match l with
  | [] => simp [rall]
  | [t] => simp
  | t :: u :: r => simp
theorem parts_tuple (l : List Syn) (c : Int) (h : c ≠ 0) : (parts l [] || tuple l c) = (decide (l.length ≠ 1) && decide (l.length ≤ 9) && rall l c) := by
  rw [parts_nil, tuple, allOf_eq l c h]
  match l with
  | [] => simp [rall]
  | [t] => simp
  | t :: u :: r => simp
theorem tuple_eq (l : List Syn) (c : Int) (h : c ≠ 0) : tuple l c = (decide (2 ≤ l.length) && decide (l.length ≤ 9) && rall l c) := by
  rw [tuple, allOf_eq l c h, Bool.decide_and]
theorem exact_zero (l : List Syn) : (parts l [6] && decide (opAt l 0 = 72)) = exact l [0] := by
  match l with
  | [] => rfl
  | [t] =>
    simp only [parts, exact, opAt, List.getD_cons_zero, if_true, Bool.and_true]
    by_cases h : t.op = 72
    · rw [h]; rfl
    · simp [h]
  | t :: u :: r => simp [parts, exact]
theorem exact_two (l : List Syn) : (parts l [3, 6] && decide (opAt l 1 = 72)) = exact l [3, 0] := by
  match l with
  | [] => rfl
  | [t] => simp [parts, exact]
  | [t, u] =>
    simp only [parts, exact, opAt, List.getD_cons_succ, List.getD_cons_zero, if_true, Bool.and_true]
    rw [bel_eq _ 3 (by decide), if_neg (by decide)]
    by_cases h : u.op = 72
    · rw [h]; simp [bel, cat]
    · simp [h]
  | t :: u :: x :: r => simp [parts, exact]
theorem share_eq (l : List Syn) : (parts l [1] && decide (opAt l 0 = 2) && decide ((l.getD 0 none0).l.length = 0)) = (decide (l.length = 1) && decide (opAt l 0 = 2) && decide ((l.getD 0 none0).l.length = 0)) := by
  match l with
  | [] => rfl
  | [t] =>
    simp only [parts, opAt, List.getD_cons_zero, Bool.and_true, List.length_cons, List.length_nil]
    by_cases h : t.op = 2
    · rw [h]; rfl
    · simp [h]
  | t :: u :: r => simp [parts]
theorem with_eq (l : List Syn) : (parts l [6, 4] && decide (opAt l 1 = 43)) = (decide (l.length = 2) && rall (l.take 1) 6 && decide (opAt l 1 = 43)) := by
  match l with
  | [] => rfl
  | [t] => simp [parts]
  | [t, u] =>
    simp only [parts, opAt, List.getD_cons_succ, List.getD_cons_zero, Bool.and_true, List.length_cons, List.length_nil, List.take_succ_cons, List.take_zero, rall_one]
    rw [bel_eq _ 6 (by decide)]
    by_cases h : u.op = 43
    · rw [h]; simp [bel]
    · simp [h]
  | t :: u :: x :: r => simp [parts]
theorem case_eq (l : List Syn) : (decide (1 < l.length) && parts (l.take 1) [3] && kinds (l.drop 1) [30]) = (decide (2 ≤ l.length) && rall (l.take 1) 3 && kinds (l.drop 1) [30]) := by
  match l with
  | [] => rfl
  | [t] => simp
  | t :: u :: r => simp [parts, rall, bel_eq _ 3 (by decide)]
theorem last_eq (l : List Syn) (c : Int) (hc : c ≠ 0) (h : 1 ≤ l.length) : parts (l.drop (l.length - 1)) [c] = rall (l.drop (l.length - 1)) c := by
  rw [parts_one _ _ hc]
  have : (l.drop (l.length - 1)).length = 1 := by rw [List.length_drop]; omega
  rw [this]; simp
theorem let_eq (l : List Syn) : (decide (1 ≤ l.length) && kinds (l.take (l.length - 1)) [41, 42, 50] && parts (l.drop (l.length - 1)) [3]) = (decide (1 ≤ l.length) && rall (l.drop (l.length - 1)) 3 && kinds (l.take (l.length - 1)) [41, 42, 50]) := by
  by_cases h : 1 ≤ l.length
  · rw [last_eq l 3 (by decide) h]; simp only [decide_eq_true h, Bool.true_and, Bool.and_comm]
  · simp [h]
theorem mlet_eq (l : List Syn) : (decide (1 ≤ l.length) && allOf (l.take (l.length - 1)) 4 && parts (l.drop (l.length - 1)) [7]) = (decide (1 ≤ l.length) && rall (l.take (l.length - 1)) 4 && rall (l.drop (l.length - 1)) 7) := by
  by_cases h : 1 ≤ l.length
  · rw [last_eq l 7 (by decide) h, allOf_eq _ 4 (by decide)]
  · simp [h]
theorem core_or (op n : Int) (l : List Syn) (h : op ≤ 40) : (core op n l || modl op l) = core op n l := by
  have : modl op l = false := by
    unfold modl
    repeat' rw [if_neg (by omega)]
  rw [this, Bool.or_false]
theorem modl_or (op n : Int) (l : List Syn) (h : 40 ≤ op) : (core op n l || modl op l) = modl op l := by
  have : core op n l = false := by
    unfold core
    repeat' rw [if_neg (by omega)]
  rw [this, Bool.false_or]
theorem low_not_empty (s : ByteArray) (h : lowS s = true) : emptyS s = false := by
  have := isLower_le _ h
  unfold emptyS
  cases hs : s.toList
  · rw [hs] at this; simp at this
  · rfl
end Go.Proofs.Ytkhpihacjhhklaa.Pl
