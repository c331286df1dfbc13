/-
  Walks and plain mathematics, several texts in one (Sq Sr Sb Lq Lr Ls Lt Lu Ia Ib Ic Ta).
-/
import Derived.Test.YtkmgnibopmpcjaaGreatDoorH33
import Derived.Test.YtkmgnibopmpcjaaGreatDoorH2
import Derived.Test.YtkmgnibopmpcjaaGreatDoorH9
import Derived.Lib.SlicesS
import Derived.Test.YtkmgnibopmpcjaaGreatDoorH11
import Derived.Test.YtkmgnibopmpcjaaGreatDoorProg
import Derived.Test.YtkmgnibopmpcjaaGreatDoorH1
import Derived.WalkKit
import Derived.WalkSpells
import Derived.WalkLawsBesides
import Derived.Lib.Hide
/-
  Walks of layer 3: the reference's Size and Depth.
-/
namespace Go.Proofs.YtkmgnibopmpcjaaGreatDoor
open Go Go.RowKit
open Pl (Syn)
theorem KidsAt.part {w : World} {P : Nat → Prop} {l : List Syn} {b off : Nat} (h : KidsAt w P l b off) (k : Nat) (hk : k < l.length) : ∃ xo xn xs na nn nc la ln lc, l[k].op = xo ∧
    w.cell? ⟨b, off + k * 5, none⟩ = some (.int .i64 xo) ∧ w.cell? ⟨b, off + k * 5 + 1, none⟩ = some (.int .i64 xn) ∧ w.cell? ⟨b, off + k * 5 + 2, none⟩ = some (.string xs) ∧ w.cell? ⟨b, off + k * 5 + 3, none⟩ = some (.slice na nn nc) ∧ w.cell? ⟨b, off + k * 5 + 4, none⟩ = some (.slice la ln lc) ∧
    SynV w P l[k] (.agg #[.int .i64 xo, .int .i64 xn, .string xs, .slice na nn nc, .slice la ln lc]) := by
  obtain ⟨xv, ⟨x0, x1, x2, x3, x4, hxv, a0, a1, a2, a3, a4⟩, hxs⟩ := (kidsAt_iff _ _ _ _ _).1 h k hk
  subst hxv
  obtain ⟨na, nn, nc, la, ln, lc, hxf⟩ := hxs.form
  simp only [Value.agg.injEq, Array.mk.injEq, List.cons.injEq, and_true] at hxf
  obtain ⟨rfl, rfl, rfl, rfl, rfl⟩ := hxf
  exact ⟨_, _, _, na, nn, nc, la, ln, lc, rfl, a0, a1, a2, a3, a4, hxs⟩
theorem SynSl.cases {w : World} {P : Nat → Prop} {v : Value} {l : List Syn} (h : SynSl w P v l) : (l = [] ∧ ∃ a c, v = .slice a 0 c ∧ (a = none → c = 0) ∧ c ≤ maxLen) ∨ (∃ b off n c, v = .slice (some ⟨b, off, none⟩) n c ∧ l.length = n ∧ 0 < n ∧ n ≤ c ∧ c ≤ maxLen ∧ P b ∧ KidsAt w P l b off) := by
  obtain ⟨a, c, rfl, h1, h2, h3, h4⟩ := h
  rcases h4 with h4 | ⟨b, off, rfl, h5, h6⟩
  · subst h4; exact .inl ⟨rfl, a, c, rfl, h3, h2⟩
  · cases l with
    | nil => exact .inl ⟨rfl, _, c, rfl, h3, h2⟩
    | cons x r => exact .inr ⟨b, off, _, c, rfl, rfl, by simp, h1, h2, h5, h6⟩
end Go.Proofs.YtkmgnibopmpcjaaGreatDoor

/-
  Walks of layer 3: Equal.
-/
namespace Go.Proofs.YtkmgnibopmpcjaaGreatDoor
open Go Go.RowKit
open Pl (Syn)
theorem StrsIn.getD {w : World} {b off : Nat} {zs : List ByteArray} (h : StrsIn w b off zs) : ∀ j, j < zs.length → w.cell? ⟨b, off + j, none⟩ = some (.string (zs.getD j ByteArray.empty)) := fun j hj => by
  rw [h j hj]; simp [List.getD, hj]
def Tells (p : Prop) (w : World) (e : Ending) (w' : World) : Prop := ∃ r : Bool, e = .returned (.bool r) ∧ (r = true ↔ p) ∧ Below w.heap.size w w'
theorem tells_no {p : Prop} {w w' : World} (hp : ¬ p) (hb : Below w.heap.size w w') : Tells p w (.returned (.bool false)) w' := ⟨false, rfl, ⟨fun h => (by cases h), fun h => absurd h hp⟩, hb⟩
theorem tells_yes {p : Prop} {w w' : World} (hp : p) (hb : Below w.heap.size w w') : Tells p w (.returned (.bool true)) w' := ⟨true, rfl, ⟨fun _ => hp, fun _ => rfl⟩, hb⟩
theorem take_eq_snoc {l m : List Syn} (k : Nat) (hl : k < l.length) (hm : k < m.length) (h : l.take k = m.take k) : l.take (k + 1) = m.take (k + 1) ↔ l[k] = m[k] := by
  rw [List.take_succ_eq_append_getElem hl, List.take_succ_eq_append_getElem hm, h]
  simp only [List.append_cancel_left_eq, List.cons.injEq, and_true]
theorem same_drewN (P : Nat → Prop) (w : World) (q : Nat) : Same P w (w.drewN q) := fun _ _ => rfl
theorem below2 (w : World) (o1 o2 : Obj) : Below w.heap.size w ((w.alloc o1).alloc o2) := (((Below.refl _ _).alloc (Nat.le_refl _) _).alloc (by simp) _)
theorem syn_ext {x y : Syn} : x = y ↔ x.op = y.op ∧ x.n = y.n ∧ x.s = y.s ∧ x.names = y.names ∧ x.l = y.l := by
  obtain ⟨a, b, c, d, e⟩ := x
  obtain ⟨a', b', c', d', e'⟩ := y
  simp
end Go.Proofs.YtkmgnibopmpcjaaGreatDoor

/-
  Plain mathematics of layer 3: the forms of nodes, as the program and as the reference look them up. No program.
-/
namespace Go.Proofs.YtkmgnibopmpcjaaGreatDoor.Pl
open Go
def cat (op : Int) : Int :=
  if op = 30 ∨ op = 45 then 0 else if 1 ≤ op ∧ op ≤ 5 then 1 else if 11 ≤ op ∧ op ≤ 15 then 2 else if 21 ≤ op ∧ op ≤ 34 then 3 else if 41 ≤ op ∧ op ≤ 50 then 4
  else if 61 ≤ op ∧ op ≤ 66 then 5 else if 71 ≤ op ∧ op ≤ 74 then 6 else if 81 ≤ op ∧ op ≤ 88 then 7 else 0
def bel (op c : Int) : Bool := if op = 43 ∨ op = 44 then decide (c = 4 ∨ c = 5) else decide (c ≠ 0 ∧ c = cat op)
def rbel (op c : Int) : Bool := decide (cat op = c ∨ (c = 5 ∧ (op = 43 ∨ op = 44)))
theorem bel_eq (op c : Int) (h : c ≠ 0) : bel op c = rbel op c := by
  unfold bel rbel
  split
  · next h1 =>
    have : cat op = 4 := by unfold cat; rcases h1 with rfl | rfl <;> decide
    rw [this, Bool.eq_iff_iff, decide_eq_true_eq, decide_eq_true_eq]; omega
  · next h1 => rw [Bool.eq_iff_iff, decide_eq_true_eq, decide_eq_true_eq]; omega
def parts : List Syn → List Int → Bool
  | [], [] => true
  | t :: r, c :: cs => bel t.op c && parts r cs
  | _, _ => false
def allOf (l : List Syn) (c : Int) : Bool := l.all fun t => bel t.op c
def kinds (l : List Syn) (ks : List Int) : Bool := l.all fun t => ks.contains t.op
def tuple (l : List Syn) (c : Int) : Bool := decide (2 ≤ l.length ∧ l.length ≤ 9) && allOf l c
def emptyS (s : ByteArray) : Bool := s.toList.isEmpty
def lowS (s : ByteArray) : Bool := isLower s.toList
def upS (s : ByteArray) : Bool := isUpper s.toList
def varS (s : ByteArray) : Bool := isVar s.toList
def okByte (b : UInt8) : Bool := decide ((b.toNat : Int) = 10 ∨ (32 ≤ (b.toNat : Int) ∧ (b.toNat : Int) ≤ 126))
def textS (s : ByteArray) : Bool := decide (s.size ≤ 16384) && s.toList.all okByte
def path (low : Bool) : List ByteArray → Bool
  | [] => false
  | [z] => if low then lowS z else upS z
  | z :: y :: r => upS z && path low (y :: r)
def pathOk (low : Bool) (l : List ByteArray) : Bool := decide (l.length ≤ 8) && path low l
def noTwin (l : List ByteArray) : Bool := decide l.Nodup
def params (l : List ByteArray) : Bool := decide (l.length ≤ 4) && l.all varS && noTwin l
def num (op n : Int) : Bool :=
  if op = 13 then decide (-4503599627370496 ≤ n ∧ n ≤ 4503599627370496) else if op = 21 then decide (0 ≤ n ∧ n ≤ 4503599627370496) else if op = 32 then decide (1 ≤ n ∧ n ≤ 12)
  else if op = 73 ∨ op = 83 then decide (n = 0 ∨ n = 1) else decide (n = 0)
def stxt (op around : Int) (s : ByteArray) : Bool :=
  if op = 1 then varS s else if op = 12 ∨ op = 41 ∨ op = 42 ∨ op = 44 ∨ op = 61 ∨ op = 62 then lowS s
  else if op = 45 ∨ op = 46 ∨ op = 47 ∨ op = 50 ∨ op = 63 ∨ op = 64 ∨ op = 73 ∨ op = 83 then upS s
  else if op = 25 then emptyS s || lowS s else if op = 22 then textS s else if op = 43 then (if around = 74 then emptyS s else lowS s) else emptyS s
def lowEnd (op : Int) : Bool := decide (op = 2 ∨ op = 23 ∨ op = 66 ∨ op = 74)
def nam (op : Int) (l : List ByteArray) : Bool :=
  if hasPath op then pathOk (lowEnd op) l else if op = 42 then decide (1 ≤ l.length ∧ l.length ≤ 9) && l.all lowS
  else if op = 43 ∨ op = 44 ∨ op = 62 then params l else decide (l.length = 0)
def opAt (l : List Syn) (j : Nat) : Int := (l.getD j none0).op
def core (op n : Int) (l : List Syn) : Bool :=
  if op = 1 ∨ op = 5 ∨ op = 11 ∨ op = 12 ∨ op = 13 ∨ op = 21 ∨ op = 22 ∨ op = 23 ∨ op = 24 then parts l []
  else if op = 2 then decide (l.length ≤ 4) && allOf l 1
  else if op = 3 then parts l [1, 1]
  else if op = 4 then tuple l 1
  else if op = 14 then parts l [] || parts l [2]
  else if op = 15 then parts l [] || tuple l 2
  else if op = 25 then parts l [3]
  else if op = 26 then parts l [3, 3]
  else if op = 27 then parts l [] || tuple l 3
  else if op = 28 then parts l [3, 3, 3]
  else if op = 29 then decide (1 < l.length) && parts (l.take 1) [3] && kinds (l.drop 1) [30]
  else if op = 30 then parts l [2, 3]
  else if op = 31 then decide (1 ≤ l.length) && kinds (l.take (l.length - 1)) [41, 42, 50] && parts (l.drop (l.length - 1)) [3]
  else if op = 32 then (if n = 12 then parts l [3] else parts l [3, 3])
  else if op = 33 then parts l [3, 1]
  else if op = 34 then parts l [6] && decide (opAt l 0 = 72)
  else false
def modl (op : Int) (l : List Syn) : Bool :=
  if op = 48 ∨ op = 49 ∨ op = 62 ∨ op = 72 ∨ op = 82 then parts l []
  else if op = 41 ∨ op = 42 then parts l [3]
  else if op = 43 ∨ op = 61 then parts l [1]
  else if op = 44 then decide (0 < l.length) && kinds l [45] && noTwin (l.map Syn.s)
  else if op = 45 then parts l [] || parts l [1]
  else if op = 46 then parts l [7]
  else if op = 47 ∨ op = 63 ∨ op = 64 ∨ op = 65 then parts l [6]
  else if op = 50 ∨ op = 88 then parts l [3, 6] && decide (opAt l 1 = 72)
  else if op = 66 then parts l [1] && decide (opAt l 0 = 2) && decide ((l.getD 0 none0).l.length = 0)
  else if op = 71 then allOf l 5
  else if op = 73 then parts l [6, 6]
  else if op = 74 then parts l [6, 4] && decide (opAt l 1 = 43)
  else if op = 81 then allOf l 4
  else if op = 83 then parts l [6, 7]
  else if op = 84 then parts l [7, 7]
  else if op = 85 ∨ op = 86 then parts l [7, 6]
  else if op = 87 then decide (1 ≤ l.length) && allOf (l.take (l.length - 1)) 4 && parts (l.drop (l.length - 1)) [7]
  else false
def form (t : Syn) (around : Int) : Bool := num t.op t.n && stxt t.op around t.s && nam t.op t.names && (core t.op t.n t.l || modl t.op t.l)
def rall (l : List Syn) (c : Int) : Bool := l.all fun t => rbel t.op c
def exact : List Syn → List Int → Bool
  | [], [] => true
  | t :: r, c :: cs => (if c = 0 then decide (t.op = 72) else rbel t.op c) && exact r cs
  | _, _ => false
def bare (t : Syn) (n s m : Bool) : Bool := (n || decide (t.n = 0)) && (s || emptyS t.s) && (m || decide (t.names.length = 0))
def typeF (t : Syn) : Bool :=
  if t.op = 1 then bare t false true false && varS t.s && decide (t.l.length = 0)
  else if t.op = 2 then bare t false false true && pathOk true t.names && decide (t.l.length ≤ 4) && rall t.l 1
  else if t.op = 3 then bare t false false false && exact t.l [1, 1]
  else if t.op = 4 then bare t false false false && decide (2 ≤ t.l.length) && decide (t.l.length ≤ 9) && rall t.l 1
  else bare t false false true && pathOk false t.names && decide (t.l.length = 0)
def patF (t : Syn) : Bool :=
  if t.op = 11 then bare t false false false && decide (t.l.length = 0)
  else if t.op = 12 then bare t false true false && lowS t.s && decide (t.l.length = 0)
  else if t.op = 13 then bare t true false false && decide (-4503599627370496 ≤ t.n) && decide (t.n ≤ 4503599627370496) && decide (t.l.length = 0)
  else if t.op = 14 then bare t false false true && pathOk false t.names && decide (t.l.length ≤ 1) && rall t.l 2
  else bare t false false false && decide (t.l.length ≠ 1) && decide (t.l.length ≤ 9) && rall t.l 2
def exprF (t : Syn) : Bool :=
  if t.op = 21 then bare t true false false && decide (0 ≤ t.n) && decide (t.n ≤ 4503599627370496) && decide (t.l.length = 0)
  else if t.op = 22 then bare t false true false && textS t.s && decide (t.l.length = 0)
  else if t.op = 23 then bare t false false true && pathOk true t.names && decide (t.l.length = 0)
  else if t.op = 24 then bare t false false true && pathOk false t.names && decide (t.l.length = 0)
  else if t.op = 25 then bare t false true false && (emptyS t.s || lowS t.s) && exact t.l [3]
  else if t.op = 26 then bare t false false false && exact t.l [3, 3]
  else if t.op = 27 then bare t false false false && decide (t.l.length ≠ 1) && decide (t.l.length ≤ 9) && rall t.l 3
  else if t.op = 28 then bare t false false false && exact t.l [3, 3, 3]
  else if t.op = 29 then bare t false false false && decide (2 ≤ t.l.length) && rall (t.l.take 1) 3 && kinds (t.l.drop 1) [30]
  else if t.op = 30 then bare t false false false && exact t.l [2, 3]
  else if t.op = 31 then bare t false false false && decide (1 ≤ t.l.length) && rall (t.l.drop (t.l.length - 1)) 3 && kinds (t.l.take (t.l.length - 1)) [41, 42, 50]
  else if t.op = 32 then (if t.n = 12 then bare t true false false && exact t.l [3] else bare t true false false && decide (1 ≤ t.n) && decide (t.n ≤ 11) && exact t.l [3, 3])
  else if t.op = 33 then bare t false false false && exact t.l [3, 1]
  else bare t false false true && pathOk false t.names && exact t.l [0]
def declF (t : Syn) : Bool :=
  if t.op = 41 then bare t false true false && lowS t.s && exact t.l [3]
  else if t.op = 42 then bare t false true true && lowS t.s && decide (1 ≤ t.names.length) && decide (t.names.length ≤ 9) && t.names.all lowS && exact t.l [3]
  else if t.op = 43 then bare t false true true && (emptyS t.s || lowS t.s) && params t.names && exact t.l [1]
  else if t.op = 44 then bare t false true true && lowS t.s && params t.names && decide (1 ≤ t.l.length) && (kinds t.l [45] && noTwin (t.l.map Syn.s))
  else if t.op = 45 then bare t false true false && upS t.s && decide (t.l.length ≤ 1) && rall t.l 1
  else if t.op = 46 then bare t false true false && upS t.s && exact t.l [7]
  else if t.op = 47 then bare t false true false && upS t.s && exact t.l [6]
  else if t.op = 48 ∨ t.op = 49 then bare t false false true && pathOk false t.names && decide (t.l.length = 0)
  else bare t false true false && upS t.s && exact t.l [3, 0]
def specF (t : Syn) : Bool :=
  if t.op = 61 then bare t false true false && lowS t.s && exact t.l [1]
  else if t.op = 62 then bare t false true true && lowS t.s && params t.names && decide (t.l.length = 0)
  else if t.op = 63 ∨ t.op = 64 then bare t false true false && upS t.s && exact t.l [6]
  else if t.op = 65 then bare t false false false && exact t.l [6]
  else if t.op = 66 then bare t false false true && pathOk true t.names && decide (t.l.length = 1) && decide (opAt t.l 0 = 2) && decide ((t.l.getD 0 none0).l.length = 0)
  else if t.op = 71 then bare t false false false && rall t.l 5
  else if t.op = 72 then bare t false false true && pathOk false t.names && decide (t.l.length = 0)
  else if t.op = 73 then bare t true true false && decide (t.n = 0 ∨ t.n = 1) && upS t.s && exact t.l [6, 6]
  else bare t false false true && pathOk true t.names && decide (t.l.length = 2) && rall (t.l.take 1) 6 && decide (opAt t.l 1 = 43) && emptyS (t.l.getD 1 none0).s
def modF (t : Syn) : Bool :=
  if t.op = 81 then bare t false false false && rall t.l 4
  else if t.op = 82 then bare t false false true && pathOk false t.names && decide (t.l.length = 0)
  else if t.op = 83 then bare t true true false && decide (t.n = 0 ∨ t.n = 1) && upS t.s && exact t.l [6, 7]
  else if t.op = 84 then bare t false false false && exact t.l [7, 7]
  else if t.op = 85 ∨ t.op = 86 then bare t false false false && exact t.l [7, 6]
  else if t.op = 87 then bare t false false false && decide (1 ≤ t.l.length) && rall (t.l.take (t.l.length - 1)) 4 && rall (t.l.drop (t.l.length - 1)) 7
  else bare t false false false && exact t.l [3, 0]
def rform (t : Syn) (anon : Bool) : Bool :=
  if t.op = 43 ∧ emptyS t.s ≠ anon then false
  else if cat t.op = 1 then typeF t
  else if cat t.op = 2 then patF t
  else if cat t.op = 3 ∨ t.op = 30 then exprF t
  else if cat t.op = 4 ∨ t.op = 45 then declF t
  else if cat t.op = 5 ∨ cat t.op = 6 then specF t
  else decide (cat t.op = 7) && modF t
end Go.Proofs.YtkmgnibopmpcjaaGreatDoor.Pl

/-
  Walks of layer 2: the examples that every law begins with.
-/
namespace Go.Proofs.YtkmgnibopmpcjaaGreatDoor
open Go.RowKit
end Go.Proofs.YtkmgnibopmpcjaaGreatDoor

/-
  Walks of layer 2: Quote and Unquote.
-/
namespace Go.Proofs.YtkmgnibopmpcjaaGreatDoor
open Go.RowKit
namespace Pl
def escB (b : UInt8) : Bytes := if b = 10 then [92, 110] else if b = 34 ∨ b = 92 then [92, b] else [b]
def body (l : Bytes) : Bytes := l.flatMap escB
def lit (l : Bytes) : Bytes := 34 :: body l ++ [34]
theorem escB_le (b : UInt8) : 1 ≤ (escB b).length ∧ (escB b).length ≤ 2 := by
  unfold escB
  repeat' split
  all_goals simp
theorem body_len : ∀ l : Bytes, l.length ≤ (body l).length ∧ (body l).length ≤ 2 * l.length := by
  intro l
  unfold body
  induction l with
  | nil => exact ⟨Nat.zero_le _, Nat.zero_le _⟩
  | cons b r ih =>
    rw [List.flatMap_cons, List.length_append]
    have := escB_le b
    simp only [List.length_cons]; omega
theorem body_take_len (s : ByteArray) (k : Nat) : (body (s.toList.take k)).length ≤ 2 * k := by
  have h1 := (body_len (s.toList.take k)).2
  have h2 : (s.toList.take k).length ≤ k := List.length_take_le _ _
  omega
end Pl
end Go.Proofs.YtkmgnibopmpcjaaGreatDoor

/-
  Plain mathematics of layer 2: texts and their literals; and what Tokens and Unquote answer at a literal.
-/
namespace Go.Proofs.YtkmgnibopmpcjaaGreatDoor
open Go.RowKit
namespace Pl
end Pl
end Go.Proofs.YtkmgnibopmpcjaaGreatDoor

/-
  The law LexerLiterals, as a walk: each call returns true, and nothing that lay in memory before it turns.
-/
namespace Go.Proofs.YtkmgnibopmpcjaaGreatDoor
open Go.RowKit
end Go.Proofs.YtkmgnibopmpcjaaGreatDoor

/-
  Walks of layer 2: the reference's words, symbols, texts and literals.
-/
namespace Go.Proofs.YtkmgnibopmpcjaaGreatDoor
open Go.RowKit
namespace Pl
abbrev el (zs : List ByteArray) (k : Nat) : ByteArray := zs.getD k ByteArray.empty
end Pl
def StrsAt (w : World) (b off : Nat) (zs : List ByteArray) : Prop := ∀ j, j < zs.length → w.cell? ⟨b, off + j, none⟩ = some (.string (zs.getD j ByteArray.empty))
theorem StrsAt.below {w w' : World} {B b off : Nat} {zs : List ByteArray} (h : StrsAt w b off zs) (hb : Below B w w') (hB : b < B) : StrsAt w' b off zs := fun j hj => by
  rw [hb.cell (p := ⟨b, off + j, none⟩) hB]; exact h j hj
theorem StrsAt.cell {w : World} {b off : Nat} {zs : List ByteArray} (h : StrsAt w b off zs) (k : Nat) (hk : k < zs.length) : w.cell? ⟨b, off + k, none⟩ = some (.string (Pl.el zs k)) := h k hk
namespace Pl
end Pl
end Go.Proofs.YtkmgnibopmpcjaaGreatDoor

/-
  Walks of layer 1, first part: classes of bytes.
-/
namespace Go.Proofs.YtkmgnibopmpcjaaGreatDoor
open Go.RowKit
end Go.Proofs.YtkmgnibopmpcjaaGreatDoor

/-
  Walks of layer 1, second part: key words and names.
-/
namespace Go.Proofs.YtkmgnibopmpcjaaGreatDoor
open Go.RowKit
end Go.Proofs.YtkmgnibopmpcjaaGreatDoor

/-
  Walks of layer 1, third part: names, type variables and labels, of the program and of the reference.
-/
namespace Go.Proofs.YtkmgnibopmpcjaaGreatDoor
open Go.RowKit
end Go.Proofs.YtkmgnibopmpcjaaGreatDoor

/-
  Walks of layer 3: categories, numbers and texts.
-/
namespace Go.Proofs.YtkmgnibopmpcjaaGreatDoor
open Go Go.RowKit
open Pl (Syn)
set_option linter.unusedSimpArgs false
set_option maxRecDepth 100000 in
set_option maxHeartbeats 4000000 in
theorem category_any (op : Int) (w : World) : Calls Tryz.prog 111 #[.int .i64 op] w fun e w' => e = .returned (.int .i64 (Pl.cat op)) ∧ w = w' := by
  go_enter Tryz.func111, Tryz.ntmps111
  go_wp2
  all_goals
    go_ret
    refine ⟨ret_int ?_, rfl⟩
    (try simp only [beq_iff_eq, beq_eq_false_iff_ne] at *)
    unfold Pl.cat
    repeat' (first | rw [if_pos (by omega)] | rw [if_neg (by omega)])
set_option maxHeartbeats 2000000 in
theorem belongs_any (op c : Int) (w : World) : Calls Tryz.prog 58 #[.int .i64 op, .int .i64 c] w fun e w' => e = .returned (.bool (Pl.bel op c)) ∧ w = w' := by
  have HC := Lib.hid (category_any op w)
  have HB := Lib.hid (show ¬ (op = 43 ∨ op = 44) → Pl.bel op c = decide (c ≠ 0 ∧ c = Pl.cat op) from fun h => by unfold Pl.bel; rw [if_neg h])
  have HA := Lib.hid (show (op = 43 ∨ op = 44) → Pl.bel op c = decide (c = 4 ∨ c = 5) from fun h => by unfold Pl.bel; rw [if_pos h])
  generalize Pl.cat op = k at *
  generalize Pl.bel op c = b at *
  go_enter Tryz.func58, Tryz.ntmps58
  go_wp2_with (go_at_call 111; refine HC.out.mono ?_; rintro e w' ⟨rfl, rfl⟩)
  all_goals
    go_ret
    refine ⟨ret_bool ?_, rfl⟩
    (try simp only [beq_iff_eq, beq_eq_false_iff_ne, bne_iff_ne, ne_eq, bne_eq_false_iff_eq] at *)
    first
    | (rw [HA.out (by omega)]; first | (symm; rw [decide_eq_true_eq]; omega) | (symm; rw [decide_eq_false_iff_not]; omega) | (rw [Bool.eq_iff_iff]; simp; done) | (rw [Bool.eq_iff_iff]; simp; omega))
    | (rw [HB.out (by omega)]; first | (symm; rw [decide_eq_true_eq]; omega) | (symm; rw [decide_eq_false_iff_not]; omega) | (rw [Bool.eq_iff_iff]; simp; done) | (rw [Bool.eq_iff_iff]; simp; omega))
set_option maxRecDepth 100000 in
set_option maxHeartbeats 4000000 in
theorem hasPath_any (op : Int) (w : World) : Calls Tryz.prog 215 #[.int .i64 op] w fun e w' => e = .returned (.bool (Pl.hasPath op)) ∧ w = w' := by
  go_enter Tryz.func215, Tryz.ntmps215
  go_wp2
  all_goals
    go_ret
    refine ⟨ret_bool ?_, rfl⟩
    (try simp only [beq_iff_eq, beq_eq_false_iff_ne] at *)
    unfold Pl.hasPath
    first | (symm; rw [decide_eq_true_eq]; omega) | (symm; rw [decide_eq_false_iff_not]; omega)
def IntsAt (w : World) (b off : Nat) (ks : List Int) : Prop := ∀ j (h : j < ks.length), w.cell? ⟨b, off + j, none⟩ = some (.int .i64 ks[j])
end Go.Proofs.YtkmgnibopmpcjaaGreatDoor
