/-
  Walks and plain mathematics, several texts in one (So Sq Sr Sb Lq Lr Ls Lt Lu Ia Ib Ic Ta Ss Tb).
-/
import Derived.Test.YtjedahcpkcgpeaaGreatDoorH9
import Derived.Laws.EntriesVeiled
import Derived.Test.YtjedahcpkcgpeaaGreatDoorH2
import Derived.Test.YtjedahcpkcgpeaaGreatDoorH6
import Derived.Lib.SlicesS
import Derived.Test.YtjedahcpkcgpeaaGreatDoorH8
import Derived.Test.YtjedahcpkcgpeaaGreatDoorProg
import Derived.Test.YtjedahcpkcgpeaaGreatDoorH1
import Derived.WalkKit
import Derived.WalkSpells
import Derived.WalkLawsBesides
import Derived.Lib.Hide
import Derived.Deep.QuietTactic
import Derived.StillTailTactics
/-
  Walks of layer 3: Size and Depth.
-/
namespace Go.Proofs.YtjedahcpkcgpeaaGreatDoor
open Go Go.RowKit
open Pl (Syn)
set_option maxRecDepth 100000 in
set_option maxHeartbeats 4000000 in
theorem visit_any (V : Visitor) (HV : V.Good) (P : Nat → Prop) (t : Syn) (σ : V.St) (γ : V.G) (w : World) (v : Value) (hi : V.Inv σ γ w) (hP : ∀ b, P b → b < w.heap.size ∧ ¬ V.own γ b) (ht : SynV w P t v) (hbig : t.big ≤ 1073741824) (hcnt : V.cnt σ + t.size ≤ 1073741824) :
    Calls Tryz.prog 57 #[v, .func (.func V.fid) #[] #[.pointer (some ⟨V.g, 0, none⟩)]] w (V.Post γ (V.run σ t 0 1) w) := by
  have hsb := Pl.size_big t
  have HT := Lib.hid ht
  obtain ⟨na, nn, nc, la, ln, lc, rfl⟩ := ht.form
  have hb : Below w.heap.size w (((w.alloc (.cells #[.int .i64 t.op, .int .i64 t.n, .string t.s, .slice na nn nc, .slice la ln lc] 27)).alloc (.cells #[.func (.func V.fid) #[] #[.pointer (some ⟨V.g, 0, none⟩)]] 95)).alloc (.cells #[.func (.func 95) #[] #[.pointer (some ⟨w.heap.size + 1, 0, none⟩), .pointer (some ⟨w.heap.size + 1 + 1, 0, none⟩)]] 95)) :=
    ((((Below.refl _ _).alloc (Nat.le_refl _) _).alloc (by simp) _).alloc (by simp; omega) _)
  have hat : V.At (w.heap.size + 1) (w.heap.size + 1 + 1) P σ γ (((w.alloc (.cells #[.int .i64 t.op, .int .i64 t.n, .string t.s, .slice na nn nc, .slice la ln lc] 27)).alloc (.cells #[.func (.func V.fid) #[] #[.pointer (some ⟨V.g, 0, none⟩)]] 95)).alloc (.cells #[.func (.func 95) #[] #[.pointer (some ⟨w.heap.size + 1, 0, none⟩), .pointer (some ⟨w.heap.size + 1 + 1, 0, none⟩)]] 95)) := by
    refine ⟨HV.keep σ γ _ _ hi hb, ?_, ?_, fun ho => ?_, fun ho => ?_, fun b hbp => ⟨?_, (hP b hbp).2⟩⟩
    · have := blk_new (w.alloc (.cells #[.int .i64 t.op, .int .i64 t.n, .string t.s, .slice na nn nc, .slice la ln lc] 27)) #[.func (.func V.fid) #[] #[.pointer (some ⟨V.g, 0, none⟩)]] 95
      rw [size_alloc] at this
      exact this.alloc _
    · have := blk_new ((w.alloc (.cells #[.int .i64 t.op, .int .i64 t.n, .string t.s, .slice na nn nc, .slice la ln lc] 27)).alloc (.cells #[.func (.func V.fid) #[] #[.pointer (some ⟨V.g, 0, none⟩)]] 95)) #[.func (.func 95) #[] #[.pointer (some ⟨w.heap.size + 1, 0, none⟩), .pointer (some ⟨w.heap.size + 1 + 1, 0, none⟩)]] 95
      rw [size_alloc, size_alloc] at this
      exact this
    · have := HV.lt σ γ w _ hi ho; omega
    · have := HV.lt σ γ w _ hi ho; omega
    · have := (hP b hbp).1
      rw [size_alloc, size_alloc, size_alloc]; omega
  have HC := Lib.hid (descend_any V HV _ _ P t σ γ _ (.agg #[.int .i64 t.op, .int .i64 t.n, .string t.s, .slice na nn nc, .slice la ln lc]) 0 1 hat (HT.out.keep (Same.of_below hb (fun b hb => (hP b hb).1))) hbig hcnt (by omega) (by omega))
  have HF := Lib.hid (Fr.of_below (o := V.own γ) hb)
  clear ht hat hb hi hP
  have c9 : (((w.alloc (.cells #[.int .i64 t.op, .int .i64 t.n, .string t.s, .slice na nn nc, .slice la ln lc] 27)).alloc (.cells #[.func (.func V.fid) #[] #[.pointer (some ⟨V.g, 0, none⟩)]] 95)).alloc (.cells #[.nilFunc] 95)).cell? ⟨w.heap.size + 1 + 1, 0, none⟩ = some .nilFunc := by
    have := (blk_new ((w.alloc (.cells #[.int .i64 t.op, .int .i64 t.n, .string t.s, .slice na nn nc, .slice la ln lc] 27)).alloc (.cells #[.func (.func V.fid) #[] #[.pointer (some ⟨V.g, 0, none⟩)]] 95)) #[.nilFunc] 95).cell 0 _ rfl
    rw [size_alloc, size_alloc] at this
    exact this
  go_enter Tryz.func57, Tryz.ntmps57
  go_wp2_with fail
  refine HC.out.mono ?_
  rintro e w1 ⟨rfl, γ1, hi1, hf1⟩
  have HI := Lib.hid hi1
  have HF1 := Lib.hid (HF.out.trans hf1)
  clear hi1 hf1
  go_wp2
  go_ret
  exact ⟨rfl, γ1, HI.out, HF1.out⟩
def Cell1 (g : Nat) (n : Int) (w : World) : Prop := Blk w g 3 #[.int .i64 n]
theorem Cell1.below {g : Nat} {n : Int} {w w' : World} (h : Cell1 g n w) (hb : Below w.heap.size w w') : Cell1 g n w' := h.of_eq (hb.block _ h.lt)
theorem fr_set {g : Nat} {w w1 : World} (v : Value) (j : Nat) (hb : Below w.heap.size w w1) : Fr (· = g) (· = g) w (w1.setCell ⟨g, j, none⟩ v) :=
  ⟨hb.os, hb.tape, hb.output, by simpa [World.setCell] using hb.size, fun i hi hn => (Below.heap_setCell w1 ⟨g, j, none⟩ v i hn).trans (hb.block i hi), fun _ h => .inl h⟩
end Go.Proofs.YtjedahcpkcgpeaaGreatDoor

/-
  Walks of layer 3: the reference's Size and Depth.
-/
namespace Go.Proofs.YtjedahcpkcgpeaaGreatDoor
open Go Go.RowKit
open Pl (Syn)
theorem KidsAt.part {w : World} {P : Nat → Prop} {l : List Syn} {b off : Nat} (h : KidsAt w P l b off) (k : Nat) (hk : k < l.length) : ∃ xo xn xs na nn nc la ln lc, l[k].op = xo ∧
    w.cell? ⟨b, off + k * 5, none⟩ = some (.int .i64 xo) ∧ w.cell? ⟨b, off + k * 5 + 1, none⟩ = some (.int .i64 xn) ∧ w.cell? ⟨b, off + k * 5 + 2, none⟩ = some (.string xs) ∧ w.cell? ⟨b, off + k * 5 + 3, none⟩ = some (.slice na nn nc) ∧ w.cell? ⟨b, off + k * 5 + 4, none⟩ = some (.slice la ln lc) ∧
    SynV w P l[k] (.agg #[.int .i64 xo, .int .i64 xn, .string xs, .slice na nn nc, .slice la ln lc]) := by
  obtain ⟨xv, ⟨x0, x1, x2, x3, x4, hxv, a0, a1, a2, a3, a4⟩, hxs⟩ := (kidsAt_iff _ _ _ _ _).1 h k hk
  subst hxv
  obtain ⟨na, nn, nc, la, ln, lc, hxf⟩ := hxs.form
  simp only [Value.agg.injEq, Array.mk.injEq, List.cons.injEq, and_true] at hxf
  obtain ⟨rfl, rfl, rfl, rfl, rfl⟩ := hxf
  exact ⟨_, _, _, na, nn, nc, la, ln, lc, rfl, a0, a1, a2, a3, a4, hxs⟩
theorem SynSl.cases {w : World} {P : Nat → Prop} {v : Value} {l : List Syn} (h : SynSl w P v l) : (l = [] ∧ ∃ a c, v = .slice a 0 c ∧ (a = none → c = 0) ∧ c ≤ maxLen) ∨ (∃ b off n c, v = .slice (some ⟨b, off, none⟩) n c ∧ l.length = n ∧ 0 < n ∧ n ≤ c ∧ c ≤ maxLen ∧ P b ∧ KidsAt w P l b off) := by
  obtain ⟨a, c, rfl, h1, h2, h3, h4⟩ := h
  rcases h4 with h4 | ⟨b, off, rfl, h5, h6⟩
  · subst h4; exact .inl ⟨rfl, a, c, rfl, h3, h2⟩
  · cases l with
    | nil => exact .inl ⟨rfl, _, c, rfl, h3, h2⟩
    | cons x r => exact .inr ⟨b, off, _, c, rfl, rfl, by simp, h1, h2, h5, h6⟩
end Go.Proofs.YtjedahcpkcgpeaaGreatDoor

/-
  Walks of layer 3: Equal.
-/
namespace Go.Proofs.YtjedahcpkcgpeaaGreatDoor
open Go Go.RowKit
open Pl (Syn)
theorem same_drewN (P : Nat → Prop) (w : World) (q : Nat) : Same P w (w.drewN q) := fun _ _ => rfl
end Go.Proofs.YtjedahcpkcgpeaaGreatDoor

/-
  Plain mathematics of layer 3: the forms of nodes, as the program and as the reference look them up. No program.
-/
namespace Go.Proofs.YtjedahcpkcgpeaaGreatDoor.Pl
open Go
def cat (op : Int) : Int :=
  if op = 30 ∨ op = 45 then 0 else if 1 ≤ op ∧ op ≤ 5 then 1 else if 11 ≤ op ∧ op ≤ 15 then 2 else if 21 ≤ op ∧ op ≤ 34 then 3 else if 41 ≤ op ∧ op ≤ 50 then 4
  else if 61 ≤ op ∧ op ≤ 66 then 5 else if 71 ≤ op ∧ op ≤ 74 then 6 else if 81 ≤ op ∧ op ≤ 88 then 7 else 0
def bel (op c : Int) : Bool := if op = 43 ∨ op = 44 then decide (c = 4 ∨ c = 5) else decide (c ≠ 0 ∧ c = cat op)
def rbel (op c : Int) : Bool := decide (cat op = c ∨ (c = 5 ∧ (op = 43 ∨ op = 44)))
theorem bel_eq (op c : Int) (h : c ≠ 0) : bel op c = rbel op c := by
  unfold bel rbel
  split
  · next h1 =>
    have : cat op = 4 := by unfold cat; rcases h1 with rfl | rfl <;> decide
    rw [this, Bool.eq_iff_iff, decide_eq_true_eq, decide_eq_true_eq]; omega
  · next h1 => rw [Bool.eq_iff_iff, decide_eq_true_eq, decide_eq_true_eq]; omega
def parts : List Syn → List Int → Bool
  | [], [] => true
  | t :: r, c :: cs => bel t.op c && parts r cs
  | _, _ => false
def allOf (l : List Syn) (c : Int) : Bool := l.all fun t => bel t.op c
def kinds (l : List Syn) (ks : List Int) : Bool := l.all fun t => ks.contains t.op
def tuple (l : List Syn) (c : Int) : Bool := decide (2 ≤ l.length ∧ l.length ≤ 9) && allOf l c
def emptyS (s : ByteArray) : Bool := s.toList.isEmpty
def lowS (s : ByteArray) : Bool := isLower s.toList
def upS (s : ByteArray) : Bool := isUpper s.toList
def varS (s : ByteArray) : Bool := isVar s.toList
def okByte (b : UInt8) : Bool := decide ((b.toNat : Int) = 10 ∨ (32 ≤ (b.toNat : Int) ∧ (b.toNat : Int) ≤ 126))
def textS (s : ByteArray) : Bool := decide (s.size ≤ 16384) && s.toList.all okByte
def path (low : Bool) : List ByteArray → Bool
  | [] => false
  | [z] => if low then lowS z else upS z
  | z :: y :: r => upS z && path low (y :: r)
def pathOk (low : Bool) (l : List ByteArray) : Bool := decide (l.length ≤ 8) && path low l
def noTwin (l : List ByteArray) : Bool := decide l.Nodup
def params (l : List ByteArray) : Bool := decide (l.length ≤ 4) && l.all varS && noTwin l
def num (op n : Int) : Bool :=
  if op = 13 then decide (-4503599627370496 ≤ n ∧ n ≤ 4503599627370496) else if op = 21 then decide (0 ≤ n ∧ n ≤ 4503599627370496) else if op = 32 then decide (1 ≤ n ∧ n ≤ 12)
  else if op = 73 ∨ op = 83 then decide (n = 0 ∨ n = 1) else decide (n = 0)
def stxt (op around : Int) (s : ByteArray) : Bool :=
  if op = 1 then varS s else if op = 12 ∨ op = 41 ∨ op = 42 ∨ op = 44 ∨ op = 61 ∨ op = 62 then lowS s
  else if op = 45 ∨ op = 46 ∨ op = 47 ∨ op = 50 ∨ op = 63 ∨ op = 64 ∨ op = 73 ∨ op = 83 then upS s
  else if op = 25 then emptyS s || lowS s else if op = 22 then textS s else if op = 43 then (if around = 74 then emptyS s else lowS s) else emptyS s
def lowEnd (op : Int) : Bool := decide (op = 2 ∨ op = 23 ∨ op = 66 ∨ op = 74)
def nam (op : Int) (l : List ByteArray) : Bool :=
  if hasPath op then pathOk (lowEnd op) l else if op = 42 then decide (1 ≤ l.length ∧ l.length ≤ 9) && l.all lowS
  else if op = 43 ∨ op = 44 ∨ op = 62 then params l else decide (l.length = 0)
def opAt (l : List Syn) (j : Nat) : Int := (l.getD j none0).op
def core (op n : Int) (l : List Syn) : Bool :=
  if op = 1 ∨ op = 5 ∨ op = 11 ∨ op = 12 ∨ op = 13 ∨ op = 21 ∨ op = 22 ∨ op = 23 ∨ op = 24 then parts l []
  else if op = 2 then decide (l.length ≤ 4) && allOf l 1
  else if op = 3 then parts l [1, 1]
  else if op = 4 then tuple l 1
  else if op = 14 then parts l [] || parts l [2]
  else if op = 15 then parts l [] || tuple l 2
  else if op = 25 then parts l [3]
  else if op = 26 then parts l [3, 3]
  else if op = 27 then parts l [] || tuple l 3
  else if op = 28 then parts l [3, 3, 3]
  else if op = 29 then decide (1 < l.length) && parts (l.take 1) [3] && kinds (l.drop 1) [30]
  else if op = 30 then parts l [2, 3]
  else if op = 31 then decide (1 ≤ l.length) && kinds (l.take (l.length - 1)) [41, 42, 50] && parts (l.drop (l.length - 1)) [3]
  else if op = 32 then (if n = 12 then parts l [3] else parts l [3, 3])
  else if op = 33 then parts l [3, 1]
  else if op = 34 then parts l [6] && decide (opAt l 0 = 72)
  else false
def modl (op : Int) (l : List Syn) : Bool :=
  if op = 48 ∨ op = 49 ∨ op = 62 ∨ op = 72 ∨ op = 82 then parts l []
  else if op = 41 ∨ op = 42 then parts l [3]
  else if op = 43 ∨ op = 61 then parts l [1]
  else if op = 44 then decide (0 < l.length) && kinds l [45] && noTwin (l.map Syn.s)
  else if op = 45 then parts l [] || parts l [1]
  else if op = 46 then parts l [7]
  else if op = 47 ∨ op = 63 ∨ op = 64 ∨ op = 65 then parts l [6]
  else if op = 50 ∨ op = 88 then parts l [3, 6] && decide (opAt l 1 = 72)
  else if op = 66 then parts l [1] && decide (opAt l 0 = 2) && decide ((l.getD 0 none0).l.length = 0)
  else if op = 71 then allOf l 5
  else if op = 73 then parts l [6, 6]
  else if op = 74 then parts l [6, 4] && decide (opAt l 1 = 43)
  else if op = 81 then allOf l 4
  else if op = 83 then parts l [6, 7]
  else if op = 84 then parts l [7, 7]
  else if op = 85 ∨ op = 86 then parts l [7, 6]
  else if op = 87 then decide (1 ≤ l.length) && allOf (l.take (l.length - 1)) 4 && parts (l.drop (l.length - 1)) [7]
  else false
def form (t : Syn) (around : Int) : Bool := num t.op t.n && stxt t.op around t.s && nam t.op t.names && (core t.op t.n t.l || modl t.op t.l)
def rall (l : List Syn) (c : Int) : Bool := l.all fun t => rbel t.op c
def exact : List Syn → List Int → Bool
  | [], [] => true
  | t :: r, c :: cs => (if c = 0 then decide (t.op = 72) else rbel t.op c) && exact r cs
  | _, _ => false
def bare (t : Syn) (n s m : Bool) : Bool := (n || decide (t.n = 0)) && (s || emptyS t.s) && (m || decide (t.names.length = 0))
def typeF (t : Syn) : Bool :=
  if t.op = 1 then bare t false true false && varS t.s && decide (t.l.length = 0)
  else if t.op = 2 then bare t false false true && pathOk true t.names && decide (t.l.length ≤ 4) && rall t.l 1
  else if t.op = 3 then bare t false false false && exact t.l [1, 1]
  else if t.op = 4 then bare t false false false && decide (2 ≤ t.l.length) && decide (t.l.length ≤ 9) && rall t.l 1
  else bare t false false true && pathOk false t.names && decide (t.l.length = 0)
def patF (t : Syn) : Bool :=
  if t.op = 11 then bare t false false false && decide (t.l.length = 0)
  else if t.op = 12 then bare t false true false && lowS t.s && decide (t.l.length = 0)
  else if t.op = 13 then bare t true false false && decide (-4503599627370496 ≤ t.n) && decide (t.n ≤ 4503599627370496) && decide (t.l.length = 0)
  else if t.op = 14 then bare t false false true && pathOk false t.names && decide (t.l.length ≤ 1) && rall t.l 2
  else bare t false false false && decide (t.l.length ≠ 1) && decide (t.l.length ≤ 9) && rall t.l 2
def exprF (t : Syn) : Bool :=
  if t.op = 21 then bare t true false false && decide (0 ≤ t.n) && decide (t.n ≤ 4503599627370496) && decide (t.l.length = 0)
  else if t.op = 22 then bare t false true false && textS t.s && decide (t.l.length = 0)
  else if t.op = 23 then bare t false false true && pathOk true t.names && decide (t.l.length = 0)
  else if t.op = 24 then bare t false false true && pathOk false t.names && decide (t.l.length = 0)
  else if t.op = 25 then bare t false true false && (emptyS t.s || lowS t.s) && exact t.l [3]
  else if t.op = 26 then bare t false false false && exact t.l [3, 3]
  else if t.op = 27 then bare t false false false && decide (t.l.length ≠ 1) && decide (t.l.length ≤ 9) && rall t.l 3
  else if t.op = 28 then bare t false false false && exact t.l [3, 3, 3]
  else if t.op = 29 then bare t false false false && decide (2 ≤ t.l.length) && rall (t.l.take 1) 3 && kinds (t.l.drop 1) [30]
  else if t.op = 30 then bare t false false false && exact t.l [2, 3]
  else if t.op = 31 then bare t false false false && decide (1 ≤ t.l.length) && rall (t.l.drop (t.l.length - 1)) 3 && kinds (t.l.take (t.l.length - 1)) [41, 42, 50]
  else if t.op = 32 then (if t.n = 12 then bare t true false false && exact t.l [3] else bare t true false false && decide (1 ≤ t.n) && decide (t.n ≤ 11) && exact t.l [3, 3])
  else if t.op = 33 then bare t false false false && exact t.l [3, 1]
  else bare t false false true && pathOk false t.names && exact t.l [0]
def declF (t : Syn) : Bool :=
  if t.op = 41 then bare t false true false && lowS t.s && exact t.l [3]
  else if t.op = 42 then bare t false true true && lowS t.s && decide (1 ≤ t.names.length) && decide (t.names.length ≤ 9) && t.names.all lowS && exact t.l [3]
  else if t.op = 43 then bare t false true true && (emptyS t.s || lowS t.s) && params t.names && exact t.l [1]
  else if t.op = 44 then bare t false true true && lowS t.s && params t.names && decide (1 ≤ t.l.length) && (kinds t.l [45] && noTwin (t.l.map Syn.s))
  else if t.op = 45 then bare t false true false && upS t.s && decide (t.l.length ≤ 1) && rall t.l 1
  else if t.op = 46 then bare t false true false && upS t.s && exact t.l [7]
  else if t.op = 47 then bare t false true false && upS t.s && exact t.l [6]
  else if t.op = 48 ∨ t.op = 49 then bare t false false true && pathOk false t.names && decide (t.l.length = 0)
  else bare t false true false && upS t.s && exact t.l [3, 0]
def specF (t : Syn) : Bool :=
  if t.op = 61 then bare t false true false && lowS t.s && exact t.l [1]
  else if t.op = 62 then bare t false true true && lowS t.s && params t.names && decide (t.l.length = 0)
  else if t.op = 63 ∨ t.op = 64 then bare t false true false && upS t.s && exact t.l [6]
  else if t.op = 65 then bare t false false false && exact t.l [6]
  else if t.op = 66 then bare t false false true && pathOk true t.names && decide (t.l.length = 1) && decide (opAt t.l 0 = 2) && decide ((t.l.getD 0 none0).l.length = 0)
  else if t.op = 71 then bare t false false false && rall t.l 5
  else if t.op = 72 then bare t false false true && pathOk false t.names && decide (t.l.length = 0)
  else if t.op = 73 then bare t true true false && decide (t.n = 0 ∨ t.n = 1) && upS t.s && exact t.l [6, 6]
  else bare t false false true && pathOk true t.names && decide (t.l.length = 2) && rall (t.l.take 1) 6 && decide (opAt t.l 1 = 43) && emptyS (t.l.getD 1 none0).s
def modF (t : Syn) : Bool :=
  if t.op = 81 then bare t false false false && rall t.l 4
  else if t.op = 82 then bare t false false true && pathOk false t.names && decide (t.l.length = 0)
  else if t.op = 83 then bare t true true false && decide (t.n = 0 ∨ t.n = 1) && upS t.s && exact t.l [6, 7]
  else if t.op = 84 then bare t false false false && exact t.l [7, 7]
  else if t.op = 85 ∨ t.op = 86 then bare t false false false && exact t.l [7, 6]
  else if t.op = 87 then bare t false false false && decide (1 ≤ t.l.length) && rall (t.l.take (t.l.length - 1)) 4 && rall (t.l.drop (t.l.length - 1)) 7
  else bare t false false false && exact t.l [3, 0]
def rform (t : Syn) (anon : Bool) : Bool :=
  if t.op = 43 ∧ emptyS t.s ≠ anon then false
  else if cat t.op = 1 then typeF t
  else if cat t.op = 2 then patF t
  else if cat t.op = 3 ∨ t.op = 30 then exprF t
  else if cat t.op = 4 ∨ t.op = 45 then declF t
  else if cat t.op = 5 ∨ cat t.op = 6 then specF t
  else decide (cat t.op = 7) && modF t
end Go.Proofs.YtjedahcpkcgpeaaGreatDoor.Pl

/-
  Walks of layer 2: the examples that every law begins with.
-/
namespace Go.Proofs.YtjedahcpkcgpeaaGreatDoor
open Go.RowKit
end Go.Proofs.YtjedahcpkcgpeaaGreatDoor

/-
  Walks of layer 2: Quote and Unquote.
-/
namespace Go.Proofs.YtjedahcpkcgpeaaGreatDoor
open Go.RowKit
namespace Pl
def escB (b : UInt8) : Bytes := if b = 10 then [92, 110] else if b = 34 ∨ b = 92 then [92, b] else [b]
def body (l : Bytes) : Bytes := l.flatMap escB
def lit (l : Bytes) : Bytes := 34 :: body l ++ [34]
def isText (l : Bytes) : Bool := l.all textB
theorem escB_le (b : UInt8) : 1 ≤ (escB b).length ∧ (escB b).length ≤ 2 := by
  unfold escB
  repeat' split
  all_goals simp
theorem body_snoc (s : ByteArray) (k : Nat) (h : k < s.size) : body (s.toList.take (k + 1)) = body (s.toList.take k) ++ escB s[k] := by
  rw [take_snoc s k h]; unfold body; simp
theorem body_len : ∀ l : Bytes, l.length ≤ (body l).length ∧ (body l).length ≤ 2 * l.length := by
  intro l
  unfold body
  induction l with
  | nil => exact ⟨Nat.zero_le _, Nat.zero_le _⟩
  | cons b r ih =>
    rw [List.flatMap_cons, List.length_append]
    have := escB_le b
    simp only [List.length_cons]; omega
theorem body_take_len (s : ByteArray) (k : Nat) : (body (s.toList.take k)).length ≤ 2 * k := by
  have h1 := (body_len (s.toList.take k)).2
  have h2 : (s.toList.take k).length ≤ k := List.length_take_le _ _
  omega
end Pl
theorem writeByte_92 (B b : Nat) (l : List UInt8) (w : World) (h : Bld B b l w) (hlen : l.length + 1 ≤ 140737488355328) (hBw : B ≤ w.heap.size) :
    Calls Tryz.prog 28 #[.pointer (some ⟨b, 0, none⟩), .int .u8 92] w fun e w' => e = .returned .nilIface ∧ Bld B b (l ++ [92]) w' ∧ Below B w w' := by
  have := writeByte_any B b l 92 w h hlen hBw
  rw [show (((92 : UInt8).toNat : Nat) : Int) = 92 from rfl] at this
  exact this
theorem writeByte_34 (B b : Nat) (l : List UInt8) (w : World) (h : Bld B b l w) (hlen : l.length + 1 ≤ 140737488355328) (hBw : B ≤ w.heap.size) :
    Calls Tryz.prog 28 #[.pointer (some ⟨b, 0, none⟩), .int .u8 34] w fun e w' => e = .returned .nilIface ∧ Bld B b (l ++ [34]) w' ∧ Below B w w' := by
  have := writeByte_any B b l 34 w h hlen hBw
  rw [show (((34 : UInt8).toNat : Nat) : Int) = 34 from rfl] at this
  exact this
theorem writeString_n (B b : Nat) (l : List UInt8) (w : World) (h : Bld B b l w) (hlen : l.length + 2 ≤ 140737488355328) (hBw : B ≤ w.heap.size) :
    Calls Tryz.prog 29 #[.pointer (some ⟨b, 0, none⟩), .string ⟨#[92, 110]⟩] w fun e w' => e = .returned (.tuple #[.int .i64 2, .nilIface]) ∧ Bld B b (l ++ [92, 110]) w' ∧ Below B w w' := by
  have := writeString_any B b l (Pl.mk [92, 110]) w h hlen hBw
  rw [Pl.mk_toList] at this
  exact this
set_option maxRecDepth 100000 in
set_option maxHeartbeats 1000000 in
theorem isText_any (s : ByteArray) (w : World) (hs : s.size ≤ maxLen) :
    Calls Tryz.prog 48 #[.string s] w fun e w' => e = .returned (.bool (Pl.isText s.toList)) ∧ w = w' := by
  unfold maxLen at hs
  go_enter Tryz.func48, Tryz.ntmps48
  go_wp2
  go_loop [6] (fun i => ∃ k : Nat, k ≤ s.size ∧ i = .int .i64 k ∧ (s.toList.take k).all Pl.textB = true) (fun i => s.size - (intOf i).toNat)
  case atStart => exact ⟨0, by omega, rfl, by simp⟩
  case round =>
    obtain ⟨k, hk, rfl, hin⟩ := hrel
    have HI := Lib.hid hin
    clear hin
    by_cases hlt : k < s.size
    · by_cases h10 : s[k] = 10
      · have q1 : ((s[k].toNat : Int) != 10) = false := by rw [h10]; rfl
        have HN := Lib.hid (Pl.all_take Pl.textB s k hlt)
        have HT := Lib.hid (show Pl.textB s[k] = true from by rw [h10]; rfl)
        clear h10
        go_wp2
        go_round
        case rel => exact ⟨k + 1, by omega, by go_num, by rw [HN.out, HI.out, HT.out]; rfl⟩
        case measure => simp [intOf]; omega
      · have q0 : ¬ (s[k].toNat : Int) = 10 := fun h => h10 ((Pl.u8_eq _ _).2 h)
        have q1 : ((s[k].toNat : Int) != 10) = true := by simpa using q0
        have hcall := fun W => isPrintable_any (s[k].toNat : Int) W
        have hte : Pl.textB s[k] = Pl.printable s[k].toNat := by unfold Pl.textB Pl.textual; rw [decide_eq_false q0, Bool.false_or]
        cases hp : Pl.printable (s[k].toNat : Int)
        · rw [hp] at hcall hte
          have HC := Lib.hid hcall
          have HF := Lib.hid (Pl.all_false Pl.textB s k hlt hte)
          clear hcall hte hp h10 q0
          go_wp2_with (go_at_call 89; refine (HC.out _).mono ?_; rintro e w' ⟨rfl, rfl⟩)
          go_ret
          exact ⟨ret_bool (by unfold Pl.isText; exact HF.out.symm), rfl⟩
        · rw [hp] at hcall hte
          have HC := Lib.hid hcall
          have HN := Lib.hid (Pl.all_take Pl.textB s k hlt)
          have HT := Lib.hid hte
          clear hcall hte hp h10 q0
          go_wp2_with (go_at_call 89; refine (HC.out _).mono ?_; rintro e w' ⟨rfl, rfl⟩)
          go_round
          case rel => exact ⟨k + 1, by omega, by go_num, by rw [HN.out, HI.out, HT.out]; rfl⟩
          case measure => simp [intOf]; omega
    · go_wp2
      go_ret
      have hi := HI.out
      rw [Pl.take_all s k (by omega)] at hi
      exact ⟨ret_bool (by unfold Pl.isText; exact hi.symm), rfl⟩
set_option maxRecDepth 100000 in
set_option maxHeartbeats 1000000 in
theorem literal_any (s : ByteArray) (w : World) (hs : s.size ≤ 1000000) :
    Calls Tryz.prog 52 #[.string s] w fun e w' => e = .returned (.string (Pl.mk (Pl.lit s.toList))) ∧ Below w.heap.size w w' := by
  have hbl := bld_new w
  have hb0 : Below w.heap.size w (w.alloc (.cells #[.pointer none, .slice none 0 0] 62)) := (Below.refl _ _).alloc (Nat.le_refl _) _
  have HBL := Lib.hid hbl
  have HB0 := Lib.hid hb0
  clear hbl hb0
  go_enter Tryz.func52, Tryz.ntmps52
  go_wp2_with fail
  generalize w.alloc (.cells #[.pointer none, .slice none 0 0] 62) = w0 at HBL HB0 ⊢
  refine (writeByte_34 _ _ _ _ HBL.out (by simp) HB0.out.size).mono ?_
  rintro e w1 ⟨rfl, hbl1, hb1⟩
  have HBL1 : Hid (Bld w.heap.size w.heap.size [34] w1) := hbl1
  have HB1 := Lib.hid (HB0.out.trans hb1)
  clear hbl1 hb1 HBL HB0
  go_wp2
  go_loopw [9] (fun v wr => ∃ k : Nat, k ≤ s.size ∧ v = .int .i64 k ∧ Bld w.heap.size w.heap.size (34 :: Pl.body (s.toList.take k)) wr ∧ Below w.heap.size w wr) (fun v _ => s.size - (intOf v).toNat)
  case atStart => exact ⟨0, by omega, rfl, HBL1.out, HB1.out⟩
  case round =>
    obtain ⟨k, hk, rfl, hbl, hb⟩ := hrel
    have HBL := Lib.hid hbl
    have HB := Lib.hid hb
    have hlen := Pl.body_take_len s k
    clear hbl hb
    by_cases hlt : k < s.size
    · have HSN := Lib.hid (Pl.body_snoc s k hlt)
      generalize Pl.body (s.toList.take k) = bd at HBL HSN hlen
      by_cases h10 : s[k] = 10
      · have q1 : ((s[k].toNat : Int) == 10) = true := by rw [h10]; rfl
        have HE := Lib.hid (show Pl.escB s[k] = [92, 110] from by unfold Pl.escB; rw [if_pos h10])
        clear h10
        go_wp2_with fail
        refine (writeString_n _ _ _ _ HBL.out (by simp; omega) HB.out.size).mono ?_
        rintro e w2 ⟨rfl, hbl2, hb2⟩
        have HBL2 := Lib.hid hbl2
        have HB2 := Lib.hid (HB.out.trans hb2)
        clear hbl2 hb2
        go_wp2
        go_roundw
        case rel => exact ⟨k + 1, by omega, by go_num, by rw [HSN.out, HE.out]; exact HBL2.out, HB2.out⟩
        case measure => simp [intOf]; omega
      · have q1 : ((s[k].toNat : Int) == 10) = false := beq_eq_false_iff_ne.2 (fun h => h10 ((Pl.u8_eq _ _).2 h))
        by_cases hq : s[k] = 34 ∨ s[k] = 92
        · have HE := Lib.hid (show Pl.escB s[k] = [92, s[k]] from by unfold Pl.escB; rw [if_neg h10, if_pos hq])
          have q2 : ((s[k].toNat : Int) == 34) = true ∨ ((s[k].toNat : Int) == 34) = false ∧ ((s[k].toNat : Int) == 92) = true := by
            rcases hq with hq | hq
            · left; rw [hq]; rfl
            · right; rw [hq]; exact ⟨rfl, rfl⟩
          clear h10 hq
          rcases q2 with q2 | ⟨q2, q3⟩
          all_goals
            go_wp2_with fail
            refine (writeByte_92 _ _ _ _ HBL.out (by simp; omega) HB.out.size).mono ?_
            rintro e w2 ⟨rfl, hbl2, hb2⟩
            have HBL2 := Lib.hid hbl2
            have HB2 := Lib.hid (HB.out.trans hb2)
            clear hbl2 hb2
            go_wp2_with fail
            refine (writeByte_any _ _ _ _ _ HBL2.out (by simp; omega) HB2.out.size).mono ?_
            rintro e w3 ⟨rfl, hbl3, hb3⟩
            have HBL3 := Lib.hid hbl3
            have HB3 := Lib.hid (HB2.out.trans hb3)
            clear hbl3 hb3
            go_wp2
            go_roundw
            case rel => exact ⟨k + 1, by omega, by go_num, by rw [HSN.out, HE.out]; have := HBL3.out; simpa using this, HB3.out⟩
            case measure => simp [intOf]; omega
        · have HE := Lib.hid (show Pl.escB s[k] = [s[k]] from by unfold Pl.escB; rw [if_neg h10, if_neg hq])
          have q2 : ((s[k].toNat : Int) == 34) = false := beq_eq_false_iff_ne.2 (fun h => hq (.inl ((Pl.u8_eq _ _).2 h)))
          have q3 : ((s[k].toNat : Int) == 92) = false := beq_eq_false_iff_ne.2 (fun h => hq (.inr ((Pl.u8_eq _ _).2 h)))
          clear h10 hq
          go_wp2_with fail
          refine (writeByte_any _ _ _ _ _ HBL.out (by simp; omega) HB.out.size).mono ?_
          rintro e w2 ⟨rfl, hbl2, hb2⟩
          have HBL2 := Lib.hid hbl2
          have HB2 := Lib.hid (HB.out.trans hb2)
          clear hbl2 hb2
          go_wp2
          go_roundw
          case rel => exact ⟨k + 1, by omega, by go_num, by rw [HSN.out, HE.out]; exact HBL2.out, HB2.out⟩
          case measure => simp [intOf]; omega
    · have HTA := Lib.hid (Pl.take_all s k (by omega))
      go_wp2_with fail
      refine (writeByte_34 _ _ _ _ HBL.out (by simp; omega) HB.out.size).mono ?_
      rintro e w2 ⟨rfl, hbl2, hb2⟩
      have HBL2 := Lib.hid hbl2
      have HB2 := Lib.hid (HB.out.trans hb2)
      clear hbl2 hb2
      go_wp2_with fail
      refine (string_any _ _ _ _ HBL2.out HB2.out.size).mono ?_
      rintro e w3 ⟨rfl, -, hb3⟩
      have HB3 := Lib.hid (HB2.out.trans hb3)
      clear hb3
      go_wp2
      go_ret
      exact ⟨by rw [HTA.out]; rfl, HB3.out⟩
end Go.Proofs.YtjedahcpkcgpeaaGreatDoor

/-
  Plain mathematics of layer 2: texts and their literals; and what Tokens and Unquote answer at a literal.
-/
namespace Go.Proofs.YtjedahcpkcgpeaaGreatDoor
open Go.RowKit
namespace Pl
theorem meaning_esc (c m : UInt8) (h : meaning c = some m) : escB m = [92, c] ∧ textB m = true := by
  unfold meaning at h
  split at h
  · next hc => obtain rfl := Option.some.inj h; subst hc; exact ⟨by decide, by decide⟩
  · split at h
    · next hc => obtain rfl := Option.some.inj h; subst hc; exact ⟨by decide, by decide⟩
    · split at h
      · next hc => obtain rfl := Option.some.inj h; subst hc; exact ⟨by decide, by decide⟩
      · cases h
theorem print_esc (c : UInt8) (h1 : c ≠ 34) (h2 : c ≠ 92) (hp : printB c = true) : escB c = [c] ∧ textB c = true := by
  have h10 : c ≠ 10 := by rintro rfl; exact absurd hp (by decide)
  refine ⟨by unfold escB; rw [if_neg h10, if_neg (by simp [h1, h2])], ?_⟩
  unfold textB textual
  have : printable c.toNat = true := hp
  rw [this, Bool.or_true]
theorem body_cons (b : UInt8) (r : Bytes) : body (b :: r) = escB b ++ body r := by unfold body; rw [List.flatMap_cons]
theorem txt_body : ∀ (l rest acc : Bytes) (k : Nat), isText l = true → txt (body l ++ 34 :: rest) false acc k = good 5 (acc ++ l) (k + (body l).length + 1) := by
  intro l
  induction l with
  | nil => intro rest acc k _; show txt (34 :: rest) false acc k = _; rw [txt, if_pos rfl, List.append_nil]; rfl
  | cons b r ih =>
    intro rest acc k ht
    unfold isText at ht
    rw [List.all_cons, Bool.and_eq_true] at ht
    have ih' := fun a q => ih rest a q ht.2
    rw [body_cons]
    by_cases h10 : b = 10
    · subst h10
      have e : escB 10 = [92, 110] := by decide
      rw [e, List.append_assoc]
      show txt (92 :: 110 :: (body r ++ 34 :: rest)) false acc k = _
      rw [txt, if_neg (by decide), if_pos rfl, txt, show meaning 110 = some 10 from by decide]
      show txt _ false (acc ++ [10]) (k + 1 + 1) = _
      rw [ih', List.append_assoc]
      show good 5 (acc ++ 10 :: r) _ = good 5 _ _
      congr 1
      simp only [List.length_append, List.length_cons, List.length_nil]; omega
    · by_cases hq : b = 34 ∨ b = 92
      · have e : escB b = [92, b] := by unfold escB; rw [if_neg h10, if_pos hq]
        have hm : meaning b = some b := by rcases hq with rfl | rfl <;> decide
        rw [e, List.append_assoc]
        show txt (92 :: b :: (body r ++ 34 :: rest)) false acc k = _
        rw [txt, if_neg (by decide), if_pos rfl, txt, hm]
        show txt _ false (acc ++ [b]) (k + 1 + 1) = _
        rw [ih', List.append_assoc]
        show good 5 (acc ++ b :: r) _ = good 5 _ _
        congr 1
        simp only [List.length_append, List.length_cons, List.length_nil]; omega
      · have e : escB b = [b] := by unfold escB; rw [if_neg h10, if_neg hq]
        have hp : printB b = true := by
          have := ht.1
          unfold textB textual at this
          have h0 : ¬ (b.toNat : Int) = 10 := fun h => h10 ((u8_eq _ _).2 h)
          rw [decide_eq_false h0, Bool.false_or] at this
          exact this
        rw [e, List.append_assoc]
        show txt (b :: (body r ++ 34 :: rest)) false acc k = _
        rw [txt, if_neg (fun h => hq (.inl h)), if_neg (fun h => hq (.inr h)), if_pos hp, ih', List.append_assoc]
        show good 5 (acc ++ b :: r) _ = good 5 _ _
        congr 1
        simp only [List.length_append, List.length_cons, List.length_nil]; omega
theorem txt_sound : ∀ (r : Bytes),
    (∀ (acc : Bytes) (k : Nat), (txt r false acc k).err = 0 → ∃ u rest, r = body u ++ 34 :: rest ∧ txt r false acc k = good 5 (acc ++ u) (k + (body u).length + 1) ∧ isText u = true) ∧
    (∀ (acc : Bytes) (k : Nat), (txt r true acc k).err = 0 → ∃ c m u rest, meaning c = some m ∧ r = c :: (body u ++ 34 :: rest) ∧ txt r true acc k = good 5 (acc ++ m :: u) (k + 1 + (body u).length + 1) ∧ isText u = true) := by
  intro r
  induction r with
  | nil => exact ⟨fun acc k h => absurd h (show ¬ (4 : Int) = 0 by decide), fun acc k h => absurd h (show ¬ (4 : Int) = 0 by decide)⟩
  | cons c r ih =>
    refine ⟨fun acc k h => ?_, fun acc k h => ?_⟩
    · rw [txt] at h ⊢
      by_cases h34 : c = 34
      · rw [if_pos h34]
        exact ⟨[], r, by rw [h34]; rfl, by rw [List.append_nil]; rfl, rfl⟩
      · rw [if_neg h34] at h ⊢
        by_cases h92 : c = 92
        · rw [if_pos h92] at h ⊢
          obtain ⟨d, m, u, rest, hm, hr, ht, hu⟩ := ih.2 acc (k + 1) h
          obtain ⟨he, htm⟩ := meaning_esc d m hm
          refine ⟨m :: u, rest, ?_, ?_, ?_⟩
          · rw [body_cons, he, h92, hr]; rfl
          · rw [ht, body_cons, he]
            congr 1
            simp only [List.length_append, List.length_cons, List.length_nil]; omega
          · unfold isText at hu ⊢; rw [List.all_cons, htm, hu]; rfl
        · rw [if_neg h92] at h ⊢
          by_cases hp : printB c = true
          · rw [if_pos hp] at h ⊢
            obtain ⟨u, rest, hr, ht, hu⟩ := ih.1 (acc ++ [c]) (k + 1) h
            obtain ⟨he, htc⟩ := print_esc c h34 h92 hp
            refine ⟨c :: u, rest, ?_, ?_, ?_⟩
            · rw [body_cons, he, hr]; rfl
            · rw [ht, body_cons, he, List.append_assoc]
              congr 1
              simp only [List.length_append, List.length_cons, List.length_nil]; omega
            · unfold isText at hu ⊢; rw [List.all_cons, htc, hu]; rfl
          · rw [if_neg hp] at h
            exact absurd h (show ¬ (3 : Int) = 0 by decide)
    · rw [txt] at h ⊢
      cases hm : meaning c with
      | none => rw [hm] at h; exact absurd h (show ¬ (3 : Int) = 0 by decide)
      | some m =>
        rw [hm] at h
        obtain ⟨u, rest, hr, ht, hu⟩ := ih.1 (acc ++ [m]) (k + 1) h
        refine ⟨c, m, u, rest, hm, by rw [hr], ?_, hu⟩
        show txt r false (acc ++ [m]) (k + 1) = _
        rw [ht, List.append_assoc]; rfl
theorem lit_len (l : Bytes) : (lit l).length = (body l).length + 2 := by unfold lit; simp
end Pl
end Go.Proofs.YtjedahcpkcgpeaaGreatDoor

/-
  The law LexerLiterals, as a walk: each call returns true, and nothing that lay in memory before it turns.
-/
namespace Go.Proofs.YtjedahcpkcgpeaaGreatDoor
open Go.RowKit
end Go.Proofs.YtjedahcpkcgpeaaGreatDoor

/-
  Walks of layer 2: the reference's words, symbols, texts and literals.
-/
namespace Go.Proofs.YtjedahcpkcgpeaaGreatDoor
open Go.RowKit
namespace Pl
abbrev el (zs : List ByteArray) (k : Nat) : ByteArray := zs.getD k ByteArray.empty
end Pl
namespace Pl
end Pl
end Go.Proofs.YtjedahcpkcgpeaaGreatDoor

/-
  Walks of layer 1, first part: classes of bytes.
-/
namespace Go.Proofs.YtjedahcpkcgpeaaGreatDoor
open Go.RowKit
end Go.Proofs.YtjedahcpkcgpeaaGreatDoor

/-
  Walks of layer 1, second part: key words and names.
-/
namespace Go.Proofs.YtjedahcpkcgpeaaGreatDoor
open Go.RowKit
end Go.Proofs.YtjedahcpkcgpeaaGreatDoor

/-
  Walks of layer 1, third part: names, type variables and labels, of the program and of the reference.
-/
namespace Go.Proofs.YtjedahcpkcgpeaaGreatDoor
open Go.RowKit
end Go.Proofs.YtjedahcpkcgpeaaGreatDoor

/-
  Walks of layer 3: categories, numbers and texts.
-/
namespace Go.Proofs.YtjedahcpkcgpeaaGreatDoor
open Go Go.RowKit
open Pl (Syn)
set_option linter.unusedSimpArgs false
set_option maxRecDepth 100000 in
set_option maxHeartbeats 4000000 in
theorem category_any (op : Int) (w : World) : Calls Tryz.prog 56 #[.int .i64 op] w fun e w' => e = .returned (.int .i64 (Pl.cat op)) ∧ w = w' := by
  go_enter Tryz.func56, Tryz.ntmps56
  go_wp2
  all_goals
    go_ret
    refine ⟨ret_int ?_, rfl⟩
    (try simp only [beq_iff_eq, beq_eq_false_iff_ne] at *)
    unfold Pl.cat
    repeat' (first | rw [if_pos (by omega)] | rw [if_neg (by omega)])
set_option maxHeartbeats 2000000 in
theorem belongs_any (op c : Int) (w : World) : Calls Tryz.prog 34 #[.int .i64 op, .int .i64 c] w fun e w' => e = .returned (.bool (Pl.bel op c)) ∧ w = w' := by
  have HC := Lib.hid (category_any op w)
  have HB := Lib.hid (show ¬ (op = 43 ∨ op = 44) → Pl.bel op c = decide (c ≠ 0 ∧ c = Pl.cat op) from fun h => by unfold Pl.bel; rw [if_neg h])
  have HA := Lib.hid (show (op = 43 ∨ op = 44) → Pl.bel op c = decide (c = 4 ∨ c = 5) from fun h => by unfold Pl.bel; rw [if_pos h])
  generalize Pl.cat op = k at *
  generalize Pl.bel op c = b at *
  go_enter Tryz.func34, Tryz.ntmps34
  go_wp2_with (go_at_call 56; refine HC.out.mono ?_; rintro e w' ⟨rfl, rfl⟩)
  all_goals
    go_ret
    refine ⟨ret_bool ?_, rfl⟩
    (try simp only [beq_iff_eq, beq_eq_false_iff_ne, bne_iff_ne, ne_eq, bne_eq_false_iff_eq] at *)
    first
    | (rw [HA.out (by omega)]; first | (symm; rw [decide_eq_true_eq]; omega) | (symm; rw [decide_eq_false_iff_not]; omega) | (rw [Bool.eq_iff_iff]; simp; done) | (rw [Bool.eq_iff_iff]; simp; omega))
    | (rw [HB.out (by omega)]; first | (symm; rw [decide_eq_true_eq]; omega) | (symm; rw [decide_eq_false_iff_not]; omega) | (rw [Bool.eq_iff_iff]; simp; done) | (rw [Bool.eq_iff_iff]; simp; omega))
set_option maxRecDepth 100000 in
set_option maxHeartbeats 4000000 in
theorem hasPath_any (op : Int) (w : World) : Calls Tryz.prog 125 #[.int .i64 op] w fun e w' => e = .returned (.bool (Pl.hasPath op)) ∧ w = w' := by
  go_enter Tryz.func125, Tryz.ntmps125
  go_wp2
  all_goals
    go_ret
    refine ⟨ret_bool ?_, rfl⟩
    (try simp only [beq_iff_eq, beq_eq_false_iff_ne] at *)
    unfold Pl.hasPath
    first | (symm; rw [decide_eq_true_eq]; omega) | (symm; rw [decide_eq_false_iff_not]; omega)
def IntsAt (w : World) (b off : Nat) (ks : List Int) : Prop := ∀ j (h : j < ks.length), w.cell? ⟨b, off + j, none⟩ = some (.int .i64 ks[j])
end Go.Proofs.YtjedahcpkcgpeaaGreatDoor

/-
  Walks of layer 3: the reference's Equal.
-/
namespace Go.Proofs.YtjedahcpkcgpeaaGreatDoor
open Go Go.RowKit
open Pl (Syn)
theorem SynSl.form {w : World} {P : Nat → Prop} {v : Value} {l : List Syn} (h : SynSl w P v l) : ∃ a c, v = .slice a l.length c ∧ l.length ≤ maxLen := by
  obtain ⟨a, c, rfl, h1, h2, _⟩ := h
  exact ⟨a, c, rfl, Nat.le_trans h1 h2⟩
theorem StrSl.form {w : World} {P : Nat → Prop} {v : Value} {l : List ByteArray} (h : StrSl w P v l) : ∃ a c, v = .slice a l.length c ∧ l.length ≤ maxLen := by
  obtain ⟨a, c, rfl, h1, h2, _⟩ := h
  exact ⟨a, c, rfl, Nat.le_trans h1 h2⟩
end Go.Proofs.YtjedahcpkcgpeaaGreatDoor

/-
  Walks of layer 3: texts, numbers, lists of names.
-/
namespace Go.Proofs.YtjedahcpkcgpeaaGreatDoor
open Go Go.RowKit
open Pl (Syn)
set_option linter.unusedSimpArgs false
theorem okByte_iff (b : UInt8) : Pl.okByte b = true ↔ (b.toNat : Int) = 10 ∨ (32 ≤ (b.toNat : Int) ∧ (b.toNat : Int) ≤ 126) := by unfold Pl.okByte; rw [decide_eq_true_eq]
theorem okByte_no (b : UInt8) (h : ¬ ((b.toNat : Int) = 10 ∨ (32 ≤ (b.toNat : Int) ∧ (b.toNat : Int) ≤ 126))) : Pl.okByte b = false := by unfold Pl.okByte; exact decide_eq_false h
theorem text_big (s : ByteArray) (h : 16384 < s.size) : Pl.textS s = false := by unfold Pl.textS; rw [decide_eq_false (by omega)]; rfl
theorem text_bad (s : ByteArray) (k : Nat) (hk : k < s.size) (h : Pl.okByte s[k] = false) : Pl.textS s = false := by unfold Pl.textS; rw [Pl.all_false _ s k hk h, Bool.and_false]
theorem text_good (s : ByteArray) (h0 : s.size ≤ 16384) (h : (s.toList.take s.size).all Pl.okByte = true) : Pl.textS s = true := by
  unfold Pl.textS; rw [Pl.take_all s s.size (Nat.le_refl _)] at h; rw [h, decide_eq_true h0]; rfl
set_option maxRecDepth 100000 in
set_option maxHeartbeats 4000000 in
theorem isText3_any (s : ByteArray) (w : World) (hs : s.size ≤ maxLen) : Calls Tryz.prog 124 #[.string s] w fun e w' => e = .returned (.bool (Pl.textS s)) ∧ w = w' := by
  unfold maxLen at hs
  by_cases hb : 16384 < s.size
  · have HT := Lib.hid (text_big s hb)
    go_enter Tryz.func124, Tryz.ntmps124
    go_wp2
    go_ret
    exact ⟨ret_bool HT.out.symm, rfl⟩
  · go_enter Tryz.func124, Tryz.ntmps124
    go_wp2_with fail
    go_loop [10] (fun i => ∃ k : Nat, k ≤ s.size ∧ i = .int .i64 k ∧ (s.toList.take k).all Pl.okByte = true) (fun i => s.size - (intOf i).toNat)
    case atStart => exact ⟨0, by omega, rfl, by simp⟩
    case round =>
      obtain ⟨k, hk, rfl, hin⟩ := hrel
      have HI := Lib.hid hin
      clear hin
      by_cases hlt : k < s.size
      · have HY := Lib.hid (show Pl.okByte s[k] = true → (s.toList.take (k + 1)).all Pl.okByte = true from fun h => by rw [Pl.all_take _ s k hlt, HI.out, h]; rfl)
        have HN := Lib.hid (fun h => text_bad s k hlt h)
        have HO := Lib.hid (okByte_iff s[k])
        have HO2 := Lib.hid (okByte_no s[k])
        go_wp2
        all_goals
          (try simp only [beq_iff_eq, beq_eq_false_iff_ne, bne_iff_ne, ne_eq, bne_eq_false_iff_eq] at *)
          first
          | (go_ret; exact ⟨ret_bool (HN.out (HO2.out (by omega))).symm, rfl⟩)
          | (go_round
             case rel => exact ⟨k + 1, by omega, by go_num, HY.out (HO.out.2 (by omega))⟩
             case measure => simp [intOf]; omega)
      · obtain rfl : k = s.size := by omega
        go_wp2
        go_ret
        exact ⟨ret_bool (text_good s (by omega) HI.out).symm, rfl⟩
set_option maxRecDepth 100000 in
set_option maxHeartbeats 4000000 in
theorem numberFits_any (op n : Int) (s : ByteArray) (nv lv : Value) (w : World) : Calls Tryz.prog 96 #[.agg #[.int .i64 op, .int .i64 n, .string s, nv, lv]] w fun e w' => e = .returned (.bool (Pl.num op n)) ∧ Below w.heap.size w w' := by
  go_enter Tryz.func96, Tryz.ntmps96
  go_wp2
  all_goals
    go_ret
    refine ⟨ret_bool ?_, (Below.refl _ _).alloc (Nat.le_refl _) _⟩
    (try simp only [beq_iff_eq, beq_eq_false_iff_ne, bne_iff_ne, ne_eq, bne_eq_false_iff_eq] at *)
    unfold Pl.num
    repeat' (first | rw [if_pos (by omega)] | rw [if_neg (by omega)])
    first | (symm; rw [decide_eq_true_eq]; omega) | (symm; rw [decide_eq_false_iff_not]; omega) | (rw [Bool.eq_iff_iff]; simp; done) | (rw [Bool.eq_iff_iff]; simp; omega)
set_option maxRecDepth 100000 in
set_option maxHeartbeats 4000000 in
theorem textFits_any (op n around : Int) (s : ByteArray) (nv lv : Value) (w : World) (hs : s.size ≤ maxLen) : Calls Tryz.prog 97 #[.agg #[.int .i64 op, .int .i64 n, .string s, nv, lv], .int .i64 around] w fun e w' => e = .returned (.bool (Pl.stxt op around s)) ∧ Below w.heap.size w w' := by
  have HB := Lib.hid (show Below w.heap.size w (w.alloc (.cells #[.int .i64 op, .int .i64 n, .string s, nv, lv] 27)) from (Below.refl _ _).alloc (Nat.le_refl _) _)
  have HL := Lib.hid (show ∀ W, Calls Tryz.prog 44 #[.string s] W fun e w' => e = .returned (.bool (Pl.lowS s)) ∧ W = w' from fun W => isLower_any s W hs)
  have HU := Lib.hid (show ∀ W, Calls Tryz.prog 45 #[.string s] W fun e w' => e = .returned (.bool (Pl.upS s)) ∧ W = w' from fun W => isUpper_any s W hs)
  have HV := Lib.hid (show ∀ W, Calls Tryz.prog 46 #[.string s] W fun e w' => e = .returned (.bool (Pl.varS s)) ∧ W = w' from fun W => isVar_any s W hs)
  have HT := Lib.hid (fun W => isText3_any s W hs)
  have HE := Lib.hid (show s.toList.isEmpty = Pl.emptyS s from rfl)
  clear hs
  go_enter Tryz.func97, Tryz.ntmps97
  go_wp2_with (first
    | (go_at_call 44; refine (HL.out _).mono ?_; rintro e w' ⟨rfl, rfl⟩)
    | (go_at_call 45; refine (HU.out _).mono ?_; rintro e w' ⟨rfl, rfl⟩)
    | (go_at_call 46; refine (HV.out _).mono ?_; rintro e w' ⟨rfl, rfl⟩)
    | (go_at_call 124; refine (HT.out _).mono ?_; rintro e w' ⟨rfl, rfl⟩))
  all_goals
    go_ret
    refine ⟨ret_bool ?_, HB.out⟩
    (try simp only [beq_iff_eq, beq_eq_false_iff_ne, bne_iff_ne, ne_eq, bne_eq_false_iff_eq] at *)
    unfold Pl.stxt
    repeat' (first | rw [if_pos (by omega)] | rw [if_neg (by omega)])
    all_goals (try rw [← HE.out])
    all_goals first | rfl | simp_all
end Go.Proofs.YtjedahcpkcgpeaaGreatDoor
