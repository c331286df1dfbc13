/-
  Layer 8: what the program's exported functions answer, as one statement (to be shown of the program's code); the law KindForms over it.
-/
import Derived.Test.YthamhgnhdjahgaaKp
import Derived.Deep.RegionHeld3
namespace Go.Proofs.Ythamhgnhdjahgaa
open Go Go.RowKit
open Pl (K)
set_option linter.unusedSimpArgs false

def Low (w : World) (P : Nat → Prop) : Prop := ∀ b, P b → b < w.heap.size
theorem Low.up {w w' : World} {P : Nat → Prop} (h : Low w P) (hb : Below w.heap.size w w') : Low w' P := fun b hp => Nat.lt_of_lt_of_le (h b hp) hb.size
/-- an answer that is one value, and nothing below has turned -/
def Says (v : Value) (w : World) (e : Ending) (w' : World) : Prop := e = .returned v ∧ Below w.heap.size w w'
/-- an answer that is a kind and a code -/
def KindCode (P : Nat → Prop) (r : K × Int) (w : World) (e : Ending) (w' : World) : Prop := (∃ y, e = .returned (.tuple #[y, .int .i64 r.2]) ∧ KV w' (Ext P w w') r.1 y) ∧ Below w.heap.size w w'
namespace Pl.K
instance : DecidableEq K := fun a b => if h : eqv a b = true then isTrue ((eqv_iff a b).1 h) else isFalse (fun e => h ((eqv_iff a b).2 e))
def arityOut (n : Int) : K × Int := if 0 ≤ n ∧ n ≤ 100 then (arity n.toNat, 0) else (.mk [], 2)
def applyOut (f a : K) : K × Int := if (valid f && valid a) = true then (match f with
  | .mk [x, y] => if x = a then (y, 0) else (.mk [], 11)
  | _ => (.mk [], 11)) else (.mk [], 1)
def textOut (t : K) : List UInt8 × Int := if valid t = true then (if (text t).length ≤ 16384 then (text t, 0) else ([], 5)) else ([], 1)
end Pl.K
def kparseOut (l : List UInt8) : K × Int := if 16384 < l.length then (.mk [], 5) else parseOut l
/-- what the program's functions answer -/
structure Code8 : Prop where
  valid : ∀ (P : Nat → Prop) (t : K) (w : World) (v : Value), Low w P → KV w P t v → Calls Try.prog 12 #[v] w (Says (.bool (K.valid t)) w)
  equal : ∀ (P Q : Nat → Prop) (t u : K) (w : World) (v x : Value), Low w P → Low w Q → KV w P t v → KV w Q u x → Calls Try.prog 14 #[v, x] w (Says (.bool (K.valid t && K.valid u && K.eqv t u)) w)
  star : ∀ w : World, Calls Try.prog 17 #[] w (Says (.agg #[.slice none 0 0]) w)
  arrow : ∀ (P : Nat → Prop) (l : List K) (to : K) (w : World) (v x : Value), Low w P → KSl w P v l → KV w P to x → Calls Try.prog 19 #[v, x] w (KindCode P (K.arrowOut l to) w)
  arity : ∀ (n : Int) (w : World), Calls Try.prog 21 #[.int .i64 n] w (KindCode (fun _ => False) (K.arityOut n) w)
  parts : ∀ (P : Nat → Prop) (t : K) (w : World) (v : Value), Low w P → KV w P t v → Calls Try.prog 23 #[v] w fun e w' => (∃ y, e = .returned (.tuple #[y, .agg #[.slice none 0 0], .int .i64 (if K.valid t = true then 0 else 1)]) ∧ KSl w' (Ext P w w') y (if K.valid t = true then K.parts t else [])) ∧ Below w.heap.size w w'
  apply : ∀ (P : Nat → Prop) (f a : K) (w : World) (v x : Value), Low w P → KV w P f v → KV w P a x → Calls Try.prog 26 #[v, x] w (KindCode P (K.applyOut f a) w)
  text : ∀ (P : Nat → Prop) (t : K) (w : World) (v : Value), Low w P → KV w P t v → Calls Try.prog 27 #[v] w (Says (.tuple #[.string (mkB (K.textOut t).1), .int .i64 (K.textOut t).2]) w)
  parse : ∀ (s : ByteArray) (w : World), s.size ≤ 1099511627776 → Calls Try.prog 29 #[.string s] w (KindCode (fun _ => False) (kparseOut s.toList) w)
/-- the examples hold -/
def Awake8 : Prop := ∀ w : World, Calls Try.prog 10 #[] w (Says (.bool true) w)
theorem eqv_self (t : K) : K.eqv t t = true := (K.eqv_iff t t).2 rfl
set_option maxRecDepth 100000 in
set_option maxHeartbeats 2000000 in
theorem forms_walk (C : Code8) (A : Awake8) (P Q : Nat → Prop) (t u : K) (w : World) (v x : Value) (hP : Low w P) (hQ : Low w Q) (ht : KV w P t v) (hu : KV w Q u x) :
    Calls Try.prog 3 #[v, x] w (Says (.bool true) w) := by
  have HA := Lib.hid A
  have HBT := Lib.hid (fun W (hW : Below w.heap.size w W) => big_any P t W v (hP.up hW) (ht.below hP hW))
  have HBU := Lib.hid (fun W (hW : Below w.heap.size w W) => big_any Q u W x (hQ.up hW) (hu.below hQ hW))
  have H1 := Lib.hid (fun W (hW : Below w.heap.size w W) => C.valid P t W v (hP.up hW) (ht.below hP hW))
  have H2 := Lib.hid (fun W (hW : Below w.heap.size w W) => rvalid_any P t W v (hP.up hW) (ht.below hP hW))
  have H3 := Lib.hid (fun W (hW : Below w.heap.size w W) => C.equal P Q t u W v x (hP.up hW) (hQ.up hW) (ht.below hP hW) (hu.below hQ hW))
  have H4 := Lib.hid (fun W (hW : Below w.heap.size w W) => requal_any P Q t u W v x (hP.up hW) (hQ.up hW) (ht.below hP hW) (hu.below hQ hW))
  have H5 := Lib.hid (fun W (hW : Below w.heap.size w W) => C.equal P P t t W v v (hP.up hW) (hP.up hW) (ht.below hP hW) (ht.below hP hW))
  have H6 := Lib.hid C.star
  have H7 : Hid (∀ W, Calls Try.prog 16 #[.agg #[.slice none 0 0]] W fun e w' => e = .returned (.bool true) ∧ Below W.heap.size W w') := fun W => none8_any (fun _ => False) (.mk []) W (.agg #[.slice none 0 0]) (kV_none _ _)
  obtain ⟨a, c, rfl⟩ := ht.form
  obtain ⟨a2, c2, rfl⟩ := hu.form
  rw [eqv_self, Bool.and_true, Bool.and_self] at H5
  generalize (K.valid t && K.valid u && K.eqv t u) = r2 at *
  generalize K.valid t = r1 at *
  clear ht hu hP hQ C A
  generalize t.l.length = n at *
  generalize u.l.length = n2 at *
  obtain ⟨hbx, hbx2, hb⟩ := two_new w 24 (.slice a n c) (.slice a2 n2 c2)
  obtain ⟨B, hB⟩ : ∃ B, B = w.heap.size := ⟨_, rfl⟩
  rw [← hB] at hbx hbx2
  have HB := Lib.hid hb
  have HX := Lib.hid (fun W (hW : Below ((w.alloc (.cells #[.slice a n c] 24)).alloc (.cells #[.slice a2 n2 c2] 24)).heap.size ((w.alloc (.cells #[.slice a n c] 24)).alloc (.cells #[.slice a2 n2 c2] 24)) W) => (show W.cell? ⟨B, 0, none⟩ = some (.slice a n c) ∧ W.cell? ⟨B + 1, 0, none⟩ = some (.slice a2 n2 c2) from ⟨(hbx.of_eq (hW.block _ hbx.lt)).cell 0 _ rfl, (hbx2.of_eq (hW.block _ hbx2.lt)).cell 0 _ rfl⟩))
  clear hbx hbx2 hb
  go_enter Try.func3, Try.ntmps3
  go_wp2_with fail
  rw [← hB]
  clear hB
  generalize ((w.alloc (.cells #[.slice a n c] 24)).alloc (.cells #[.slice a2 n2 c2] 24)) = w0 at *
  refine (HA.out _).mono ?_
  rintro e w1 ⟨rfl, hb1⟩
  have HB1 := Lib.hid (belowStep hb1 HB.out)
  have HW1 := Lib.hid hb1
  obtain ⟨c0, d0⟩ := HX.out _ hb1
  clear hb1
  go_wp2_with fail
  refine (HBT.out _ HB1.out).mono ?_
  rintro e w2 ⟨⟨r, rfl, -⟩, hb2⟩
  have HB2 := Lib.hid (belowStep hb2 HB1.out)
  have HW2 := Lib.hid (belowStep hb2 HW1.out)
  clear hb2 c0 d0
  obtain ⟨c0, d0⟩ := HX.out _ HW2.out
  cases r
  rotate_left
  · go_wp2
    go_ret
    exact ⟨rfl, HB2.out⟩
  go_wp2_with fail
  refine (HBU.out _ HB2.out).mono ?_
  rintro e w3 ⟨⟨r, rfl, -⟩, hb3⟩
  have HB3 := Lib.hid (belowStep hb3 HB2.out)
  have HW3 := Lib.hid (belowStep hb3 HW2.out)
  clear hb3 c0 d0
  obtain ⟨c0, d0⟩ := HX.out _ HW3.out
  cases r
  rotate_left
  · go_wp2
    go_ret
    exact ⟨rfl, HB3.out⟩
  have HS := Lib.hid (fun W (hW : Below w3.heap.size w3 W) => (show Below w3.heap.size w3 W ∧ W.cell? ⟨B, 0, none⟩ = some (.slice a n c) ∧ W.cell? ⟨B + 1, 0, none⟩ = some (.slice a2 n2 c2) from ⟨hW, HX.out _ (belowStep hW HW3.out)⟩))
  have HD0 := Lib.hid (Below.refl w3.heap.size w3).drew
  have HU := Lib.hid (fun W (hW : Below w3.heap.size w3 W) => belowStep hW HB3.out)
  clear c0 d0
  have qq1 : (r1 == r1) = true := beq_self_eq_true r1
  have qq2 : (r2 == r2) = true := beq_self_eq_true r2
  go_wp2
  go_region_held3 (fun W => Below w3.heap.size w3 W ∧ W.cell? ⟨B, 0, none⟩ = some (.slice a n c) ∧ W.cell? ⟨B + 1, 0, none⟩ = some (.slice a2 n2 c2))
    (first | exact HS.out _ HD0.out | exact HS.out _ (by assumption))
    (first
    | (go_at_call 12; (with_reducible refine (H1.out _ (HU.out _ (by first | assumption | exact HD0.out | exact And.left (by assumption)))).mono ?_); rintro e wn ⟨rfl, hbn⟩; have hbn2 := belowStep (a := w3) hbn (by first | assumption | exact HD0.out | exact And.left (by assumption)))
    | (go_at_call 13; (with_reducible refine (H2.out _ (HU.out _ (by first | assumption | exact HD0.out | exact And.left (by assumption)))).mono ?_); rintro e wn ⟨rfl, hbn⟩; have hbn2 := belowStep (a := w3) hbn (by first | assumption | exact HD0.out | exact And.left (by assumption)))
    | (go_at_call 14; (with_reducible refine (H3.out _ (HU.out _ (by first | assumption | exact HD0.out | exact And.left (by assumption)))).mono ?_); rintro e wn ⟨rfl, hbn⟩; have hbn2 := belowStep (a := w3) hbn (by first | assumption | exact HD0.out | exact And.left (by assumption)))
    | (go_at_call 14; (with_reducible refine (H5.out _ (HU.out _ (by first | assumption | exact HD0.out | exact And.left (by assumption)))).mono ?_); rintro e wn ⟨rfl, hbn⟩; have hbn2 := belowStep (a := w3) hbn (by first | assumption | exact HD0.out | exact And.left (by assumption)))
    | (go_at_call 15; (with_reducible refine (H4.out _ (HU.out _ (by first | assumption | exact HD0.out | exact And.left (by assumption)))).mono ?_); rintro e wn ⟨rfl, hbn⟩; have hbn2 := belowStep (a := w3) hbn (by first | assumption | exact HD0.out | exact And.left (by assumption)))
    | (go_at_call 17; (with_reducible refine (H6.out _).mono ?_); rintro e wn ⟨rfl, hbn⟩; have hbn2 := belowStep (a := w3) hbn (by first | assumption | exact HD0.out | exact And.left (by assumption)))
    | (go_at_call 16; (with_reducible refine (H7.out _).mono ?_); rintro e wn ⟨rfl, hbn⟩; have hbn2 := belowStep (a := w3) hbn (by first | assumption | exact HD0.out | exact And.left (by assumption))))
  go_wp2
  go_ret
  exact ⟨rfl, HU.out _ (by first | assumption | exact And.left (by assumption))⟩
end Go.Proofs.Ythamhgnhdjahgaa
