/-
  Walks of layer 9: small and tiny constructors.
-/
import Derived.Test.YtmjiocpcenbndaaGreatDoorQk
namespace Go.Proofs.YtmjiocpcenbndaaGreatDoor
open Go Go.RowKit
open Pl (K Con)
set_option linter.unusedSimpArgs false

/-- a call answers a bool; false says something -/
def Denies (p : Prop) (w : World) (e : Ending) (w' : World) : Prop := (∃ r : Bool, e = .returned (.bool r) ∧ (r = false → p)) ∧ Below w.heap.size w w'
set_option maxRecDepth 100000 in
theorem idxC_any (f : Nat) (hen : ∀ (W : World) (args : Array Value), Sem.run Tryz.prog (callFunc f args) W = .ok (.enter f args) W) (N : Con → Prop)
    (P : Nat → Prop) (l : List Con) (hk : ∀ t ∈ l, ∀ (W : World) (v : Value), (∀ b, P b → b < W.heap.size) → ConV W P t v → Calls Tryz.prog f #[v] W (Denies (N t) W))
    (w : World) (v : Value) (hP : ∀ b, P b → b < w.heap.size) (hl : ConSl w P v l) :
    Calls Tryz.prog 52 #[v, .func (.func f) #[] #[]] w fun e w' => (∃ r : Int, e = .returned (.int .i64 r) ∧ (r < 0 → ∀ t ∈ l, N t)) ∧ Below w.heap.size w w' := by
  have HKK := Lib.hid hk
  have HP := Lib.hid hP
  have HSL := Lib.hid (fun W (hW : Below w.heap.size w W) => hl.keep (Same.of_below hW hP))
  obtain ⟨la, lc, rfl, hlc, hcm, -⟩ := hl.each
  obtain ⟨n, hn⟩ : ∃ n, n = l.length := ⟨_, rfl⟩
  have HN := Lib.hid hn
  rw [← hn] at HSL ⊢
  have hn63 : n ≤ 9223372036854775807 := by unfold maxLen at hcm; omega
  clear hl hn hcm hlc hP hk
  go_enter Tryz.func52, Tryz.ntmps52
  go_wp2_with fail
  go_loopg [8] (n + 1) (fun g i wr => ∃ k : Nat, k ≤ n ∧ i = .int .i64 k ∧ g = n + 1 - k ∧ (∀ j (h : j < l.length), j < k → N l[j]) ∧ Below w.heap.size w wr)
  case atStart => exact ⟨0, by omega, rfl, by omega, fun j h h0 => absurd h0 (Nat.not_lt_zero _), Below.refl _ _⟩
  case round =>
    obtain ⟨k, hk, rfl, hg, hall, hbw⟩ := hrel
    have HBW := Lib.hid hbw
    have HALL := Lib.hid hall
    by_cases hlt : k < n
    · have q5 : decide ((k : Int) < (n : Int)) = true := decide_eq_true (by omega)
      have hkl : k < l.length := by rw [← HN.out]; exact hlt
      obtain ⟨b, off, c', xa, xn, xc, ya, yn, yc, za, zn, zc, e, -, f0, f1, f2, f3, f4, f5, hx⟩ := (HSL.out wr hbw).part k hkl
      injection e with e1 e2 e3
      subst e1 e3
      clear e2
      have HC := Lib.hid (HKK.out _ (List.getElem_mem hkl) wr _ (fun b hb => Nat.lt_of_lt_of_le (HP.out b hb) hbw.size) hx)
      have HNK := Lib.hid (show ∀ j (h : j < l.length), N l[k] → j < k + 1 → N l[j] from fun j hj h h1 => by
        rcases Nat.lt_or_ge j k with h2 | h2
        · exact HALL.out j hj h2
        · obtain rfl : j = k := by omega
          exact h)
      generalize l[k] = x at *
      clear hall hbw hx
      go_wp2_with fail
      refine HC.out.mono ?_
      rintro e w3 ⟨⟨r, rfl, hr⟩, hb3⟩
      have HB3 := Lib.hid (belowStep hb3 HBW.out)
      have HR := Lib.hid hr
      clear hb3 f0 f1 f2 f3 f4 f5 hr
      cases r
      · have HF := Lib.hid (HR.out rfl)
        go_wp2
        go_roundg (gk - 1)
        case measure => omega
        case rel => exact ⟨k + 1, by omega, by go_num, by omega, fun j hj h => HNK.out j hj HF.out h, HB3.out⟩
      · go_wp2
        go_ret
        exact ⟨⟨k, rfl, fun h => by omega⟩, HB3.out⟩
    · have q5 : decide ((k : Int) < (n : Int)) = false := decide_eq_false (by omega)
      clear hall hbw
      go_wp2
      go_ret
      refine ⟨⟨-1, rfl, fun _ t ht => ?_⟩, HBW.out⟩
      obtain ⟨j, hj, rfl⟩ := List.getElem_of_mem ht
      exact HALL.out j hj (by have := HN.out; omega)
theorem containsC_any (f : Nat) (hen : ∀ (W : World) (args : Array Value), Sem.run Tryz.prog (callFunc f args) W = .ok (.enter f args) W) (N : Con → Prop)
    (P : Nat → Prop) (l : List Con) (hk : ∀ t ∈ l, ∀ (W : World) (v : Value), (∀ b, P b → b < W.heap.size) → ConV W P t v → Calls Tryz.prog f #[v] W (Denies (N t) W))
    (w : World) (v : Value) (hP : ∀ b, P b → b < w.heap.size) (hl : ConSl w P v l) :
    Calls Tryz.prog 29 #[v, .func (.func f) #[] #[]] w (Denies (∀ t ∈ l, N t) w) := by
  have HC := Lib.hid (idxC_any f hen N P l hk w v hP hl)
  obtain ⟨a, c, rfl, -⟩ := hl.each
  clear hl hP hk hen
  generalize l.length = n at *
  go_enter Tryz.func29, Tryz.ntmps29
  go_wp2_with fail
  refine HC.out.mono ?_
  rintro e w2 ⟨⟨r, rfl, hr⟩, hb2⟩
  have HR := Lib.hid hr
  have HB := Lib.hid hb2
  clear hr hb2
  by_cases h0 : (0 : Int) ≤ r
  · have q1 : decide ((0 : Int) ≤ r) = true := decide_eq_true h0
    go_wp2
    go_ret
    exact ⟨⟨true, rfl, fun h => by cases h⟩, HB.out⟩
  · have q1 : decide ((0 : Int) ≤ r) = false := decide_eq_false h0
    have HF := Lib.hid (HR.out (by omega))
    go_wp2
    go_ret
    exact ⟨⟨false, rfl, fun _ => HF.out⟩, HB.out⟩
/-- small: fewer than 400 nodes and names -/
def Con.Small9 (t : Con) : Prop := Con.wt t < 400
def Con.Tiny9 (t : Con) : Prop := Con.wt t < 60 ∧ Con.validB t = true
theorem small1_any (P : Nat → Prop) (t : Con) (w : World) (v : Value) (hP : ∀ b, P b → b < w.heap.size) (ht : ConV w P t v) :
    Calls Tryz.prog 30 #[v] w (Denies (Con.Small9 t) w) := by
  obtain ⟨ka, kn, kc, na, nn, nc, la, ln, lc, rfl, -, -, -, hbx, hb⟩ := con_box ht
  have c0 := hbx.cell 0 (.int .i64 t.op) rfl
  have c1 := hbx.cell 1 (.int .i64 t.n) rfl
  have c2 := hbx.cell 2 (.string t.s) rfl
  have c3 := hbx.cell 3 (.slice ka kn kc) rfl
  have c4 := hbx.cell 4 (.slice na nn nc) rfl
  have c5 := hbx.cell 5 (.slice la ln lc) rfl
  have HC := Lib.hid (lnodes_any P t 4400 1 _ _ (fun b h => Nat.lt_of_lt_of_le (hP b h) hb.size) (ht.below hP hb) (by omega) (by omega) (by omega) (by omega))
  have HB := Lib.hid hb
  clear ht hbx hb hP
  go_enter Tryz.func30, Tryz.ntmps30
  go_wp2_with fail
  refine HC.out.mono ?_
  rintro e w1 ⟨⟨r, rfl, hr0, hr1, hr2⟩, hb1⟩
  have HB1 := Lib.hid (belowStep hb1 HB.out)
  have HR := Lib.hid hr2
  clear hb1 hr2 c0 c1 c2 c3 c4 c5
  by_cases h : 400 ≤ r
  · have q1 : decide (400 ≤ r) = true := decide_eq_true h
    have q2 : decide (r ≤ 20000) = true := decide_eq_true (by omega)
    go_wp2
    go_ret
    exact ⟨⟨true, rfl, fun h => by cases h⟩, HB1.out⟩
  · have q1 : decide (400 ≤ r) = false := decide_eq_false h
    have q2 : decide (4400 ≤ r) = false := decide_eq_false (by omega)
    have HF := Lib.hid (show Con.Small9 t from by unfold Con.Small9; have := HR.out (by omega); omega)
    go_wp2
    go_ret
    exact ⟨⟨false, rfl, fun _ => HF.out⟩, HB1.out⟩
/-- a call answers a bool; true says something -/
def Grants (p : Prop) (w : World) (e : Ending) (w' : World) : Prop := (∃ r : Bool, e = .returned (.bool r) ∧ (r = true → p)) ∧ Below w.heap.size w w'
set_option maxRecDepth 100000 in
theorem small_any (P : Nat → Prop) (l : List Con) (w : World) (v : Value) (hP : ∀ b, P b → b < w.heap.size) (hl : ConSl w P v l) :
    Calls Tryz.prog 5 #[v] w (Grants (∀ t ∈ l, Con.Small9 t) w) := by
  have HC := Lib.hid (containsC_any 30 (fun _ _ => rfl) Con.Small9 P l (fun t _ W v hP ht => small1_any P t W v hP ht) w v hP hl)
  obtain ⟨a, c, rfl, -⟩ := hl.each
  clear hl hP
  generalize l.length = n at *
  go_enter Tryz.func5, Tryz.ntmps5
  go_wp2_with fail
  refine HC.out.mono ?_
  rintro e w2 ⟨⟨r, rfl, hr⟩, hb2⟩
  have HR := Lib.hid hr
  have HB := Lib.hid hb2
  clear hr hb2
  cases r
  · have HF := Lib.hid (HR.out rfl)
    go_wp2
    go_ret
    exact ⟨⟨true, rfl, fun _ => HF.out⟩, HB.out⟩
  · go_wp2
    go_ret
    exact ⟨⟨false, rfl, fun h => by cases h⟩, HB.out⟩
end Go.Proofs.YtmjiocpcenbndaaGreatDoor
