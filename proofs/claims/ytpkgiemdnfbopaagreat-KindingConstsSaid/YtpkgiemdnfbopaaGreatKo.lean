/-
  Walks of layer 8: two rows of kinds compared by a function; kinds as arguments read as they did.
-/
import Derived.Test.YtpkgiemdnfbopaaGreatKn
import Derived.OpenShut
namespace Go.Proofs.YtpkgiemdnfbopaaGreat
open Go Go.RowKit
open Pl (K)
set_option linter.unusedSimpArgs false

def eqAllB (f : K → K → Bool) : List K → List K → Bool
  | t :: r, u :: s => f t u && eqAllB f r s
  | _, _ => true
theorem eqAllB_step (f : K → K → Bool) (l m : List K) (i : Nat) (hl : i < l.length) (hm : i < m.length) : eqAllB f (l.drop i) (m.drop i) = (f l[i] m[i] && eqAllB f (l.drop (i + 1)) (m.drop (i + 1))) := by
  rw [List.drop_eq_getElem_cons hl, List.drop_eq_getElem_cons hm, eqAllB]
theorem eqAllB_end (f : K → K → Bool) (l m : List K) (i : Nat) (hl : l.length ≤ i) : eqAllB f (l.drop i) (m.drop i) = true := by
  rw [List.drop_of_length_le hl]
  cases m.drop i <;> rfl
set_option maxRecDepth 100000 in
theorem eqFuncIn_any (k : Nat) (f : K → K → Bool) (hen : ∀ (W : World) (args : Array Value), Sem.run Tryz.prog (callFunc k args) W = .ok (.enter k args) W)
    (P Q : Nat → Prop) (l m : List K)
    (hk : ∀ t ∈ l, ∀ (P Q : Nat → Prop) (u : K) (W : World) (v x : Value), (∀ b, P b → b < W.heap.size) → (∀ b, Q b → b < W.heap.size) → KV W P t v → KV W Q u x → Calls Tryz.prog k #[v, x] W fun e w' => e = .returned (.bool (f t u)) ∧ Below W.heap.size W w')
    (w : World) (v x : Value) (hP : ∀ b, P b → b < w.heap.size) (hQ : ∀ b, Q b → b < w.heap.size) (hl : KSl w P v l) (hm : KSl w Q x m) :
    Calls Tryz.prog 128 #[v, x, .func (.func k) #[] #[]] w fun e w' => e = .returned (.bool (l.length == m.length && eqAllB f l m)) ∧ Below w.heap.size w w' := by
  have HKK := Lib.hid hk
  clear hk
  obtain ⟨a, c, rfl, hlc, hcm, hka⟩ := hl.each
  obtain ⟨a2, c2, rfl, hlc2, hcm2, hka2⟩ := hm.each
  clear hl hm
  have HB : Hid (Below w.heap.size w w) := Below.refl _ _
  obtain ⟨R, hR⟩ : ∃ R, R = (l.length == m.length && eqAllB f l m) := ⟨_, rfl⟩
  rw [← hR]
  have HR := Lib.hid hR
  clear hR
  have HKA := Lib.hid hka
  have HKA2 := Lib.hid hka2
  have HP := Lib.hid hP
  have HQ := Lib.hid hQ
  have hll : l.length ≤ 9223372036854775807 := by unfold maxLen at hcm; omega
  clear hka hka2 hP hQ hcm hcm2
  by_cases h1 : l.length = m.length
  rotate_left
  · have HF := Lib.hid (show R = false from by rw [HR.out, beq_eq_false_iff_ne.2 h1, Bool.false_and])
    clear HR HKA HKA2
    generalize l.length = n at *
    generalize m.length = n2 at *
    have q1 : ((n : Int) != (n2 : Int)) = true := by simp; omega
    go_enter Tryz.func128, Tryz.ntmps128
    go_wp2_with fail
    go_ret
    exact ⟨by rw [HF.out]; rfl, HB.out⟩
  have HF := Lib.hid (show R = eqAllB f l m from by rw [HR.out, beq_iff_eq.2 h1, Bool.true_and])
  obtain ⟨n, hn⟩ : ∃ n, n = l.length := ⟨_, rfl⟩
  have hn2 : n = m.length := hn.trans h1
  rw [← hn] at hlc hll
  rw [← hn2] at hlc2
  rw [← hn, ← hn2]
  have HN := Lib.hid hn
  have HM := Lib.hid hn2
  clear HR h1 hn hn2
  have q1 : ((n : Int) != (n : Int)) = false := by simp
  go_enter Tryz.func128, Tryz.ntmps128
  go_wp2_with fail
  go_loopg [17] (n + 1) (fun g k wr => ∃ i : Nat, i ≤ n ∧ k = .int .i64 i ∧ g = n + 1 - i ∧ R = eqAllB f (l.drop i) (m.drop i) ∧ Below w.heap.size w wr)
  case atStart => exact ⟨0, by omega, rfl, by omega, by rw [List.drop_zero, List.drop_zero]; exact HF.out, HB.out⟩
  case round =>
    obtain ⟨i, hi, rfl, hg, hR, hbw⟩ := hrel
    have HBW := Lib.hid hbw
    have HHR := Lib.hid hR
    by_cases hlt : i < n
    · have q5 : decide ((i : Int) < (n : Int)) = true := decide_eq_true (by omega)
      have hil : i < l.length := by rw [← HN.out]; exact hlt
      have him : i < m.length := by rw [← HM.out]; exact hlt
      obtain ⟨b, off, xx, rfl, hPb, hx, hkx⟩ := HKA.out i hil
      obtain ⟨b2, off2, yy, rfl, hQb, hy, hky⟩ := HKA2.out i him
      obtain ⟨a7, c7, rfl⟩ := hkx.form
      obtain ⟨a8, c8, rfl⟩ := hky.form
      have hPb := HP.out b hPb
      have hQb := HQ.out b2 hQb
      have e0 := (hbw.cell (p := ⟨b, off + i, none⟩) hPb).trans hx
      have g0 := ((below_new (o := .cells #[.slice a7 l[i].l.length c7] 24) hbw).cell (p := ⟨b2, off2 + i, none⟩) hQb).trans hy
      have hb2 : Below w.heap.size w ((wr.alloc (.cells #[.slice a7 l[i].l.length c7] 24)).alloc (.cells #[.slice a8 m[i].l.length c8] 24)) := below_new (below_new hbw)
      have HC := Lib.hid (HKK.out l[i] (List.getElem_mem hil) P Q m[i] _ (.agg #[.slice a7 l[i].l.length c7]) (.agg #[.slice a8 m[i].l.length c8]) (fun b hb => Nat.lt_of_lt_of_le (HP.out b hb) hb2.size) (fun b hb => Nat.lt_of_lt_of_le (HQ.out b hb) hb2.size) ⟨_, rfl, hkx.keep (Same.of_below hb2 HP.out)⟩ ⟨_, rfl, hky.keep (Same.of_below hb2 HQ.out)⟩)
      have HB2 := Lib.hid hb2
      have HN' := Lib.hid (show R = (f l[i] m[i] && eqAllB f (l.drop (i + 1)) (m.drop (i + 1))) from by rw [HHR.out, eqAllB_step f l m i hil him])
      generalize f l[i] m[i] = r at *
      generalize l[i].l.length = n7 at *
      generalize m[i].l.length = n8 at *
      clear hR hbw hx hy hkx hky hil him hb2
      go_wp2_with fail
      generalize (wr.alloc (.cells #[.slice a7 n7 c7] 24)).alloc (.cells #[.slice a8 n8 c8] 24) = w4 at *
      refine HC.out.mono ?_
      rintro e w3 ⟨rfl, hb3⟩
      have HB3 := Lib.hid (belowStep hb3 HB2.out)
      clear hb3 e0 g0
      cases r
      · have HF2 := Lib.hid (show R = false from by rw [HN'.out, Bool.false_and])
        go_wp2
        go_ret
        exact ⟨by rw [HF2.out]; rfl, HB3.out⟩
      · have HF2 := Lib.hid (show R = eqAllB f (l.drop (i + 1)) (m.drop (i + 1)) from by rw [HN'.out, Bool.true_and])
        go_wp2
        go_roundg (gk - 1)
        case measure => omega
        case rel => exact ⟨i + 1, by omega, by go_num, by omega, HF2.out, HB3.out⟩
    · have q5 : decide ((i : Int) < (n : Int)) = false := decide_eq_false (by omega)
      have HF2 := Lib.hid (show R = true from by rw [HHR.out, eqAllB_end f l m i (by rw [← HN.out]; omega)])
      clear hR hbw
      go_wp2
      go_ret
      exact ⟨by rw [HF2.out]; rfl, HBW.out⟩
theorem eqFunc8_any (k : Nat) (f : K → K → Bool) (hen : ∀ (W : World) (args : Array Value), Sem.run Tryz.prog (callFunc k args) W = .ok (.enter k args) W)
    (hk : ∀ (P Q : Nat → Prop) (t u : K) (W : World) (v x : Value), (∀ b, P b → b < W.heap.size) → (∀ b, Q b → b < W.heap.size) → KV W P t v → KV W Q u x → Calls Tryz.prog k #[v, x] W fun e w' => e = .returned (.bool (f t u)) ∧ Below W.heap.size W w')
    (P Q : Nat → Prop) (l m : List K) (w : World) (v x : Value) (hP : ∀ b, P b → b < w.heap.size) (hQ : ∀ b, Q b → b < w.heap.size) (hl : KSl w P v l) (hm : KSl w Q x m) :
    Calls Tryz.prog 128 #[v, x, .func (.func k) #[] #[]] w fun e w' => e = .returned (.bool (l.length == m.length && eqAllB f l m)) ∧ Below w.heap.size w w' :=
  eqFuncIn_any k f hen P Q l m (fun t _ P Q u => hk P Q t u) w v x hP hQ hl hm
open Go.ChangeShapes Go.WideShapes Go.Deep in
set_option maxRecDepth 100000 in
/-- a kind reads as it did -/
theorem stay_kind {H : Type} {enc : TypeId × Value → H} {W W' : World} {v : Value} {d : DataW H} {ps : List MemPlace} (h : DataW.Trod enc Tryz.prog W 0 (fun _ => true) true 24 v d ps) (hb : Below W.heap.size W W') :
    DataW.Trod enc Tryz.prog W' 0 (fun b => decide (b < W.heap.size)) true 24 v d ps := by
  have hlt : ∀ p ∈ ps, p.block < W.heap.size := by
    obtain ⟨n, hn⟩ := h
    exact DataW.trod_lt n _ _ _ hn
  exact Go.WideElems.Trod_stays (by kernel_rfl) (by kernel_rfl) (of_decide_eq_true (by kernel_rfl)) h (fun p hp => below_same hb p (hlt p hp)) (fun p hp => decide_eq_true (hlt p hp))
open Go.ChangeShapes Go.WideShapes Go.Deep in
set_option maxRecDepth 100000 in
/-- some kinds read as they did -/
theorem stay_kinds {H : Type} {enc : TypeId × Value → H} {W W' : World} {v : Value} {d : DataW H} {ps : List MemPlace} (h : DataW.Trod enc Tryz.prog W 0 (fun _ => true) true 22 v d ps) (hb : Below W.heap.size W W') :
    DataW.Trod enc Tryz.prog W' 0 (fun b => decide (b < W.heap.size)) true 22 v d ps := by
  have hlt : ∀ p ∈ ps, p.block < W.heap.size := by
    obtain ⟨n, hn⟩ := h
    exact DataW.trod_lt n _ _ _ hn
  exact Go.WideElems.Trod_stays (by kernel_rfl) (by kernel_rfl) (of_decide_eq_true (by kernel_rfl)) h (fun p hp => below_same hb p (hlt p hp)) (fun p hp => decide_eq_true (hlt p hp))
end Go.Proofs.YtpkgiemdnfbopaaGreat
