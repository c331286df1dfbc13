/-
  Walks of layer 8's code: whether one of some kinds is none.
-/
import Derived.Test.YtmjiocpcenbndaaGreatDoorJb
namespace Go.Proofs.YtmjiocpcenbndaaGreatDoor
open Go Go.RowKit
open Pl (K)
set_option linter.unusedSimpArgs false

set_option maxRecDepth 100000 in
theorem noneIndex_any (P : Nat → Prop) (l : List K) (w : World) (v : Value) (hP : ∀ b, P b → b < w.heap.size) (ht : KSl w P v l) :
    Calls Tryz.prog 127 #[v, .func (.func 111) #[] #[]] w fun e w' => (∃ r : Int, e = .returned (.int .i64 r) ∧ (r < 0 → ∀ t ∈ l, K.valid t = true) ∧ (¬ r < 0 → ∃ t ∈ l, K.valid t = false)) ∧ Below w.heap.size w w' := by
  obtain ⟨a, c, rfl, hlc, hcm, hka⟩ := ht.each
  clear ht
  have HB : Hid (Below w.heap.size w w) := Below.refl _ _
  have HP := Lib.hid hP
  obtain ⟨n, hn⟩ : ∃ n, n = l.length := ⟨_, rfl⟩
  rw [← hn] at hlc ⊢
  have HN := Lib.hid hn
  have HKA := Lib.hid hka
  have hll : n ≤ 9223372036854775807 := by unfold maxLen at hcm; omega
  clear hka hcm hP hn
  go_enter Tryz.func127, Tryz.ntmps127
  go_wp2_with fail
  go_loopg [8] (n + 1) (fun g k wr => ∃ i : Nat, i ≤ n ∧ k = .int .i64 i ∧ g = n + 1 - i ∧ (∀ j (h : j < l.length), j < i → K.valid l[j] = true) ∧ Below w.heap.size w wr)
  case atStart => exact ⟨0, by omega, rfl, by omega, fun j h h0 => absurd h0 (Nat.not_lt_zero _), HB.out⟩
  case round =>
    obtain ⟨i, hi, rfl, hg, hall, hbw⟩ := hrel
    have HBW := Lib.hid hbw
    have HALL := Lib.hid hall
    by_cases hlt : i < n
    · have q5 : decide ((i : Int) < (n : Int)) = true := decide_eq_true (by omega)
      have hil : i < l.length := by rw [← HN.out]; exact hlt
      obtain ⟨b, off, x, rfl, hPb, hx, hkx⟩ := HKA.out i hil
      obtain ⟨a7, c7, rfl⟩ := hkx.form
      have f0 := (hbw.cell (p := ⟨b, off + i, none⟩) (HP.out b hPb)).trans hx
      have HC := Lib.hid (isNone_any P l[i] wr (.agg #[.slice a7 l[i].l.length c7]) (fun b hb => Nat.lt_of_lt_of_le (HP.out b hb) hbw.size) ⟨_, rfl, hkx.keep (Same.of_below hbw HP.out)⟩)
      have HIL := Lib.hid hil
      generalize hz : K.valid l[i] = z at *
      have HZ := Lib.hid hz
      generalize l[i].l.length = n7 at *
      clear hall hbw hx hkx hPb hz
      go_wp2_with fail
      refine HC.out.mono ?_
      rintro e w3 ⟨rfl, hb3⟩
      have HB3 := Lib.hid (belowStep hb3 HBW.out)
      clear hb3 f0
      cases z
      rotate_left
      · have HF := Lib.hid HZ.out
        go_wp2
        go_roundg (gk - 1)
        case measure => omega
        case rel =>
          refine ⟨i + 1, by omega, by go_num, by omega, fun j hj h => ?_, HB3.out⟩
          rcases Nat.lt_or_ge j i with h1 | h1
          · exact HALL.out j hj h1
          · obtain rfl : j = i := by omega
            exact HF.out
      · go_wp2
        go_ret
        exact ⟨⟨i, rfl, (fun h => by omega), fun _ => ⟨l[i], List.getElem_mem HIL.out, HZ.out⟩⟩, HB3.out⟩
    · have q5 : decide ((i : Int) < (n : Int)) = false := decide_eq_false (by omega)
      clear hall hbw
      go_wp2
      go_ret
      refine ⟨⟨-1, rfl, fun _ t ht => ?_, fun h => absurd h (by decide)⟩, HBW.out⟩
      obtain ⟨j, hj, rfl⟩ := List.getElem_of_mem ht
      exact HALL.out j hj (by have := HN.out; omega)
theorem noneContains_any (P : Nat → Prop) (l : List K) (w : World) (v : Value) (hP : ∀ b, P b → b < w.heap.size) (ht : KSl w P v l) :
    Calls Tryz.prog 110 #[v, .func (.func 111) #[] #[]] w fun e w' => e = .returned (.bool (!l.all K.valid)) ∧ Below w.heap.size w w' := by
  have HC := Lib.hid (noneIndex_any P l w v hP ht)
  obtain ⟨a, c, rfl, -⟩ := ht.each
  clear ht hP
  have HA := Lib.hid (show (l.all K.valid = true ↔ ∀ t ∈ l, K.valid t = true) from by rw [List.all_eq_true])
  generalize l.all K.valid = z at HA ⊢
  generalize l.length = n at *
  go_enter Tryz.func110, Tryz.ntmps110
  go_wp2_with fail
  refine HC.out.mono ?_
  rintro e w2 ⟨⟨r, rfl, hr, hr2⟩, hb2⟩
  have HR := Lib.hid hr
  have HR2 := Lib.hid hr2
  have HB := Lib.hid hb2
  clear hr hb2 hr2
  by_cases h0 : (0 : Int) ≤ r
  · have q1 : decide ((0 : Int) ≤ r) = true := decide_eq_true h0
    have HF := Lib.hid (show z = false from by
      obtain ⟨t, h1, h2⟩ := HR2.out (by omega)
      cases z
      · rfl
      · rw [HA.out.1 rfl t h1] at h2; cases h2)
    go_wp2
    go_ret
    exact ⟨by rw [HF.out]; rfl, HB.out⟩
  · have q1 : decide ((0 : Int) ≤ r) = false := decide_eq_false h0
    have HF := Lib.hid (show z = true from HA.out.2 (HR.out (by omega)))
    go_wp2
    go_ret
    exact ⟨by rw [HF.out]; rfl, HB.out⟩
end Go.Proofs.YtmjiocpcenbndaaGreatDoor
