/-
  Walks of layer 9: how the laws count nodes.
-/
import Derived.Test.YtmjiocpcenbndaaGreatDoorQi
namespace Go.Proofs.YtmjiocpcenbndaaGreatDoor
open Go Go.RowKit
open Pl (K Con)
set_option linter.unusedSimpArgs false

/-- a call counts something, up to a limit -/
def Counts (sz : Nat) (most : Int) (w : World) (e : Ending) (w' : World) : Prop := (∃ r : Int, e = .returned (.int .i64 r) ∧ 0 ≤ r ∧ r ≤ most ∧ (r < most → (sz : Int) ≤ r)) ∧ Below w.heap.size w w'
set_option maxRecDepth 100000 in
set_option maxHeartbeats 4000000 in
theorem lkinds_any (P : Nat → Prop) (t : K) : ∀ (most d : Int) (w : World) (v : Value), (∀ b, P b → b < w.heap.size) → KV w P t v → 1 ≤ most → most ≤ 100000 → 1 ≤ d → d ≤ 251 →
    Calls Tryz.prog 55 #[v, .int .i64 most, .int .i64 d] w (Counts (K.size t) most w) := by
  induction t using K.ind with
  | h t ih =>
  intro most d w v hP ht hm0 hm1 hd0 hd1
  have HIH := Lib.hid ih
  have HP := Lib.hid hP
  clear ih
  obtain ⟨l⟩ := t
  obtain ⟨a, c, rfl, hlc, hcm, hka⟩ := ht.open
  clear ht
  replace hka : ∀ (j : Nat) (hj : j < l.length), ∃ b off x, a = some ⟨b, off, none⟩ ∧ P b ∧ w.cell? ⟨b, off + j, none⟩ = some x ∧ KidV w P l[j] x := hka
  replace hlc : l.length ≤ c := hlc
  change Calls _ _ #[.agg #[.slice a l.length c], _, _] _ _
  have HKA := Lib.hid hka
  have HES := Lib.hid (show K.size (.mk l) = 1 + K.sizes l from by rw [K.size])
  generalize K.size (.mk l) = S at HES ⊢
  obtain ⟨n, hn⟩ : ∃ n, n = l.length := ⟨_, rfl⟩
  have HN := Lib.hid hn
  rw [← hn] at hlc ⊢
  have hn63 : n ≤ 9223372036854775807 := by unfold maxLen at hcm; omega
  obtain ⟨hbx, hb⟩ := boxN_new w 24 #[.slice a n c]
  have c0 := hbx.cell 0 (.slice a n c) rfl
  have HB := Lib.hid hb
  have HBX := Lib.hid hbx
  clear hbx hb hka hn hcm hP
  by_cases hdd : 250 < d
  · have q1 : decide ((250 : Int) < d) = true := decide_eq_true hdd
    go_enter Tryz.func55, Tryz.ntmps55
    go_wp2_with fail
    go_ret
    exact ⟨⟨most, rfl, by omega, by omega, fun h => by omega⟩, HB.out⟩
  have q1 : decide ((250 : Int) < d) = false := decide_eq_false hdd
  have w1 : wrap64 (d + 1) = d + 1 := by rw [wrap64]; omega
  go_enter Tryz.func55, Tryz.ntmps55
  go_wp2_with fail
  clear c0
  generalize w.alloc (.cells #[.slice a n c] 24) = w2 at *
  go_loopg [7, 9, 16] (n + 1) (fun g m x i wr => ∃ (k : Nat) (y : Int), k ≤ n ∧ i = .int .i64 k ∧ m = .int .i64 y ∧ 1 ≤ y ∧ y ≤ most ∧ (y < most → (1 + (K.sizes (l.take k) : Nat) : Int) ≤ y) ∧ g = n + 1 - k ∧ Below w2.heap.size w2 wr)
  case atStart => exact ⟨0, 1, by omega, rfl, rfl, by omega, by omega, fun _ => by rw [List.take_zero, K.sizes]; omega, by omega, Below.refl _ _⟩
  case round =>
    obtain ⟨k, y, hk, rfl, rfl, hy0, hy1, hy2, hg, hbw⟩ := hrel
    have HBW := Lib.hid hbw
    have HY := Lib.hid hy2
    have HW0 := Lib.hid (show Below w.heap.size w wr from belowStep hbw HB.out)
    by_cases hlt : k < n
    · have q5 : decide ((k : Int) < (n : Int)) = true := decide_eq_true (by omega)
      have hkl : k < l.length := by rw [← HN.out]; exact hlt
      obtain ⟨b, off, x, e, hPb, hx, hkx⟩ := HKA.out k hkl
      subst e
      obtain ⟨a7, c7, rfl⟩ := hkx.shape
      have f0 := (HW0.out.cell (p := ⟨b, off + k, none⟩) (HP.out b hPb)).trans hx
      by_cases hyy : most ≤ y
      · have q6 : decide (most ≤ y) = true := decide_eq_true hyy
        have HW1 := Lib.hid (show Below w.heap.size w (wr.alloc (.cells #[.slice a7 l[k].l.length c7] 24)) from below_new HW0.out)
        generalize l[k].l.length = n7 at *
        clear hy2 hbw hx hkx hPb
        go_wp2_with fail
        go_ret
        exact ⟨⟨most, rfl, by omega, by omega, fun h => by omega⟩, HW1.out⟩
      · have q6 : decide (most ≤ y) = false := decide_eq_false hyy
        have w2' : wrap64 (most - y) = most - y := by rw [wrap64]; omega
        obtain ⟨hbx, hb⟩ := boxN_new wr 24 #[.slice a7 l[k].l.length c7]
        have g0 := hbx.cell 0 (.slice a7 l[k].l.length c7) rfl
        have HC := Lib.hid (HIH.out l[k] (List.getElem_mem hkl) (most - y) (d + 1) _ (.agg #[.slice a7 l[k].l.length c7]) (fun b hb' => Nat.lt_of_lt_of_le (HP.out b hb') (Nat.le_trans HW0.out.size hb.size)) ⟨_, rfl, hkx.keep (Same.of_below (belowStep hb HW0.out) HP.out)⟩ (by omega) (by omega) (by omega) (by omega))
        have HST := Lib.hid (show K.sizes (l.take (k + 1)) = K.sizes (l.take k) + K.size l[k] from by
          rw [List.take_succ_eq_append_getElem hkl]
          clear HC hkx
          generalize l.take k = q
          induction q with
          | nil => simp [K.sizes]
          | cons a r ih => rw [List.cons_append, K.sizes, K.sizes, ih]; omega)
        have HBN := Lib.hid (belowStep hb HBW.out)
        generalize l[k].l.length = n7 at *
        generalize l[k] = x at *
        clear hy2 hbw hx hkx hPb hbx hb
        go_wp2_with fail
        generalize wr.alloc (.cells #[.slice a7 n7 c7] 24) = w5 at *
        refine HC.out.mono ?_
        rintro e w3 ⟨⟨r, rfl, hr0, hr1, hr2⟩, hb3⟩
        have HB3 := Lib.hid (belowStep hb3 HBN.out)
        have HR := Lib.hid hr2
        clear hb3 f0 g0 hr2
        go_wp2
        go_roundg (gk - 1)
        case measure => omega
        case rel => exact ⟨k + 1, y + r, by omega, by go_num, by go_num, by omega, by omega, fun h => by
          have h1 := HR.out (by omega)
          have h2 := HY.out (by omega)
          rw [HST.out]
          omega, by omega, HB3.out⟩
    · have q5 : decide ((k : Int) < (n : Int)) = false := decide_eq_false (by omega)
      have HF := Lib.hid (show y < most → (S : Int) ≤ y from fun h => by
        have h2 := HY.out h
        rw [List.take_of_length_le (by rw [← HN.out]; omega)] at h2
        rw [HES.out]
        omega)
      clear hy2 hbw
      have hmm : min y most = y := Int.min_eq_left (by omega)
      go_wp2
      go_ret
      exact ⟨⟨y, by first | rfl | (rw [hmm]; rfl), by omega, by omega, HF.out⟩, HW0.out⟩
end Go.Proofs.YtmjiocpcenbndaaGreatDoor
