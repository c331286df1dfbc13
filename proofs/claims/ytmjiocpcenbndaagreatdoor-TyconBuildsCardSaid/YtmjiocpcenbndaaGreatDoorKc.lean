/-
  Walks of layer 8: what the reference counts, and when it says that a kind is valid.
-/
import Derived.Test.YtmjiocpcenbndaaGreatDoorKm
import Derived.Deep.LoopGhost
namespace Go.Proofs.YtmjiocpcenbndaaGreatDoor
open Go Go.RowKit
open Pl (K)
set_option linter.unusedSimpArgs false

theorem size_alloc (w : World) (o : Obj) : (w.alloc o).heap.size = w.heap.size + 1 := by simp
/-- a value in its box -/
theorem box_new (w : World) (T : TypeId) (v : Value) : Blk (w.alloc (.cells #[v] T)) w.heap.size T #[v] ∧ Below w.heap.size w (w.alloc (.cells #[v] T)) := ⟨blk_new _ _ _, (Below.refl _ _).alloc (Nat.le_refl _) _⟩
theorem cnt_le (t : K) (left d : Int) (h : -1 ≤ left) : -1 ≤ K.cnt t left d ∧ K.cnt t left d ≤ (if left < 0 then 0 else left) := by
  have := K.cnt_eq t left d
  by_cases hf : K.Fit t left d
  · rw [this.1 hf]
    have := hf.2.1
    have := K.size_pos t
    split <;> omega
  · rw [this.2 hf]
    split <;> omega
theorem cnts_step (l : List K) (k : Nat) (hk : k < l.length) (x d : Int) (hx : ¬ x < 0) : K.cnts (l.drop k) x d = K.cnts (l.drop (k + 1)) (K.cnt l[k] x d) d := by
  rw [List.drop_eq_getElem_cons hk, K.cnts, if_neg hx]
set_option maxRecDepth 100000 in
theorem rcnt_any (P : Nat → Prop) (t : K) : ∀ (left d : Int) (w : World) (v : Value), (∀ b, P b → b < w.heap.size) → KV w P t v → -1 ≤ left → left ≤ 1000000 → -1000000 ≤ d → d ≤ 1000000 →
    Calls Tryz.prog 102 #[v, .int .i64 left, .int .i64 d] w fun e w' => e = .returned (.int .i64 (K.cnt t left d)) ∧ Below w.heap.size w w' := by
  induction t using K.ind with
  | h t ih =>
  intro left d w v hP ht hl0 hl1 hd0 hd1
  have HIH := Lib.hid ih
  clear ih
  obtain ⟨l⟩ := t
  have hKV := ht
  obtain ⟨a, c, rfl, hlc, hcm, hka⟩ := ht.open
  clear ht
  replace hka : ∀ (j : Nat) (hj : j < l.length), ∃ b off x, a = some ⟨b, off, none⟩ ∧ P b ∧ w.cell? ⟨b, off + j, none⟩ = some x ∧ KidV w P l[j] x := hka
  replace hlc : l.length ≤ c := hlc
  change Calls _ _ #[.agg #[.slice a l.length c], _, _] _ _
  obtain ⟨hbx, hb⟩ := box_new w 24 (.slice a l.length c)
  have c0 := hbx.cell 0 (.slice a l.length c) rfl
  have HB := Lib.hid hb
  have HR := Lib.hid (show K.cnt (.mk l) left d = if left < 1 ∨ d < 1 ∨ (l.length ≠ 0 ∧ l.length ≠ 2) then -1 else K.cnts l (left - 1) (d - 1) from by rw [K.cnt])
  generalize K.cnt (.mk l) left d = R at HR ⊢
  have w1 : wrap64 (left - 1) = left - 1 := by rw [wrap64]; omega
  have w2 : wrap64 (d - 1) = d - 1 := by rw [wrap64]; omega
  by_cases h1 : left < 1
  · have q1 : decide (left < 1) = true := decide_eq_true h1
    have HF := Lib.hid (show R = -1 from by rw [HR.out, if_pos (.inl h1)])
    clear HR hKV hka hbx hb
    clear HIH
    generalize l.length = n at *
    go_enter Tryz.func102, Tryz.ntmps102
    go_wp2_with fail
    go_ret
    exact ⟨by rw [HF.out]; rfl, HB.out⟩
  have q1 : decide (left < 1) = false := decide_eq_false h1
  by_cases h2 : d < 1
  · have q2 : decide (d < 1) = true := decide_eq_true h2
    have HF := Lib.hid (show R = -1 from by rw [HR.out, if_pos (.inr (.inl h2))])
    clear HR hKV hka hbx hb
    clear HIH
    generalize l.length = n at *
    go_enter Tryz.func102, Tryz.ntmps102
    go_wp2_with fail
    go_ret
    exact ⟨by rw [HF.out]; rfl, HB.out⟩
  have q2 : decide (d < 1) = false := decide_eq_false h2
  by_cases h3 : l.length = 0
  · have hl : l = [] := List.eq_nil_of_length_eq_zero h3
    subst hl
    have HF := Lib.hid (show R = left - 1 from by rw [HR.out, if_neg (by simp; omega), K.cnts])
    clear HR hKV hka hbx hb h3
    go_enter Tryz.func102, Tryz.ntmps102
    go_wp2_with fail
    go_loopg [1, 7] 1 (fun g x k wr => k = .int .i64 0 ∧ x = .int .i64 (left - 1) ∧ wr = w.alloc (.cells #[.slice a 0 c] 24))
    case atStart => exact ⟨rfl, rfl, rfl⟩
    case round =>
      obtain ⟨rfl, rfl, rfl⟩ := hrel
      go_wp2
      go_ret
      exact ⟨by rw [HF.out]; rfl, HB.out⟩
  by_cases h4 : l.length = 2
  rotate_left
  · have HF := Lib.hid (show R = -1 from by rw [HR.out, if_pos (.inr (.inr ⟨h3, h4⟩))])
    clear HR hKV hka hbx hb
    clear HIH
    generalize l.length = n at *
    have q3 : ((n : Int) != 0) = true := by simp; omega
    have q4 : ((n : Int) != 2) = true := by simp; omega
    go_enter Tryz.func102, Tryz.ntmps102
    go_wp2_with fail
    go_ret
    exact ⟨by rw [HF.out]; rfl, HB.out⟩
  · have HF := Lib.hid (show R = K.cnts l (left - 1) (d - 1) from by rw [HR.out, if_neg (by rw [h4]; omega)])
    obtain ⟨b, off, x0, rfl, hPb, -, -⟩ := hka 0 (by omega)
    have HKA := Lib.hid (show ∀ (j : Nat) (hj : j < l.length), ∃ x, w.cell? ⟨b, off + j, none⟩ = some x ∧ KidV w P l[j] x from fun j hj => by
      obtain ⟨b', off', x, e, -, e2, e3⟩ := hka j hj
      injection e with e
      injection e with e e'
      subst e e'
      exact ⟨x, e2, e3⟩)
    have HP := Lib.hid hP
    have HPB := Lib.hid (hP b hPb)
    have HL := Lib.hid h4
    have HBX := Lib.hid hbx
    have hcm' := hcm
    unfold maxLen at hcm'
    have hc2 : 2 ≤ c := by omega
    rw [h4] at c0 HBX
    have HB : Hid (Below w.heap.size w (w.alloc (.cells #[.slice (some ⟨b, off, none⟩) 2 c] 24))) := by rw [← h4]; exact hb
    rw [h4]
    clear HR hKV hka hbx hb hcm h3 h4 hlc hP
    go_enter Tryz.func102, Tryz.ntmps102
    go_wp2_with fail
    go_loopg [1, 7] 3 (fun g x k wr => ∃ (i : Nat) (y : Int), i ≤ 2 ∧ k = .int .i64 i ∧ x = .int .i64 y ∧ g = 3 - i ∧ -1 ≤ y ∧ y ≤ 1000000 ∧ R = K.cnts (l.drop i) y (d - 1) ∧ Below (w.heap.size + 1) (w.alloc (.cells #[.slice (some ⟨b, off, none⟩) 2 c] 24)) wr)
    case atStart => exact ⟨0, left - 1, by omega, rfl, rfl, by omega, by omega, by omega, by rw [List.drop_zero]; exact HF.out, Below.refl _ _⟩
    case round =>
      obtain ⟨i, y, hi, rfl, rfl, hg, hy0, hy1, hR, hbw⟩ := hrel
      have hbx := HBX.out.of_eq (hbw.block _ (by omega))
      have e0 := hbx.cell 0 _ rfl
      have HBW := Lib.hid hbw
      have HHR := Lib.hid hR
      have HW0 := Lib.hid (show Below w.heap.size w wr from HB.out.trans (hbw.mono (by omega)))
      by_cases hi2 : i < 2
      · have q5 : decide ((i : Int) < 2) = true := decide_eq_true (by omega)
        by_cases hy : y < 0
        · have q6 : decide ((0 : Int) ≤ y) = false := decide_eq_false (by omega)
          have HF2 := Lib.hid (show R = y from by rw [HHR.out, K.cnts_neg _ _ _ hy])
          clear hbx hbw hR hy
          go_wp2_with fail
          go_ret
          exact ⟨by rw [HF2.out]; rfl, HW0.out⟩
        · have q6 : decide ((0 : Int) ≤ y) = true := decide_eq_true (by omega)
          have hil : i < l.length := by rw [HL.out]; exact hi2
          obtain ⟨x, hx, hk⟩ := HKA.out i hil
          have f0 := (HW0.out.cell (p := ⟨b, off + i, none⟩) HPB.out).trans hx
          have HC := Lib.hid (HIH.out l[i] (List.getElem_mem hil) y (d - 1) wr (.agg #[x]) (fun b hb => Nat.lt_of_lt_of_le (HP.out b hb) HW0.out.size) ⟨x, rfl, hk.keep (Same.of_below HW0.out HP.out)⟩ hy0 hy1 (by omega) (by omega))
          have hle := cnt_le l[i] y (d - 1) hy0
          rw [if_neg hy] at hle
          have HN := Lib.hid (show R = K.cnts (l.drop (i + 1)) (K.cnt l[i] y (d - 1)) (d - 1) from by rw [HHR.out, cnts_step l i hil _ _ hy])
          generalize K.cnt l[i] y (d - 1) = y' at *
          clear hbx hbw hR hy hx hk hil
          go_wp2_with fail
          refine HC.out.mono ?_
          rintro e w3 ⟨rfl, hb3⟩
          have HB3 := Lib.hid (HBW.out.trans (hb3.mono (by have := HBW.out.size; rw [size_alloc] at this; exact this)))
          clear hb3 e0 f0
          go_wp2
          go_roundg (gk - 1)
          case measure => omega
          case rel => exact ⟨i + 1, y', by omega, by go_num, rfl, by omega, hle.1, by omega, HN.out, HB3.out⟩
      · have q5 : decide ((i : Int) < 2) = false := decide_eq_false (by omega)
        have HF2 := Lib.hid (show R = y from by rw [HHR.out, List.drop_of_length_le (by rw [HL.out]; omega), K.cnts])
        clear hbx hbw hR
        go_wp2_with fail
        go_ret
        exact ⟨by rw [HF2.out]; rfl, HW0.out⟩
theorem rvalid_any (P : Nat → Prop) (t : K) (w : World) (v : Value) (hP : ∀ b, P b → b < w.heap.size) (ht : KV w P t v) :
    Calls Tryz.prog 74 #[v] w fun e w' => e = .returned (.bool (K.valid t)) ∧ Below w.heap.size w w' := by
  obtain ⟨x, rfl, hx⟩ := ht
  obtain ⟨hbx, hb⟩ := box_new w 24 x
  have c0 := hbx.cell 0 _ rfl
  have HC := Lib.hid (rcnt_any P t 20000 400 _ (.agg #[x]) (fun b h => Nat.lt_of_lt_of_le (hP b h) hb.size) ⟨x, rfl, hx.keep (Same.of_below hb hP)⟩ (by omega) (by omega) (by omega) (by omega))
  have HB := Lib.hid hb
  have HV := Lib.hid (K.cnt_valid t)
  generalize K.cnt t 20000 400 = r at HC HV
  generalize K.valid t = z at HV ⊢
  obtain ⟨a, c, he⟩ : ∃ a c, x = .slice a t.l.length c := by
    obtain ⟨l⟩ := t
    obtain ⟨a, c, h, -⟩ := (kidV_iff _ _ _ _).1 hx
    exact ⟨a, c, h⟩
  generalize t.l.length = n at he
  subst he
  clear hx hbx hb
  go_enter Tryz.func74, Tryz.ntmps74
  go_wp2_with fail
  refine HC.out.mono ?_
  rintro e w1 ⟨rfl, hb1⟩
  have HB1 := Lib.hid (belowStep hb1 HB.out)
  clear hb1
  go_wp2
  go_ret
  exact ⟨by rw [HV.out]; rfl, HB1.out⟩
end Go.Proofs.YtmjiocpcenbndaaGreatDoor
