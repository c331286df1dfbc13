/-
  Walks of layer 9: which constructors are well-formed.
-/
import Derived.Test.YtmjiocpcenbndaaGreatDoorQh
namespace Go.Proofs.YtmjiocpcenbndaaGreatDoor
open Go Go.RowKit
open Pl (K Con)
set_option linter.unusedSimpArgs false

mutual
/-- all nodes are right -/
def Con.allB : Con → Bool
  | ⟨op, n, s, k, names, l⟩ => Con.nodeB ⟨op, n, s, k, names, l⟩ && Con.allBs l
def Con.allBs : List Con → Bool
  | [] => true
  | t :: r => Con.allB t && Con.allBs r
end
theorem allBs_all (l : List Con) : Con.allBs l = l.all Con.allB := by
  induction l with
  | nil => rw [Con.allBs]; rfl
  | cons t r ih => rw [Con.allBs, ih]; rfl
theorem allB_eq (t : Con) : Con.allB t = (Con.nodeB t && t.l.all Con.allB) := by
  obtain ⟨op, n, s, k, names, l⟩ := t
  rw [Con.allB, allBs_all]
/-- well-formed -/
def Con.validB (t : Con) : Bool := Con.small t && Con.allB t
set_option maxRecDepth 100000 in
set_option maxHeartbeats 4000000 in
theorem rall9_any (P : Nat → Prop) (t : Con) : ∀ (w : World) (v : Value), (∀ b, P b → b < w.heap.size) → ConV w P t v →
    Calls Tryz.prog 40 #[v] w fun e w' => e = .returned (.bool (Con.allB t)) ∧ Below w.heap.size w w' := by
  induction t using Con.ind with
  | h t ih =>
  intro w v hP ht
  have HIH := Lib.hid ih
  have HP := Lib.hid hP
  clear ih
  have hl : ∃ lv, ConSl w P lv t.l ∧ ∃ c0 c1 c2 c3 c4, v = .agg #[c0, c1, c2, c3, c4, lv] := by
    obtain ⟨-, kv, nv, lv, rfl, -, -, hl⟩ := (conV_iff _ _ _ _).1 ht
    exact ⟨lv, hl, _, _, _, _, _, rfl⟩
  obtain ⟨lv, hl, d0, d1, d2, d3, d4, hv⟩ := hl
  have HSL := Lib.hid (fun W (hW : Below w.heap.size w W) => hl.keep (Same.of_below hW hP))
  obtain ⟨la, lc, rfl, hlc, hcm, -⟩ := hl.each
  obtain ⟨ka, kn, kc, na, nn, nc, la', ln', lc', e, -, -, -, hbx, hb⟩ := con_box ht
  have e2 : (.agg #[d0, d1, d2, d3, d4, .slice la t.l.length lc] : Value) = .agg #[.int .i64 t.op, .int .i64 t.n, .string t.s, .slice ka kn kc, .slice na nn nc, .slice la' ln' lc'] := hv.symm.trans e
  simp only [Value.agg.injEq, Array.mk.injEq, List.cons.injEq, and_true, Value.slice.injEq] at e2
  obtain ⟨-, -, -, -, -, rfl, rfl, rfl⟩ := e2
  clear hv
  subst e
  have HC0 := Lib.hid (rnode_any P t _ _ (fun b h => Nat.lt_of_lt_of_le (hP b h) hb.size) (ht.below hP hb))
  have HEQ := Lib.hid (allB_eq t)
  obtain ⟨n, hn⟩ : ∃ n, n = t.l.length := ⟨_, rfl⟩
  have HN := Lib.hid hn
  rw [← hn] at HSL HC0 hbx hb ⊢
  have hn63 : n ≤ 9223372036854775807 := by unfold maxLen at hcm; omega
  have c0 := hbx.cell 0 (.int .i64 t.op) rfl
  have c1 := hbx.cell 1 (.int .i64 t.n) rfl
  have c2 := hbx.cell 2 (.string t.s) rfl
  have c3 := hbx.cell 3 (.slice ka kn kc) rfl
  have c4 := hbx.cell 4 (.slice na nn nc) rfl
  have c5 := hbx.cell 5 (.slice la n lc) rfl
  have HB := Lib.hid hb
  have HBX := Lib.hid hbx
  generalize Con.nodeB t = r0 at HC0 HEQ
  generalize Con.allB t = R at HEQ ⊢
  clear hbx hb hl ht hn hcm hlc hP
  go_enter Tryz.func40, Tryz.ntmps40
  go_wp2_with fail
  clear c0 c1 c2 c3 c4 c5
  generalize w.alloc (.cells #[.int .i64 t.op, .int .i64 t.n, .string t.s, .slice ka kn kc, .slice na nn nc, .slice la n lc] 28) = w2 at *
  refine HC0.out.mono ?_
  rintro e w3 ⟨rfl, hb3⟩
  have HB3 := Lib.hid (belowStep hb3 HB.out)
  replace HBX := Lib.hid (HBX.out.of_eq (hb3.block _ HBX.out.lt))
  clear hb3 HC0
  cases r0
  · have HF := Lib.hid (show R = false from by rw [HEQ.out]; rfl)
    go_wp2
    go_ret
    exact ⟨by rw [HF.out]; rfl, HB3.out⟩
  have HR := Lib.hid (show R = t.l.all Con.allB from by rw [HEQ.out, Bool.true_and])
  go_wp2_with fail
  go_loopg [3] (n + 1) (fun g i wr => ∃ k : Nat, k ≤ n ∧ i = .int .i64 k ∧ g = n + 1 - k ∧ (t.l.take k).all Con.allB = true ∧ Below w3.heap.size w3 wr)
  case atStart => exact ⟨0, by omega, rfl, by omega, by simp, Below.refl _ _⟩
  case round =>
    obtain ⟨k, hk, rfl, hg, hin, hbw⟩ := hrel
    have HI := Lib.hid hin
    have HBW := Lib.hid hbw
    have HW0 := Lib.hid (belowStep hbw HB3.out)
    have c5 := (HBX.out.of_eq (hbw.block _ HBX.out.lt)).cell 5 (.slice la n lc) rfl
    clear hin
    by_cases hlt : k < n
    · have q5 : decide ((k : Int) < (n : Int)) = true := decide_eq_true (by omega)
      have hkl : k < t.l.length := by rw [← HN.out]; exact hlt
      have hmem : t.l[k] ∈ t.l := List.getElem_mem hkl
      obtain ⟨b, off, c', xa, xn, xc, ya, yn, yc, za, zn, zc, e, -, f0, f1, f2, f3, f4, f5, hx⟩ := (HSL.out wr HW0.out).part k hkl
      injection e with e1 e2 e3
      subst e1 e3
      clear e2
      have HC := Lib.hid (HIH.out _ hmem wr _ (fun b hb => Nat.lt_of_lt_of_le (HP.out b hb) HW0.out.size) hx)
      have HT := Lib.hid (all_take_step Con.allB t.l k hkl)
      have HM := Lib.hid (all_miss Con.allB t.l k hkl)
      generalize t.l[k] = x at *
      generalize hr : Con.allB x = r at HC
      have HRR := Lib.hid hr
      clear hr hbw hx hmem
      go_wp2_with fail
      refine HC.out.mono ?_
      rintro e w4 ⟨rfl, hb4⟩
      have HB4 := Lib.hid (belowStep hb4 HBW.out)
      have HW4 := Lib.hid (belowStep hb4 HW0.out)
      clear hb4 f0 f1 f2 f3 f4 f5 c5
      cases r
      · have HF := Lib.hid (show R = false from by rw [HR.out]; exact HM.out HRR.out)
        go_wp2
        go_ret
        exact ⟨by rw [HF.out]; rfl, HW4.out⟩
      · have HT2 := Lib.hid (show (t.l.take (k + 1)).all Con.allB = true from by rw [HT.out, HI.out]; exact HRR.out)
        go_wp2
        go_roundg (gk - 1)
        case measure => omega
        case rel => exact ⟨k + 1, by omega, by go_num, by omega, HT2.out, HB4.out⟩
    · have q5 : decide ((k : Int) < (n : Int)) = false := decide_eq_false (by omega)
      have HF := Lib.hid (show R = true from by
        rw [HR.out]
        have := HI.out
        rwa [List.take_of_length_le (by rw [← HN.out]; omega)] at this)
      clear hbw
      go_wp2
      go_ret
      exact ⟨by rw [HF.out]; rfl, HW0.out⟩
set_option maxRecDepth 100000 in
theorem rvalid9_any (P : Nat → Prop) (t : Con) (w : World) (v : Value) (hP : ∀ b, P b → b < w.heap.size) (ht : ConV w P t v) :
    Calls Tryz.prog 14 #[v] w fun e w' => e = .returned (.bool (Con.validB t)) ∧ Below w.heap.size w w' := by
  have HS := Lib.hid (fun W (hW : Below w.heap.size w W) => rsmall9_any P t W v (fun b h => Nat.lt_of_lt_of_le (hP b h) hW.size) (ht.below hP hW))
  have HA := Lib.hid (fun W (hW : Below w.heap.size w W) => rall9_any P t W v (fun b h => Nat.lt_of_lt_of_le (hP b h) hW.size) (ht.below hP hW))
  obtain ⟨ka, kn, kc, na, nn, nc, la, ln, lc, rfl, -, -, -, hbx, hb⟩ := con_box ht
  have c0 := hbx.cell 0 (.int .i64 t.op) rfl
  have c1 := hbx.cell 1 (.int .i64 t.n) rfl
  have c2 := hbx.cell 2 (.string t.s) rfl
  have c3 := hbx.cell 3 (.slice ka kn kc) rfl
  have c4 := hbx.cell 4 (.slice na nn nc) rfl
  have c5 := hbx.cell 5 (.slice la ln lc) rfl
  have HB := Lib.hid hb
  have HBX := Lib.hid hbx
  have HV := Lib.hid (show Con.validB t = (Con.small t && Con.allB t) from rfl)
  generalize Con.small t = r1 at *
  generalize Con.allB t = r2 at *
  generalize Con.validB t = R at *
  clear ht hbx hb hP
  go_enter Tryz.func14, Tryz.ntmps14
  go_wp2_with fail
  clear c0 c1 c2 c3 c4 c5
  generalize w.alloc (.cells #[.int .i64 t.op, .int .i64 t.n, .string t.s, .slice ka kn kc, .slice na nn nc, .slice la ln lc] 28) = w2 at *
  refine (HS.out _ HB.out).mono ?_
  rintro e w3 ⟨rfl, hb3⟩
  have HB3 := Lib.hid (belowStep hb3 HB.out)
  replace HBX := Lib.hid (HBX.out.of_eq (hb3.block _ HBX.out.lt))
  clear hb3
  cases r1
  · have HF := Lib.hid (show R = false from by rw [HV.out]; rfl)
    go_wp2
    go_ret
    exact ⟨by rw [HF.out]; rfl, HB3.out⟩
  have HF := Lib.hid (show R = r2 from by rw [HV.out, Bool.true_and])
  have c0 := HBX.out.cell 0 (.int .i64 t.op) rfl
  have c1 := HBX.out.cell 1 (.int .i64 t.n) rfl
  have c2 := HBX.out.cell 2 (.string t.s) rfl
  have c3 := HBX.out.cell 3 (.slice ka kn kc) rfl
  have c4 := HBX.out.cell 4 (.slice na nn nc) rfl
  have c5 := HBX.out.cell 5 (.slice la ln lc) rfl
  go_wp2_with fail
  refine (HA.out _ HB3.out).mono ?_
  rintro e w4 ⟨rfl, hb4⟩
  have HB4 := Lib.hid (belowStep hb4 HB3.out)
  clear hb4
  go_wp2
  go_ret
  exact ⟨by rw [HF.out]; rfl, HB4.out⟩
set_option maxRecDepth 100000 in
theorem rvalidAll9_any (P : Nat → Prop) (l : List Con) (w : World) (v : Value) (hP : ∀ b, P b → b < w.heap.size) (hl : ConSl w P v l) :
    Calls Tryz.prog 18 #[v] w fun e w' => e = .returned (.bool (l.all Con.validB)) ∧ Below w.heap.size w w' := by
  have HP := Lib.hid hP
  have HSL := Lib.hid (fun W (hW : Below w.heap.size w W) => hl.keep (Same.of_below hW hP))
  obtain ⟨la, lc, rfl, hlc, hcm, -⟩ := hl.each
  obtain ⟨n, hn⟩ : ∃ n, n = l.length := ⟨_, rfl⟩
  have HN := Lib.hid hn
  rw [← hn] at HSL ⊢
  have hn63 : n ≤ 9223372036854775807 := by unfold maxLen at hcm; omega
  obtain ⟨R, hR⟩ : ∃ R, R = l.all Con.validB := ⟨_, rfl⟩
  have HR := Lib.hid hR
  rw [← hR]
  clear hl hn hcm hlc hP hR
  go_enter Tryz.func18, Tryz.ntmps18
  go_wp2_with fail
  go_loopg [3] (n + 1) (fun g i wr => ∃ k : Nat, k ≤ n ∧ i = .int .i64 k ∧ g = n + 1 - k ∧ (l.take k).all Con.validB = true ∧ Below w.heap.size w wr)
  case atStart => exact ⟨0, by omega, rfl, by omega, by simp, Below.refl _ _⟩
  case round =>
    obtain ⟨k, hk, rfl, hg, hin, hbw⟩ := hrel
    have HI := Lib.hid hin
    have HW0 := Lib.hid hbw
    clear hin
    by_cases hlt : k < n
    · have q5 : decide ((k : Int) < (n : Int)) = true := decide_eq_true (by omega)
      have hkl : k < l.length := by rw [← HN.out]; exact hlt
      obtain ⟨b, off, c', xa, xn, xc, ya, yn, yc, za, zn, zc, e, -, f0, f1, f2, f3, f4, f5, hx⟩ := (HSL.out wr HW0.out).part k hkl
      injection e with e1 e2 e3
      subst e1 e3
      clear e2
      have HC := Lib.hid (rvalid9_any P l[k] wr _ (fun b hb => Nat.lt_of_lt_of_le (HP.out b hb) HW0.out.size) hx)
      have HT := Lib.hid (all_take_step Con.validB l k hkl)
      have HM := Lib.hid (all_miss Con.validB l k hkl)
      generalize l[k] = x at *
      generalize hr : Con.validB x = r at HC
      have HRR := Lib.hid hr
      clear hr hbw hx
      go_wp2_with fail
      refine HC.out.mono ?_
      rintro e w4 ⟨rfl, hb4⟩
      have HW4 := Lib.hid (belowStep hb4 HW0.out)
      clear hb4 f0 f1 f2 f3 f4 f5
      cases r
      · have HF := Lib.hid (show R = false from by rw [HR.out]; exact HM.out HRR.out)
        go_wp2
        go_ret
        exact ⟨by rw [HF.out]; rfl, HW4.out⟩
      · have HT2 := Lib.hid (show (l.take (k + 1)).all Con.validB = true from by rw [HT.out, HI.out]; exact HRR.out)
        go_wp2
        go_roundg (gk - 1)
        case measure => omega
        case rel => exact ⟨k + 1, by omega, by go_num, by omega, HT2.out, HW4.out⟩
    · have q5 : decide ((k : Int) < (n : Int)) = false := decide_eq_false (by omega)
      have HF := Lib.hid (show R = true from by
        rw [HR.out]
        have := HI.out
        rwa [List.take_of_length_le (by rw [← HN.out]; omega)] at this)
      clear hbw
      go_wp2
      go_ret
      exact ⟨by rw [HF.out]; rfl, HW0.out⟩
end Go.Proofs.YtmjiocpcenbndaaGreatDoor
