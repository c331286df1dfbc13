/-
  Walks of layer 9: nodes of a constructor, as the laws count them.
-/
import Derived.Test.YtmjiocpcenbndaaGreatDoorQj
import Derived.Deep.RegionHeld3
namespace Go.Proofs.YtmjiocpcenbndaaGreatDoor
open Go Go.RowKit
open Pl (K Con)
set_option linter.unusedSimpArgs false

theorem long1_9 (s : ByteArray) (w : World) :
    Calls Tryz.prog 54 #[.string s] w fun e w' => (∃ r : Bool, e = .returned (.bool r)) ∧ w = w' := by
  go_enter Tryz.func54, Tryz.ntmps54
  go_wp2
  go_ret
  exact ⟨⟨_, rfl⟩, rfl⟩
set_option maxRecDepth 100000 in
theorem longIdx_9 (P : Nat → Prop) (zs : List ByteArray) (w : World) (v : Value) (hz : StrSl w P v zs) :
    Calls Tryz.prog 67 #[v, .func (.func 54) #[] #[]] w fun e w' => (∃ r : Int, e = .returned (.int .i64 r)) ∧ w = w' := by
  have HZ := Lib.hid hz
  obtain ⟨a, c, hv, h1, h2, h3, h4, -⟩ := hz
  subst hv
  obtain ⟨n, hn⟩ : ∃ n, n = zs.length := ⟨_, rfl⟩
  have HN := Lib.hid hn
  have hn63 : n ≤ 9223372036854775807 := by unfold maxLen at h2; omega
  rw [← hn] at HZ ⊢
  clear h1 h2 h3 h4 hn
  go_enter Tryz.func67, Tryz.ntmps67
  go_wp2_with fail
  go_loopg [8] (n + 1) (fun g i wr => ∃ k : Nat, k ≤ n ∧ i = .int .i64 k ∧ g = n + 1 - k ∧ wr = w)
  case atStart => exact ⟨0, by omega, rfl, by omega, rfl⟩
  case round =>
    obtain ⟨k, hk, rfl, hg, rfl⟩ := hrel
    by_cases hlt : k < n
    · have q5 : decide ((k : Int) < (n : Int)) = true := decide_eq_true (by omega)
      have hkz : k < zs.length := by rw [← HN.out]; exact hlt
      obtain ⟨b, off, c', e, f0⟩ := strs_at HZ.out k hkz
      injection e with e1 e2 e3
      subst e1 e3
      clear e2
      have HC := Lib.hid (fun W => long1_9 zs[k] W)
      generalize zs[k] = x at *
      go_wp2_with fail
      refine (HC.out _).mono ?_
      rintro e w' ⟨⟨r, rfl⟩, rfl⟩
      cases r
      · go_wp2
        go_roundg (gk - 1)
        case measure => omega
        case rel => exact ⟨k + 1, by omega, by go_num, by omega, rfl⟩
      · go_wp2
        go_ret
        exact ⟨⟨_, rfl⟩, rfl⟩
    · have q5 : decide ((k : Int) < (n : Int)) = false := decide_eq_false (by omega)
      go_wp2
      go_ret
      exact ⟨⟨_, rfl⟩, rfl⟩
theorem longAny_9 (P : Nat → Prop) (zs : List ByteArray) (w : World) (v : Value) (hz : StrSl w P v zs) :
    Calls Tryz.prog 53 #[v, .func (.func 54) #[] #[]] w fun e w' => (∃ r : Bool, e = .returned (.bool r)) ∧ w = w' := by
  have HC := Lib.hid (longIdx_9 P zs w v hz)
  obtain ⟨a, c, rfl, -⟩ := strs_len hz
  generalize zs.length = n at *
  clear hz
  go_enter Tryz.func53, Tryz.ntmps53
  go_wp2_with fail
  refine HC.out.mono ?_
  rintro e w2 ⟨⟨r, rfl⟩, rfl⟩
  go_wp2
  go_ret
  exact ⟨⟨_, rfl⟩, rfl⟩
mutual
/-- nodes and names -/
def Con.wt : Con → Nat
  | ⟨_, _, _, _, names, l⟩ => 1 + names.length + Con.wts l
def Con.wts : List Con → Nat
  | [] => 0
  | t :: r => Con.wt t + Con.wts r
end
theorem wt_eq (t : Con) : Con.wt t = 1 + t.names.length + Con.wts t.l := by cases t; rw [Con.wt]
theorem wts_nil : Con.wts [] = 0 := by rw [Con.wts]
theorem wts_cons (t : Con) (r : List Con) : Con.wts (t :: r) = Con.wt t + Con.wts r := by rw [Con.wts]
theorem wts_take (l : List Con) (i : Nat) (h : i < l.length) : Con.wts (l.take (i + 1)) = Con.wts (l.take i) + Con.wt l[i] := by
  induction l generalizing i with
  | nil => exact absurd h (Nat.not_lt_zero _)
  | cons t r ih =>
    cases i with
    | zero => simp [wts_cons, wts_nil]
    | succ i =>
      have := ih i (by simpa using h)
      simp only [List.take_succ_cons, wts_cons, List.getElem_cons_succ]
      omega
theorem size_le_wt (t : Con) : t.size ≤ Con.wt t := by
  induction t using Con.ind with
  | h t ih =>
    rw [Con.size_eq, wt_eq]
    have : ∀ l : List Con, (∀ x ∈ l, x.size ≤ Con.wt x) → Con.sizes l ≤ Con.wts l := by
      intro l
      induction l with
      | nil => intro _; rw [Con.sizes_nil]; exact Nat.zero_le _
      | cons x r ihr =>
        intro h
        rw [Con.sizes_cons, wts_cons]
        have := h x List.mem_cons_self
        have := ihr (fun y hy => h y (List.mem_cons_of_mem _ hy))
        omega
    have := this t.l ih
    omega
theorem names_le_wt (t : Con) : t.names.length ≤ Con.wt t := by rw [wt_eq]; omega
set_option maxRecDepth 100000 in
set_option maxHeartbeats 4000000 in
theorem lnodes_any (P : Nat → Prop) (t : Con) : ∀ (most d : Int) (w : World) (v : Value), (∀ b, P b → b < w.heap.size) → ConV w P t v → 1 ≤ most → most ≤ 100000 → 1 ≤ d → d ≤ 251 →
    Calls Tryz.prog 31 #[v, .int .i64 most, .int .i64 d] w (Counts (Con.wt t) most w) := by
  induction t using Con.ind with
  | h t ih =>
  intro most d w v hP ht hm0 hm1 hd0 hd1
  have HIH := Lib.hid ih
  have HP := Lib.hid hP
  clear ih
  obtain ⟨hsz, kv, nv, lv, rfl, hk, hs, hl⟩ := (conV_iff _ _ _ _).1 ht
  have HSL := Lib.hid (fun W (hW : Below w.heap.size w W) => hl.keep (Same.of_below hW hP))
  have HKK := Lib.hid (fun W (hW : Below w.heap.size w W) => fun h => lkinds_any P t.kind most d W (.agg #[kv]) (fun b h => Nat.lt_of_lt_of_le (hP b h) hW.size) ⟨_, rfl, hk.keep (Same.of_below hW hP)⟩ hm0 hm1 hd0 h)
  have HLA := Lib.hid (fun W (hW : Below w.heap.size w W) => longAny_9 P t.names W nv (hs.keep (Same.of_below hW hP)))
  obtain ⟨la, lc, rfl, hlc, hcm, -⟩ := hl.each
  obtain ⟨ka, kc, rfl⟩ := hk.shape
  obtain ⟨na, nc, rfl, -, hnm⟩ := strs_len hs
  have HEW := Lib.hid (wt_eq t)
  obtain ⟨n, hn⟩ : ∃ n, n = t.l.length := ⟨_, rfl⟩
  have HN := Lib.hid hn
  rw [← hn] at HSL hlc ⊢
  have hn63 : n ≤ 9223372036854775807 := by unfold maxLen at hcm; omega
  have hm63 : t.names.length ≤ 9223372036854775807 := by
    obtain ⟨_, _, _, h1, h2, -⟩ := hs
    unfold maxLen at h2; omega
  obtain ⟨hbx, hb⟩ := boxN_new w 28 #[.int .i64 t.op, .int .i64 t.n, .string t.s, .slice ka t.kind.l.length kc, .slice na t.names.length nc, .slice la n lc]
  have hs63 : t.s.size ≤ 9223372036854775807 := by unfold maxLen at hsz; omega
  generalize t.kind.l.length = kn at *
  generalize t.names.length = nn at *
  generalize Con.wt t = S at *
  generalize t.op = op at *
  generalize t.n = num at *
  generalize t.s = s at *
  have c2 := hbx.cell 2 (.string s) rfl
  have c3 := hbx.cell 3 (.slice ka kn kc) rfl
  have c4 := hbx.cell 4 (.slice na nn nc) rfl
  have c5 := hbx.cell 5 (.slice la n lc) rfl
  have HB := Lib.hid hb
  have HBX := Lib.hid hbx
  clear hbx hb hl ht hk hs hn hcm hP hnm hsz hlc
  have HM := Lib.hid (show ∀ W, Below w.heap.size w W → Counts S most w (.returned (.int .i64 most)) W from fun W hW => ⟨⟨most, rfl, by omega, by omega, fun h => by omega⟩, hW⟩)
  by_cases hdd : 250 < d
  · have q1 : decide ((250 : Int) < d) = true := decide_eq_true hdd
    clear HKK
    go_enter Tryz.func31, Tryz.ntmps31
    go_wp2_with fail
    go_ret
    exact HM.out _ HB.out
  have q1 : decide ((250 : Int) < d) = false := decide_eq_false hdd
  by_cases h2 : most < (nn : Int)
  · have q2 : decide (most < (nn : Int)) = true := decide_eq_true h2
    clear HKK
    go_enter Tryz.func31, Tryz.ntmps31
    go_wp2_with fail
    go_ret
    exact HM.out _ HB.out
  have q2 : decide (most < (nn : Int)) = false := decide_eq_false h2
  by_cases h3 : 200 < (s.size : Int)
  · have q3 : decide (200 < (s.size : Int)) = true := decide_eq_true h3
    clear HKK
    go_enter Tryz.func31, Tryz.ntmps31
    go_wp2_with fail
    go_ret
    exact HM.out _ HB.out
  have q3 : decide (200 < (s.size : Int)) = false := decide_eq_false h3
  have w1 : wrap64 (d + 1) = d + 1 := by rw [wrap64]; omega
  have HK2 := Lib.hid (fun W (hW : Below w.heap.size w W) => HKK.out W hW (by omega))
  clear HKK h3
  go_enter Tryz.func31, Tryz.ntmps31
  go_wp2_with fail
  clear c2
  generalize w.alloc (.cells #[.int .i64 op, .int .i64 num, .string s, .slice ka kn kc, .slice na nn nc, .slice la n lc] 28) = w2 at *
  refine (HLA.out _ HB.out).mono ?_
  rintro e w' ⟨⟨r, rfl⟩, rfl⟩
  cases r
  rotate_left
  · go_wp2
    go_ret
    exact HM.out _ HB.out
  go_wp2
  have HD0 := Lib.hid (Below.refl w2.heap.size w2).drew
  have HK3 := Lib.hid (fun W (hW : Below w2.heap.size w2 W) => HK2.out W (belowStep hW HB.out))
  have HSS := Lib.hid (fun W (hW : Below w2.heap.size w2 W) => (show Below w2.heap.size w2 W ∧ W.cell? ⟨w.heap.size, 3, none⟩ = some (.slice ka kn kc) ∧ W.cell? ⟨w.heap.size, 4, none⟩ = some (.slice na nn nc) from ⟨hW, (HBX.out.of_eq (hW.block _ HBX.out.lt)).cell 3 _ rfl, (HBX.out.of_eq (hW.block _ HBX.out.lt)).cell 4 _ rfl⟩))
  clear c3 c4 c5
  go_cut [7] from 31 to 39 (fun s7 W => (∃ y : Int, s7 = .int .i64 (y + nn) ∧ 0 ≤ y ∧ y ≤ most ∧ (y < most → 1 ≤ y)) ∧ Below w2.heap.size w2 W)
  case first =>
    go_region_held3 (fun W => Below w2.heap.size w2 W ∧ W.cell? ⟨w.heap.size, 3, none⟩ = some (.slice ka kn kc) ∧ W.cell? ⟨w.heap.size, 4, none⟩ = some (.slice na nn nc))
      (exact HSS.out _ (by with_reducible (repeat (first | exact Below.refl _ _ | exact HD0.out | refine Below.drew ?_ | refine below_new ?_ | refine belowStep (by assumption) ?_ | exact Nat.le_refl _))))
      (first
      | (go_at_call 55; (with_reducible refine Calls.mono (HK3.out _ ?_) ?_); (focus with_reducible (repeat (first | exact Below.refl _ _ | exact HD0.out | refine Below.drew ?_ | refine below_new ?_ | refine belowStep (by assumption) ?_ | exact Nat.le_refl _))); rintro e wk ⟨⟨r, rfl, hr0, hr1, hr2⟩, hbk⟩)
      | fail)
    all_goals (go_wp2; go_meet)
    all_goals (rename_i hHeld; exact ⟨⟨r, by congr 1; rw [IntKind.wrap_i64]; omega, hr0, hr1, fun h => by have h1 := hr2 h; have h2 := Pl.K.size_pos t.kind; omega⟩, hHeld.1⟩)
  case rest =>
    obtain ⟨⟨y, rfl, hy0, hy1, hy2⟩, hw⟩ := hcut
    have HWC := Lib.hid hw
    have c5 := (HBX.out.of_eq (hw.block _ HBX.out.lt)).cell 5 (.slice la n lc) rfl
    have HY := Lib.hid hy2
    clear hw hy2 HK2 HK3 HSS HLA HD0
    go_wp2_with fail
    clear c5
    go_loopg [7, 9, 43] (n + 1) (fun g m x i wr => ∃ (k : Nat) (z : Int), k ≤ n ∧ i = .int .i64 k ∧ m = .int .i64 z ∧ 0 ≤ z ∧ z ≤ 200000 ∧ (z < most → (1 + nn + (Con.wts (t.l.take k) : Nat) : Int) ≤ z) ∧ g = n + 1 - k ∧ Below w2.heap.size w2 wr)
    case atStart => exact ⟨0, y + nn, by omega, rfl, rfl, by omega, by omega, fun h => by have := HY.out (by omega); rw [List.take_zero, wts_nil]; omega, by omega, HWC.out⟩
    case round =>
      obtain ⟨k, z, hk, rfl, rfl, hz0, hz1, hz2, hg, hbw⟩ := hrel
      have HBW := Lib.hid hbw
      have HZ := Lib.hid hz2
      have HW0 := Lib.hid (show Below w.heap.size w wr from belowStep hbw HB.out)
      by_cases hlt : k < n
      · have q5 : decide ((k : Int) < (n : Int)) = true := decide_eq_true (by omega)
        have hkl : k < t.l.length := by rw [← HN.out]; exact hlt
        obtain ⟨b, off, c', xa, xn, xc, ya, yn, yc, za, zn, zc, e, -, f0, f1, f2, f3, f4, f5, hx⟩ := (HSL.out wr HW0.out).part k hkl
        injection e with e1 e2 e3
        subst e1 e3
        clear e2
        by_cases hyy : most ≤ z
        · have q6 : decide (most ≤ z) = true := decide_eq_true hyy
          have HW1 := Lib.hid (show Below w.heap.size w (wr.alloc (.cells #[.int .i64 t.l[k].op, .int .i64 t.l[k].n, .string t.l[k].s, .slice xa xn xc, .slice ya yn yc, .slice za zn zc] 28)) from below_new HW0.out)
          generalize t.l[k] = x at *
          clear hz2 hbw hx
          go_wp2_with fail
          go_ret
          exact HM.out _ HW1.out
        · have q6 : decide (most ≤ z) = false := decide_eq_false hyy
          have w2' : wrap64 (most - z) = most - z := by rw [wrap64]; omega
          obtain ⟨hbx, hb⟩ := boxN_new wr 28 #[.int .i64 t.l[k].op, .int .i64 t.l[k].n, .string t.l[k].s, .slice xa xn xc, .slice ya yn yc, .slice za zn zc]
          have g0 := hbx.cell 0 (.int .i64 t.l[k].op) rfl
          have g1 := hbx.cell 1 (.int .i64 t.l[k].n) rfl
          have g2 := hbx.cell 2 (.string t.l[k].s) rfl
          have g3 := hbx.cell 3 (.slice xa xn xc) rfl
          have g4 := hbx.cell 4 (.slice ya yn yc) rfl
          have g5 := hbx.cell 5 (.slice za zn zc) rfl
          have HC := Lib.hid (HIH.out t.l[k] (List.getElem_mem hkl) (most - z) (d + 1) _ _ (fun b hb' => Nat.lt_of_lt_of_le (HP.out b hb') (Nat.le_trans HW0.out.size hb.size)) (hx.keep (Same.of_below hb (fun b hb' => Nat.lt_of_lt_of_le (HP.out b hb') HW0.out.size))) (by omega) (by omega) (by omega) (by omega))
          have HST := Lib.hid (wts_take t.l k hkl)
          have HBN := Lib.hid (belowStep hb HBW.out)
          generalize t.l[k] = x at *
          clear hz2 hbw hx hbx hb
          go_wp2_with fail
          generalize wr.alloc (.cells #[.int .i64 x.op, .int .i64 x.n, .string x.s, .slice xa xn xc, .slice ya yn yc, .slice za zn zc] 28) = w5 at *
          refine HC.out.mono ?_
          rintro e w3 ⟨⟨r, rfl, hr0, hr1, hr2⟩, hb3⟩
          have HB3 := Lib.hid (belowStep hb3 HBN.out)
          have HR := Lib.hid hr2
          clear hb3 f0 f1 f2 f3 f4 f5 g0 g1 g2 g3 g4 g5 hr2
          go_wp2
          go_roundg (gk - 1)
          case measure => omega
          case rel => exact ⟨k + 1, z + r, by omega, by go_num, by go_num, by omega, by omega, fun h => by
            have h1 := HR.out (by omega)
            have h2 := HZ.out (by omega)
            rw [HST.out]
            omega, by omega, HB3.out⟩
      · have q5 : decide ((k : Int) < (n : Int)) = false := decide_eq_false (by omega)
        have HF := Lib.hid (show z < most → (S : Int) ≤ z from fun h => by
          have h2 := HZ.out h
          rw [List.take_of_length_le (by rw [← HN.out]; omega)] at h2
          rw [HEW.out]
          omega)
        clear hz2 hbw
        by_cases hzm : z ≤ most
        · have hmm : min z most = z := Int.min_eq_left (by omega)
          go_wp2
          go_ret
          exact ⟨⟨z, by first | rfl | (rw [hmm]; rfl), by omega, by omega, HF.out⟩, HW0.out⟩
        · have hmm : min z most = most := Int.min_eq_right (by omega)
          go_wp2
          go_ret
          exact ⟨⟨most, by first | rfl | (rw [hmm]; rfl), by omega, by omega, fun h => by omega⟩, HW0.out⟩
end Go.Proofs.YtmjiocpcenbndaaGreatDoor
