/-
  Walks of layer 9: what the reference counts, Small; small functions on the kind of a node.
-/
import Derived.Test.YtmjiocpcenbndaaGreatDoorQb
namespace Go.Proofs.YtmjiocpcenbndaaGreatDoor
open Go Go.RowKit
open Pl (K Con)
set_option linter.unusedSimpArgs false

/-- the nodes counted, of a size and a depth -/
def cntI (sz dp left d : Int) : Int := if dp + d ≤ 401 then min sz left else left
theorem cntI_step (m s s' dp dp' left d : Int) (hm : m = cntI (1 + s) (1 + dp) left d) (hlt : m < left) : m + cntI s' dp' (left - m) (d + 1) = cntI (1 + (s + s')) (1 + max dp dp') left d := by
  unfold cntI at *
  split at hm <;> split <;> split <;> omega
theorem cntI_stop (s s' dp dp' left d : Int) (h : left ≤ cntI (1 + s) (1 + dp) left d) (hs : s ≤ s') (hd : dp ≤ dp') : cntI (1 + s) (1 + dp) left d = cntI (1 + s') (1 + dp') left d := by
  unfold cntI at *
  split at h <;> split <;> split <;> omega
theorem cntI_le (s dp left d : Int) (hs : 1 ≤ s) (hl : 1 ≤ left) : 1 ≤ cntI s dp left d ∧ cntI s dp left d ≤ left := by
  unfold cntI
  split <;> omega
set_option maxRecDepth 100000 in
set_option maxHeartbeats 4000000 in
theorem rcount9_any (P : Nat → Prop) (t : Con) : ∀ (left d : Int) (w : World) (v : Value), (∀ b, P b → b < w.heap.size) → ConV w P t v → 1 ≤ left → left ≤ 100000 → 1 ≤ d → d ≤ 401 →
    Calls Tryz.prog 58 #[v, .int .i64 left, .int .i64 d] w fun e w' => e = .returned (.int .i64 (cntI t.size t.depth left d)) ∧ Below w.heap.size w w' := by
  induction t using Con.ind with
  | h t ih =>
  intro left d w v hP ht hl0 hl1 hd0 hd1
  have HIH := Lib.hid ih
  have HP := Lib.hid hP
  clear ih
  obtain ⟨-, kv, nv, lv, rfl, hk, ⟨na, nc, rfl, -⟩, hl⟩ := (conV_iff _ _ _ _).1 ht
  have HSL := Lib.hid (fun W (hW : Below w.heap.size w W) => hl.keep (Same.of_below hW hP))
  obtain ⟨a, c, rfl, hlc, hcm, -⟩ := hl.each
  obtain ⟨ka, kc, rfl⟩ := hk.shape
  have HES := Lib.hid (Con.size_eq t)
  have HED := Lib.hid (Con.depth_eq t)
  obtain ⟨n, hn⟩ : ∃ n, n = t.l.length := ⟨_, rfl⟩
  have HN := Lib.hid hn
  rw [← hn] at HSL hlc ⊢
  have hn63 : n ≤ 9223372036854775807 := by unfold maxLen at hcm; omega
  obtain ⟨hbx, hb⟩ := boxN_new w 28 #[.int .i64 t.op, .int .i64 t.n, .string t.s, .slice ka t.kind.l.length kc, .slice na t.names.length nc, .slice a n c]
  have c5 := hbx.cell 5 (.slice a n c) rfl
  have HB := Lib.hid hb
  have HBX := Lib.hid hbx
  generalize t.kind.l.length = kn at *
  generalize t.names.length = nn at *
  clear hbx hb hl ht hk hn hcm hP
  by_cases hdd : 400 < d
  · have q1 : decide ((400 : Int) < d) = true := decide_eq_true hdd
    have HF := Lib.hid (show cntI t.size t.depth left d = left from by
      have := HED.out
      unfold cntI
      split <;> omega)
    go_enter Tryz.func58, Tryz.ntmps58
    go_wp2_with fail
    go_ret
    exact ⟨by rw [HF.out]; rfl, HB.out⟩
  have q1 : decide ((400 : Int) < d) = false := decide_eq_false hdd
  have w1 : wrap64 (d + 1) = d + 1 := by rw [wrap64]; omega
  go_enter Tryz.func58, Tryz.ntmps58
  go_wp2_with fail
  clear c5
  generalize w.alloc (.cells #[.int .i64 t.op, .int .i64 t.n, .string t.s, .slice ka kn kc, .slice na nn nc, .slice a n c] 28) = w2 at *
  go_loopg [7, 8] (n + 1) (fun g m i wr => ∃ (k : Nat) (y : Int), k ≤ n ∧ i = .int .i64 k ∧ m = .int .i64 y ∧ y = cntI (1 + (Con.sizes (t.l.take k) : Nat)) (1 + (Con.depths (t.l.take k) : Nat)) left d ∧ g = n + 1 - k ∧ Below w2.heap.size w2 wr)
  case atStart => exact ⟨0, 1, by omega, rfl, rfl, by rw [List.take_zero, Con.sizes_nil, Con.depths_nil]; unfold cntI; split <;> omega, by omega, Below.refl _ _⟩
  case round =>
    obtain ⟨k, y, hk, rfl, rfl, hy, hg, hbw⟩ := hrel
    have HBW := Lib.hid hbw
    have HY := Lib.hid hy
    have HW0 := Lib.hid (show Below w.heap.size w wr from belowStep hbw HB.out)
    have c5 := (HBX.out.of_eq (hbw.block _ HBX.out.lt)).cell 5 (.slice a n c) rfl
    have hyl := cntI_le (1 + (Con.sizes (t.l.take k) : Nat)) (1 + (Con.depths (t.l.take k) : Nat)) left d (by omega) hl0
    rw [← hy] at hyl
    by_cases hlt : k < n
    · have q5 : decide ((k : Int) < (n : Int)) = true := decide_eq_true (by omega)
      by_cases hyy : y < left
      · have q6 : decide (y < left) = true := decide_eq_true hyy
        have hkl : k < t.l.length := by rw [← HN.out]; exact hlt
        have hmem : t.l[k] ∈ t.l := List.getElem_mem hkl
        obtain ⟨b, off, c', xa, xn, xc, ya, yn, yc, za, zn, zc, e, -, f0, f1, f2, f3, f4, f5, hx⟩ := (HSL.out wr HW0.out).part k hkl
        injection e with e1 e2 e3
        subst e1 e3
        clear e2
        have w2' : wrap64 (left - y) = left - y := by rw [wrap64]; omega
        have HC := Lib.hid (HIH.out _ hmem (left - y) (d + 1) wr _ (fun b hb => Nat.lt_of_lt_of_le (HP.out b hb) HW0.out.size) hx (by omega) (by omega) (by omega) (by omega))
        have hcl := cntI_le (t.l[k].size : Nat) (t.l[k].depth : Nat) (left - y) (d + 1) (by have := Con.size_pos t.l[k]; omega) (by omega)
        have HST := Lib.hid (show y + cntI (t.l[k].size : Nat) (t.l[k].depth : Nat) (left - y) (d + 1) = cntI (1 + (Con.sizes (t.l.take (k + 1)) : Nat)) (1 + (Con.depths (t.l.take (k + 1)) : Nat)) left d from by
          rw [Con.sizes_take t.l k hkl, Con.depths_take t.l k hkl]
          have := cntI_step y (Con.sizes (t.l.take k) : Nat) (t.l[k].size : Nat) (Con.depths (t.l.take k) : Nat) (t.l[k].depth : Nat) left d hy hyy
          rw [this]
          congr 1 <;> omega)
        generalize cntI (t.l[k].size : Nat) (t.l[k].depth : Nat) (left - y) (d + 1) = r at *
        generalize t.l[k] = x at *
        clear hy hbw hx hmem
        go_wp2_with fail
        refine HC.out.mono ?_
        rintro e w3 ⟨rfl, hb3⟩
        have HB3 := Lib.hid (belowStep hb3 HBW.out)
        clear hb3 f0 f1 f2 f3 f4 f5 c5
        go_wp2
        go_roundg (gk - 1)
        case measure => omega
        case rel => exact ⟨k + 1, y + r, by omega, by go_num, by go_num, HST.out, by omega, HB3.out⟩
      · have q6 : decide (y < left) = false := decide_eq_false hyy
        have HF := Lib.hid (show cntI t.size t.depth left d = y from by
          rw [HES.out, HED.out, hy]
          have h1 := Con.sizes_le t.l k
          have h2 := Con.depths_le t.l k
          have := cntI_stop (Con.sizes (t.l.take k) : Nat) (Con.sizes t.l : Nat) (Con.depths (t.l.take k) : Nat) (Con.depths t.l : Nat) left d (by rw [← hy]; omega) (by omega) (by omega)
          rw [this]
          congr 1)
        clear hy hbw
        go_wp2
        go_ret
        exact ⟨by rw [HF.out]; rfl, HW0.out⟩
    · have q5 : decide ((k : Int) < (n : Int)) = false := decide_eq_false (by omega)
      have HF := Lib.hid (show cntI t.size t.depth left d = y from by
        rw [hy, List.take_of_length_le (by rw [← HN.out]; omega), HES.out, HED.out]
        congr 1)
      clear hy hbw
      go_wp2
      go_ret
      exact ⟨by rw [HF.out]; rfl, HW0.out⟩
/-- at most as many nodes and as deep as may be -/
def Con.small (t : Con) : Bool := decide (t.size ≤ 20000) && decide (t.depth ≤ 400)
theorem cntI_small (t : Con) : decide (cntI t.size t.depth 20001 1 ≤ 20000) = Con.small t := by
  unfold cntI Con.small
  by_cases h : t.depth ≤ 400
  · rw [if_pos (by omega), decide_eq_true h, Bool.and_true]
    by_cases h2 : t.size ≤ 20000
    · rw [decide_eq_true h2]; exact decide_eq_true (by omega)
    · rw [decide_eq_false h2]; exact decide_eq_false (by omega)
  · rw [if_neg (by omega), decide_eq_false h, Bool.and_false]
    exact decide_eq_false (by omega)
set_option maxRecDepth 100000 in
theorem rsmall9_any (P : Nat → Prop) (t : Con) (w : World) (v : Value) (hP : ∀ b, P b → b < w.heap.size) (ht : ConV w P t v) :
    Calls Tryz.prog 39 #[v] w fun e w' => e = .returned (.bool (Con.small t)) ∧ Below w.heap.size w w' := by
  obtain ⟨ka, kn, kc, na, nn, nc, la, ln, lc, rfl, -, -, -⟩ := ht.shape
  obtain ⟨hbx, hb⟩ := boxN_new w 28 #[.int .i64 t.op, .int .i64 t.n, .string t.s, .slice ka kn kc, .slice na nn nc, .slice la ln lc]
  have c0 := hbx.cell 0 (.int .i64 t.op) rfl
  have c1 := hbx.cell 1 (.int .i64 t.n) rfl
  have c2 := hbx.cell 2 (.string t.s) rfl
  have c3 := hbx.cell 3 (.slice ka kn kc) rfl
  have c4 := hbx.cell 4 (.slice na nn nc) rfl
  have c5 := hbx.cell 5 (.slice la ln lc) rfl
  have HC := Lib.hid (rcount9_any P t 20001 1 _ _ (fun b h => Nat.lt_of_lt_of_le (hP b h) hb.size) (ht.below hP hb) (by omega) (by omega) (by omega) (by omega))
  have HB := Lib.hid hb
  have HV := Lib.hid (cntI_small t)
  generalize cntI t.size t.depth 20001 1 = r at HC HV
  generalize Con.small t = z at HV ⊢
  clear ht hbx hb
  go_enter Tryz.func39, Tryz.ntmps39
  go_wp2_with fail
  refine HC.out.mono ?_
  rintro e w1 ⟨rfl, hb1⟩
  have HB1 := Lib.hid (belowStep hb1 HB.out)
  clear hb1
  go_wp2
  go_ret
  exact ⟨by rw [HV.out]; rfl, HB1.out⟩
end Go.Proofs.YtmjiocpcenbndaaGreatDoor
