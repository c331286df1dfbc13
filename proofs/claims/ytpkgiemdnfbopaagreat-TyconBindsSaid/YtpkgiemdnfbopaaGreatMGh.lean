/-
  Several texts in one (Vf Vg Vh Ry Vj Vk Vi).
-/
import Derived.Test.YtpkgiemdnfbopaaGreatMGg
import Derived.Test.YtpkgiemdnfbopaaGreatMGd
import Derived.Deep.RegionHeld3
import Derived.Test.YtpkgiemdnfbopaaGreatMGf
import Derived.Test.YtpkgiemdnfbopaaGreatQl
import Derived.Test.YtpkgiemdnfbopaaGreatMGa
import Derived.Deep.CutBlock
import Derived.Test.YtpkgiemdnfbopaaGreatFr9
import Derived.ChangeSame
namespace Go.Proofs.YtpkgiemdnfbopaaGreat
open Go Go.RowKit
open Pl (K Con)
set_option linter.unusedSimpArgs false
set_option linter.unusedVariables false

set_option maxRecDepth 100000 in
set_option maxHeartbeats 1000000 in
theorem idxS_any (f : Nat) (cap : Array Value) (hen : ∀ (W : World) (args : Array Value), Sem.run Tryz.prog (callFunc f args) W = .ok (.enter f args) W) (p : ByteArray → Bool) (l : List ByteArray) (P : Nat → Prop) (w : World) (hP : ∀ q, P q → q < w.heap.size)
    (hk : ∀ i ∈ l, ∀ (W : World), Below w.heap.size w W → Calls Tryz.prog f (#[.string i] ++ cap) W fun e w' => e = .returned (.bool (p i)) ∧ Below W.heap.size W w')
    (v : Value) (hl : StrSl w P v l) :
    Calls Tryz.prog 50 #[v, .func (.func f) #[] cap] w fun e w' => (∃ r : Int, e = .returned (.int .i64 r) ∧ decide (0 ≤ r) = l.any p) ∧ Below w.heap.size w w' := by
  have HKK := Lib.hid hk
  have HR := Lib.hid (fun W (hW : Below w.heap.size w W) => hl.keep (Same.of_below hW hP))
  obtain ⟨a, c, rfl, hlc, hcm, -⟩ := id hl
  obtain ⟨n, hn⟩ : ∃ n, n = l.length := ⟨_, rfl⟩
  have HN := Lib.hid hn
  rw [← hn] at HR ⊢
  have hn63 : n ≤ 9223372036854775807 := by unfold maxLen at hcm; omega
  clear hl hn hcm hlc hk
  go_enter Tryz.func50, Tryz.ntmps50
  go_wp2_with fail
  go_loopg [8] (n + 1) (fun g i wr => ∃ k : Nat, k ≤ n ∧ i = .int .i64 k ∧ g = n + 1 - k ∧ (l.take k).any p = false ∧ Below w.heap.size w wr)
  case atStart => exact ⟨0, by omega, rfl, by omega, by rw [List.take_zero]; rfl, Below.refl _ _⟩
  case round =>
    obtain ⟨k, hk, rfl, hg, hall, hbw⟩ := hrel
    have HBW := Lib.hid hbw
    have HALL := Lib.hid hall
    by_cases hlt : k < n
    · have q5 : decide ((k : Int) < (n : Int)) = true := decide_eq_true (by omega)
      have hkl : k < l.length := by rw [← HN.out]; exact hlt
      have hcell : ∃ b off, a = some ⟨b, off, none⟩ ∧ wr.cell? ⟨b, off + k, none⟩ = some (.string l[k]) := by
        obtain ⟨a', c', e, -, -, -, -, h8⟩ := HR.out wr hbw
        injection e with e1 e2 e3
        subst e1
        rcases h8 with h8 | ⟨b, off, rfl, -, h9⟩
        · rw [h8] at hkl; exact absurd hkl (Nat.not_lt_zero _)
        · exact ⟨b, off, rfl, h9 k hkl⟩
      obtain ⟨b, off, ea, c0⟩ := hcell
      subst ea
      have HC := Lib.hid (HKK.out _ (List.getElem_mem hkl) wr hbw)
      have HNK := Lib.hid (show ∀ r, p l[k] = r → (l.take (k + 1)).any p = r from fun r h1 => by
        rw [List.take_succ_eq_append_getElem hkl, List.any_append, HALL.out]; simp; exact h1)
      have HNY := Lib.hid (show p l[k] = true → l.any p = true from fun h1 => List.any_eq_true.2 ⟨_, List.getElem_mem hkl, h1⟩)
      generalize l[k] = x at *
      obtain ⟨r, hr⟩ : ∃ r, r = p x := ⟨_, rfl⟩
      rw [← hr] at HC HNK HNY
      clear hall hbw hr
      go_wp2_with fail
      refine HC.out.mono ?_
      rintro e w3 ⟨rfl, hb3⟩
      have HB3 := Lib.hid (belowStep hb3 HBW.out)
      clear hb3 c0
      cases r
      · have HF := Lib.hid (HNK.out false rfl)
        go_wp2
        go_roundg (gk - 1)
        case measure => omega
        case rel => exact ⟨k + 1, by omega, by go_num, by omega, HF.out, HB3.out⟩
      · have HF := Lib.hid (HNY.out rfl)
        go_wp2
        go_ret
        exact ⟨⟨k, rfl, by rw [HF.out]; exact decide_eq_true (by omega)⟩, HB3.out⟩
    · have q5 : decide ((k : Int) < (n : Int)) = false := decide_eq_false (by omega)
      have HF := Lib.hid (show l.any p = false from by
        have h := HALL.out
        rwa [List.take_of_length_le (by have := HN.out; omega)] at h)
      clear hall hbw
      go_wp2
      go_ret
      exact ⟨⟨-1, rfl, by rw [HF.out]; rfl⟩, HBW.out⟩
theorem containsS_any (f : Nat) (cap : Array Value) (hen : ∀ (W : World) (args : Array Value), Sem.run Tryz.prog (callFunc f args) W = .ok (.enter f args) W) (p : ByteArray → Bool) (l : List ByteArray) (P : Nat → Prop) (w : World) (hP : ∀ q, P q → q < w.heap.size)
    (hk : ∀ i ∈ l, ∀ (W : World), Below w.heap.size w W → Calls Tryz.prog f (#[.string i] ++ cap) W fun e w' => e = .returned (.bool (p i)) ∧ Below W.heap.size W w')
    (v : Value) (hl : StrSl w P v l) :
    Calls Tryz.prog 8 #[v, .func (.func f) #[] cap] w fun e w' => e = .returned (.bool (l.any p)) ∧ Below w.heap.size w w' := by
  have HC := Lib.hid (idxS_any f cap hen p l P w hP hk v hl)
  obtain ⟨a, c, rfl, -⟩ := id hl
  clear hl hk hen
  generalize l.length = n at *
  go_enter Tryz.func8, Tryz.ntmps8
  go_wp2_with fail
  refine HC.out.mono ?_
  rintro e w2 ⟨⟨r, rfl, hr⟩, hb2⟩
  have HR := Lib.hid hr
  have HB := Lib.hid hb2
  clear hr hb2
  by_cases h0 : (0 : Int) ≤ r
  · have q1 : decide ((0 : Int) ≤ r) = true := decide_eq_true h0
    have HF := Lib.hid (show l.any p = true from by rw [← HR.out]; exact decide_eq_true h0)
    go_wp2
    go_ret
    exact ⟨by rw [HF.out]; rfl, HB.out⟩
  · have q1 : decide ((0 : Int) ≤ r) = false := decide_eq_false h0
    have HF := Lib.hid (show l.any p = false from by rw [← HR.out]; exact decide_eq_false h0)
    go_wp2
    go_ret
    exact ⟨by rw [HF.out]; rfl, HB.out⟩
set_option maxRecDepth 100000 in
set_option maxHeartbeats 1000000 in
theorem idxC9_any (f : Nat) (cap : Array Value) (hen : ∀ (W : World) (args : Array Value), Sem.run Tryz.prog (callFunc f args) W = .ok (.enter f args) W) (p : (ByteArray × K) → Bool) (l : List (ByteArray × K)) (P : Nat → Prop) (w : World) (hP : ∀ q, P q → q < w.heap.size)
    (hk : ∀ i ∈ l, ∀ (W : World), Below w.heap.size w W → ∀ ka kn kc, i.1.size ≤ maxLen → KidV W P i.2 (.slice ka kn kc) → Calls Tryz.prog f (#[.agg #[.string i.1, .slice ka kn kc]] ++ cap) W fun e w' => e = .returned (.bool (p i)) ∧ Below W.heap.size W w')
    (v : Value) (hl : CstSl w P v l) :
    Calls Tryz.prog 51 #[v, .func (.func f) #[] cap] w fun e w' => (∃ r : Int, e = .returned (.int .i64 r) ∧ decide (0 ≤ r) = l.any p) ∧ Below w.heap.size w w' := by
  have HKK := Lib.hid hk
  have HR := Lib.hid (fun W (hW : Below w.heap.size w W) => hl.keep (Same.of_below hW hP))
  obtain ⟨a, c, rfl, hlc, hcm, -⟩ := id hl
  obtain ⟨n, hn⟩ : ∃ n, n = l.length := ⟨_, rfl⟩
  have HN := Lib.hid hn
  rw [← hn] at HR ⊢
  have hn63 : n ≤ 9223372036854775807 := by unfold maxLen at hcm; omega
  clear hl hn hcm hlc hk
  go_enter Tryz.func51, Tryz.ntmps51
  go_wp2_with fail
  go_loopg [8] (n + 1) (fun g i wr => ∃ k : Nat, k ≤ n ∧ i = .int .i64 k ∧ g = n + 1 - k ∧ (l.take k).any p = false ∧ Below w.heap.size w wr)
  case atStart => exact ⟨0, by omega, rfl, by omega, by rw [List.take_zero]; rfl, Below.refl _ _⟩
  case round =>
    obtain ⟨k, hk, rfl, hg, hall, hbw⟩ := hrel
    have HBW := Lib.hid hbw
    have HALL := Lib.hid hall
    by_cases hlt : k < n
    · have q5 : decide ((k : Int) < (n : Int)) = true := decide_eq_true (by omega)
      have hkl : k < l.length := by rw [← HN.out]; exact hlt
      obtain ⟨b, off, c', xa, xn, xc, e, -, hsz, c0, c1, hx⟩ := (HR.out wr hbw).part k hkl
      injection e with e1 e2 e3
      subst e1 e3
      clear e2
      have HC := Lib.hid (HKK.out _ (List.getElem_mem hkl) wr hbw xa xn xc hsz hx)
      have HNK := Lib.hid (show ∀ r, p l[k] = r → (l.take (k + 1)).any p = r from fun r h1 => by
        rw [List.take_succ_eq_append_getElem hkl, List.any_append, HALL.out]; simp; exact h1)
      have HNY := Lib.hid (show p l[k] = true → l.any p = true from fun h1 => List.any_eq_true.2 ⟨_, List.getElem_mem hkl, h1⟩)
      clear hx hsz
      generalize l[k] = x at *
      obtain ⟨r, hr⟩ : ∃ r, r = p x := ⟨_, rfl⟩
      rw [← hr] at HC HNK HNY
      clear hall hbw hr
      go_wp2_with fail
      refine HC.out.mono ?_
      rintro e w3 ⟨rfl, hb3⟩
      have HB3 := Lib.hid (belowStep hb3 HBW.out)
      clear hb3 c0 c1
      cases r
      · have HF := Lib.hid (HNK.out false rfl)
        go_wp2
        go_roundg (gk - 1)
        case measure => omega
        case rel => exact ⟨k + 1, by omega, by go_num, by omega, HF.out, HB3.out⟩
      · have HF := Lib.hid (HNY.out rfl)
        go_wp2
        go_ret
        exact ⟨⟨k, rfl, by rw [HF.out]; exact decide_eq_true (by omega)⟩, HB3.out⟩
    · have q5 : decide ((k : Int) < (n : Int)) = false := decide_eq_false (by omega)
      have HF := Lib.hid (show l.any p = false from by
        have h := HALL.out
        rwa [List.take_of_length_le (by have := HN.out; omega)] at h)
      clear hall hbw
      go_wp2
      go_ret
      exact ⟨⟨-1, rfl, by rw [HF.out]; rfl⟩, HBW.out⟩
theorem containsC9_any (f : Nat) (cap : Array Value) (hen : ∀ (W : World) (args : Array Value), Sem.run Tryz.prog (callFunc f args) W = .ok (.enter f args) W) (p : (ByteArray × K) → Bool) (l : List (ByteArray × K)) (P : Nat → Prop) (w : World) (hP : ∀ q, P q → q < w.heap.size)
    (hk : ∀ i ∈ l, ∀ (W : World), Below w.heap.size w W → ∀ ka kn kc, i.1.size ≤ maxLen → KidV W P i.2 (.slice ka kn kc) → Calls Tryz.prog f (#[.agg #[.string i.1, .slice ka kn kc]] ++ cap) W fun e w' => e = .returned (.bool (p i)) ∧ Below W.heap.size W w')
    (v : Value) (hl : CstSl w P v l) :
    Calls Tryz.prog 10 #[v, .func (.func f) #[] cap] w fun e w' => e = .returned (.bool (l.any p)) ∧ Below w.heap.size w w' := by
  have HC := Lib.hid (idxC9_any f cap hen p l P w hP hk v hl)
  obtain ⟨a, c, rfl, -⟩ := id hl
  clear hl hk hen
  generalize l.length = n at *
  go_enter Tryz.func10, Tryz.ntmps10
  go_wp2_with fail
  refine HC.out.mono ?_
  rintro e w2 ⟨⟨r, rfl, hr⟩, hb2⟩
  have HR := Lib.hid hr
  have HB := Lib.hid hb2
  clear hr hb2
  by_cases h0 : (0 : Int) ≤ r
  · have q1 : decide ((0 : Int) ≤ r) = true := decide_eq_true h0
    have HF := Lib.hid (show l.any p = true from by rw [← HR.out]; exact decide_eq_true h0)
    go_wp2
    go_ret
    exact ⟨by rw [HF.out]; rfl, HB.out⟩
  · have q1 : decide ((0 : Int) ≤ r) = false := decide_eq_false h0
    have HF := Lib.hid (show l.any p = false from by rw [← HR.out]; exact decide_eq_false h0)
    go_wp2
    go_ret
    exact ⟨by rw [HF.out]; rfl, HB.out⟩
end Go.Proofs.YtpkgiemdnfbopaaGreat
namespace Go.Proofs.YtpkgiemdnfbopaaGreat
open Go Go.RowKit
open Pl (K Con)
set_option linter.unusedSimpArgs false
set_option linter.unusedVariables false

set_option maxRecDepth 100000 in
set_option maxHeartbeats 1000000 in
theorem idxC9_some (f : Nat) (cap : Array Value) (hen : ∀ (W : World) (args : Array Value), Sem.run Tryz.prog (callFunc f args) W = .ok (.enter f args) W) (l : List (ByteArray × K)) (P : Nat → Prop) (w : World) (hP : ∀ q, P q → q < w.heap.size)
    (hk : ∀ i ∈ l, ∀ (W : World), Below w.heap.size w W → ∀ ka kn kc, i.1.size ≤ maxLen → KidV W P i.2 (.slice ka kn kc) → Calls Tryz.prog f (#[.agg #[.string i.1, .slice ka kn kc]] ++ cap) W fun e w' => (∃ r : Bool, e = .returned (.bool r)) ∧ Below W.heap.size W w')
    (v : Value) (hl : CstSl w P v l) :
    Calls Tryz.prog 51 #[v, .func (.func f) #[] cap] w fun e w' => (∃ r : Int, e = .returned (.int .i64 r)) ∧ Below w.heap.size w w' := by
  have HKK := Lib.hid hk
  have HR := Lib.hid (fun W (hW : Below w.heap.size w W) => hl.keep (Same.of_below hW hP))
  obtain ⟨a, c, rfl, hlc, hcm, -⟩ := id hl
  obtain ⟨n, hn⟩ : ∃ n, n = l.length := ⟨_, rfl⟩
  have HN := Lib.hid hn
  rw [← hn] at HR ⊢
  have hn63 : n ≤ 9223372036854775807 := by unfold maxLen at hcm; omega
  clear hl hn hcm hlc hk
  go_enter Tryz.func51, Tryz.ntmps51
  go_wp2_with fail
  go_loopg [8] (n + 1) (fun g i wr => ∃ k : Nat, k ≤ n ∧ i = .int .i64 k ∧ g = n + 1 - k ∧ Below w.heap.size w wr)
  case atStart => exact ⟨0, by omega, rfl, by omega, Below.refl _ _⟩
  case round =>
    obtain ⟨k, hk, rfl, hg, hbw⟩ := hrel
    have HBW := Lib.hid hbw
    by_cases hlt : k < n
    · have q5 : decide ((k : Int) < (n : Int)) = true := decide_eq_true (by omega)
      have hkl : k < l.length := by rw [← HN.out]; exact hlt
      obtain ⟨b, off, c', xa, xn, xc, e, -, hsz, c0, c1, hx⟩ := (HR.out wr hbw).part k hkl
      injection e with e1 e2 e3
      subst e1 e3
      clear e2
      have HC := Lib.hid (HKK.out _ (List.getElem_mem hkl) wr hbw xa xn xc hsz hx)
      clear hx hsz
      generalize l[k] = x at *
      clear hbw
      go_wp2_with fail
      refine HC.out.mono ?_
      rintro e w3 ⟨⟨r, rfl⟩, hb3⟩
      have HB3 := Lib.hid (belowStep hb3 HBW.out)
      clear hb3 c0 c1
      cases r
      · go_wp2
        go_roundg (gk - 1)
        case measure => omega
        case rel => exact ⟨k + 1, by omega, by go_num, by omega, HB3.out⟩
      · go_wp2
        go_ret
        exact ⟨⟨k, rfl⟩, HB3.out⟩
    · have q5 : decide ((k : Int) < (n : Int)) = false := decide_eq_false (by omega)
      clear hbw
      go_wp2
      go_ret
      exact ⟨⟨-1, rfl⟩, HBW.out⟩
theorem containsC9_some (f : Nat) (cap : Array Value) (hen : ∀ (W : World) (args : Array Value), Sem.run Tryz.prog (callFunc f args) W = .ok (.enter f args) W) (l : List (ByteArray × K)) (P : Nat → Prop) (w : World) (hP : ∀ q, P q → q < w.heap.size)
    (hk : ∀ i ∈ l, ∀ (W : World), Below w.heap.size w W → ∀ ka kn kc, i.1.size ≤ maxLen → KidV W P i.2 (.slice ka kn kc) → Calls Tryz.prog f (#[.agg #[.string i.1, .slice ka kn kc]] ++ cap) W fun e w' => (∃ r : Bool, e = .returned (.bool r)) ∧ Below W.heap.size W w')
    (v : Value) (hl : CstSl w P v l) :
    Calls Tryz.prog 10 #[v, .func (.func f) #[] cap] w fun e w' => (∃ r : Bool, e = .returned (.bool r)) ∧ Below w.heap.size w w' := by
  have HC := Lib.hid (idxC9_some f cap hen l P w hP hk v hl)
  obtain ⟨a, c, rfl, -⟩ := id hl
  clear hl hk hen
  generalize l.length = n at *
  go_enter Tryz.func10, Tryz.ntmps10
  go_wp2_with fail
  refine HC.out.mono ?_
  rintro e w2 ⟨⟨r, rfl⟩, hb2⟩
  have HB := Lib.hid hb2
  clear hb2
  by_cases h0 : (0 : Int) ≤ r
  · have q1 : decide ((0 : Int) ≤ r) = true := decide_eq_true h0
    go_wp2
    go_ret
    exact ⟨⟨_, rfl⟩, HB.out⟩
  · have q1 : decide ((0 : Int) ≤ r) = false := decide_eq_false h0
    go_wp2
    go_ret
    exact ⟨⟨_, rfl⟩, HB.out⟩
set_option maxRecDepth 100000 in
theorem constsF1_any (s : ByteArray) (w : World) : Calls Tryz.prog 9 #[.string s] w fun e w' => e = .returned (.bool (decide (200 < s.size))) ∧ Below w.heap.size w w' := by
  obtain ⟨r, hr⟩ : ∃ r, r = decide (200 < s.size) := ⟨_, rfl⟩
  have q : decide ((200 : Int) < (s.size : Int)) = r := by rw [hr]; simp; omega
  rw [← hr]
  clear hr
  go_enter Tryz.func9, Tryz.ntmps9
  go_wp2
  go_ret
  exact ⟨rfl, Below.refl _ _⟩
theorem constsF3_any (s : ByteArray) (w : World) (hs : s.size ≤ maxLen) : Calls Tryz.prog 19 #[.string s] w fun e w' => e = .returned (.bool (!Pl.cname s.toList)) ∧ Below w.heap.size w w' := by
  have HC := Lib.hid (rcname_any s w hs)
  generalize Pl.cname s.toList = r at *
  go_enter Tryz.func19, Tryz.ntmps19
  go_wp2_with fail
  refine HC.out.mono ?_
  rintro e w2 ⟨rfl, rfl⟩
  go_wp2
  go_ret
  exact ⟨rfl, Below.refl _ _⟩
set_option maxRecDepth 100000 in
theorem constsF2_any (P : Nat → Prop) (c : ByteArray × K) (w : World) (ka : Option Addr) (kn kc : Nat) (hP : ∀ b, P b → b < w.heap.size) (hk : KidV w P c.2 (.slice ka kn kc)) :
    Calls Tryz.prog 11 #[.agg #[.string c.1, .slice ka kn kc]] w fun e w' => (∃ r : Bool, e = .returned (.bool r)) ∧ Below w.heap.size w w' := by
  obtain ⟨hbx, hb⟩ := boxN_new w 36 #[.string c.1, .slice ka kn kc]
  have HC := Lib.hid (lkinds_any P c.2 300 1 (w.alloc (.cells #[.string c.1, .slice ka kn kc] 36)) (.agg #[.slice ka kn kc]) (fun b h => Nat.lt_of_lt_of_le (hP b h) hb.size) ⟨_, rfl, hk.keep (Same.of_below hb hP)⟩ (by omega) (by omega) (by omega) (by omega))
  have HB := Lib.hid hb
  generalize c.1 = s at *
  have c0 := hbx.cell 0 (.string s) rfl
  have c1 := hbx.cell 1 (.slice ka kn kc) rfl
  clear hbx hb hk hP
  by_cases h : 200 < s.size
  · have q : decide ((200 : Int) < (s.size : Int)) = true := by simp; omega
    go_enter Tryz.func11, Tryz.ntmps11
    go_wp2_with fail
    go_ret
    exact ⟨⟨_, rfl⟩, HB.out⟩
  · have q : decide ((200 : Int) < (s.size : Int)) = false := by simp; omega
    go_enter Tryz.func11, Tryz.ntmps11
    go_wp2_with fail
    clear c0 c1
    refine HC.out.mono ?_
    rintro e w2 ⟨⟨r, rfl, -, -, -⟩, hb2⟩
    have HB2 := Lib.hid (belowStep hb2 HB.out)
    clear hb2
    go_wp2
    go_ret
    exact ⟨⟨_, rfl⟩, HB2.out⟩
end Go.Proofs.YtpkgiemdnfbopaaGreat
namespace Go.Proofs.YtpkgiemdnfbopaaGreat
open Go Go.RowKit
open Pl (K Con)
set_option linter.unusedSimpArgs false
set_option linter.unusedVariables false

/-- a node that is a constant has nothing but its name and its kind -/
theorem const_node9 (t : Con) (h : Con.nodeB t = true) (h2 : t.op = 2) : t = cst (t.s, t.kind) ∧ cstB (t.s, t.kind) = true := by
  have hl := leaf_none t h (.inr h2)
  unfold Con.nodeB at h
  simp only [Bool.and_eq_true] at h
  obtain ⟨-, hs, hn, hst, hk⟩ := h
  unfold Con.shapeB at hs
  unfold Con.strB at hst
  unfold Con.kindB at hk
  unfold Con.numB at hn
  rw [h2] at hs hst hk hn
  rw [if_pos (by decide), Bool.and_eq_true, decide_eq_true_eq, decide_eq_true_eq] at hs
  rw [if_pos rfl] at hst
  rw [if_pos (.inl rfl)] at hk
  rw [if_neg (by decide), decide_eq_true_eq] at hn
  have hm := List.eq_nil_of_length_eq_zero hs.2
  obtain ⟨op, n, s, k, names, l⟩ := t
  have h2 : op = 2 := h2
  have hn : n = 0 := hn
  have hm : names = [] := hm
  have hl : l = [] := hl
  subst h2; subst hn; subst hm; subst hl
  exact ⟨rfl, by show (Pl.cname s.toList && K.valid k) = true; rw [Bool.and_eq_true]; exact ⟨hst, hk⟩⟩
theorem csts_node9 (t x : Con) (e : Int) (hx : x ∈ t.l) (y : ByteArray × K) (hy : y ∈ (Con.leafCs x (Con.deep t.op e)).filterMap cstL) : y ∈ (Con.leafCs t e).filterMap cstL := by
  have hl : t.l.length ≠ 0 := by
    intro h
    rw [List.eq_nil_of_length_eq_zero h] at hx
    cases hx
  rw [leafCs_node t e hl, List.filterMap_flatMap, List.mem_flatMap]
  exact ⟨x, hx, hy⟩
theorem csts_leaf9 (t : Con) (e : Int) (hl : t.l = []) (h2 : t.op = 2) : (t.s, t.kind) ∈ (Con.leafCs t e).filterMap cstL := by
  rw [leafCs_none t e (by rw [hl]; rfl)]
  simp [cstL, h2]
theorem csts_ok9 (t : Con) : ∀ e, Con.allB t = true → ∀ y ∈ (Con.leafCs t e).filterMap cstL, cstB y = true := by
  induction t using Con.ind with
  | h t ih =>
  intro e ha y hy
  rw [allB_eq, Bool.and_eq_true, List.all_eq_true] at ha
  by_cases hl : t.l.length = 0
  · rw [leafCs_none t e hl] at hy
    by_cases h2 : t.op = 2
    · have : y = (t.s, t.kind) := by simpa [cstL, h2] using hy
      rw [this]
      exact (const_node9 t ha.1 h2).2
    · simp [cstL, h2] at hy
  · rw [leafCs_node t e hl, List.filterMap_flatMap, List.mem_flatMap] at hy
    obtain ⟨x, hx, hy⟩ := hy
    exact ih x hx _ (ha.2 x hx) y hy
/-- binding takes all constants away, and unbinding brings them back -/
theorem unb_bind9 (cs : List (ByteArray × K)) (hf : Func cs) (t : Con) : ∀ d e : Int, 0 ≤ d → Con.allB t = true → (∀ y ∈ (Con.leafCs t e).filterMap cstL, y ∈ cs) →
    Con.subst (unb cs) (Con.bindC (cs.map (·.1)) t d) d = t ∧ ∀ l, Con.putC (Con.bindC (cs.map (·.1)) t d) l = l := by
  induction t using Con.ind with
  | h t ih =>
  intro d e hd ha hy
  rw [allB_eq, Bool.and_eq_true, List.all_eq_true] at ha
  have hln : ((cs.map (·.1)).length : Int) = (cs.length : Int) := by rw [List.length_map]
  by_cases h2 : t.op = 2
  · have hl := leaf_none t ha.1 (.inr h2)
    have hm := hy _ (csts_leaf9 t e hl h2)
    rw [bindC_const _ d t h2]
    cases hp : posB t.s (cs.map (·.1)) with
    | none => exact absurd (show t.s ∈ cs.map (·.1) from List.mem_map.2 ⟨(t.s, t.kind), hm, rfl⟩) (posB_none _ _ hp)
    | some i =>
      obtain ⟨hi, he⟩ := posB_some _ _ _ hp
      rw [List.length_map] at hi
      rw [List.getElem_map] at he
      dsimp only
      rw [hln]
      refine ⟨?_, fun l => by rw [putC_node _ l (by show (1 : Int) ≠ 2; omega)]; rfl⟩
      rw [Con.subst_var _ _ _ rfl]
      show (if d + ((cs.length : Int) - 1 - (i : Nat)) < d then _ else if d + ((cs.length : Int) - 1 - (i : Nat)) - d < ((unb cs).length : Int) then Con.shift d ((unb cs).getD (d + ((cs.length : Int) - 1 - (i : Nat)) - d).toNat Con.none0) 0 else _) = t
      rw [if_neg (by omega), unb_len, if_pos (by omega)]
      have hk : (d + ((cs.length : Int) - 1 - (i : Nat)) - d).toNat = cs.length - 1 - i := by omega
      rw [hk, unb_at cs (cs.length - 1 - i) (by omega), Con.shift_node _ _ _ (by show (2 : Int) ≠ 1; omega)]
      have hj : cs.length - 1 - (cs.length - 1 - i) = i := by omega
      have hc : cs[cs.length - 1 - (cs.length - 1 - i)]'(by omega) = cs[i] := by congr 1
      rw [hc]
      have hkk : cs[i].2 = t.kind := hf t.s _ _ (by rw [← he]; exact List.getElem_mem hi) hm
      conv => rhs; rw [(const_node9 t ha.1 h2).1]
      show (⟨2, 0, cs[i].1, cs[i].2, [], []⟩ : Con) = ⟨2, 0, t.s, t.kind, [], []⟩
      rw [he, hkk]
  by_cases h1 : t.op = 1
  · have hl := leaf_none t ha.1 (.inl h1)
    rw [bindC_var _ d t h1, hln]
    by_cases hn : d ≤ t.n
    · rw [if_pos hn]
      refine ⟨?_, fun l => by rw [putC_node _ l (by show (1 : Int) ≠ 2; omega)]; rfl⟩
      rw [Con.subst_var _ _ _ rfl]
      show (if t.n + (cs.length : Int) < d then _ else if t.n + (cs.length : Int) - d < ((unb cs).length : Int) then _ else Con.var (t.n + (cs.length : Int) - ((unb cs).length : Int))) = t
      rw [if_neg (by omega), unb_len, if_neg (by omega), Int.add_sub_cancel]
      exact (clean_node t ha.1 h1).symm
    · rw [if_neg hn]
      refine ⟨?_, fun l => by rw [putC_node _ l h2, hl]; rfl⟩
      rw [Con.subst_var _ _ _ h1, if_pos (by omega)]
  · rw [bindC_node _ d t h1 h2]
    have hi : ∀ m, (Con.inside t m).l = m := fun _ => rfl
    have ho : ∀ m, (Con.inside t m).op = t.op := fun _ => rfl
    refine ⟨?_, fun l => ?_⟩
    · rw [Con.subst_node _ _ _ (by rw [ho]; exact h1), hi, ho, List.map_map]
      have hmap : t.l.map ((fun x => Con.subst (unb cs) x (Con.deep t.op d)) ∘ (fun x => Con.bindC (cs.map (·.1)) x (Con.deep t.op d))) = t.l := by
        conv => rhs; rw [← List.map_id t.l]
        exact List.map_congr_left (fun x hx => (ih x hx _ (Con.deep t.op e) (by have := (Con.deep_le t.op d).1; omega) (ha.2 x hx) (fun y hyy => hy y (csts_node9 t x e hx y hyy))).1)
      rw [hmap]
      exact Con.inside_self t
    · rw [putC_node _ l (by rw [ho]; exact h2), hi, List.foldl_map]
      have : ∀ (m : List Con) (l : List (ByteArray × K)), (∀ x ∈ m, ∀ l, Con.putC (Con.bindC (cs.map (·.1)) x (Con.deep t.op d)) l = l) → m.foldl (fun a x => Con.putC (Con.bindC (cs.map (·.1)) x (Con.deep t.op d)) a) l = l := by
        intro m
        induction m with
        | nil => intro l _; rfl
        | cons x r ihr =>
          intro l h
          rw [List.foldl_cons, h x List.mem_cons_self l]
          exact ihr _ (fun y hy => h y (List.mem_cons_of_mem _ hy))
      exact this t.l l (fun x hx l => (ih x hx _ (Con.deep t.op e) (by have := (Con.deep_le t.op d).1; omega) (ha.2 x hx) (fun y hyy => hy y (csts_node9 t x e hx y hyy))).2 l)
/-- what Bind and Unbind make of the constants that Consts finds -/
theorem binds_plain (t : Con) (hv : Con.validB t = true) (hc : Con.consB t = true) :
    Con.consL t = Con.putC t [] ∧ (Con.consL t).length ≤ t.size ∧ ((Con.consL t).map (·.1)).all (fun s => Pl.cname s.toList) = true ∧ (Con.consL t).all cstB = true ∧ ((Con.consL t).map (·.1)).Nodup ∧ Func (Con.consL t) ∧ (∀ y ∈ Con.cstsOf t, y ∈ Con.consL t) ∧
    Con.subst (unb (Con.consL t)) (Con.bindC ((Con.consL t).map (·.1)) t 0) 0 = t ∧ Con.putC (Con.bindC ((Con.consL t).map (·.1)) t 0) [] = [] := by
  have ha := valid_all t hv
  have hd : distB (Con.putC t []) = true := hc
  have e0 : Con.consL t = Con.putC t [] := by unfold Con.consL; rw [if_pos hd]
  have e1 := putC_cput t ha
  have hF : Func (Con.cstsOf t) := by rw [e1] at hd; exact (distB_func _).1 hd
  have hm : ∀ y, y ∈ Con.consL t ↔ y ∈ Con.cstsOf t := fun y => by rw [e0, e1]; exact cput_mem _ y
  have hok : (Con.consL t).all cstB = true := List.all_eq_true.2 (fun y hy => csts_ok9 t 0 ha y ((hm y).1 hy))
  have hfc : Func (Con.consL t) := fun s k k' h h' => hF s k k' ((hm _).1 h) ((hm _).1 h')
  have hu := unb_bind9 (Con.consL t) hfc t 0 0 (Int.le_refl _) ha (fun y hy => (hm y).2 hy)
  refine ⟨e0, ?_, ?_, hok, ?_, hfc, fun y hy => (hm y).2 hy, hu.1, hu.2 []⟩
  · rw [e0]; have := putC_len t []; simpa using this
  · rw [List.all_map, List.all_eq_true]
    intro y hy
    have := List.all_eq_true.1 hok y hy
    unfold cstB at this
    rw [Bool.and_eq_true] at this
    exact this.1
  · rw [e0, e1]
    unfold List.Nodup
    rw [List.pairwise_map]
    exact (cput_strict hF).imp (fun {a b} h e => by rw [e] at h; exact List.lt_irrefl _ h)
end Go.Proofs.YtpkgiemdnfbopaaGreat
namespace Go.Proofs.YtpkgiemdnfbopaaGreat
open Go Go.RowKit
open Pl (K Con)
set_option linter.unusedSimpArgs false
set_option linter.unusedVariables false

theorem exS_shape {w : World} {P : Nat → Prop} {v : Value} (h : ConV w P exS v) : ∃ sa sn sc sb sm sd se sk sf, v = .agg #[.int .i64 11, .int .i64 0, .string ByteArray.empty, .slice sa sn sc, .slice sb sm sd, .slice se sk sf] := by
  obtain ⟨ka, kn, kc, na, nn, nc, la, ln, lc, rfl, -, -, -⟩ := h.shape
  exact ⟨ka, kn, kc, na, nn, nc, la, ln, lc, rfl⟩
theorem exX_shape {w : World} {P : Nat → Prop} {v : Value} (h : ConV w P exX v) : ∃ sa sn sc sb sm sd se sk sf, v = .agg #[.int .i64 11, .int .i64 0, .string ByteArray.empty, .slice sa sn sc, .slice sb sm sd, .slice se sk sf] := by
  obtain ⟨ka, kn, kc, na, nn, nc, la, ln, lc, rfl, -, -, -⟩ := h.shape
  exact ⟨ka, kn, kc, na, nn, nc, la, ln, lc, rfl⟩
set_option maxRecDepth 100000 in
set_option maxHeartbeats 4000000 in
theorem awake9 : Awake9 := by
  intro w
  have HVR := Lib.hid (fun n W => rvar_any n W)
  have HA0 := Lib.hid (fun W => rapp_any (vr 0) (vr 1) W _ _ (conV_leaf 1 0 W _) (conV_leaf 1 1 W _))
  have HBO := Lib.hid (fun W t v (h : ConV W (· < W.heap.size) t v) => rbound_any t W v h)
  have HFR := Lib.hid (fun W v (h : ConV W (· < W.heap.size) exC v) => (show Calls Tryz.prog 43 #[v] W (FreeP ([0], 0) W) from ex_free ▸ cfree_any exC W v h))
  have HSH := Lib.hid (fun W v (h : ConV W (· < W.heap.size) exC v) => (show Calls Tryz.prog 44 #[v, .int .i64 2, .int .i64 0] W (OutP (exS, 0) W) from ex_shift ▸ cshift_any exC 2 0 W v h (by omega) (by omega) (by omega) (by omega)))
  have HSU := Lib.hid (fun W v x (h : ConV W (· < W.heap.size) exC v) (hl : ConSl W (· < W.heap.size) x [cint]) => (show Calls Tryz.prog 45 #[v, x] W (OutP (exX, 0) W) from ex_subst ▸ csubst_any exC [cint] W v x h hl))
  go_enter Tryz.func6, Tryz.ntmps6
  go_wp2_with fail
  refine (HVR.out _ _).mono ?_
  rintro e w1 ⟨rfl, hb1⟩
  have HB := Lib.hid hb1
  clear hb1
  go_wp2_with fail
  refine (HVR.out _ _).mono ?_
  rintro e w2 ⟨rfl, hb2⟩
  replace HB := Lib.hid (belowStep hb2 HB.out)
  clear hb2
  go_wp2_with fail
  refine (HA0.out _).mono ?_
  rintro e w3 ⟨⟨ga, rfl, ha⟩, hb3⟩
  replace HB := Lib.hid (belowStep hb3 HB.out)
  clear hb3
  have HBX := Lib.hid (HBO.out _ _ _ ha)
  clear ha
  go_wp2_with fail
  refine HBX.out.mono ?_
  rintro e w4 ⟨⟨gl, rfl, hc⟩, hb4⟩
  replace HB := Lib.hid (belowStep hb4 HB.out)
  obtain ⟨h1, hbx⟩ := boxN_new w4 28 #[.int .i64 11, .int .i64 0, .string ByteArray.empty, .slice none 0 0, .slice none 0 0, .slice (some ⟨gl, 0, none⟩) 1 1]
  have HC := Lib.hid ((show ConV w4 (· < w4.heap.size) exC _ from hc).grow hbx)
  have H1 := Lib.hid h1
  have HB5 := Lib.hid (belowStep hbx HB.out)
  have c0 := h1.cell 0 (.int .i64 11) rfl
  have c1 := h1.cell 1 (.int .i64 0) rfl
  have c2 := h1.cell 2 (.string ByteArray.empty) rfl
  have c3 := h1.cell 3 (.slice none 0 0) rfl
  have c4 := h1.cell 4 (.slice none 0 0) rfl
  have c5 := h1.cell 5 (.slice (some ⟨gl, 0, none⟩) 1 1) rfl
  clear hb4 h1 hbx hc HBX
  go_wp2_with fail
  clear c0 c1 c2 c3 c4 c5
  generalize w4.alloc (.cells #[.int .i64 11, .int .i64 0, .string ByteArray.empty, .slice none 0 0, .slice none 0 0, .slice (some ⟨gl, 0, none⟩) 1 1] 28) = w5 at *
  generalize w4.heap.size = G1 at *
  refine (HFR.out _ _ HC.out).mono ?_
  rintro e w6 ⟨⟨y, rfl, hy⟩, hb6⟩
  obtain ⟨gr, cr, rfl⟩ : ∃ g cap, y = .slice (some ⟨g, 0, none⟩) 1 cap := by
    rcases hy.2 with ⟨_, h⟩ | ⟨g, cap, _, h, _⟩
    · cases h
    · exact ⟨g, cap, h⟩
  have hrow : gr < w6.heap.size ∧ w6.cell? ⟨gr, 0, none⟩ = some (.int .i64 0) := ⟨(hy.lt gr rfl).2, hy.cells rfl 0 _ rfl⟩
  have HROW := Lib.hid hrow
  replace HC := Lib.hid (HC.out.grow hb6)
  replace H1 := Lib.hid (H1.out.of_eq (hb6.block _ H1.out.lt))
  have HB6 := Lib.hid (belowStep hb6 HB5.out)
  have c0 := H1.out.cell 0 (.int .i64 11) rfl
  have c1 := H1.out.cell 1 (.int .i64 0) rfl
  have c2 := H1.out.cell 2 (.string ByteArray.empty) rfl
  have c3 := H1.out.cell 3 (.slice none 0 0) rfl
  have c4 := H1.out.cell 4 (.slice none 0 0) rfl
  have c5 := H1.out.cell 5 (.slice (some ⟨gl, 0, none⟩) 1 1) rfl
  clear hy hb6 hrow
  go_wp2_with fail
  clear c0 c1 c2 c3 c4 c5
  refine (HSH.out _ _ HC.out).mono ?_
  rintro e w7 ⟨⟨y, rfl, hy⟩, hb7⟩
  obtain ⟨sa, sn, sc, sb, sm, sd, se, sk, sf, rfl⟩ := exS_shape hy
  obtain ⟨h4, hbx⟩ := boxN_new w7 28 #[.int .i64 11, .int .i64 0, .string ByteArray.empty, .slice sa sn sc, .slice sb sm sd, .slice se sk sf]
  have hb8 := belowStep hbx hb7
  replace HC := Lib.hid (HC.out.grow hb8)
  replace H1 := Lib.hid (H1.out.of_eq (hb8.block _ H1.out.lt))
  replace HROW := Lib.hid (show gr < (w7.alloc (.cells #[.int .i64 11, .int .i64 0, .string ByteArray.empty, .slice sa sn sc, .slice sb sm sd, .slice se sk sf] 28)).heap.size ∧ (w7.alloc (.cells #[.int .i64 11, .int .i64 0, .string ByteArray.empty, .slice sa sn sc, .slice sb sm sd, .slice se sk sf] 28)).cell? ⟨gr, 0, none⟩ = some (.int .i64 0) from ⟨Nat.lt_of_lt_of_le HROW.out.1 hb8.size, (hb8.cell (p := ⟨gr, 0, none⟩) HROW.out.1).trans HROW.out.2⟩)
  have HYS := Lib.hid ((show ConV w7 (· < w7.heap.size) exS _ from hy).grow hbx)
  have H4 := Lib.hid h4
  have HB8 := Lib.hid (belowStep hb8 HB6.out)
  have c0 := H1.out.cell 0 (.int .i64 11) rfl
  have c1 := H1.out.cell 1 (.int .i64 0) rfl
  have c2 := H1.out.cell 2 (.string ByteArray.empty) rfl
  have c3 := H1.out.cell 3 (.slice none 0 0) rfl
  have c4 := H1.out.cell 4 (.slice none 0 0) rfl
  have c5 := H1.out.cell 5 (.slice (some ⟨gl, 0, none⟩) 1 1) rfl
  have d0 := h4.cell 0 (.int .i64 11) rfl
  have d1 := h4.cell 1 (.int .i64 0) rfl
  have d2 := h4.cell 2 (.string ByteArray.empty) rfl
  have d3 := h4.cell 3 (.slice sa sn sc) rfl
  have d4 := h4.cell 4 (.slice sb sm sd) rfl
  have d5 := h4.cell 5 (.slice se sk sf) rfl
  clear hy hb7 hbx h4 hb8
  go_wp2_with fail
  clear c0 c1 c2 c3 c4 c5 d0 d1 d2 d3 d4 d5
  obtain ⟨hq, hbq⟩ := boxN_new (w7.alloc (.cells #[.int .i64 11, .int .i64 0, .string ByteArray.empty, .slice sa sn sc, .slice sb sm sd, .slice se sk sf] 28)) 28 #[.int .i64 4, .int .i64 0, .string ⟨#[]⟩, .slice none 0 0, .slice none 0 0, .slice none 0 0]
  rw [size_alloc] at hq
  have HL := Lib.hid (cons_one (P := fun q => q < ((w7.alloc (.cells #[.int .i64 11, .int .i64 0, .string ByteArray.empty, .slice sa sn sc, .slice sb sm sd, .slice se sk sf] 28)).alloc (.cells #[.int .i64 4, .int .i64 0, .string ⟨#[]⟩, .slice none 0 0, .slice none 0 0, .slice none 0 0] 28)).heap.size) hq hq.lt (conV_leaf 4 0 _ _))
  replace HC := Lib.hid (HC.out.grow hbq)
  replace HYS := Lib.hid (HYS.out.grow hbq)
  replace H1 := Lib.hid (H1.out.of_eq (hbq.block _ H1.out.lt))
  replace H4 := Lib.hid (H4.out.of_eq (hbq.block _ H4.out.lt))
  replace HROW := Lib.hid (And.intro (Nat.lt_of_lt_of_le HROW.out.1 hbq.size) ((hbq.cell (p := ⟨gr, 0, none⟩) HROW.out.1).trans HROW.out.2))
  replace HB8 := Lib.hid (belowStep hbq HB8.out)
  clear hq hbq
  generalize ((w7.alloc (.cells #[.int .i64 11, .int .i64 0, .string ByteArray.empty, .slice sa sn sc, .slice sb sm sd, .slice se sk sf] 28)).alloc (.cells #[.int .i64 4, .int .i64 0, .string ⟨#[]⟩, .slice none 0 0, .slice none 0 0, .slice none 0 0] 28)) = w8 at *
  generalize w7.heap.size = G4 at *
  refine (HSU.out _ _ _ HC.out HL.out).mono ?_
  rintro e w9 ⟨⟨y, rfl, hy⟩, hb9⟩
  obtain ⟨xa, xn, xc, xb, xm, xd, xe, xk, xf, rfl⟩ := exX_shape hy
  obtain ⟨h6, hbx⟩ := boxN_new w9 28 #[.int .i64 11, .int .i64 0, .string ByteArray.empty, .slice xa xn xc, .slice xb xm xd, .slice xe xk xf]
  have hbA := belowStep hbx hb9
  have HYX := Lib.hid ((show ConV w9 (· < w9.heap.size) exX _ from hy).grow hbx)
  replace HYS := Lib.hid (HYS.out.grow hbA)
  replace H4 := Lib.hid (H4.out.of_eq (hbA.block _ H4.out.lt))
  have H6 := Lib.hid h6
  have HRW := Lib.hid (And.intro (Nat.lt_of_lt_of_le HROW.out.1 hbA.size) ((hbA.cell (p := ⟨gr, 0, none⟩) HROW.out.1).trans HROW.out.2))
  have HBA := Lib.hid (belowStep hbA HB8.out)
  have d0 := h6.cell 0 (.int .i64 11) rfl
  have d1 := h6.cell 1 (.int .i64 0) rfl
  have d2 := h6.cell 2 (.string ByteArray.empty) rfl
  have d3 := h6.cell 3 (.slice xa xn xc) rfl
  have d4 := h6.cell 4 (.slice xb xm xd) rfl
  have d5 := h6.cell 5 (.slice xe xk xf) rfl
  clear hy hb9 hbx h6 hbA HROW HL HC H1
  go_wp2_with fail
  clear d0 d1 d2 d3 d4 d5
  generalize w9.alloc (.cells #[.int .i64 11, .int .i64 0, .string ByteArray.empty, .slice xa xn xc, .slice xb xm xd, .slice xe xk xf] 28) = wA at *
  generalize w9.heap.size = G6 at *
  have HD0 := Lib.hid (Below.refl wA.heap.size wA).drew
  have HSS := Lib.hid (fun W (hW : Below wA.heap.size wA W) => (show Below w.heap.size w W ∧ W.cell? ⟨G4, 0, none⟩ = some (.int .i64 11) ∧ W.cell? ⟨G4, 1, none⟩ = some (.int .i64 0) ∧ W.cell? ⟨G4, 2, none⟩ = some (.string ByteArray.empty) ∧ W.cell? ⟨G4, 3, none⟩ = some (.slice sa sn sc) ∧ W.cell? ⟨G4, 4, none⟩ = some (.slice sb sm sd) ∧ W.cell? ⟨G4, 5, none⟩ = some (.slice se sk sf) ∧ W.cell? ⟨G6, 0, none⟩ = some (.int .i64 11) ∧ W.cell? ⟨G6, 1, none⟩ = some (.int .i64 0) ∧ W.cell? ⟨G6, 2, none⟩ = some (.string ByteArray.empty) ∧ W.cell? ⟨G6, 3, none⟩ = some (.slice xa xn xc) ∧ W.cell? ⟨G6, 4, none⟩ = some (.slice xb xm xd) ∧ W.cell? ⟨G6, 5, none⟩ = some (.slice xe xk xf) from by
    have h := H4.out.of_eq (hW.block _ H4.out.lt)
    have h2 := H6.out.of_eq (hW.block _ H6.out.lt)
    exact ⟨belowStep hW HBA.out, h.cell 0 _ rfl, h.cell 1 _ rfl, h.cell 2 _ rfl, h.cell 3 _ rfl, h.cell 4 _ rfl, h.cell 5 _ rfl, h2.cell 0 _ rfl, h2.cell 1 _ rfl, h2.cell 2 _ rfl, h2.cell 3 _ rfl, h2.cell 4 _ rfl, h2.cell 5 _ rfl⟩))
  have HEQ := Lib.hid (fun W (hW : Below wA.heap.size wA W) b (hb : Blk W b 3 #[.int .i64 0]) => (Tryz.slices_Equal_int gr 0 1 cr b 0 1 1 [0] [0] W (by simp) (by simp) (by omega) (by omega) (fun j hj => by
      have hj : j = 0 := by simp at hj; omega
      subst hj
      exact (hW.cell (p := ⟨gr, 0, none⟩) HRW.out.1).trans HRW.out.2) (fun j hj => by
      have hj : j = 0 := by simp at hj; omega
      subst hj
      exact hb.cell 0 _ rfl)).mono (R' := fun e w' => e = .returned (.bool true) ∧ Below W.heap.size W w') (by
    rintro e w' ⟨rfl, q, rfl⟩
    exact ⟨rfl, ⟨rfl, rfl, rfl, Nat.le_refl _, fun _ _ => rfl⟩⟩))
  have HA3 := Lib.hid (fun W => rapp_any (vr 0) (vr 3) W _ _ (conV_leaf 1 0 W _) (conV_leaf 1 3 W _))
  have HA4 := Lib.hid (fun W => rapp_any (vr 0) cint W _ (.agg #[.int .i64 4, .int .i64 0, .string ⟨#[]⟩, .slice none 0 0, .slice none 0 0, .slice none 0 0]) (conV_leaf 1 0 W _) (conV_leaf 4 0 W _))
  have HS1 := Lib.hid (fun W x (hW : Below wA.heap.size wA W) (hx : ConV W (· < W.heap.size) (lam (ap (vr 0) (vr 3))) x) => rsameB_any _ _ exS exS W _ x (fun _ h => h) (fun _ h => h) (HYS.out.grow hW) hx)
  have HS2 := Lib.hid (fun W x (hW : Below wA.heap.size wA W) (hx : ConV W (· < W.heap.size) (lam (ap (vr 0) cint)) x) => rsameB_any _ _ exX exX W _ x (fun _ h => h) (fun _ h => h) (HYX.out.grow hW) hx)
  rw [sameB_self] at HS1 HS2
  go_region_held3 (fun W => Below w.heap.size w W ∧ W.cell? ⟨G4, 0, none⟩ = some (.int .i64 11) ∧ W.cell? ⟨G4, 1, none⟩ = some (.int .i64 0) ∧ W.cell? ⟨G4, 2, none⟩ = some (.string ByteArray.empty) ∧ W.cell? ⟨G4, 3, none⟩ = some (.slice sa sn sc) ∧ W.cell? ⟨G4, 4, none⟩ = some (.slice sb sm sd) ∧ W.cell? ⟨G4, 5, none⟩ = some (.slice se sk sf) ∧ W.cell? ⟨G6, 0, none⟩ = some (.int .i64 11) ∧ W.cell? ⟨G6, 1, none⟩ = some (.int .i64 0) ∧ W.cell? ⟨G6, 2, none⟩ = some (.string ByteArray.empty) ∧ W.cell? ⟨G6, 3, none⟩ = some (.slice xa xn xc) ∧ W.cell? ⟨G6, 4, none⟩ = some (.slice xb xm xd) ∧ W.cell? ⟨G6, 5, none⟩ = some (.slice xe xk xf))
    (first | (exact HSS.out _ (by with_reducible (repeat (first | assumption | exact Below.refl _ _ | exact HD0.out | refine Below.drew ?_ | refine below_new ?_)))) | fail)
    (first
    | (go_at_call 46; (with_reducible refine Calls.mono (HEQ.out _ ?_ _ ?_) ?_); (focus with_reducible (repeat (first | assumption | exact Below.refl _ _ | exact HD0.out | refine Below.drew ?_ | refine below_new ?_))); (focus exact blk_new _ _ _); rintro e wq1 ⟨rfl, hbq1⟩; have hbw1 := belowStep (a := wA) hbq1 (by with_reducible (repeat (first | assumption | exact Below.refl _ _ | exact HD0.out | refine Below.drew ?_ | refine below_new ?_))))
    | (go_at_call 42; (with_reducible refine (HVR.out _ _).mono ?_); rintro e wq2 ⟨rfl, hbq2⟩; have hbw2 := belowStep (a := wA) hbq2 (by with_reducible (repeat (first | assumption | exact Below.refl _ _ | exact HD0.out | refine Below.drew ?_ | refine below_new ?_))))
    | (go_at_call 41; (with_reducible refine (HA3.out _).mono ?_); rintro e wq3 ⟨⟨gp, rfl, hap⟩, hbq3⟩; have hbw3 := belowStep (a := wA) hbq3 (by with_reducible (repeat (first | assumption | exact Below.refl _ _ | exact HD0.out | refine Below.drew ?_ | refine below_new ?_))))
    | (go_at_call 41; (with_reducible refine (HA4.out _).mono ?_); rintro e wq4 ⟨⟨gp2, rfl, hap2⟩, hbq4⟩; have hbw4 := belowStep (a := wA) hbq4 (by with_reducible (repeat (first | assumption | exact Below.refl _ _ | exact HD0.out | refine Below.drew ?_ | refine below_new ?_))))
    | (go_at_call 40; (with_reducible refine (HBO.out _ _ _ (by assumption)).mono ?_); rintro e wq5 ⟨⟨gm, rfl, hlm⟩, hbq5⟩; have hbw5 := belowStep (a := wA) hbq5 (by with_reducible (repeat (first | assumption | exact Below.refl _ _ | exact HD0.out | refine Below.drew ?_ | refine below_new ?_))))
    | (go_at_call 27; (with_reducible refine (HS1.out _ _ (by assumption) (by assumption)).mono ?_); rintro e wq6 ⟨rfl, hbq6⟩; have hbw6 := belowStep (a := wA) hbq6 (by with_reducible (repeat (first | assumption | exact Below.refl _ _ | exact HD0.out | refine Below.drew ?_ | refine below_new ?_))))
    | (go_at_call 27; (with_reducible refine (HS2.out _ _ (by assumption) (by assumption)).mono ?_); rintro e wq7 ⟨rfl, hbq7⟩; have hbw7 := belowStep (a := wA) hbq7 (by with_reducible (repeat (first | assumption | exact Below.refl _ _ | exact HD0.out | refine Below.drew ?_ | refine below_new ?_))))
    | fail)
  go_wp2
  go_ret
  exact ⟨rfl, belowStep hbw7 HBA.out⟩
end Go.Proofs.YtpkgiemdnfbopaaGreat
namespace Go.Proofs.YtpkgiemdnfbopaaGreat
open Go Go.RowKit
open Pl (K Con)
set_option linter.unusedSimpArgs false
set_option linter.unusedVariables false

theorem CstSl.grow9 {w w' : World} {v : Value} {cs : List (ByteArray × K)} (h : CstSl w (· < w.heap.size) v cs) (hb : Below w.heap.size w w') : CstSl w' (· < w'.heap.size) v cs := (h.keep (Same.of_below hb (fun _ h => h))).mono (fun _ h => Nat.lt_of_lt_of_le h hb.size)
theorem StrSl.grow9 {w w' : World} {v : Value} {zs : List ByteArray} (h : StrSl w (· < w.heap.size) v zs) (hb : Below w.heap.size w w') : StrSl w' (· < w'.heap.size) v zs := (h.keep (Same.of_below hb (fun _ h => h))).mono (fun _ h => Nat.lt_of_lt_of_le h hb.size)
theorem cst_valid9 (c : ByteArray × K) : Con.validB (cst c) = cstB c := by
  cases h : cstB c
  · cases h2 : Con.validB (cst c)
    · rfl
    · have h3 := valid_all _ h2
      rw [allB_eq, Bool.and_eq_true] at h3
      have h4 := (const_node9 (cst c) h3.1 rfl).2
      rw [← h]
      exact h4.symm
  · have h3 := cst_all c h
    unfold Con.validB Con.small
    rw [h3]
    have e1 : (cst c).size = 1 := by rw [Con.size_eq]; rfl
    have e2 : (cst c).depth = 1 := by rw [Con.depth_eq]; rfl
    rw [e1, e2]
    rfl
/-- a constant of the list, there and as the law builds it -/
theorem csts_part9 {w : World} {v : Value} {cs : List (ByteArray × K)} (h : CstSl w (· < w.heap.size) v cs) (k : Nat) (hk : k < cs.length) : ∃ b off c ka kn kc, v = .slice (some ⟨b, off, none⟩) cs.length c ∧ cs[k].1.size ≤ maxLen ∧
    ∀ W, Below w.heap.size w W → W.cell? ⟨b, off + k * 2, none⟩ = some (.string cs[k].1) ∧ W.cell? ⟨b, off + k * 2 + 1, none⟩ = some (.slice ka kn kc) ∧ ConV W (· < W.heap.size) (cst cs[k]) (.agg #[.int .i64 2, .int .i64 0, .string cs[k].1, .slice ka kn kc, .slice none 0 0, .slice none 0 0]) := by
  obtain ⟨b, off, c, ka, kn, kc, e1, hb, hs, f0, f1, hk2⟩ := h.part k hk
  refine ⟨b, off, c, ka, kn, kc, e1, hs, fun W hW => ⟨(cell_same (hW.block _ hb)).trans f0, (cell_same (hW.block _ hb)).trans f1, ?_⟩⟩
  have hk3 := (hk2.keep (Same.of_below hW (fun _ h => h))).mono (fun _ h => Nat.lt_of_lt_of_le h hW.size)
  rw [conV_iff]
  exact ⟨hs, _, _, _, rfl, hk3, ⟨none, 0, rfl, Nat.le_refl _, Nat.zero_le _, fun _ => rfl, (fun z hz => by simp [cst] at hz), .inl rfl⟩, none, 0, rfl, Nat.le_refl _, Nat.zero_le _, fun _ => rfl, .inl rfl⟩
/-- something of the list, or of the constructor, is bad -/
def badN (vb : Bool) (cs : List (ByteArray × K)) : Bool := !(vb && cs.all cstB)
theorem badN_nil (vb : Bool) : badN vb [] = !vb := by unfold badN; simp
theorem badN_snoc (vb : Bool) (cs : List (ByteArray × K)) (c : ByteArray × K) : badN vb (cs ++ [c]) = (badN vb cs || !cstB c) := by
  unfold badN
  rw [List.all_append]
  cases vb <;> cases cs.all cstB <;> simp
theorem badN_true {vb : Bool} {cs : List (ByteArray × K)} (h : badN vb cs = true) : (vb && cs.all cstB) = false := by
  unfold badN at h
  cases h2 : (vb && cs.all cstB)
  · rfl
  · rw [h2] at h; cases h
theorem badN_false {vb : Bool} {cs : List (ByteArray × K)} (h : badN vb cs = false) : (vb && cs.all cstB) = true := by
  unfold badN at h
  cases h2 : (vb && cs.all cstB)
  · rw [h2] at h; cases h
  · rfl
/-- what Bind answers, in words of the law -/
theorem bindOut_ways (t : Con) (names : List ByteArray) (u : Con) (uc : Int) (h : (u, uc) = bindOut t names) (n : Nat) (hn : n = names.length) :
    ((Con.validB t && names.all (fun s => Pl.cname s.toList)) = false → u = Con.none0 ∧ uc = 1) ∧
    ((Con.validB t && names.all (fun s => Pl.cname s.toList)) = true → 1000 < n → u = Con.none0 ∧ uc = 5) ∧
    ((Con.validB t && names.all (fun s => Pl.cname s.toList)) = true → ¬ 1000 < n → ¬ names.Nodup → u = Con.none0 ∧ uc = 9) ∧
    ((Con.validB t && names.all (fun s => Pl.cname s.toList)) = true → ¬ 1000 < n → names.Nodup → answerB u uc (Con.bindC names t 0) = true) := by
  subst hn
  rw [bindOut_eq] at h
  refine ⟨fun h1 => ?_, fun h1 h2 => ?_, fun h1 h2 h3 => ?_, fun h1 h2 h3 => ?_⟩
  · rw [h1, if_neg (by simp)] at h
    simpa using h
  · have e : idxCode names = 5 := by unfold idxCode; rw [if_pos h2]
    rw [if_pos h1, if_neg (by rw [e]; decide), e] at h
    simpa using h
  · have e : idxCode names = 9 := by unfold idxCode; rw [if_neg h2, if_neg h3]
    rw [if_pos h1, if_neg (by rw [e]; decide), e] at h
    simpa using h
  · have e : idxCode names = 0 := by unfold idxCode; rw [if_neg h2, if_pos h3]
    rw [if_pos h1, if_pos e] at h
    have h7 := answer_out (Con.bindC names t 0)
    rw [← h] at h7
    exact h7
/-- what Unbind answers, in words of the law -/
theorem unbindOut_ways (t : Con) (cs : List (ByteArray × K)) (u : Con) (uc : Int) (h : (u, uc) = unbindOut t cs) (n : Nat) (hn : n = cs.length) :
    ((Con.validB t && cs.all cstB) = false → u = Con.none0 ∧ uc = 1) ∧
    ((Con.validB t && cs.all cstB) = true → 1000 < n → u = Con.none0 ∧ uc = 5) ∧
    ((Con.validB t && cs.all cstB) = true → ¬ 1000 < n → ¬ (cs.map (·.1)).Nodup → u = Con.none0 ∧ uc = 9) ∧
    ((Con.validB t && cs.all cstB) = true → ¬ 1000 < n → (cs.map (·.1)).Nodup → u = Con.subst (unb cs) t 0 ∧ uc = 0) := by
  subst hn
  have hl : (cs.map (·.1)).length = cs.length := by rw [List.length_map]
  refine ⟨fun h1 => ?_, fun h1 h2 => ?_, fun h1 h2 h3 => ?_, fun h1 h2 h3 => ?_⟩
  · unfold unbindOut at h
    rw [h1, if_neg (by simp)] at h
    simpa using h
  · have e : idxCode (cs.map (·.1)) = 5 := by unfold idxCode; rw [if_pos (by rw [hl]; exact h2)]
    unfold unbindOut at h
    rw [if_pos h1, if_neg (by rw [e]; decide), e] at h
    simpa using h
  · have e : idxCode (cs.map (·.1)) = 9 := by unfold idxCode; rw [if_neg (by rw [hl]; exact h2), if_neg h3]
    unfold unbindOut at h
    rw [if_pos h1, if_neg (by rw [e]; decide), e] at h
    simpa using h
  · have e : idxCode (cs.map (·.1)) = 0 := by unfold idxCode; rw [if_neg (by rw [hl]; exact h2), if_pos h3]
    rw [Bool.and_eq_true] at h1
    rw [unbindOut_ok t cs h1.1 h1.2 e] at h
    simpa using h
end Go.Proofs.YtpkgiemdnfbopaaGreat
namespace Go.Proofs.YtpkgiemdnfbopaaGreat
open Go Go.RowKit Go.ChangeShapes Go.WideShapes Go.Deep
open Pl (K Con)
section
variable {H : Type} {enc : TypeId × Value → H} {W : World}
theorem cellsConst9 : Tryz.prog.cellsOf 36 = 2 := by kernel_rfl
set_option maxRecDepth 100000 in
theorem trod_const9 {spare : Nat → Bool} {held : Bool} (n : Nat) (cs : List Value) (x : DataW H × List MemPlace) (h : DataW.trod enc Tryz.prog W 0 spare held n 36 cs = some x) : ∃ (s : ByteArray) (k : K) (kv : Value), cs = [.string s, kv] ∧ s.size ≤ maxLen ∧ KidV W (· < W.heap.size) k kv := by
  obtain ⟨y0, y1, m, hm, hcs, k0, k1⟩ := trod_struct2 Tryz.underlying36 h
  rw [cellsConst9] at hcs
  match cs, hcs with
  | [v0, v1], _ =>
    simp only [cellsString, cellsKind, List.drop_succ_cons, List.drop_zero, List.take_succ_cons, List.take_zero] at k0 k1
    obtain ⟨s, e2, _, hs⟩ := DataW.trod_string Tryz.underlying9 k0
    obtain ⟨kd, kx, ekx, hkx⟩ := trod_kind _ _ _ k1
    injection ekx with ekx
    have ekx : v1 = kx := by simpa using ekx
    subst ekx
    injection e2 with e2 _
    subst e2
    exact ⟨s, kd, v1, rfl, hs, hkx⟩
set_option maxRecDepth 100000 in
/-- an argument that is a slice of constants -/
theorem open_csts {base : Nat} {v : Value} {d : DataW H} {ps : List MemPlace} (hval : Value.okWide Tryz.prog W .any base 29 v) (h : DataW.Trod enc Tryz.prog W 0 (fun _ => true) true 29 v d ps) : ∃ l, CstSl W (· < W.heap.size) v l := by
  obtain ⟨fuel, hf⟩ := h
  obtain ⟨a', n', c', rfl, _⟩ := okWide_slice Tryz.underlying29 hval
  rcases DataW.trod_slice Tryz.underlying29 hf with ⟨h1, _⟩ | ⟨a, len, cap, elems, rest, q, hq, h1, _, _, hl, hmx, hlen, hel, _⟩
  · injection h1 with h1 _
    exact ⟨[], none, 0, h1, Nat.le_refl _, Nat.zero_le _, fun _ => rfl, .inl rfl⟩
  · injection h1 with h1 _
    rw [h1]
    obtain ⟨b, off, spot⟩ := a
    have each : ∀ i, i < len → ∃ c : ByteArray × K, ∃ ka kn kc, c.1.size ≤ maxLen ∧ KidV W (· < W.heap.size) c.2 (.slice ka kn kc) ∧ W.cell? ((⟨b, off, spot⟩ : Addr).add (i * 2)) = some (.string c.1) ∧ W.cell? ((⟨b, off, spot⟩ : Addr).add (i * 2 + 1)) = some (.slice ka kn kc) := by
      intro i hi
      have g := hel i hi
      rw [cellsConst9] at g
      rw [List.getElem?_eq_getElem (by omega), Option.bind_eq_some_iff] at g
      obtain ⟨cs', g1, g2⟩ := g
      obtain ⟨_, hlen', hcell⟩ := World.cells?_some g1
      obtain ⟨s, k, kv, rfl, hs, hk⟩ := trod_const9 _ cs' _ g2
      obtain ⟨ka, kc, rfl⟩ := hk.form
      have f0 := hcell 0 (by simp)
      have f1 := hcell 1 (by simp)
      rw [Deep.add_add] at f0 f1
      exact ⟨(s, k), ka, _, kc, hs, hk, by simpa using f0, by simpa using f1⟩
    rcases Nat.eq_zero_or_pos len with h0 | hpos
    · subst h0
      exact ⟨[], _, cap, rfl, by simp, hmx, (fun h => by cases h), .inl rfl⟩
    · have hspot : spot = none := by
        obtain ⟨_, _, _, _, _, _, h, _⟩ := each 0 hpos
        simpa [Addr.add] using World.cell?_spot h
      subst hspot
      have hb : b < W.heap.size := by
        obtain ⟨_, _, _, _, _, _, h, _⟩ := each 0 hpos
        exact lt_of_cell h
      obtain ⟨T, hT⟩ := choose_lt each
      refine ⟨(List.range len).map T, _, cap, by simp, by simpa using hl, hmx, (fun h => by cases h), .inr ⟨b, off, rfl, hb, fun j hj => ?_⟩⟩
      have hj' : j < len := by simpa using hj
      obtain ⟨ka, kn, kc, h2, h3, g0, g1⟩ := hT j hj'
      rw [add_plain] at g0 g1
      rw [List.getElem_map, List.getElem_range]
      exact ⟨h2, ka, kn, kc, g0, g1, h3⟩
set_option maxRecDepth 100000 in
/-- an argument that is a slice of strings -/
theorem open_strs9 {base : Nat} {v : Value} {d : DataW H} {ps : List MemPlace} (hval : Value.okWide Tryz.prog W .any base 25 v) (h : DataW.Trod enc Tryz.prog W 0 (fun _ => true) true 25 v d ps) : ∃ l, StrSl W (· < W.heap.size) v l := by
  obtain ⟨fuel, hf⟩ := h
  obtain ⟨a, n, c, rfl, _⟩ := okWide_slice Tryz.underlying25 hval
  exact trod_strs hf
end
open Go.ChangeShapes Go.WideShapes Go.Deep in
set_option maxRecDepth 100000 in
/-- a list of constants reads as it did -/
theorem stay_csts {H : Type} {enc : TypeId × Value → H} {W W' : World} {v : Value} {d : DataW H} {ps : List MemPlace} (h : DataW.Trod enc Tryz.prog W 0 (fun _ => true) true 29 v d ps) (hb : Below W.heap.size W W') :
    DataW.Trod enc Tryz.prog W' 0 (fun b => decide (b < W.heap.size)) true 29 v d ps := by
  have hlt : ∀ p ∈ ps, p.block < W.heap.size := by
    obtain ⟨n, hn⟩ := h
    exact DataW.trod_lt n _ _ _ hn
  exact Go.WideElems.Trod_stays (by kernel_rfl) (by kernel_rfl) (of_decide_eq_true (by kernel_rfl)) h (fun p hp => below_same hb p (hlt p hp)) (fun p hp => decide_eq_true (hlt p hp))
end Go.Proofs.YtpkgiemdnfbopaaGreat
namespace Go.Proofs.YtpkgiemdnfbopaaGreat
open Go Go.RowKit
open Pl (K Con)
set_option linter.unusedSimpArgs false
set_option linter.unusedVariables false

set_option maxRecDepth 100000 in
set_option maxHeartbeats 8000000 in
theorem consts_walk (t : Con) (names : List ByteArray) (cs : List (ByteArray × K)) (w : World) (v nv lv : Value) (ht : ConV w (· < w.heap.size) t v) (hns : StrSl w (· < w.heap.size) nv names) (hcs : CstSl w (· < w.heap.size) lv cs) :
    Calls Tryz.prog 3 #[v, nv, lv] w fun e w' => e = .returned (.bool true) ∧ Below w.heap.size w w' := by
  have HA := Lib.hid awake9
  have HT := Lib.hid (fun W (hW : Below w.heap.size w W) => ht.grow hW)
  have HNS := Lib.hid (fun W (hW : Below w.heap.size w W) => hns.grow9 hW)
  have HCS9 := Lib.hid (fun W (hW : Below w.heap.size w W) => hcs.grow9 hW)
  have HSM := Lib.hid (fun W x' (hl : ConSl W (· < W.heap.size) x' [t]) => small_any (· < W.heap.size) [t] W x' (fun _ h => h) hl)
  have HNZ := Lib.hid (show ∀ z ∈ names, z.size ≤ maxLen from by obtain ⟨_, _, _, _, _, _, h, _⟩ := hns; exact h)
  have HF1 := Lib.hid (fun W (hW : Below w.heap.size w W) => containsS_any 9 #[] (fun _ _ => rfl) (fun s => decide (200 < s.size)) names (· < W.heap.size) W (fun _ h => h) (fun i hi W' hW' => by exact constsF1_any i W') nv (HNS.out W hW))
  have HF2 := Lib.hid (fun W (hW : Below w.heap.size w W) => containsC9_some 11 #[] (fun _ _ => rfl) cs (· < W.heap.size) W (fun _ h => h) (fun i hi W' hW' ka kn kc hs hk => by exact constsF2_any (· < W.heap.size) i W' ka kn kc (fun b h => Nat.lt_of_lt_of_le h hW'.size) hk) lv (HCS9.out W hW))
  have HF3 := Lib.hid (fun W (hW : Below w.heap.size w W) => containsS_any 19 #[] (fun _ _ => rfl) (fun s => !Pl.cname s.toList) names (· < W.heap.size) W (fun _ h => h) (fun i hi W' hW' => by exact constsF3_any i W' (HNZ.out i hi)) nv (HNS.out W hW))
  obtain ⟨n, hn⟩ : ∃ n, n = names.length := ⟨_, rfl⟩
  obtain ⟨m, hm⟩ : ∃ m, m = cs.length := ⟨_, rfl⟩
  obtain ⟨⟨l1, e1⟩, hco⟩ : ∃ z, z = consOut t := ⟨_, rfl⟩
  obtain ⟨⟨u, uc⟩, hbo⟩ : ∃ z, z = bindOut t names := ⟨_, rfl⟩
  obtain ⟨⟨x, xc⟩, huo⟩ : ∃ z, z = unbindOut t cs := ⟨_, rfl⟩
  have HCS := Lib.hid (fun W (hW : Below w.heap.size w W) => (show Calls Tryz.prog 13 #[v] W (fun e w' => (∃ y, e = .returned (.tuple #[y, .int .i64 e1]) ∧ CstSl w' (fun q => W.heap.size ≤ q ∧ q < w'.heap.size) y l1) ∧ Below W.heap.size W w') from by
    have h := cconsts_any t W v (HT.out W hW)
    rw [← hco] at h
    exact h))
  have HBI := Lib.hid (fun W (hW : Below w.heap.size w W) => (show Calls Tryz.prog 14 #[v, nv] W (fun e w' => (∃ y, e = .returned (.tuple #[y, .int .i64 uc]) ∧ ConV w' (fun q => W.heap.size ≤ q ∧ q < w'.heap.size) u y) ∧ Below W.heap.size W w') from by
    have h := cbind_new t names W v nv (HT.out W hW) (HNS.out W hW)
    rw [← hbo] at h
    exact h))
  have HUN := Lib.hid (fun W (hW : Below w.heap.size w W) (hml : m ≤ 1010) => (show Calls Tryz.prog 15 #[v, lv] W (fun e w' => (∃ y, e = .returned (.tuple #[y, .int .i64 xc]) ∧ ConV w' (fun q => W.heap.size ≤ q ∧ q < w'.heap.size) x y) ∧ Below W.heap.size W w') from by
    have h := cunbind_new t cs W v lv (HT.out W hW) (HCS9.out W hW) (by omega)
    rw [← huo] at h
    exact h))
  have HRV := Lib.hid (fun W (hW : Below w.heap.size w W) => rvalid9_any (· < W.heap.size) t W v (fun _ h => h) (HT.out W hW))
  have HRC := Lib.hid (fun W (hW : Below w.heap.size w W) (hs : Con.Small9 t) => (show Calls Tryz.prog 17 #[v] W (fun e w' => (∃ y, e = .returned (.tuple #[y, .bool (Con.consB t)]) ∧ CstSl w' (· < w'.heap.size) y (Con.consL t)) ∧ Below W.heap.size W w') from by
    refine (rConsts_any (· < W.heap.size) t W v (fun _ h => h) (HT.out W hW) (by have := size_le_wt t; unfold Con.Small9 at hs; omega)).mono ?_
    rintro e w' ⟨⟨y, rfl, hy⟩, hb⟩
    exact ⟨⟨y, rfl, hy.mono (fun q hq => hq.elim (fun h => Nat.lt_of_lt_of_le h hb.size) (fun h => h.2))⟩, hb⟩))
  have HSC := Lib.hid (fun W a b (ha : CstSl W (· < W.heap.size) a l1) (hb : CstSl W (· < W.heap.size) b (Con.consL t)) => (show Calls Tryz.prog 18 #[a, b] W (fun e w' => ∃ r : Bool, e = .returned (.bool r) ∧ (r = true ↔ l1 = Con.consL t) ∧ Below W.heap.size W w') from rsameC_any (· < W.heap.size) (· < W.heap.size) l1 (Con.consL t) W a b (fun _ h => h) (fun _ h => h) ha hb))
  have HCV := Lib.hid (show (Con.validB t = false → l1 = [] ∧ e1 = 1) ∧ (Con.validB t = true → Con.consB t = false → l1 = [] ∧ e1 = 11) ∧ (Con.validB t = true → Con.consB t = true → l1 = Con.consL t ∧ e1 = 0) from by
    unfold consOut at hco
    refine ⟨fun h => ?_, fun h h2 => ?_, fun h h2 => ?_⟩
    · rw [h, if_neg (by simp)] at hco; simpa using hco
    · rw [h, if_pos rfl, h2, if_neg (by simp)] at hco; simpa using hco
    · rw [h, if_pos rfl, h2, if_pos rfl] at hco; simpa using hco)
  have HBO := Lib.hid (bindOut_ways t names u uc hbo n hn)
  have HUO := Lib.hid (unbindOut_ways t cs x xc huo m hm)
  have HNO := Lib.hid (fun W (hW : Below w.heap.size w W) (hu : u = Con.none0) z (hz : ConV W (· < W.heap.size) u z) => (show Calls Tryz.prog 21 #[z] W (fun e w' => e = .returned (.bool true) ∧ Below W.heap.size W w') from by
    have h := none9_any (· < W.heap.size) u W z (fun _ h => h) hz
    rw [hu, sameB_self] at h
    exact h))
  have HNX := Lib.hid (fun W (hW : Below w.heap.size w W) (hu : x = Con.none0) z (hz : ConV W (· < W.heap.size) x z) => (show Calls Tryz.prog 21 #[z] W (fun e w' => e = .returned (.bool true) ∧ Below W.heap.size W w') from by
    have h := none9_any (· < W.heap.size) x W z (fun _ h => h) hz
    rw [hu, sameB_self] at h
    exact h))
  have HAN := Lib.hid (fun W yv (zv : Value) (hz : ConV W (· < W.heap.size) u zv) (hy : ConV W (· < W.heap.size) (Con.bindC names t 0) yv) => answer9_any (· < W.heap.size) (· < W.heap.size) u (Con.bindC names t 0) uc W zv yv (fun _ h => h) (fun _ h => h) hz hy)
  have HRB := Lib.hid (fun W (hW : Below w.heap.size w W) (hv : Con.validB t = true) (hl : n ≤ 1010) => (show Calls Tryz.prog 26 #[v, nv] W (fun e w' => (∃ y, e = .returned y ∧ ConV w' (· < w'.heap.size) (Con.bindC names t 0) y) ∧ Below W.heap.size W w') from by
    refine (rBind_any (· < W.heap.size) names (by omega) t (valid_all t hv) (by have := valid_depth t hv; omega) W v nv (fun _ h => h) (HT.out W hW) (HNS.out W hW)).mono ?_
    rintro e w' ⟨⟨y, rfl, hy⟩, hb⟩
    exact ⟨⟨y, rfl, hy.mono (fun q hq => hq.elim (fun h => Nat.lt_of_lt_of_le h hb.size) (fun h => h.2))⟩, hb⟩))
  have HRU := Lib.hid (fun W (hW : Below w.heap.size w W) (hv : Con.validB t = true) (hcb : cs.all cstB = true) (hl : m ≤ 1010) => (show Calls Tryz.prog 28 #[v, lv] W (fun e w' => (∃ y, e = .returned y ∧ ConV w' (· < w'.heap.size) (Con.subst (unb cs) t 0) y) ∧ Below W.heap.size W w') from by
    refine (rUnbind_any (· < W.heap.size) cs hcb (by omega) t (valid_all t hv) (by have := valid_depth t hv; omega) W v lv (fun _ h => h) (HT.out W hW) (HCS9.out W hW)).mono ?_
    rintro e w' ⟨⟨y, rfl, hy⟩, hb⟩
    exact ⟨⟨y, rfl, hy.mono (fun q hq => hq.elim (fun h => Nat.lt_of_lt_of_le h hb.size) (fun h => h.2))⟩, hb⟩))
  have HPT := Lib.hid (fun k (hk : k < cs.length) => csts_part9 hcs k hk)
  obtain ⟨na9, nc9, rfl, hcn1, hcn2, -⟩ := hns
  obtain ⟨ca9, cc9, rfl, hcc1, hcc2, -⟩ := hcs
  rw [← hn] at HF1 HF3 HNS HBI HRB ⊢
  rw [← hm] at HF2 HCS9 HUN HRU ⊢
  have hn63 : n ≤ 9223372036854775807 := by unfold maxLen at hcn2; omega
  have hm63 : m ≤ 9223372036854775807 := by unfold maxLen at hcc2; omega
  have HNn := Lib.hid hn
  have HMm := Lib.hid hm
  clear hco hbo huo hcc1 hcc2 hcn1 hcn2 hn hm
  obtain ⟨ka, kn, kc, na, nn, nc, la, ln, lc, rfl, -, -, -⟩ := ht.shape
  obtain ⟨hbx, hb⟩ := boxN_new w 28 #[.int .i64 t.op, .int .i64 t.n, .string t.s, .slice ka kn kc, .slice na nn nc, .slice la ln lc]
  have HB := Lib.hid hb
  have HBX := Lib.hid hbx
  clear hbx hb ht
  go_enter Tryz.func3, Tryz.ntmps3
  go_upto_region 1 with fail
  generalize w.alloc (.cells #[.int .i64 t.op, .int .i64 t.n, .string t.s, .slice ka kn kc, .slice na nn nc, .slice la ln lc] 28) = w2 at *
  go_cut [65] from 20 to 65 (fun s65 W => ∃ r : Bool, s65 = .bool r ∧ (r = false → Con.Small9 t ∧ n ≤ 1010 ∧ m ≤ 1010) ∧ Below w2.heap.size w2 W)
  case first =>
    have HK := Lib.hid HB.out
    have HK := Lib.hid (Below.refl w2.heap.size w2)
    go_wp2_with fail
    refine (HA.out _).mono ?_
    rintro e w3 ⟨rfl, hb⟩
    replace HBX := Lib.hid (HBX.out.of_eq (hb.block _ HBX.out.lt))
    replace HB := Lib.hid (belowStep hb HB.out)
    replace HK := Lib.hid (belowStep hb HK.out)
    clear hb
    have c0 := HBX.out.cell 0 (.int .i64 t.op) rfl
    have c1 := HBX.out.cell 1 (.int .i64 t.n) rfl
    have c2 := HBX.out.cell 2 (.string t.s) rfl
    have c3 := HBX.out.cell 3 (.slice ka kn kc) rfl
    have c4 := HBX.out.cell 4 (.slice na nn nc) rfl
    have c5 := HBX.out.cell 5 (.slice la ln lc) rfl
    go_wp2_with fail
    clear c0 c1 c2 c3 c4 c5
    obtain ⟨hbx, hb⟩ := boxN_new w3 28 #[.int .i64 t.op, .int .i64 t.n, .string t.s, .slice ka kn kc, .slice na nn nc, .slice la ln lc]
    have HONE := Lib.hid (cons_one (P := (· < (w3.alloc (.cells #[.int .i64 t.op, .int .i64 t.n, .string t.s, .slice ka kn kc, .slice na nn nc, .slice la ln lc] 28)).heap.size)) hbx hbx.lt (HT.out _ (belowStep hb HB.out)))
    replace HBX := Lib.hid (HBX.out.of_eq (hb.block _ HBX.out.lt))
    replace HB := Lib.hid (belowStep hb HB.out)
    replace HK := Lib.hid (belowStep hb HK.out)
    clear hbx hb
    generalize w3.alloc (.cells #[.int .i64 t.op, .int .i64 t.n, .string t.s, .slice ka kn kc, .slice na nn nc, .slice la ln lc] 28) = w4 at *
    refine (HSM.out _ _ HONE.out).mono ?_
    rintro e w5 ⟨⟨r, rfl, hsm⟩, hb⟩
    have HSMR := Lib.hid hsm
    replace HBX := Lib.hid (HBX.out.of_eq (hb.block _ HBX.out.lt))
    replace HB := Lib.hid (belowStep hb HB.out)
    replace HK := Lib.hid (belowStep hb HK.out)
    clear hb hsm HONE HSM
    cases r
    · go_wp2
      go_meet
      exact ⟨true, rfl, fun h => (by cases h), HK.out⟩
    have HSM9 := Lib.hid (HSMR.out rfl t List.mem_cons_self)
    clear HSMR
    by_cases h12 : n ≤ 12
    · have q1 : decide ((12 : Int) < (n : Int)) = false := decide_eq_false (by omega)
      have q2 : decide ((1010 : Int) < (n : Int)) = false := decide_eq_false (by omega)
      have HLn := Lib.hid (show n ≤ 1010 from by omega)
      clear h12
      by_cases h12 : m ≤ 12
      · have p1 : decide ((12 : Int) < (m : Int)) = false := decide_eq_false (by omega)
        have p2 : decide ((1010 : Int) < (m : Int)) = false := decide_eq_false (by omega)
        have HLm := Lib.hid (show m ≤ 1010 from by omega)
        clear h12
        go_wp2_with fail
        refine (HF1.out _ HB.out).mono ?_
        rintro e w6 ⟨rfl, hb⟩
        replace HBX := Lib.hid (HBX.out.of_eq (hb.block _ HBX.out.lt))
        replace HB := Lib.hid (belowStep hb HB.out)
        replace HK := Lib.hid (belowStep hb HK.out)
        clear hb
        cases names.any (fun s => decide (200 < s.size))
        rotate_left
        · go_wp2
          go_meet
          exact ⟨true, rfl, fun h => (by cases h), HK.out⟩
        go_wp2_with fail
        refine (HF2.out _ HB.out).mono ?_
        rintro e w7 ⟨⟨r, rfl⟩, hb⟩
        replace HBX := Lib.hid (HBX.out.of_eq (hb.block _ HBX.out.lt))
        replace HB := Lib.hid (belowStep hb HB.out)
        replace HK := Lib.hid (belowStep hb HK.out)
        clear hb
        cases r
        rotate_left
        · go_wp2
          go_meet
          exact ⟨true, rfl, fun h => (by cases h), HK.out⟩
        go_wp2
        go_meet
        exact ⟨false, rfl, fun _ => ⟨HSM9.out, HLn.out, HLm.out⟩, HK.out⟩
      have p1 : decide ((12 : Int) < (m : Int)) = true := decide_eq_true (by omega)
      by_cases h1000 : m ≤ 1000
      · have p2 : decide ((m : Int) ≤ 1000) = true := decide_eq_true (by omega)
        clear h12 h1000
        go_wp2
        go_meet
        exact ⟨true, rfl, fun h => (by cases h), HK.out⟩
      have p2 : decide ((m : Int) ≤ 1000) = false := decide_eq_false (by omega)
      by_cases h1010 : 1010 < m
      · have p3 : decide ((1010 : Int) < (m : Int)) = true := decide_eq_true (by omega)
        clear h12 h1000 h1010
        go_wp2
        go_meet
        exact ⟨true, rfl, fun h => (by cases h), HK.out⟩
      have p3 : decide ((1010 : Int) < (m : Int)) = false := decide_eq_false (by omega)
      have HLm := Lib.hid (show m ≤ 1010 from by omega)
      clear h12 h1000 h1010
      go_wp2_with fail
      refine (HF1.out _ HB.out).mono ?_
      rintro e w6 ⟨rfl, hb⟩
      replace HBX := Lib.hid (HBX.out.of_eq (hb.block _ HBX.out.lt))
      replace HB := Lib.hid (belowStep hb HB.out)
      replace HK := Lib.hid (belowStep hb HK.out)
      clear hb
      cases names.any (fun s => decide (200 < s.size))
      rotate_left
      · go_wp2
        go_meet
        exact ⟨true, rfl, fun h => (by cases h), HK.out⟩
      go_wp2_with fail
      refine (HF2.out _ HB.out).mono ?_
      rintro e w7 ⟨⟨r, rfl⟩, hb⟩
      replace HBX := Lib.hid (HBX.out.of_eq (hb.block _ HBX.out.lt))
      replace HB := Lib.hid (belowStep hb HB.out)
      replace HK := Lib.hid (belowStep hb HK.out)
      clear hb
      cases r
      rotate_left
      · go_wp2
        go_meet
        exact ⟨true, rfl, fun h => (by cases h), HK.out⟩
      go_wp2
      go_meet
      exact ⟨false, rfl, fun _ => ⟨HSM9.out, HLn.out, HLm.out⟩, HK.out⟩
    have q1 : decide ((12 : Int) < (n : Int)) = true := decide_eq_true (by omega)
    by_cases h1000 : n ≤ 1000
    · have q2 : decide ((n : Int) ≤ 1000) = true := decide_eq_true (by omega)
      clear h12 h1000
      go_wp2
      go_meet
      exact ⟨true, rfl, fun h => (by cases h), HK.out⟩
    have q2 : decide ((n : Int) ≤ 1000) = false := decide_eq_false (by omega)
    by_cases h1010 : 1010 < n
    · have q3 : decide ((1010 : Int) < (n : Int)) = true := decide_eq_true (by omega)
      clear h12 h1000 h1010
      go_wp2
      go_meet
      exact ⟨true, rfl, fun h => (by cases h), HK.out⟩
    have q3 : decide ((1010 : Int) < (n : Int)) = false := decide_eq_false (by omega)
    have HLn := Lib.hid (show n ≤ 1010 from by omega)
    clear h12 h1000 h1010
    by_cases h12 : m ≤ 12
    · have p1 : decide ((12 : Int) < (m : Int)) = false := decide_eq_false (by omega)
      have p2 : decide ((1010 : Int) < (m : Int)) = false := decide_eq_false (by omega)
      have HLm := Lib.hid (show m ≤ 1010 from by omega)
      clear h12
      go_wp2_with fail
      refine (HF1.out _ HB.out).mono ?_
      rintro e w6 ⟨rfl, hb⟩
      replace HBX := Lib.hid (HBX.out.of_eq (hb.block _ HBX.out.lt))
      replace HB := Lib.hid (belowStep hb HB.out)
      replace HK := Lib.hid (belowStep hb HK.out)
      clear hb
      cases names.any (fun s => decide (200 < s.size))
      rotate_left
      · go_wp2
        go_meet
        exact ⟨true, rfl, fun h => (by cases h), HK.out⟩
      go_wp2_with fail
      refine (HF2.out _ HB.out).mono ?_
      rintro e w7 ⟨⟨r, rfl⟩, hb⟩
      replace HBX := Lib.hid (HBX.out.of_eq (hb.block _ HBX.out.lt))
      replace HB := Lib.hid (belowStep hb HB.out)
      replace HK := Lib.hid (belowStep hb HK.out)
      clear hb
      cases r
      rotate_left
      · go_wp2
        go_meet
        exact ⟨true, rfl, fun h => (by cases h), HK.out⟩
      go_wp2
      go_meet
      exact ⟨false, rfl, fun _ => ⟨HSM9.out, HLn.out, HLm.out⟩, HK.out⟩
    have p1 : decide ((12 : Int) < (m : Int)) = true := decide_eq_true (by omega)
    by_cases h1000 : m ≤ 1000
    · have p2 : decide ((m : Int) ≤ 1000) = true := decide_eq_true (by omega)
      clear h12 h1000
      go_wp2
      go_meet
      exact ⟨true, rfl, fun h => (by cases h), HK.out⟩
    have p2 : decide ((m : Int) ≤ 1000) = false := decide_eq_false (by omega)
    by_cases h1010 : 1010 < m
    · have p3 : decide ((1010 : Int) < (m : Int)) = true := decide_eq_true (by omega)
      clear h12 h1000 h1010
      go_wp2
      go_meet
      exact ⟨true, rfl, fun h => (by cases h), HK.out⟩
    have p3 : decide ((1010 : Int) < (m : Int)) = false := decide_eq_false (by omega)
    have HLm := Lib.hid (show m ≤ 1010 from by omega)
    clear h12 h1000 h1010
    go_wp2_with fail
    refine (HF1.out _ HB.out).mono ?_
    rintro e w6 ⟨rfl, hb⟩
    replace HBX := Lib.hid (HBX.out.of_eq (hb.block _ HBX.out.lt))
    replace HB := Lib.hid (belowStep hb HB.out)
    replace HK := Lib.hid (belowStep hb HK.out)
    clear hb
    cases names.any (fun s => decide (200 < s.size))
    rotate_left
    · go_wp2
      go_meet
      exact ⟨true, rfl, fun h => (by cases h), HK.out⟩
    go_wp2_with fail
    refine (HF2.out _ HB.out).mono ?_
    rintro e w7 ⟨⟨r, rfl⟩, hb⟩
    replace HBX := Lib.hid (HBX.out.of_eq (hb.block _ HBX.out.lt))
    replace HB := Lib.hid (belowStep hb HB.out)
    replace HK := Lib.hid (belowStep hb HK.out)
    clear hb
    cases r
    rotate_left
    · go_wp2
      go_meet
      exact ⟨true, rfl, fun h => (by cases h), HK.out⟩
    go_wp2
    go_meet
    exact ⟨false, rfl, fun _ => ⟨HSM9.out, HLn.out, HLm.out⟩, HK.out⟩
  case rest =>
    obtain ⟨r, rfl, hsm, hb⟩ := hcut
    rename World => w5
    replace HBX := Lib.hid (HBX.out.of_eq (hb.block _ HBX.out.lt))
    replace HB := Lib.hid (belowStep hb HB.out)
    have HSMR := Lib.hid hsm
    clear hb hsm HSM HF1 HF2
    cases r
    rotate_left
    · go_wp2_with fail
      refine (HA.out _).mono ?_
      rintro e wx ⟨rfl, hbx⟩
      have HB6 := Lib.hid (belowStep hbx HB.out)
      clear hbx
      go_wp2
      go_ret
      exact ⟨rfl, HB6.out⟩
    have HSM9 := Lib.hid (HSMR.out rfl).1
    have HLn := Lib.hid (HSMR.out rfl).2.1
    have HLm := Lib.hid (HSMR.out rfl).2.2
    clear HA HSMR
    have c0 := HBX.out.cell 0 (.int .i64 t.op) rfl
    have c1 := HBX.out.cell 1 (.int .i64 t.n) rfl
    have c2 := HBX.out.cell 2 (.string t.s) rfl
    have c3 := HBX.out.cell 3 (.slice ka kn kc) rfl
    have c4 := HBX.out.cell 4 (.slice na nn nc) rfl
    have c5 := HBX.out.cell 5 (.slice la ln lc) rfl
    go_wp2_with fail
    clear c0 c1 c2 c3 c4 c5
    refine (HCS.out _ HB.out).mono ?_
    rintro e w6 ⟨⟨kv, rfl, hkv⟩, hb⟩
    have hlk := hkv
    obtain ⟨ka1, kc1, rfl, -, -, -, -⟩ := hlk
    replace HBX := Lib.hid (HBX.out.of_eq (hb.block _ HBX.out.lt))
    replace HB := Lib.hid (belowStep hb HB.out)
    have HKV := Lib.hid (hkv.mono (fun q hq => hq.2))
    clear hb hkv HCS
    have c0 := HBX.out.cell 0 (.int .i64 t.op) rfl
    have c1 := HBX.out.cell 1 (.int .i64 t.n) rfl
    have c2 := HBX.out.cell 2 (.string t.s) rfl
    have c3 := HBX.out.cell 3 (.slice ka kn kc) rfl
    have c4 := HBX.out.cell 4 (.slice na nn nc) rfl
    have c5 := HBX.out.cell 5 (.slice la ln lc) rfl
    go_wp2_with fail
    clear c0 c1 c2 c3 c4 c5
    refine (HBI.out _ HB.out).mono ?_
    rintro e w7 ⟨⟨z, rfl, hz⟩, hb⟩
    obtain ⟨uka, ukn, ukc, una, unn, unc, ula, uln, ulc, rfl, -, -, -⟩ := hz.shape
    replace HBX := Lib.hid (HBX.out.of_eq (hb.block _ HBX.out.lt))
    replace HKV := Lib.hid (HKV.out.grow9 hb)
    replace HB := Lib.hid (belowStep hb HB.out)
    have HUV := Lib.hid (hz.mono (fun q hq => hq.2))
    clear hb hz HBI
    obtain ⟨hbx, hb⟩ := boxN_new w7 28 #[.int .i64 u.op, .int .i64 u.n, .string u.s, .slice uka ukn ukc, .slice una unn unc, .slice ula uln ulc]
    replace HBX := Lib.hid (HBX.out.of_eq (hb.block _ HBX.out.lt))
    replace HUV := Lib.hid (HUV.out.grow hb)
    replace HKV := Lib.hid (HKV.out.grow9 hb)
    replace HB := Lib.hid (belowStep hb HB.out)
    have HBU := Lib.hid hbx
    clear hbx hb
    have c0 := HBX.out.cell 0 (.int .i64 t.op) rfl
    have c1 := HBX.out.cell 1 (.int .i64 t.n) rfl
    have c2 := HBX.out.cell 2 (.string t.s) rfl
    have c3 := HBX.out.cell 3 (.slice ka kn kc) rfl
    have c4 := HBX.out.cell 4 (.slice na nn nc) rfl
    have c5 := HBX.out.cell 5 (.slice la ln lc) rfl
    go_upto_region 5 with fail
    clear c0 c1 c2 c3 c4 c5
    generalize w7.alloc (.cells #[.int .i64 u.op, .int .i64 u.n, .string u.s, .slice uka ukn ukc, .slice una unn unc, .slice ula uln ulc] 28) = w7b at *
    have c0 := HBX.out.cell 0 (.int .i64 t.op) rfl
    have c1 := HBX.out.cell 1 (.int .i64 t.n) rfl
    have c2 := HBX.out.cell 2 (.string t.s) rfl
    have c3 := HBX.out.cell 3 (.slice ka kn kc) rfl
    have c4 := HBX.out.cell 4 (.slice na nn nc) rfl
    have c5 := HBX.out.cell 5 (.slice la ln lc) rfl
    go_wp2_with fail
    clear c0 c1 c2 c3 c4 c5
    refine (HUN.out _ HB.out HLm.out).mono ?_
    rintro e w8 ⟨⟨z, rfl, hz⟩, hb⟩
    obtain ⟨xka, xkn, xkc, xna, xnn, xnc, xla, xln, xlc, rfl, -, -, -⟩ := hz.shape
    replace HBX := Lib.hid (HBX.out.of_eq (hb.block _ HBX.out.lt))
    replace HBU := Lib.hid (HBU.out.of_eq (hb.block _ HBU.out.lt))
    replace HUV := Lib.hid (HUV.out.grow hb)
    replace HKV := Lib.hid (HKV.out.grow9 hb)
    replace HB := Lib.hid (belowStep hb HB.out)
    have HXV := Lib.hid (hz.mono (fun q hq => hq.2))
    clear hb hz HUN
    obtain ⟨hbx, hb⟩ := boxN_new w8 28 #[.int .i64 x.op, .int .i64 x.n, .string x.s, .slice xka xkn xkc, .slice xna xnn xnc, .slice xla xln xlc]
    replace HBX := Lib.hid (HBX.out.of_eq (hb.block _ HBX.out.lt))
    replace HBU := Lib.hid (HBU.out.of_eq (hb.block _ HBU.out.lt))
    replace HUV := Lib.hid (HUV.out.grow hb)
    replace HXV := Lib.hid (HXV.out.grow hb)
    replace HKV := Lib.hid (HKV.out.grow9 hb)
    replace HB := Lib.hid (belowStep hb HB.out)
    have HBV := Lib.hid hbx
    clear hbx hb
    have c0 := HBX.out.cell 0 (.int .i64 t.op) rfl
    have c1 := HBX.out.cell 1 (.int .i64 t.n) rfl
    have c2 := HBX.out.cell 2 (.string t.s) rfl
    have c3 := HBX.out.cell 3 (.slice ka kn kc) rfl
    have c4 := HBX.out.cell 4 (.slice na nn nc) rfl
    have c5 := HBX.out.cell 5 (.slice la ln lc) rfl
    go_upto_region 6 with fail
    clear c0 c1 c2 c3 c4 c5
    generalize w8.alloc (.cells #[.int .i64 x.op, .int .i64 x.n, .string x.s, .slice xka xkn xkc, .slice xna xnn xnc, .slice xla xln xlc] 28) = w8b at *
    have c0 := HBX.out.cell 0 (.int .i64 t.op) rfl
    have c1 := HBX.out.cell 1 (.int .i64 t.n) rfl
    have c2 := HBX.out.cell 2 (.string t.s) rfl
    have c3 := HBX.out.cell 3 (.slice ka kn kc) rfl
    have c4 := HBX.out.cell 4 (.slice na nn nc) rfl
    have c5 := HBX.out.cell 5 (.slice la ln lc) rfl
    go_wp2_with fail
    clear c0 c1 c2 c3 c4 c5
    refine (HRV.out _ HB.out).mono ?_
    rintro e w9 ⟨rfl, hb⟩
    replace HBX := Lib.hid (HBX.out.of_eq (hb.block _ HBX.out.lt))
    replace HBU := Lib.hid (HBU.out.of_eq (hb.block _ HBU.out.lt))
    replace HBV := Lib.hid (HBV.out.of_eq (hb.block _ HBV.out.lt))
    replace HUV := Lib.hid (HUV.out.grow hb)
    replace HXV := Lib.hid (HXV.out.grow hb)
    replace HKV := Lib.hid (HKV.out.grow9 hb)
    replace HB := Lib.hid (belowStep hb HB.out)
    clear hb HRV
    have c0 := HBX.out.cell 0 (.int .i64 t.op) rfl
    have c1 := HBX.out.cell 1 (.int .i64 t.n) rfl
    have c2 := HBX.out.cell 2 (.string t.s) rfl
    have c3 := HBX.out.cell 3 (.slice ka kn kc) rfl
    have c4 := HBX.out.cell 4 (.slice na nn nc) rfl
    have c5 := HBX.out.cell 5 (.slice la ln lc) rfl
    go_wp2_with fail
    clear c0 c1 c2 c3 c4 c5
    refine (HRC.out _ HB.out HSM9.out).mono ?_
    rintro e w10 ⟨⟨wv, rfl, hwv⟩, hb⟩
    have hlk := hwv
    obtain ⟨ka2, kc2, rfl, -, -, -, -⟩ := hlk
    replace HBX := Lib.hid (HBX.out.of_eq (hb.block _ HBX.out.lt))
    replace HBU := Lib.hid (HBU.out.of_eq (hb.block _ HBU.out.lt))
    replace HBV := Lib.hid (HBV.out.of_eq (hb.block _ HBV.out.lt))
    replace HUV := Lib.hid (HUV.out.grow hb)
    replace HXV := Lib.hid (HXV.out.grow hb)
    replace HKV := Lib.hid (HKV.out.grow9 hb)
    replace HB := Lib.hid (belowStep hb HB.out)
    have HWV := Lib.hid hwv
    clear hb hwv HRC
    obtain ⟨vb, hvb⟩ : ∃ b, b = Con.validB t := ⟨_, rfl⟩
    obtain ⟨cb, hcb⟩ : ∃ b, b = Con.consB t := ⟨_, rfl⟩
    rw [← hvb, ← hcb]
    have HVB := Lib.hid hvb
    have HCB := Lib.hid hcb
    clear hvb hcb
    go_upto_block 0 with fail
    go_cut [13] from 91 to 118 (fun s13 W => s13 = .bool vb ∧ Below w10.heap.size w10 W)
    case first =>
      cases vb
      · obtain ⟨h1, h2⟩ := HCV.out.1 HVB.out.symm
        subst h1 h2
        have q0 : ((0 : Int) != 0) = false := rfl
        go_wp2
        go_meet
        exact ⟨rfl, Below.refl _ _⟩
      cases cb
      · obtain ⟨h1, h2⟩ := HCV.out.2.1 HVB.out.symm HCB.out.symm
        subst h1 h2
        go_wp2
        go_meet
        exact ⟨rfl, Below.refl _ _⟩
      obtain ⟨h1, h2⟩ := HCV.out.2.2 HVB.out.symm HCB.out.symm
      subst h1 h2
      go_wp2_with fail
      refine (HSC.out _ _ _ HKV.out HWV.out).mono ?_
      rintro e w11 ⟨r, rfl, hr, hb⟩
      have hr := hr.2 (by trivial)
      subst hr
      have HB11 := Lib.hid hb
      clear hb
      go_wp2
      go_meet
      exact ⟨rfl, HB11.out⟩
    case rest =>
      obtain ⟨rfl, hb⟩ := hcut
      rename World => w11
      replace HBX := Lib.hid (HBX.out.of_eq (hb.block _ HBX.out.lt))
      replace HBU := Lib.hid (HBU.out.of_eq (hb.block _ HBU.out.lt))
      replace HBV := Lib.hid (HBV.out.of_eq (hb.block _ HBV.out.lt))
      replace HUV := Lib.hid (HUV.out.grow hb)
      replace HXV := Lib.hid (HXV.out.grow hb)
      replace HB := Lib.hid (belowStep hb HB.out)
      clear hb HKV HWV HSC HCV HCB
      go_upto_block 1 with fail
      go_cut [13] from 119 to 166 (fun s13 W => s13 = .bool vb ∧ Below w11.heap.size w11 W)
      case first =>
        have HK2 := Lib.hid (Below.refl w11.heap.size w11)
        cases vb
        · have HE := Lib.hid (HBO.out.1 (by rw [← HVB.out]; rfl))
          have q9 : (uc != 1) = false := by rw [HE.out.2]; rfl
          have HSB := Lib.hid HE.out.1
          have c0 := HBU.out.cell 0 (.int .i64 u.op) rfl
          have c1 := HBU.out.cell 1 (.int .i64 u.n) rfl
          have c2 := HBU.out.cell 2 (.string u.s) rfl
          have c3 := HBU.out.cell 3 (.slice uka ukn ukc) rfl
          have c4 := HBU.out.cell 4 (.slice una unn unc) rfl
          have c5 := HBU.out.cell 5 (.slice ula uln ulc) rfl
          clear HE
          go_wp2_with fail
          clear c0 c1 c2 c3 c4 c5
          refine (HNO.out _ HB.out HSB.out _ HUV.out).mono ?_
          rintro e wx ⟨rfl, hbx⟩
          have HBE := Lib.hid (belowStep hbx HK2.out)
          clear hbx
          go_wp2
          go_meet
          exact ⟨rfl, HBE.out⟩
        go_wp2_with fail
        refine (HF3.out _ HB.out).mono ?_
        rintro e w12 ⟨rfl, hb⟩
        replace HBX := Lib.hid (HBX.out.of_eq (hb.block _ HBX.out.lt))
        replace HBU := Lib.hid (HBU.out.of_eq (hb.block _ HBU.out.lt))
        replace HBV := Lib.hid (HBV.out.of_eq (hb.block _ HBV.out.lt))
        replace HUV := Lib.hid (HUV.out.grow hb)
        replace HXV := Lib.hid (HXV.out.grow hb)
        replace HB := Lib.hid (belowStep hb HB.out)
        replace HK2 := Lib.hid (belowStep hb HK2.out)
        clear hb HF3
        have HAN3 := Lib.hid (show names.all (fun s => Pl.cname s.toList) = !names.any (fun s => !Pl.cname s.toList) from by rw [List.not_any_eq_all_not]; simp)
        generalize names.any (fun s => !Pl.cname s.toList) = r at *
        cases r
        rotate_left
        · have HE := Lib.hid (HBO.out.1 (by rw [← HVB.out, HAN3.out]; rfl))
          have q9 : (uc != 1) = false := by rw [HE.out.2]; rfl
          have HSB := Lib.hid HE.out.1
          have c0 := HBU.out.cell 0 (.int .i64 u.op) rfl
          have c1 := HBU.out.cell 1 (.int .i64 u.n) rfl
          have c2 := HBU.out.cell 2 (.string u.s) rfl
          have c3 := HBU.out.cell 3 (.slice uka ukn ukc) rfl
          have c4 := HBU.out.cell 4 (.slice una unn unc) rfl
          have c5 := HBU.out.cell 5 (.slice ula uln ulc) rfl
          clear HE
          go_wp2_with fail
          clear c0 c1 c2 c3 c4 c5
          refine (HNO.out _ HB.out HSB.out _ HUV.out).mono ?_
          rintro e wx ⟨rfl, hbx⟩
          have HBE := Lib.hid (belowStep hbx HK2.out)
          clear hbx
          go_wp2
          go_meet
          exact ⟨rfl, HBE.out⟩
        have HAB := Lib.hid (show (Con.validB t && names.all (fun s => Pl.cname s.toList)) = true from by rw [← HVB.out, HAN3.out]; rfl)
        clear HAN3
        by_cases h1000 : 1000 < n
        · have q3 : decide ((1000 : Int) < (n : Int)) = true := decide_eq_true (by omega)
          have HE := Lib.hid (HBO.out.2.1 HAB.out h1000)
          have q9 : (uc != 5) = false := by rw [HE.out.2]; rfl
          have HSB := Lib.hid HE.out.1
          have c0 := HBU.out.cell 0 (.int .i64 u.op) rfl
          have c1 := HBU.out.cell 1 (.int .i64 u.n) rfl
          have c2 := HBU.out.cell 2 (.string u.s) rfl
          have c3 := HBU.out.cell 3 (.slice uka ukn ukc) rfl
          have c4 := HBU.out.cell 4 (.slice una unn unc) rfl
          have c5 := HBU.out.cell 5 (.slice ula uln ulc) rfl
          clear HE
          go_wp2_with fail
          clear c0 c1 c2 c3 c4 c5
          refine (HNO.out _ HB.out HSB.out _ HUV.out).mono ?_
          rintro e wx ⟨rfl, hbx⟩
          have HBE := Lib.hid (belowStep hbx HK2.out)
          clear hbx
          go_wp2
          go_meet
          exact ⟨rfl, HBE.out⟩
        have q3 : decide ((1000 : Int) < (n : Int)) = false := decide_eq_false (by omega)
        go_wp2_with fail
        refine (valuesS_any w12 na9 n nc9).mono ?_
        rintro e wv9 ⟨rfl, rfl⟩
        obtain ⟨hbx, hb⟩ := boxN_new w12 25 #[.slice na9 n nc9]
        have HSTR := Lib.hid (HNS.out _ (belowStep hb HB.out))
        have HVX := Lib.hid hbx
        replace HBX := Lib.hid (HBX.out.of_eq (hb.block _ HBX.out.lt))
        replace HBU := Lib.hid (HBU.out.of_eq (hb.block _ HBU.out.lt))
        replace HBV := Lib.hid (HBV.out.of_eq (hb.block _ HBV.out.lt))
        replace HUV := Lib.hid (HUV.out.grow hb)
        replace HXV := Lib.hid (HXV.out.grow hb)
        replace HB := Lib.hid (belowStep hb HB.out)
        replace HK2 := Lib.hid (belowStep hb HK2.out)
        clear hb hbx
        have HSO := Lib.hid (sortedS_any w12.heap.size (· < (w12.alloc (.cells #[.slice na9 n nc9] 25)).heap.size) _ names _ HVX.out.lt (fun _ h => h) HVX.out HSTR.out (by rw [← HNn.out]; have := HLn.out; omega))
        generalize w12.alloc (.cells #[.slice na9 n nc9] 25) = wv at *
        go_wp2_with fail
        refine HSO.out.mono ?_
        rintro e ws ⟨⟨y, rfl, hy⟩, hs⟩
        have HCP := Lib.hid (compactS_any _ names y ws hy (by rw [← HNn.out]; have := HLn.out; omega))
        have HTW := Lib.hid (names_twice names)
        rw [← HNn.out] at HTW
        have HS9 := Lib.hid hs
        clear hy hs HSO HSTR HVX
        generalize (Lib.compact (sortedB names)).length = cl at *
        go_wp2_with fail
        refine HCP.out.mono ?_
        rintro e wc ⟨⟨a9, c9, rfl⟩, hc⟩
        have hb := HS9.out.trans hc
        replace HBX := Lib.hid (HBX.out.of_eq (hb.block _ HBX.out.lt))
        replace HBU := Lib.hid (HBU.out.of_eq (hb.block _ HBU.out.lt))
        replace HBV := Lib.hid (HBV.out.of_eq (hb.block _ HBV.out.lt))
        replace HUV := Lib.hid (HUV.out.grow hb)
        replace HXV := Lib.hid (HXV.out.grow hb)
        replace HB := Lib.hid (belowStep hb HB.out)
        replace HK2 := Lib.hid (belowStep hb HK2.out)
        clear hb hc HS9 HCP
        by_cases hnd : names.Nodup
        rotate_left
        · have q5 : ((cl : Int) != (n : Int)) = true := by
            have : cl ≠ n := fun e => hnd (HTW.out.1 e)
            simp; omega
          clear HTW
          have HE := Lib.hid (HBO.out.2.2.1 HAB.out h1000 hnd)
          have q9 : (uc != 9) = false := by rw [HE.out.2]; rfl
          have HSB := Lib.hid HE.out.1
          have c0 := HBU.out.cell 0 (.int .i64 u.op) rfl
          have c1 := HBU.out.cell 1 (.int .i64 u.n) rfl
          have c2 := HBU.out.cell 2 (.string u.s) rfl
          have c3 := HBU.out.cell 3 (.slice uka ukn ukc) rfl
          have c4 := HBU.out.cell 4 (.slice una unn unc) rfl
          have c5 := HBU.out.cell 5 (.slice ula uln ulc) rfl
          clear HE
          go_wp2_with fail
          clear c0 c1 c2 c3 c4 c5
          refine (HNO.out _ HB.out HSB.out _ HUV.out).mono ?_
          rintro e wx ⟨rfl, hbx⟩
          have HBE := Lib.hid (belowStep hbx HK2.out)
          clear hbx
          go_wp2
          go_meet
          exact ⟨rfl, HBE.out⟩
        have q5 : ((cl : Int) != (n : Int)) = false := by
          have : cl = n := HTW.out.2 hnd
          simp [this]
        have HE := Lib.hid (HBO.out.2.2.2 HAB.out h1000 hnd)
        have HVT := Lib.hid (show Con.validB t = true from HVB.out.symm)
        clear HTW hnd
        have GRB := Lib.hid (fun W (hW : Below wc.heap.size wc W) => HRB.out W (belowStep hW HB.out) HVT.out HLn.out)
        have GAN := Lib.hid (fun W yv (hW : Below wc.heap.size wc W) (hy : ConV W (· < W.heap.size) (Con.bindC names t 0) yv) => HAN.out W yv _ (HUV.out.grow hW) hy)
        rw [HE.out] at GAN
        have HSS := Lib.hid (fun W (hW : Below wc.heap.size wc W) => (show Below wc.heap.size wc W ∧ W.cell? ⟨w.heap.size, 0, none⟩ = some (.int .i64 t.op) ∧ W.cell? ⟨w.heap.size, 1, none⟩ = some (.int .i64 t.n) ∧ W.cell? ⟨w.heap.size, 2, none⟩ = some (.string t.s) ∧ W.cell? ⟨w.heap.size, 3, none⟩ = some (.slice ka kn kc) ∧ W.cell? ⟨w.heap.size, 4, none⟩ = some (.slice na nn nc) ∧ W.cell? ⟨w.heap.size, 5, none⟩ = some (.slice la ln lc) ∧ W.cell? ⟨w7.heap.size, 0, none⟩ = some (.int .i64 u.op) ∧ W.cell? ⟨w7.heap.size, 1, none⟩ = some (.int .i64 u.n) ∧ W.cell? ⟨w7.heap.size, 2, none⟩ = some (.string u.s) ∧ W.cell? ⟨w7.heap.size, 3, none⟩ = some (.slice uka ukn ukc) ∧ W.cell? ⟨w7.heap.size, 4, none⟩ = some (.slice una unn unc) ∧ W.cell? ⟨w7.heap.size, 5, none⟩ = some (.slice ula uln ulc) from ⟨hW, (HBX.out.of_eq (hW.block _ HBX.out.lt)).cell 0 _ rfl, (HBX.out.of_eq (hW.block _ HBX.out.lt)).cell 1 _ rfl, (HBX.out.of_eq (hW.block _ HBX.out.lt)).cell 2 _ rfl, (HBX.out.of_eq (hW.block _ HBX.out.lt)).cell 3 _ rfl, (HBX.out.of_eq (hW.block _ HBX.out.lt)).cell 4 _ rfl, (HBX.out.of_eq (hW.block _ HBX.out.lt)).cell 5 _ rfl, (HBU.out.of_eq (hW.block _ HBU.out.lt)).cell 0 _ rfl, (HBU.out.of_eq (hW.block _ HBU.out.lt)).cell 1 _ rfl, (HBU.out.of_eq (hW.block _ HBU.out.lt)).cell 2 _ rfl, (HBU.out.of_eq (hW.block _ HBU.out.lt)).cell 3 _ rfl, (HBU.out.of_eq (hW.block _ HBU.out.lt)).cell 4 _ rfl, (HBU.out.of_eq (hW.block _ HBU.out.lt)).cell 5 _ rfl⟩))
        have HD0 := Lib.hid (Below.refl wc.heap.size wc).drew
        obtain ⟨sx, hsx⟩ : ∃ z, z = Con.bindC names t 0 := ⟨_, rfl⟩
        rw [← hsx] at GRB GAN
        clear hsx HE
        have c0 := HBX.out.cell 0 (.int .i64 t.op) rfl
        have c1 := HBX.out.cell 1 (.int .i64 t.n) rfl
        have c2 := HBX.out.cell 2 (.string t.s) rfl
        have c3 := HBX.out.cell 3 (.slice ka kn kc) rfl
        have c4 := HBX.out.cell 4 (.slice na nn nc) rfl
        have c5 := HBX.out.cell 5 (.slice la ln lc) rfl
        have e0 := HBU.out.cell 0 (.int .i64 u.op) rfl
        have e1 := HBU.out.cell 1 (.int .i64 u.n) rfl
        have e2 := HBU.out.cell 2 (.string u.s) rfl
        have e3 := HBU.out.cell 3 (.slice uka ukn ukc) rfl
        have e4 := HBU.out.cell 4 (.slice una unn unc) rfl
        have e5 := HBU.out.cell 5 (.slice ula uln ulc) rfl
        go_wp2_with fail
        go_region_held3 (fun W => Below wc.heap.size wc W ∧ W.cell? ⟨w.heap.size, 0, none⟩ = some (.int .i64 t.op) ∧ W.cell? ⟨w.heap.size, 1, none⟩ = some (.int .i64 t.n) ∧ W.cell? ⟨w.heap.size, 2, none⟩ = some (.string t.s) ∧ W.cell? ⟨w.heap.size, 3, none⟩ = some (.slice ka kn kc) ∧ W.cell? ⟨w.heap.size, 4, none⟩ = some (.slice na nn nc) ∧ W.cell? ⟨w.heap.size, 5, none⟩ = some (.slice la ln lc) ∧ W.cell? ⟨w7.heap.size, 0, none⟩ = some (.int .i64 u.op) ∧ W.cell? ⟨w7.heap.size, 1, none⟩ = some (.int .i64 u.n) ∧ W.cell? ⟨w7.heap.size, 2, none⟩ = some (.string u.s) ∧ W.cell? ⟨w7.heap.size, 3, none⟩ = some (.slice uka ukn ukc) ∧ W.cell? ⟨w7.heap.size, 4, none⟩ = some (.slice una unn unc) ∧ W.cell? ⟨w7.heap.size, 5, none⟩ = some (.slice ula uln ulc))
            (exact HSS.out _ (by with_reducible (repeat (first | exact Below.refl _ _ | exact HD0.out | refine Below.drew ?_ | refine below_new ?_ | refine belowStep (by assumption) ?_ | exact Nat.le_refl _))))
            (first
            | (go_at_call 26; (with_reducible refine Calls.mono (GRB.out _ ?_) ?_); (focus with_reducible (repeat (first | exact Below.refl _ _ | exact HD0.out | refine Below.drew ?_ | refine below_new ?_ | refine belowStep (by assumption) ?_ | exact Nat.le_refl _))); rintro e k1 ⟨⟨yv, rfl, hy⟩, hbk1⟩; have hbk := belowStep (a := wc) hbk1 (by with_reducible (repeat (first | exact Below.refl _ _ | exact HD0.out | refine Below.drew ?_ | refine below_new ?_ | refine belowStep (by assumption) ?_ | exact Nat.le_refl _))); have hyk := hy; obtain ⟨ua, un, uk, va, vn, vk, xa2, xn2, xk2, hyv, -, -, -⟩ := hy.shape; subst hyv)
            | (go_at_call 25; (with_reducible refine Calls.mono (GAN.out _ _ (by assumption) (by assumption)) ?_); rintro e k2 ⟨rfl, hbk2⟩)
            | fail)
        rename_i hHeld
        have HBE := Lib.hid (belowStep hHeld.1 HK2.out)
        go_wp2
        go_meet
        exact ⟨rfl, HBE.out⟩
      case rest =>
        obtain ⟨rfl, hb⟩ := hcut
        rename World => w13
        replace HBX := Lib.hid (HBX.out.of_eq (hb.block _ HBX.out.lt))
        replace HBV := Lib.hid (HBV.out.of_eq (hb.block _ HBV.out.lt))
        replace HXV := Lib.hid (HXV.out.grow hb)
        replace HB := Lib.hid (belowStep hb HB.out)
        clear hb HBU HUV HBO HNO HAN HRB HNS HLn HNn HF3
        have HZS := Lib.hid (show ∀ z ∈ cs.map (·.1), z.size ≤ maxLen from fun z hz => by
          obtain ⟨y, hy, rfl⟩ := List.mem_map.1 hz
          obtain ⟨j, hj, rfl⟩ := List.getElem_of_mem hy
          obtain ⟨_, _, _, _, _, _, -, h, -⟩ := HPT.out j hj
          exact h)
        obtain ⟨iI, hi, hz0, hz1, hz2⟩ := info_parts infoStr9
        have hlm := HLm.out
        go_wp2_with fail
        go_loopg [16, 17, 171] (m + 1) (fun gk ov bv i wr => ∃ k : Nat, k ≤ m ∧ i = .int .i64 k ∧ gk = m + 1 - k ∧ bv = .bool (badN vb (cs.take k)) ∧ wr.ownsRow w13.heap.size 9 1 ov ((cs.take k).map (·.1)).length (((cs.take k).map (·.1)).map Value.string) ∧ Below w13.heap.size w13 wr)
        case atStart => exact ⟨0, Nat.zero_le _, rfl, by omega, by rw [List.take_zero, badN_nil], by rw [List.take_zero]; exact World.ownsRow_nil _ _ _ _, Below.refl _ _⟩
        case round =>
          obtain ⟨k, hk, rfl, hgk, rfl, hrow, hbw⟩ := hrel
          have HO := Lib.hid hrow
          have HBR := Lib.hid hbw
          by_cases hlt : k < m
          · have q5 : decide ((k : Int) < (m : Int)) = true := decide_eq_true (by omega)
            have hkl : k < cs.length := by rw [← HMm.out]; exact hlt
            obtain ⟨b, off, c', ka', kn', kc', e, hsz, hat⟩ := HPT.out k hkl
            rw [← HMm.out] at e
            injection e with e1 e2 e3
            subst e1 e3
            clear e2
            have HAT := Lib.hid hat
            clear hat
            obtain ⟨f0, f1, -⟩ := HAT.out wr (belowStep hbw HB.out)
            have HTK := Lib.hid (show (cs.take (k + 1)).map (·.1) = (cs.take k).map (·.1) ++ [cs[k].1] from by rw [List.take_succ_eq_append_getElem hkl, List.map_append]; rfl)
            have HTB := Lib.hid (show badN vb (cs.take (k + 1)) = (badN vb (cs.take k) || !cstB cs[k]) from by rw [List.take_succ_eq_append_getElem hkl]; exact badN_snoc _ _ _)
            have HLK := Lib.hid (show ((cs.take k).map (·.1)).length = k from by rw [List.length_map, List.length_take]; omega)
            obtain ⟨hbx, hb⟩ := boxN_new wr 36 #[.string cs[k].1, .slice ka' kn' kc']
            have HCBX := Lib.hid hbx
            have d0 := hbx.cell 0 (.string cs[k].1) rfl
            have d1 := hbx.cell 1 (.slice ka' kn' kc') rfl
            obtain ⟨ov, hov⟩ : ∃ o, o = ((cs.take k).map (·.1)) := ⟨_, rfl⟩
            rw [← hov] at HO HTK HLK
            have HCN := Lib.hid (fun W => rcname_any cs[k].1 W hsz)
            have HCV := Lib.hid (fun W y (hy : ConV W (· < W.heap.size) (cst cs[k]) y) => rvalid9_any (· < W.heap.size) (cst cs[k]) W y (fun _ h => h) hy)
            rw [cst_valid9] at HCV
            have HCB := Lib.hid (show Pl.cname cs[k].1.toList = false → cstB cs[k] = false from fun h => by unfold cstB; rw [h]; rfl)
            obtain ⟨bb, hbb⟩ : ∃ b, b = badN vb (cs.take k) := ⟨_, rfl⟩
            rw [← hbb] at HTB ⊢
            clear hbb
            obtain ⟨eb, heb⟩ : ∃ b, b = cstB cs[k] := ⟨_, rfl⟩
            rw [← heb] at HTB HCV HCB
            clear heb
            obtain ⟨nb, hnb⟩ : ∃ b, b = Pl.cname cs[k].1.toList := ⟨_, rfl⟩
            rw [← hnb] at HCN HCB
            clear hnb
            generalize cst cs[k] = ck at *
            generalize cs[k].1 = s at *
            have HO2 := Lib.hid (HO.out.alloc (.cells #[.string s, .slice ka' kn' kc'] 36))
            have HBR2 := Lib.hid (belowStep hb hbw)
            clear hrow hbw hov hb hbx
            go_upto_region 32 with fail
            clear f0 f1
            generalize wr.alloc (.cells #[.string s, .slice ka' kn' kc'] 36) = wa at *
            have h9 := HLK.out
            go_wp2_with (at_builtin; refine wpList_append_own _ rfl _ _ 25 rfl w13.heap.size 9 iI (.string ByteArray.empty) 1 16 Tryz.underlying25 hi hz0 hz1 hz2 rfl (by decide) _ _ _ rfl (HO2.out.alloc _) ⟨wa.heap.size, 0, none⟩ 1 1 [.string s] rfl rfl ?c1 ?c2 ?c3 ?c4 ?c5 ?_)
            try case c1 =>
              intro j u hj
              match j, hj with
              | 0, hj => simp at hj; subst hj; simp [Addr.add]
            case c2 => first | rfl | (intro u hu; simp at hu; subst hu; rfl)
            case c3 => unfold maxLen; omega
            case c4 => omega
            case c5 => have := HBR2.out.size; simp; omega
            intro v' w1 hown' hgrow _
            have HB1 := Lib.hid (below_appT HBR2.out HBR2.out.size HO2.out hgrow)
            have HO1 := Lib.hid (strRow_app (l := ov) (s := s) hown' (by simp; omega) (by simp))
            rw [← HTK.out] at HO1
            have HX1 := Lib.hid ((HCBX.out.alloc (.cells #[.string s] 9)).of_eq (hgrow.block _ (HCBX.out.alloc _).lt (fun e => Nat.lt_irrefl _ (HO.out.lt _ e.symm).2)))
            obtain ⟨-, -, hcv⟩ := HAT.out w1 (belowStep HB1.out HB.out)
            have HCW := Lib.hid hcv
            clear hown' hgrow HO HO2 HBR HBR2 d0 d1 h9 hcv HAT HCBX
            have d0 := HX1.out.cell 0 (.string s) rfl
            have d1 := HX1.out.cell 1 (.slice ka' kn' kc') rfl
            cases bb
            rotate_left
            · go_wp2
              go_roundg (gk - 1)
              case measure => omega
              case rel => exact ⟨k + 1, by omega, by go_num, by omega, by rw [HTB.out]; rfl, HO1.out, HB1.out⟩
            go_wp2_with fail
            refine (HCN.out _).mono ?_
            rintro e w20 ⟨rfl, rfl⟩
            cases nb
            · go_wp2
              go_roundg (gk - 1)
              case measure => omega
              case rel => exact ⟨k + 1, by omega, by go_num, by omega, by rw [HTB.out]; rw [HCB.out (by trivial)]; rfl, HO1.out, HB1.out⟩
            go_wp2_with fail
            refine (HCV.out _ _ HCW.out).mono ?_
            rintro e w21 ⟨rfl, hb⟩
            have HB2 := Lib.hid (belowStep hb HB1.out)
            have HO3 := Lib.hid (HO1.out.kept (row := none) ⟨hb.os, hb.tape, hb.output, hb.size, fun i hi _ => hb.block i hi⟩ (by cases ho : v'.ownBlock with | none => exact .inl rfl | some k => exact .inr (by simp)))
            clear hb
            go_wp2
            go_roundg (gk - 1)
            case measure => omega
            case rel => exact ⟨k + 1, by omega, by go_num, by omega, by rw [HTB.out]; cases eb <;> rfl, HO3.out, HB2.out⟩
          have hkn : k = m := by omega
          subst hkn
          have q5 : decide ((k : Int) < (k : Int)) = false := decide_eq_false (by omega)
          have hta : cs.take k = cs := List.take_of_length_le (by rw [HMm.out]; exact Nat.le_refl _)
          rw [hta] at HO ⊢
          have HE := Lib.hid (strSl_row HO.out HZS.out)
          replace HBX := Lib.hid (HBX.out.of_eq (hbw.block _ HBX.out.lt))
          replace HBV := Lib.hid (HBV.out.of_eq (hbw.block _ HBV.out.lt))
          replace HXV := Lib.hid (HXV.out.grow hbw)
          replace HB := Lib.hid (belowStep hbw HB.out)
          clear hrow hbw hta HBR HO HZS HPT hi hz0 hz1 hz2
          rename World => w14
          obtain ⟨ab, hab⟩ : ∃ b, b = badN vb cs := ⟨_, rfl⟩
          rw [← hab]
          have HAB := Lib.hid hab
          clear hab
          cases ab
          rotate_left
          · have HW := Lib.hid (HUO.out.1 (by rw [← HVB.out]; exact badN_true HAB.out.symm))
            have q9 : (xc == 1) = true := by rw [HW.out.2]; rfl
            have HSB := Lib.hid HW.out.1
            have c0 := HBV.out.cell 0 (.int .i64 x.op) rfl
            have c1 := HBV.out.cell 1 (.int .i64 x.n) rfl
            have c2 := HBV.out.cell 2 (.string x.s) rfl
            have c3 := HBV.out.cell 3 (.slice xka xkn xkc) rfl
            have c4 := HBV.out.cell 4 (.slice xna xnn xnc) rfl
            have c5 := HBV.out.cell 5 (.slice xla xln xlc) rfl
            clear HW
            go_wp2_with fail
            clear c0 c1 c2 c3 c4 c5
            refine (HNX.out _ HB.out HSB.out _ HXV.out).mono ?_
            rintro e wx ⟨rfl, hbx⟩
            have HBE := Lib.hid (belowStep hbx HB.out)
            clear hbx
            go_wp2
            go_ret
            exact ⟨rfl, HBE.out⟩
          by_cases h1000 : 1000 < k
          · have q3 : decide ((1000 : Int) < (k : Int)) = true := decide_eq_true (by omega)
            have HW := Lib.hid (HUO.out.2.1 (by rw [← HVB.out]; exact badN_false HAB.out.symm) h1000)
            have q9 : (xc == 5) = true := by rw [HW.out.2]; rfl
            have HSB := Lib.hid HW.out.1
            have c0 := HBV.out.cell 0 (.int .i64 x.op) rfl
            have c1 := HBV.out.cell 1 (.int .i64 x.n) rfl
            have c2 := HBV.out.cell 2 (.string x.s) rfl
            have c3 := HBV.out.cell 3 (.slice xka xkn xkc) rfl
            have c4 := HBV.out.cell 4 (.slice xna xnn xnc) rfl
            have c5 := HBV.out.cell 5 (.slice xla xln xlc) rfl
            clear HW
            go_wp2_with fail
            clear c0 c1 c2 c3 c4 c5
            refine (HNX.out _ HB.out HSB.out _ HXV.out).mono ?_
            rintro e wx ⟨rfl, hbx⟩
            have HBE := Lib.hid (belowStep hbx HB.out)
            clear hbx
            go_wp2
            go_ret
            exact ⟨rfl, HBE.out⟩
          have q3 : decide ((1000 : Int) < (k : Int)) = false := decide_eq_false (by omega)
          obtain ⟨oa, oc, rfl, -⟩ := id HE.out
          have HLM := Lib.hid (show (cs.map (·.1)).length = k from by rw [List.length_map]; exact HMm.out.symm)
          rw [HLM.out] at HE ⊢
          go_wp2_with fail
          refine (valuesS_any w14 oa k oc).mono ?_
          rintro e wv9 ⟨rfl, rfl⟩
          obtain ⟨hbx, hb⟩ := boxN_new w14 25 #[.slice oa k oc]
          have HSTR := Lib.hid ((HE.out.mono (fun _ h => h.2)).grow9 hb)
          have HVX := Lib.hid hbx
          replace HBX := Lib.hid (HBX.out.of_eq (hb.block _ HBX.out.lt))
          replace HBV := Lib.hid (HBV.out.of_eq (hb.block _ HBV.out.lt))
          replace HXV := Lib.hid (HXV.out.grow hb)
          replace HB := Lib.hid (belowStep hb HB.out)
          clear hb hbx
          have HSO := Lib.hid (sortedS_any w14.heap.size (· < (w14.alloc (.cells #[.slice oa k oc] 25)).heap.size) _ (cs.map (·.1)) _ HVX.out.lt (fun _ h => h) HVX.out HSTR.out (by rw [HLM.out]; omega))
          generalize w14.alloc (.cells #[.slice oa k oc] 25) = wv at *
          go_wp2_with fail
          refine HSO.out.mono ?_
          rintro e ws ⟨⟨y, rfl, hy⟩, hs⟩
          have HCP := Lib.hid (compactS_any _ (cs.map (·.1)) y ws hy (by rw [HLM.out]; omega))
          have HTW := Lib.hid (names_twice (cs.map (·.1)))
          rw [HLM.out] at HTW
          have HS9 := Lib.hid hs
          clear hy hs HSO HSTR HVX
          generalize (Lib.compact (sortedB (cs.map (·.1)))).length = cl at *
          go_wp2_with fail
          refine HCP.out.mono ?_
          rintro e wc ⟨⟨a9, c9, rfl⟩, hc⟩
          have hb := HS9.out.trans hc
          replace HBX := Lib.hid (HBX.out.of_eq (hb.block _ HBX.out.lt))
          replace HBV := Lib.hid (HBV.out.of_eq (hb.block _ HBV.out.lt))
          replace HXV := Lib.hid (HXV.out.grow hb)
          replace HB := Lib.hid (belowStep hb HB.out)
          clear hb hc HS9 HCP
          by_cases hnd : (cs.map (·.1)).Nodup
          rotate_left
          · have q5 : ((cl : Int) != (k : Int)) = true := by
              have : cl ≠ k := fun e => hnd (HTW.out.1 e)
              simp; omega
            clear HTW
            have HW := Lib.hid (HUO.out.2.2.1 (by rw [← HVB.out]; exact badN_false HAB.out.symm) h1000 hnd)
            have q9 : (xc == 9) = true := by rw [HW.out.2]; rfl
            have HSB := Lib.hid HW.out.1
            have c0 := HBV.out.cell 0 (.int .i64 x.op) rfl
            have c1 := HBV.out.cell 1 (.int .i64 x.n) rfl
            have c2 := HBV.out.cell 2 (.string x.s) rfl
            have c3 := HBV.out.cell 3 (.slice xka xkn xkc) rfl
            have c4 := HBV.out.cell 4 (.slice xna xnn xnc) rfl
            have c5 := HBV.out.cell 5 (.slice xla xln xlc) rfl
            clear HW
            go_wp2_with fail
            clear c0 c1 c2 c3 c4 c5
            refine (HNX.out _ HB.out HSB.out _ HXV.out).mono ?_
            rintro e wx ⟨rfl, hbx⟩
            have HBE := Lib.hid (belowStep hbx HB.out)
            clear hbx
            go_wp2
            go_ret
            exact ⟨rfl, HBE.out⟩
          have q5 : ((cl : Int) != (k : Int)) = false := by
            have : cl = k := HTW.out.2 hnd
            simp [this]
          have hu9 := HUO.out.2.2.2 (by rw [← HVB.out]; exact badN_false HAB.out.symm) h1000 hnd
          have HVT := Lib.hid (show Con.validB t = true ∧ cs.all cstB = true from by rw [← HVB.out]; have := badN_false HAB.out.symm; rw [Bool.and_eq_true] at this; exact this)
          clear HTW hnd
          have q9 : (xc == 0) = true := by rw [hu9.2]; rfl
          have HXE := Lib.hid hu9.1
          clear hu9
          have GRU := Lib.hid (fun W (hW : Below wc.heap.size wc W) => HRU.out W (belowStep hW HB.out) HVT.out.1 HVT.out.2 HLm.out)
          have GSA := Lib.hid (fun W yv (hW : Below wc.heap.size wc W) (hy : ConV W (· < W.heap.size) (Con.subst (unb cs) t 0) yv) => (show Calls Tryz.prog 27 #[.agg #[.int .i64 x.op, .int .i64 x.n, .string x.s, .slice xka xkn xkc, .slice xna xnn xnc, .slice xla xln xlc], yv] W (fun e w' => e = .returned (.bool true) ∧ Below W.heap.size W w') from by
            have h := rsameB_any (· < W.heap.size) (· < W.heap.size) x (Con.subst (unb cs) t 0) W _ yv (fun _ h => h) (fun _ h => h) (HXV.out.grow hW) hy
            rw [HXE.out, sameB_self] at h
            rw [HXE.out]
            exact h))
          have HSS := Lib.hid (fun W (hW : Below wc.heap.size wc W) => (show Below wc.heap.size wc W ∧ W.cell? ⟨w.heap.size, 0, none⟩ = some (.int .i64 t.op) ∧ W.cell? ⟨w.heap.size, 1, none⟩ = some (.int .i64 t.n) ∧ W.cell? ⟨w.heap.size, 2, none⟩ = some (.string t.s) ∧ W.cell? ⟨w.heap.size, 3, none⟩ = some (.slice ka kn kc) ∧ W.cell? ⟨w.heap.size, 4, none⟩ = some (.slice na nn nc) ∧ W.cell? ⟨w.heap.size, 5, none⟩ = some (.slice la ln lc) ∧ W.cell? ⟨w8.heap.size, 0, none⟩ = some (.int .i64 x.op) ∧ W.cell? ⟨w8.heap.size, 1, none⟩ = some (.int .i64 x.n) ∧ W.cell? ⟨w8.heap.size, 2, none⟩ = some (.string x.s) ∧ W.cell? ⟨w8.heap.size, 3, none⟩ = some (.slice xka xkn xkc) ∧ W.cell? ⟨w8.heap.size, 4, none⟩ = some (.slice xna xnn xnc) ∧ W.cell? ⟨w8.heap.size, 5, none⟩ = some (.slice xla xln xlc) from ⟨hW, (HBX.out.of_eq (hW.block _ HBX.out.lt)).cell 0 _ rfl, (HBX.out.of_eq (hW.block _ HBX.out.lt)).cell 1 _ rfl, (HBX.out.of_eq (hW.block _ HBX.out.lt)).cell 2 _ rfl, (HBX.out.of_eq (hW.block _ HBX.out.lt)).cell 3 _ rfl, (HBX.out.of_eq (hW.block _ HBX.out.lt)).cell 4 _ rfl, (HBX.out.of_eq (hW.block _ HBX.out.lt)).cell 5 _ rfl, (HBV.out.of_eq (hW.block _ HBV.out.lt)).cell 0 _ rfl, (HBV.out.of_eq (hW.block _ HBV.out.lt)).cell 1 _ rfl, (HBV.out.of_eq (hW.block _ HBV.out.lt)).cell 2 _ rfl, (HBV.out.of_eq (hW.block _ HBV.out.lt)).cell 3 _ rfl, (HBV.out.of_eq (hW.block _ HBV.out.lt)).cell 4 _ rfl, (HBV.out.of_eq (hW.block _ HBV.out.lt)).cell 5 _ rfl⟩))
          have HD0 := Lib.hid (Below.refl wc.heap.size wc).drew
          obtain ⟨sx, hsx⟩ : ∃ z, z = Con.subst (unb cs) t 0 := ⟨_, rfl⟩
          rw [← hsx] at GRU GSA
          clear hsx HXE
          have c0 := HBX.out.cell 0 (.int .i64 t.op) rfl
          have c1 := HBX.out.cell 1 (.int .i64 t.n) rfl
          have c2 := HBX.out.cell 2 (.string t.s) rfl
          have c3 := HBX.out.cell 3 (.slice ka kn kc) rfl
          have c4 := HBX.out.cell 4 (.slice na nn nc) rfl
          have c5 := HBX.out.cell 5 (.slice la ln lc) rfl
          have e0 := HBV.out.cell 0 (.int .i64 x.op) rfl
          have e1 := HBV.out.cell 1 (.int .i64 x.n) rfl
          have e2 := HBV.out.cell 2 (.string x.s) rfl
          have e3 := HBV.out.cell 3 (.slice xka xkn xkc) rfl
          have e4 := HBV.out.cell 4 (.slice xna xnn xnc) rfl
          have e5 := HBV.out.cell 5 (.slice xla xln xlc) rfl
          go_wp2_with fail
          go_region_held3 (fun W => Below wc.heap.size wc W ∧ W.cell? ⟨w.heap.size, 0, none⟩ = some (.int .i64 t.op) ∧ W.cell? ⟨w.heap.size, 1, none⟩ = some (.int .i64 t.n) ∧ W.cell? ⟨w.heap.size, 2, none⟩ = some (.string t.s) ∧ W.cell? ⟨w.heap.size, 3, none⟩ = some (.slice ka kn kc) ∧ W.cell? ⟨w.heap.size, 4, none⟩ = some (.slice na nn nc) ∧ W.cell? ⟨w.heap.size, 5, none⟩ = some (.slice la ln lc) ∧ W.cell? ⟨w8.heap.size, 0, none⟩ = some (.int .i64 x.op) ∧ W.cell? ⟨w8.heap.size, 1, none⟩ = some (.int .i64 x.n) ∧ W.cell? ⟨w8.heap.size, 2, none⟩ = some (.string x.s) ∧ W.cell? ⟨w8.heap.size, 3, none⟩ = some (.slice xka xkn xkc) ∧ W.cell? ⟨w8.heap.size, 4, none⟩ = some (.slice xna xnn xnc) ∧ W.cell? ⟨w8.heap.size, 5, none⟩ = some (.slice xla xln xlc))
              (exact HSS.out _ (by with_reducible (repeat (first | exact Below.refl _ _ | exact HD0.out | refine Below.drew ?_ | refine below_new ?_ | refine belowStep (by assumption) ?_ | exact Nat.le_refl _))))
              (first
              | (go_at_call 28; (with_reducible refine Calls.mono (GRU.out _ ?_) ?_); (focus with_reducible (repeat (first | exact Below.refl _ _ | exact HD0.out | refine Below.drew ?_ | refine below_new ?_ | refine belowStep (by assumption) ?_ | exact Nat.le_refl _))); rintro e k1 ⟨⟨yv, rfl, hy⟩, hbk1⟩; have hbk := belowStep (a := wc) hbk1 (by with_reducible (repeat (first | exact Below.refl _ _ | exact HD0.out | refine Below.drew ?_ | refine below_new ?_ | refine belowStep (by assumption) ?_ | exact Nat.le_refl _))); have hyk := hy; obtain ⟨ua, un, uk, va, vn, vk, xa2, xn2, xk2, hyv, -, -, -⟩ := hy.shape; subst hyv)
              | (go_at_call 27; (with_reducible refine Calls.mono (GSA.out _ _ (by assumption) (by assumption)) ?_); rintro e k2 ⟨rfl, hbk2⟩)
              | fail)
          rename_i hHeld
          have HBE := Lib.hid (belowStep hHeld.1 HB.out)
          go_wp2
          go_ret
          exact ⟨rfl, HBE.out⟩
end Go.Proofs.YtpkgiemdnfbopaaGreat
