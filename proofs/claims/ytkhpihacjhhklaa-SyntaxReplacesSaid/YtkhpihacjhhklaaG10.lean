/-
  Walks and plain mathematics, several texts in one (Xa Xb Xc Xd Xe).
-/
import Derived.Test.YtkhpihacjhhklaaG9
import Derived.Deep.QuietTactic
import Derived.BigQuiet
/-
  Walks of layer 3: the reference's names, bare nodes, and parts of one category.
-/
namespace Go.Proofs.Ytkhpihacjhhklaa
open Go Go.RowKit
open Pl (Syn)
set_option linter.unusedSimpArgs false

set_option maxHeartbeats 1000000 in
theorem rLow_any (s : ByteArray) (w : World) (hs : s.size ≤ maxLen) : Calls Try.prog 98 #[.string s] w fun e w' => e = .returned (.bool (Pl.lowS s)) ∧ Below w.heap.size w w' := by
  have H := Lib.hid (show ∀ W, Calls Try.prog 106 #[.string s] W fun e w' => e = .returned (.bool (Pl.lowS s)) ∧ Below W.heap.size W w' from fun W => rIsLower_any s W hs)
  clear hs
  go_enter Try.func98, Try.ntmps98
  go_wp2_with fail
  refine (H.out _).mono ?_
  rintro e w1 ⟨rfl, hb⟩
  have HB := Lib.hid hb
  clear hb
  go_wp2
  go_ret
  exact ⟨rfl, HB.out⟩
set_option maxHeartbeats 1000000 in
theorem rUp_any (s : ByteArray) (w : World) (hs : s.size ≤ maxLen) : Calls Try.prog 101 #[.string s] w fun e w' => e = .returned (.bool (Pl.upS s)) ∧ w = w' := by
  have H := Lib.hid (show ∀ W, Calls Try.prog 107 #[.string s] W fun e w' => e = .returned (.bool (Pl.upS s)) ∧ W = w' from fun W => rIsUpper_any s W hs)
  clear hs
  go_enter Try.func101, Try.ntmps101
  go_wp2_with fail
  refine (H.out _).mono ?_
  rintro e w1 ⟨rfl, rfl⟩
  go_wp2
  go_ret
  exact ⟨rfl, rfl⟩
set_option maxHeartbeats 1000000 in
theorem rVar_any (s : ByteArray) (w : World) (hs : s.size ≤ maxLen) : Calls Try.prog 94 #[.string s] w fun e w' => e = .returned (.bool (Pl.varS s)) ∧ w = w' := by
  have H := Lib.hid (show ∀ W, Calls Try.prog 105 #[.string s] W fun e w' => e = .returned (.bool (Pl.varS s)) ∧ W = w' from fun W => rIsVar_any s W hs)
  clear hs
  go_enter Try.func94, Try.ntmps94
  go_wp2_with fail
  refine (H.out _).mono ?_
  rintro e w1 ⟨rfl, rfl⟩
  go_wp2
  go_ret
  exact ⟨rfl, rfl⟩
set_option maxRecDepth 100000 in
set_option maxHeartbeats 4000000 in
theorem rbare_any (P : Nat → Prop) (t : Syn) (n s m : Bool) (w : World) (v : Value) (ht : SynV w P t v) :
    Calls Try.prog 93 #[v, .bool n, .bool s, .bool m] w fun e w' => e = .returned (.bool (Pl.bare t n s m)) ∧ Below w.heap.size w w' := by
  rw [synV_iff] at ht
  obtain ⟨hs, nv, lv, rfl, hn, hl⟩ := ht
  obtain ⟨na, nc, rfl, hnm⟩ := hn.form
  obtain ⟨la, lc, rfl, hlm⟩ := hl.form
  have HB := Lib.hid (show Below w.heap.size w (w.alloc (.cells #[.int .i64 t.op, .int .i64 t.n, .string t.s, .slice na t.names.length nc, .slice la t.l.length lc] 25)) from (Below.refl _ _).alloc (Nat.le_refl _) _)
  have HE := Lib.hid (show Pl.bare t n s m = ((n || decide (t.n = 0)) && (s || t.s.toList.isEmpty) && (m || decide (t.names.length = 0))) from rfl)
  clear hs hn hl hnm hlm
  generalize Pl.bare t n s m = res at *
  generalize t.names.length = sn at *
  generalize t.l.length = ln at *
  cases n <;> cases s <;> cases m
  all_goals
    go_enter Try.func93, Try.ntmps93
    go_wp2
  all_goals
    go_ret
    refine ⟨ret_bool ?_, (Below.refl _ _).alloc (Nat.le_refl _) _⟩
    rw [HE.out]
    clear HB HE
    first | rfl | (simp_all; done) | (simp_all; rw [Bool.eq_iff_iff, beq_iff_eq, decide_eq_true_iff]; omega)
namespace Pl
/-- the parts from i to j belong to a category -/
def rallR (l : List Syn) (i j : Nat) (c : Int) : Bool := ((l.take j).drop i).all fun t => rbel t.op c
theorem rallR_iff (l : List Syn) (i j : Nat) (c : Int) : rallR l i j c = true ↔ ∀ q (h : q < l.length), i ≤ q → q < j → rbel l[q].op c = true := by
  unfold rallR
  rw [List.all_eq_true]
  constructor
  · intro h q hq h1 h2
    refine h _ (List.mem_iff_getElem?.2 ⟨q - i, ?_⟩)
    rw [List.getElem?_drop, show i + (q - i) = q from by omega, List.getElem?_take_of_lt h2, List.getElem?_eq_getElem hq]
  · intro h x hx
    obtain ⟨k, hk⟩ := List.mem_iff_getElem?.1 hx
    rw [List.getElem?_drop] at hk
    by_cases hj : i + k < j
    · rw [List.getElem?_take_of_lt hj] at hk
      obtain ⟨hl, e⟩ := List.getElem?_eq_some_iff.1 hk
      rw [← e]
      exact h _ hl (by omega) hj
    · rw [List.getElem?_eq_none (by rw [List.length_take]; omega)] at hk
      cases hk
theorem rallR_no (l : List Syn) (i j : Nat) (c : Int) (q : Nat) (h : q < l.length) (h1 : i ≤ q) (h2 : q < j) (hn : rbel l[q].op c = false) : rallR l i j c = false := by
  rw [Bool.eq_false_iff]
  intro e
  rw [(rallR_iff l i j c).1 e q h h1 h2] at hn
  cases hn
end Pl
set_option maxRecDepth 100000 in
set_option maxHeartbeats 4000000 in
theorem rall_any (P : Nat → Prop) (t : Syn) (i j : Nat) (c : Int) (w : World) (v : Value) (hP : ∀ b, P b → b < w.heap.size) (ht : SynV w P t v) (hij : i ≤ j) (hj : j ≤ t.l.length) :
    Calls Try.prog 96 #[v, .int .i64 i, .int .i64 j, .int .i64 c] w fun e w' => e = .returned (.bool (Pl.rallR t.l i j c)) ∧ Below w.heap.size w w' := by
  rw [synV_iff] at ht
  obtain ⟨hs, nv, lv, rfl, ⟨sa, sc, rfl, -⟩, hl⟩ := ht
  have hlm : t.l.length ≤ maxLen := by obtain ⟨a, c, _, h1, h2, _⟩ := hl; omega
  unfold maxLen at hlm
  generalize hsn : t.names.length = sn at *
  rcases hl.cases with ⟨hk0, a, c0, rfl, -, -⟩ | ⟨b, off, n, c0, rfl, hnl, hn0, hnc, hcm, hPb, hka⟩
  · have hj0 : j = 0 := by rw [hk0] at hj; simpa using hj
    have hi0 : i = 0 := by omega
    subst hj0 hi0
    have HR := Lib.hid (show Pl.rallR t.l 0 0 c = true from by rw [Pl.rallR_iff]; intro q _ _ h; omega)
    have hb1 : Below w.heap.size w (w.alloc (.cells #[.int .i64 t.op, .int .i64 t.n, .string t.s, .slice sa sn sc, .slice a 0 c0] 25)) := (Below.refl _ _).alloc (Nat.le_refl _) _
    have HB := Lib.hid hb1
    clear hl hk0 hb1 hs hsn
    go_enter Try.func96, Try.ntmps96
    go_wp2_with fail
    generalize w.alloc (.cells #[.int .i64 t.op, .int .i64 t.n, .string t.s, .slice sa sn sc, .slice a 0 c0] 25) = w0 at *
    go_loopg [9] 1 (fun g v wr => v = .int .i64 0 ∧ wr = w0)
    case atStart => exact ⟨rfl, rfl⟩
    case round =>
      obtain ⟨rfl, rfl⟩ := hrel
      go_wp2
      go_ret
      exact ⟨by rw [HR.out]; rfl, HB.out⟩
  · have hb1 : Below w.heap.size w (w.alloc (.cells #[.int .i64 t.op, .int .i64 t.n, .string t.s, .slice sa sn sc, .slice (some ⟨b, off, none⟩) n c0] 25)) := (Below.refl _ _).alloc (Nat.le_refl _) _
    have bx := blk_new w #[.int .i64 t.op, .int .i64 t.n, .string t.s, .slice sa sn sc, .slice (some ⟨b, off, none⟩) n c0] 25
    obtain ⟨c0', c1, c2, c3, c4⟩ := box_cells bx
    have HB := Lib.hid hb1
    have HNL := Lib.hid hnl
    have HKA := Lib.hid (hka.keep (Same.of_below hb1 hP) hPb)
    have HRB := Lib.hid (fun op W => rbelongs_any op c W)
    unfold maxLen at hcm
    clear hl bx hb1 hka hPb hs hsn
    go_enter Try.func96, Try.ntmps96
    go_wp2_with fail
    generalize w.alloc (.cells #[.int .i64 t.op, .int .i64 t.n, .string t.s, .slice sa sn sc, .slice (some ⟨b, off, none⟩) n c0] 25) = w0 at *
    go_loopg [9] (j + 1) (fun gg iv wr => ∃ k : Nat, i ≤ k ∧ k ≤ j ∧ iv = .int .i64 k ∧ gg = j + 1 - (k - i) ∧ wr = w0 ∧ ∀ q (h : q < t.l.length), i ≤ q → q < k → Pl.rbel t.l[q].op c = true)
    case atStart => exact ⟨i, Nat.le_refl _, hij, rfl, by omega, rfl, fun q _ h1 h2 => by omega⟩
    case round =>
      obtain ⟨k, hik, hkj, rfl, hg, rfl, hall⟩ := hrel
      have HA := Lib.hid hall
      clear hall
      by_cases hlt : k < j
      · have hkl : k < t.l.length := by omega
        obtain ⟨xo, xn, xs, na, nn, nc, la, ln, lc, hxo, a0, a1, a2, a3, a4, hxs⟩ := HKA.out.part k hkl
        have HXO := Lib.hid hxo
        have HN := Lib.hid (fun h => Pl.rallR_no t.l i j c k hkl hik hlt h)
        rw [hxo] at HN
        generalize hr : Pl.rbel xo c = r at *
        have HRR := Lib.hid (show Calls Try.prog 33 #[.int .i64 xo, .int .i64 c] wr fun e w' => e = .returned (.bool r) ∧ wr = w' from by rw [← hr]; exact HRB.out xo wr)
        have HRE := Lib.hid hr
        have hkn : k < n := by have := HNL.out; omega
        clear hxs hr hxo
        cases r
        · go_wp2_with fail
          refine HRR.out.mono ?_
          rintro e w3 ⟨rfl, rfl⟩
          go_wp2
          go_ret
          exact ⟨by rw [HN.out trivial]; rfl, HB.out⟩
        · go_wp2_with fail
          refine HRR.out.mono ?_
          rintro e w3 ⟨rfl, rfl⟩
          go_wp2
          go_roundg (gk - 1)
          case measure => omega
          case rel =>
            refine ⟨k + 1, by omega, by omega, by go_num, by omega, rfl, fun q hq h1 h2 => ?_⟩
            by_cases hqk : q = k
            · subst hqk
              rw [HXO.out]
              exact HRE.out
            · exact HA.out q hq h1 (by omega)
      · have hkn : k = j := by omega
        have HR := Lib.hid (show Pl.rallR t.l i j c = true from by rw [Pl.rallR_iff]; intro q hq h1 h2; exact HA.out q hq h1 (by omega))
        go_wp2
        go_ret
        exact ⟨by rw [HR.out]; rfl, HB.out⟩
end Go.Proofs.Ytkhpihacjhhklaa

/-
  Walks of layer 3: the reference's paths and parameters.
-/
namespace Go.Proofs.Ytkhpihacjhhklaa
open Go Go.RowKit
open Pl (Syn)
set_option linter.unusedSimpArgs false

namespace Pl
theorem path_iff (low : Bool) (zs : List ByteArray) : path low zs = true ↔ 1 ≤ zs.length ∧ ∀ q (h : q < zs.length), (if low = true ∧ q + 1 = zs.length then lowS zs[q] else upS zs[q]) = true := by
  induction zs with
  | nil => simp [path]
  | cons z r ih =>
    cases r with
    | nil =>
      rw [path]
      constructor
      · intro h
        refine ⟨by simp, fun q hq => ?_⟩
        obtain rfl : q = 0 := by simpa using hq
        cases low <;> simpa using h
      · rintro ⟨-, h⟩
        have := h 0 (by simp)
        cases low <;> simpa using this
    | cons y r =>
      rw [path, Bool.and_eq_true, ih]
      constructor
      · rintro ⟨hz, h1, h2⟩
        refine ⟨by simp, fun q hq => ?_⟩
        cases q with
        | zero => rw [if_neg (by simp)]; exact hz
        | succ q =>
          have := h2 q (by simpa using hq)
          simpa using this
      · rintro ⟨-, h⟩
        refine ⟨?_, by simp, fun q hq => ?_⟩
        · have := h 0 (by simp)
          rw [if_neg (by simp)] at this
          exact this
        · have := h (q + 1) (by simpa using hq)
          simpa using this
theorem path_no (low : Bool) (zs : List ByteArray) (q : Nat) (h : q < zs.length) (hn : (if low = true ∧ q + 1 = zs.length then lowS zs[q] else upS zs[q]) = false) : pathOk low zs = false := by
  unfold pathOk
  rw [Bool.and_eq_false_iff]
  refine .inr ?_
  rw [Bool.eq_false_iff]
  intro e
  rw [((path_iff low zs).1 e).2 q h] at hn
  cases hn
end Pl
set_option maxRecDepth 100000 in
set_option maxHeartbeats 4000000 in
theorem rpath_any (low : Bool) (P : Nat → Prop) (v : Value) (zs : List ByteArray) (w : World) (h : StrSl w P v zs) (hP : ∀ b, P b → b < w.heap.size) :
    Calls Try.prog 95 #[v, .bool low] w fun e w' => e = .returned (.bool (Pl.pathOk low zs)) ∧ Below w.heap.size w w' := by
  obtain ⟨a, c, rfl, h1, h2, -, h4, h5⟩ := h
  unfold maxLen at h2
  have HB0 := Lib.hid (Below.refl w.heap.size w)
  by_cases hn1 : zs.length < 1
  · have HR := Lib.hid (show Pl.pathOk low zs = false from by
      obtain rfl : zs = [] := List.eq_nil_of_length_eq_zero (by omega)
      rfl)
    have hn0 : zs.length = 0 := by omega
    generalize zs.length = n at *
    clear h4 h5
    go_enter Try.func95, Try.ntmps95
    go_wp2
    go_ret
    exact ⟨by rw [HR.out]; rfl, HB0.out⟩
  by_cases hn8 : 8 < zs.length
  · have HR := Lib.hid (show Pl.pathOk low zs = false from by
      unfold Pl.pathOk
      rw [decide_eq_false (by omega)]; rfl)
    generalize zs.length = n at *
    clear h4 h5
    go_enter Try.func95, Try.ntmps95
    go_wp2
    go_ret
    exact ⟨by rw [HR.out]; rfl, HB0.out⟩
  rcases h5 with rfl | ⟨b, off, rfl, hPb, h5⟩
  · exact absurd (by simp) hn1
  have H5 := Lib.hid h5
  have HZ := Lib.hid h4
  have HP := Lib.hid hP
  have HPB := Lib.hid hPb
  generalize hn : zs.length = n at *
  have HN := Lib.hid hn
  clear h4 h5 hn hP hPb
  go_enter Try.func95, Try.ntmps95
  go_wp2_with fail
  go_loopg [5] (n + 1) (fun g v wr => ∃ k : Nat, k ≤ n ∧ v = .int .i64 k ∧ g = n + 1 - k ∧ Below w.heap.size w wr ∧ ∀ q (h : q < zs.length), q < k → (if low = true ∧ q + 1 = zs.length then Pl.lowS zs[q] else Pl.upS zs[q]) = true)
  case atStart => exact ⟨0, by omega, rfl, by omega, HB0.out, fun q _ h => absurd h (Nat.not_lt_zero _)⟩
  case round =>
    obtain ⟨k, hk, rfl, hg, hbw, hall⟩ := hrel
    have HA := Lib.hid hall
    have HBW := Lib.hid hbw
    clear hall
    by_cases hlt : k < n
    · have hkl : k < zs.length := by rw [HN.out]; exact hlt
      have a0 := (H5.out.keep (Same.of_below hbw HP.out) HPB.out) k hkl
      have hzs := HZ.out _ (List.getElem_mem hkl)
      have HNO := Lib.hid (fun hh => Pl.path_no low zs k hkl hh)
      have HYS := Lib.hid (show (if low = true ∧ k + 1 = zs.length then Pl.lowS zs[k] else Pl.upS zs[k]) = true → ∀ q (h : q < zs.length), q < k + 1 → (if low = true ∧ q + 1 = zs.length then Pl.lowS zs[q] else Pl.upS zs[q]) = true from fun hx q hq h1 => by
        by_cases hqk : q = k
        · subst hqk; exact hx
        · exact HA.out q hq (by omega))
      rw [HN.out] at HNO
      have HYS2 := Lib.hid (show (if low = true ∧ k + 1 = n then Pl.lowS zs[k] else Pl.upS zs[k]) = true → _ from fun hx => HYS.out (by rw [HN.out]; exact hx))
      generalize zs[k] = z at *
      have HLO := Lib.hid (fun W => rLow_any z W hzs)
      have HUP := Lib.hid (fun W => rUp_any z W hzs)
      clear hzs HYS HA hbw
      by_cases hlast : low = true ∧ k + 1 = n
      · rw [if_pos hlast] at HNO HYS2
        obtain ⟨rfl, hk1⟩ := hlast
        have hkn : (n : Int) - 1 = k := by omega
        generalize Pl.lowS z = r at *
        cases r
        · go_wp2_with fail
          refine (HLO.out _).mono ?_
          rintro e w3 ⟨rfl, hb3⟩
          have HB3 := Lib.hid (belowStep hb3 HBW.out)
          clear hb3
          go_wp2
          go_ret
          exact ⟨by rw [HNO.out trivial]; rfl, HB3.out⟩
        · go_wp2_with fail
          refine (HLO.out _).mono ?_
          rintro e w3 ⟨rfl, hb3⟩
          have HB3 := Lib.hid (belowStep hb3 HBW.out)
          clear hb3
          go_wp2
          go_roundg (gk - 1)
          case measure => omega
          case rel => exact ⟨k + 1, by omega, by go_num, by omega, HB3.out, HYS2.out trivial⟩
      · rw [if_neg hlast] at HNO HYS2
        have hq : low = false ∨ (low = true ∧ ¬ (k : Int) = n - 1) := by
          cases low
          · exact .inl rfl
          · exact .inr ⟨rfl, fun e => hlast ⟨rfl, by omega⟩⟩
        clear hlast
        generalize Pl.upS z = r at *
        rcases hq with rfl | ⟨rfl, hkn⟩
        all_goals
          cases r
          · go_wp2_with fail
            refine (HUP.out _).mono ?_
            rintro e w3 ⟨rfl, rfl⟩
            go_wp2
            go_ret
            exact ⟨by rw [HNO.out trivial]; rfl, HBW.out⟩
          · go_wp2_with fail
            refine (HUP.out _).mono ?_
            rintro e w3 ⟨rfl, rfl⟩
            go_wp2
            go_roundg (gk - 1)
            case measure => omega
            case rel => exact ⟨k + 1, by omega, by go_num, by omega, HBW.out, HYS2.out trivial⟩
    · have HR := Lib.hid (show Pl.pathOk low zs = true from by
        unfold Pl.pathOk
        rw [decide_eq_true (by rw [HN.out]; omega), (Pl.path_iff low zs).2 ⟨by rw [HN.out]; omega, fun q hq => HA.out q hq (by have := HN.out; omega)⟩]; rfl)
      go_wp2
      go_ret
      exact ⟨by rw [HR.out]; rfl, HBW.out⟩
end Go.Proofs.Ytkhpihacjhhklaa

/-
  Walks of layer 3: the reference's parameters.
-/
namespace Go.Proofs.Ytkhpihacjhhklaa
open Go Go.RowKit
open Pl (Syn)
set_option linter.unusedSimpArgs false

namespace Pl
theorem params_yes (l : List ByteArray) (h1 : ∀ q (h : q < l.length), varS l[q] = true) (h2 : ∀ p q (hp : p < l.length) (hq : q < l.length), p < q → l[p] ≠ l[q]) : params l = decide (l.length ≤ 4) := by
  unfold params noTwin
  have a : l.all varS = true := by
    rw [List.all_eq_true]
    intro x hx
    obtain ⟨k, hk, e⟩ := List.mem_iff_getElem.1 hx
    rw [← e]; exact h1 k hk
  have b : l.Nodup := List.pairwise_iff_getElem.2 (fun i j hi hj hij => h2 i j hi hj hij)
  rw [a, decide_eq_true b, Bool.and_true, Bool.and_true]
theorem params_no1 (l : List ByteArray) (q : Nat) (h : q < l.length) (hn : varS l[q] = false) : params l = false := by
  rw [Bool.eq_false_iff]
  intro e
  unfold params at e
  rw [Bool.and_eq_true, Bool.and_eq_true, List.all_eq_true] at e
  rw [e.1.2 _ (List.getElem_mem h)] at hn
  cases hn
theorem params_no2 (l : List ByteArray) (p q : Nat) (hp : p < l.length) (hq : q < l.length) (hpq : p < q) (he : l[p] = l[q]) : params l = false := by
  rw [Bool.eq_false_iff]
  intro e
  unfold params noTwin at e
  rw [Bool.and_eq_true, Bool.and_eq_true] at e
  exact List.pairwise_iff_getElem.1 (of_decide_eq_true e.2) p q hp hq hpq he
end Pl
set_option maxRecDepth 100000 in
set_option maxHeartbeats 4000000 in
theorem rparams_any (P : Nat → Prop) (v : Value) (zs : List ByteArray) (w : World) (h : StrSl w P v zs) (hP : ∀ b, P b → b < w.heap.size) :
    Calls Try.prog 100 #[v] w fun e w' => e = .returned (.bool (Pl.params zs)) ∧ Below w.heap.size w w' := by
  obtain ⟨a, c, rfl, h1, h2, -, h4, h5⟩ := h
  unfold maxLen at h2
  have HB0 := Lib.hid (Below.refl w.heap.size w)
  rcases h5 with rfl | ⟨b, off, rfl, hPb, h5⟩
  · have HR := Lib.hid (show Pl.params [] = true from rfl)
    clear h4
    go_enter Try.func100, Try.ntmps100
    go_wp2_with fail
    go_loopg [3, 4] 1 (fun g iv jv wr => iv = .int .i64 0 ∧ wr = w)
    case atStart => exact ⟨rfl, rfl⟩
    case round =>
      obtain ⟨rfl, rfl⟩ := hrel
      go_wp2
      go_ret
      exact ⟨by rw [HR.out]; rfl, HB0.out⟩
  have H5 := Lib.hid h5
  have HZ := Lib.hid h4
  have HP := Lib.hid hP
  have HPB := Lib.hid hPb
  generalize hn : zs.length = n at *
  have HN := Lib.hid hn
  clear h4 h5 hn hP hPb
  go_enter Try.func100, Try.ntmps100
  go_wp2_with fail
  go_loopg [3, 4] (n + 1) (fun g iv jv wr => ∃ k : Nat, k ≤ n ∧ iv = .int .i64 k ∧ g = n + 1 - k ∧ Below w.heap.size w wr ∧ (∀ q (h : q < zs.length), q < k → Pl.varS zs[q] = true) ∧ ∀ p q (hp : p < zs.length) (hq : q < zs.length), p < q → q < k → zs[p] ≠ zs[q])
  case atStart => exact ⟨0, by omega, rfl, by omega, HB0.out, (fun q _ h => absurd h (Nat.not_lt_zero _)), fun p q _ _ _ h => absurd h (Nat.not_lt_zero _)⟩
  case round =>
    obtain ⟨k, hk, rfl, hg, hbw, hall, htw⟩ := hrel
    have HA := Lib.hid hall
    have HTW := Lib.hid htw
    have HBW := Lib.hid hbw
    clear hall htw
    by_cases hlt : k < n
    · have hkl : k < zs.length := by rw [HN.out]; exact hlt
      have a0 := (H5.out.keep (Same.of_below hbw HP.out) HPB.out) k hkl
      have HVA := Lib.hid (rVar_any zs[k] wr (HZ.out _ (List.getElem_mem hkl)))
      have HNO := Lib.hid (fun hh => Pl.params_no1 zs k hkl hh)
      have HYS := Lib.hid (show Pl.varS zs[k] = true → ∀ q (h : q < zs.length), q < k + 1 → Pl.varS zs[q] = true from fun hx q hq h1 => by
        by_cases hqk : q = k
        · subst hqk; exact hx
        · exact HA.out q hq (by omega))
      generalize Pl.varS zs[k] = r at *
      generalize hz : zs[k] = z at *
      have HZK := Lib.hid hz
      clear hz hbw
      cases r
      · go_wp2_with fail
        refine HVA.out.mono ?_
        rintro e w3 ⟨rfl, rfl⟩
        go_wp2
        go_ret
        exact ⟨by rw [HNO.out trivial]; rfl, HBW.out⟩
      · go_wp2_with fail
        refine HVA.out.mono ?_
        rintro e w3 ⟨rfl, rfl⟩
        clear a0
        obtain ⟨G, hG⟩ : ∃ G, G = gk := ⟨gk, rfl⟩
        go_wp2_with fail
        go_loopg [4] (k + 1) (fun g jv w4 => ∃ j : Nat, j ≤ k ∧ jv = .int .i64 j ∧ g = k + 1 - j ∧ Below w.heap.size w w4 ∧ ∀ p (hp : p < zs.length), p < j → zs[p] ≠ z)
        case atStart => exact ⟨0, by omega, rfl, by omega, HBW.out, fun p _ h => absurd h (Nat.not_lt_zero _)⟩
        case round =>
          obtain ⟨j, hj, rfl, hgj, hb4, hne⟩ := hrel
          have HB4 := Lib.hid hb4
          have HNE := Lib.hid hne
          clear hne
          by_cases hjk : j < k
          · have hjl : j < zs.length := by omega
            have a0 := (H5.out.keep (Same.of_below hb4 HP.out) HPB.out) k hkl
            have a1 := (H5.out.keep (Same.of_below hb4 HP.out) HPB.out) j hjl
            rw [HZK.out] at a0
            have HN2 := Lib.hid (fun he => Pl.params_no2 zs j k hjl hkl hjk he)
            rw [HZK.out] at HN2
            have HN3 := Lib.hid (show zs[j] ≠ z → ∀ p (hp : p < zs.length), p < j + 1 → zs[p] ≠ z from fun hx p hp h1 => by
              by_cases hpj : p = j
              · subst hpj; exact hx
              · exact HNE.out p hp (by omega))
            have HB4D := Lib.hid (below_drewN hb4)
            clear hb4
            generalize zs[j] = y at *
            by_cases hzy : y = z
            · subst hzy
              go_wp2_with fail
              go_quiet (fail)
              go_wp2
              go_ret
              exact ⟨by rw [HN2.out trivial]; rfl, HB4D.out _⟩
            · have hzy2 : (z.toList == y.toList) = false := (Lib.bytes_beq_false_iff _ _).2 (fun e => hzy e.symm)
              go_wp2_with fail
              go_quiet (fail)
              go_wp2
              go_roundg (gk - 1)
              case measure => omega
              case rel => exact ⟨j + 1, by omega, by go_num, by omega, HB4D.out _, HN3.out hzy⟩
          · have hj2 : j = k := by omega
            have HT2 := Lib.hid (show ∀ p q (hp : p < zs.length) (hq : q < zs.length), p < q → q < k + 1 → zs[p] ≠ zs[q] from fun p q hp hq hpq hqk => by
              by_cases hqe : q = k
              · subst hqe; rw [HZK.out]; exact HNE.out p hp (by omega)
              · exact HTW.out p q hp hq hpq (by omega))
            clear hb4
            go_wp2
            go_roundg (G - 1)
            case measure => omega
            case rel => exact ⟨k + 1, by omega, by go_num, by omega, HB4.out, HYS.out trivial, HT2.out⟩
    · have HR := Lib.hid (Pl.params_yes zs (fun q hq => HA.out q hq (by have := HN.out; omega)) (fun p q hp hq hpq => HTW.out p q hp hq hpq (by have := HN.out; omega)))
      rw [HN.out] at HR
      clear hbw
      go_wp2
      go_ret
      exact ⟨by rw [HR.out]; first | rfl | (congr 2; simp; omega), HBW.out⟩
end Go.Proofs.Ytkhpihacjhhklaa

/-
  Walks of layer 3: the reference's exact parts.
-/
namespace Go.Proofs.Ytkhpihacjhhklaa
open Go Go.RowKit
open Pl (Syn)
set_option linter.unusedSimpArgs false

namespace Pl
theorem exact_iff (l : List Syn) : ∀ cs : List Int, exact l cs = true ↔ l.length = cs.length ∧ ∀ q (h : q < l.length) (h' : q < cs.length), (if cs[q] = 0 then decide (l[q].op = 72) else rbel l[q].op cs[q]) = true := by
  induction l with
  | nil =>
    intro cs
    cases cs with
    | nil => simp [exact]
    | cons c cs => simp [exact]
  | cons t r ih =>
    intro cs
    cases cs with
    | nil => simp [exact]
    | cons c cs =>
      rw [exact, Bool.and_eq_true, ih]
      constructor
      · rintro ⟨h0, h1, h2⟩
        refine ⟨by simp [h1], fun q hq hq' => ?_⟩
        cases q with
        | zero => exact h0
        | succ q =>
          have := h2 q (by simpa using hq) (by simpa using hq')
          simpa using this
      · rintro ⟨h1, h2⟩
        refine ⟨h2 0 (by simp) (by simp), by simpa using h1, fun q hq hq' => ?_⟩
        have := h2 (q + 1) (by simpa using hq) (by simpa using hq')
        simpa using this
theorem exact_no (l : List Syn) (cs : List Int) (q : Nat) (h : q < l.length) (h' : q < cs.length) (hn : (if cs[q] = 0 then decide (l[q].op = 72) else rbel l[q].op cs[q]) = false) : exact l cs = false := by
  rw [Bool.eq_false_iff]
  intro e
  rw [((exact_iff l cs).1 e).2 q h h'] at hn
  cases hn
end Pl
set_option maxRecDepth 100000 in
set_option maxHeartbeats 8000000 in
theorem rexact_any (P : Nat → Prop) (t : Syn) (cs : List Int) (hcs : cs ≠ []) (w : World) (v u : Value) (hP : ∀ b, P b → b < w.heap.size) (ht : SynV w P t v) (hc : IntSl w u cs) :
    Calls Try.prog 97 #[v, u] w fun e w' => e = .returned (.bool (Pl.exact t.l cs)) ∧ Below w.heap.size w w' := by
  obtain ⟨ca, cc, rfl, hc1, hc2⟩ := hc
  rcases hc2 with rfl | ⟨cb, co, rfl, hcb, hci⟩
  · exact absurd rfl hcs
  rw [synV_iff] at ht
  obtain ⟨hs, nv, lv, rfl, ⟨sa, sc, rfl, -⟩, hl⟩ := ht
  have hlm : t.l.length ≤ maxLen := by obtain ⟨a, c, _, h1, h2, _⟩ := hl; omega
  unfold maxLen at hlm
  obtain ⟨la, lc, rfl, hlmm⟩ := hl.form
  have HB := Lib.hid (show Below w.heap.size w (w.alloc (.cells #[.int .i64 t.op, .int .i64 t.n, .string t.s, .slice sa t.names.length sc, .slice la t.l.length lc] 25)) from (Below.refl _ _).alloc (Nat.le_refl _) _)
  by_cases hlen : t.l.length = cs.length
  · have hcp : 0 < cs.length := List.length_pos_iff.2 hcs
    rcases hl.cases with ⟨hk0, -⟩ | ⟨b, off, nn0, c, hle, hnl, hn0, hnc, hcm, hPb, hka⟩
    · rw [hk0] at hlen; simp at hlen; omega
    injection hle with e1 e2 e3
    subst e1 e3
    clear e2
    have bx := blk_new w #[.int .i64 t.op, .int .i64 t.n, .string t.s, .slice sa t.names.length sc, .slice (some ⟨b, off, none⟩) t.l.length lc] 25
    obtain ⟨c0, c1, c2, c3, c4⟩ := box_cells bx
    have HBX := Lib.hid bx
    have HKA := Lib.hid hka
    have HP := Lib.hid hP
    have HPB := Lib.hid hPb
    have HCI := Lib.hid hci
    have HCB := Lib.hid hcb
    have HLT := Lib.hid (Blk.lt bx)
    have HCN0 := Lib.hid hlen
    generalize hln : t.l.length = n at *
    generalize hcn : cs.length = m at *
    generalize t.names.length = sn at *
    subst hlen
    have HCN := Lib.hid hcn
    have HLN := Lib.hid hln
    unfold maxLen at hcm
    clear hl bx hka hP hPb hci hcb hs hcn hln hcs hlmm hnl HCN0
    go_enter Try.func97, Try.ntmps97
    go_wp2_with fail
    generalize w.alloc (.cells #[.int .i64 t.op, .int .i64 t.n, .string t.s, .slice sa sn sc, .slice (some ⟨b, off, none⟩) n lc] 25) = w0 at *
    go_loopg [5] (n + 1) (fun g iv wr => ∃ k : Nat, k ≤ n ∧ iv = .int .i64 k ∧ g = n + 1 - k ∧ Below w0.heap.size w0 wr ∧ ∀ q (h : q < t.l.length) (h' : q < cs.length), q < k → (if cs[q] = 0 then decide (t.l[q].op = 72) else Pl.rbel t.l[q].op cs[q]) = true)
    case atStart => exact ⟨0, by omega, rfl, by omega, Below.refl _ _, fun q _ _ h => absurd h (Nat.not_lt_zero _)⟩
    case round =>
      obtain ⟨k, hk, rfl, hg, hbw, hall⟩ := hrel
      have HA := Lib.hid hall
      have HBW := Lib.hid (below_drewN (belowStep hbw HB.out))
      have HBD := Lib.hid (below_drewN hbw)
      clear hall
      by_cases hlt : k < n
      · have hkl : k < t.l.length := by rw [HLN.out]; exact hlt
        have hkc : k < cs.length := by rw [HCN.out]; exact hlt
        have hw0 := belowStep hbw HB.out
        obtain ⟨d0, d1, d2, d3, d4⟩ := box_cells (Blk.of_eq HBX.out (hbw.block _ HLT.out))
        obtain ⟨xo, xn, xs, na, nn, nc, la, ln, lc', hxo, a0, -⟩ := (HKA.out.keep (Same.of_below hw0 HP.out) HPB.out).part k hkl
        have i0 := HCI.out k hkc
        rw [← hw0.cell (p := ⟨cb, co + k, none⟩) HCB.out] at i0
        have HNO := Lib.hid (fun hh => Pl.exact_no t.l cs k hkl hkc hh)
        have HYS := Lib.hid (show (if cs[k] = 0 then decide (t.l[k].op = 72) else Pl.rbel t.l[k].op cs[k]) = true → ∀ q (h : q < t.l.length) (h' : q < cs.length), q < k + 1 → (if cs[q] = 0 then decide (t.l[q].op = 72) else Pl.rbel t.l[q].op cs[q]) = true from fun hx q hq hq' h1 => by
          by_cases hqk : q = k
          · subst hqk; exact hx
          · exact HA.out q hq hq' (by omega))
        rw [hxo] at HNO HYS
        generalize cs[k] = ck at *
        have HBE := Lib.hid (fun W => rbelongs_any xo ck W)
        clear hxo hw0 hbw c0 c1 c2 c3 c4
        by_cases hc0 : ck = 0
        · subst hc0
          rw [if_pos rfl] at HNO HYS
          by_cases h72 : xo = 72
          · subst h72
            go_wp2_with fail
            go_quiet (fail)
            go_wp2
            go_roundg (gk - 1)
            case measure => omega
            case rel => exact ⟨k + 1, by omega, by go_num, by omega, HBD.out _, HYS.out rfl⟩
          · have q : (xo != 72) = true := bne_iff_ne.2 h72
            have HQ := Lib.hid h72
            clear h72
            go_wp2_with fail
            go_quiet (fail)
            go_wp2
            go_ret
            exact ⟨by rw [HNO.out (decide_eq_false HQ.out)]; rfl, HBW.out _⟩
        · rw [if_neg hc0] at HNO HYS
          have q : (ck == 0) = false := beq_eq_false_iff_ne.2 hc0
          have q2 : (ck != 0) = true := bne_iff_ne.2 hc0
          clear hc0
          generalize Pl.rbel xo ck = r at *
          cases r
          · go_wp2_with fail
            go_quiet ((go_at_call 33; exact Calls.quiet_of_same ((HBE.out _).mono fun _ _ ⟨he, hw⟩ => ⟨he, hw.symm⟩)))
            go_wp2
            go_ret
            exact ⟨by rw [HNO.out trivial]; rfl, HBW.out _⟩
          · go_wp2_with fail
            go_quiet ((go_at_call 33; exact Calls.quiet_of_same ((HBE.out _).mono fun _ _ ⟨he, hw⟩ => ⟨he, hw.symm⟩)))
            go_wp2
            go_roundg (gk - 1)
            case measure => omega
            case rel => exact ⟨k + 1, by omega, by go_num, by omega, HBD.out _, HYS.out trivial⟩
      · have HR := Lib.hid (show Pl.exact t.l cs = true from (Pl.exact_iff t.l cs).2 ⟨by rw [HLN.out, HCN.out], fun q hq hq' => HA.out q hq hq' (by have := HCN.out; omega)⟩)
        have HW := Lib.hid (belowStep hbw HB.out)
        clear hbw
        go_wp2
        go_ret
        exact ⟨by rw [HR.out]; rfl, HW.out⟩
  · have HR := Lib.hid (show Pl.exact t.l cs = false from by
      rw [Bool.eq_false_iff]; intro e; exact hlen ((Pl.exact_iff t.l cs).1 e).1)
    have hlen2 : ¬ (t.l.length : Int) = cs.length := by omega
    generalize t.names.length = sn at *
    generalize t.l.length = ln at *
    generalize cs.length = cn at *
    clear hs hl hci hlmm
    go_enter Try.func97, Try.ntmps97
    go_wp2
    go_ret
    exact ⟨by rw [HR.out]; rfl, HB.out⟩
end Go.Proofs.Ytkhpihacjhhklaa

/-
  Walks of layer 3: the reference's forms of types.
-/
namespace Go.Proofs.Ytkhpihacjhhklaa
open Go Go.RowKit
open Pl (Syn)
set_option linter.unusedSimpArgs false

theorem rallR_all (l : List Syn) (c : Int) : Pl.rallR l 0 l.length c = Pl.rall l c := by
  unfold Pl.rallR Pl.rall
  rw [List.take_length, List.drop_zero]
/-- what a form's walk knows of its node in every world behind -/
structure Node (P : Nat → Prop) (t : Syn) (w0 : World) (g : Nat) (v : Value) : Prop where
  bare : ∀ W (n s m : Bool), Below w0.heap.size w0 W → Calls Try.prog 93 #[v, .bool n, .bool s, .bool m] W fun e w' => e = .returned (.bool (Pl.bare t n s m)) ∧ Below W.heap.size W w'
  low : ∀ W, Calls Try.prog 98 #[.string t.s] W fun e w' => e = .returned (.bool (Pl.lowS t.s)) ∧ Below W.heap.size W w'
  up : ∀ W, Calls Try.prog 101 #[.string t.s] W fun e w' => e = .returned (.bool (Pl.upS t.s)) ∧ W = w'
  var : ∀ W, Calls Try.prog 94 #[.string t.s] W fun e w' => e = .returned (.bool (Pl.varS t.s)) ∧ W = w'
  all : ∀ W (i j : Nat) (c : Int), Below w0.heap.size w0 W → i ≤ j → j ≤ t.l.length → Calls Try.prog 96 #[v, .int .i64 i, .int .i64 j, .int .i64 c] W fun e w' => e = .returned (.bool (Pl.rallR t.l i j c)) ∧ Below W.heap.size W w'
  ex1 : ∀ W (x : Int) (c : Nat), Below w0.heap.size w0 W → Calls Try.prog 97 #[v, .slice (some ⟨W.heap.size, 0, none⟩) 1 c] (W.alloc (.cells #[.int .i64 x] 3)) fun e w' => e = .returned (.bool (Pl.exact t.l [x])) ∧ Below W.heap.size W w'
  ex2 : ∀ W (x y : Int) (c : Nat), Below w0.heap.size w0 W → Calls Try.prog 97 #[v, .slice (some ⟨W.heap.size, 0, none⟩) 2 c] (W.alloc (.cells #[.int .i64 x, .int .i64 y] 3)) fun e w' => e = .returned (.bool (Pl.exact t.l [x, y])) ∧ Below W.heap.size W w'
  ex3 : ∀ W (x y z : Int) (c : Nat), Below w0.heap.size w0 W → Calls Try.prog 97 #[v, .slice (some ⟨W.heap.size, 0, none⟩) 3 c] (W.alloc (.cells #[.int .i64 x, .int .i64 y, .int .i64 z] 3)) fun e w' => e = .returned (.bool (Pl.exact t.l [x, y, z])) ∧ Below W.heap.size W w'
theorem node_of (P : Nat → Prop) (t : Syn) (w0 : World) (g : Nat) (v : Value) (hP : ∀ b, P b → b < w0.heap.size) (ht : SynV w0 P t v) : Node P t w0 g v := by
  have hs : t.s.size ≤ maxLen := ((synV_iff _ _ _ _).1 ht).1
  have hW : ∀ W, Below w0.heap.size w0 W → SynV W P t v := fun W h => ht.keep (Same.of_below h hP)
  have hPW : ∀ W, Below w0.heap.size w0 W → ∀ b, P b → b < W.heap.size := fun W h b hb => Nat.lt_of_lt_of_le (hP b hb) h.size
  refine ⟨fun W n s m h => rbare_any P t n s m W v (hW W h), fun W => rLow_any t.s W hs, fun W => rUp_any t.s W hs, fun W => rVar_any t.s W hs, fun W i j c h hij hj => rall_any P t i j c W v (hPW W h) (hW W h) hij hj, fun W x c h => ?_, fun W x y c h => ?_, fun W x y z c h => ?_⟩
  all_goals
    have hA : ∀ o : Obj, Below W.heap.size W (W.alloc o) := fun o => (Below.refl _ _).alloc (Nat.le_refl _) _
    have hA2 : ∀ o : Obj, Below w0.heap.size w0 (W.alloc o) := fun o => belowStep (hA o) h
  · exact (rexact_any P t [x] (by simp) _ v _ (hPW _ (hA2 _)) (hW _ (hA2 _)) (intSl_1 W x c)).mono fun e w' ⟨h1, h2⟩ => ⟨h1, belowStep h2 (hA _)⟩
  · exact (rexact_any P t [x, y] (by simp) _ v _ (hPW _ (hA2 _)) (hW _ (hA2 _)) (intSl_2 W x y c)).mono fun e w' ⟨h1, h2⟩ => ⟨h1, belowStep h2 (hA _)⟩
  · exact (rexact_any P t [x, y, z] (by simp) _ v _ (hPW _ (hA2 _)) (hW _ (hA2 _)) (intSl_3 W x y z c)).mono fun e w' ⟨h1, h2⟩ => ⟨h1, belowStep h2 (hA _)⟩
end Go.Proofs.Ytkhpihacjhhklaa
