/-
  Walks of layer 3: Valid, isTree, common categories.
-/
import Derived.Test.YtkhpihacjhhklaaTp
namespace Go.Proofs.Ytkhpihacjhhklaa
open Go Go.RowKit
open Pl (Syn)
set_option linter.unusedSimpArgs false

def validP (c : Int) (t : Syn) : Bool := Pl.bel t.op c && Pl.formed t
def anyP (t : Syn) : Bool := decide (Pl.cat t.op ≠ 0) && Pl.formed t
def common (op o : Int) : Bool := [1, 2, 3, 4, 5, 6, 7].any fun c => Pl.bel op c && Pl.bel o c
set_option maxRecDepth 100000 in
set_option maxHeartbeats 4000000 in
theorem valid_any (P : Nat → Prop) (t : Syn) (c : Int) (w : World) (v : Value) (hP : ∀ b, P b → b < w.heap.size) (ht : SynV w P t v) (hbig : t.big ≤ 536870912) :
    Calls Try.prog 11 #[.int .i64 c, v] w fun e w' => e = .returned (.bool (validP c t)) ∧ Below w.heap.size w w' := by
  have HT := Lib.hid ht
  obtain ⟨na, nn, nc, la, ln, lc, rfl⟩ := ht.form
  have hb : Below w.heap.size w (w.alloc (.cells #[.int .i64 t.op, .int .i64 t.n, .string t.s, .slice na nn nc, .slice la ln lc] 25)) := (Below.refl _ _).alloc (Nat.le_refl _) _
  have HB := Lib.hid hb
  have HC := Lib.hid (isWellFormed_any P t _ _ (fun b hb' => Nat.lt_of_lt_of_le (hP b hb') hb.size) (HT.out.keep (Same.of_below hb hP)) hbig)
  have HF := Lib.hid (show validP c t = (Pl.bel t.op c && Pl.formed t) from rfl)
  have HBE := Lib.hid (fun W => belongs_any t.op c W)
  generalize validP c t = rr at *
  generalize Pl.formed t = r2 at *
  generalize Pl.bel t.op c = r1 at *
  clear ht hb hP
  cases r1
  · go_enter Try.func11, Try.ntmps11
    go_wp2_with fail
    refine (HBE.out _).mono ?_
    rintro e w1 ⟨rfl, rfl⟩
    go_wp2
    go_ret
    exact ⟨ret_bool (by rw [HF.out]; rfl), HB.out⟩
  · go_enter Try.func11, Try.ntmps11
    go_wp2_with fail
    refine (HBE.out _).mono ?_
    rintro e w1 ⟨rfl, rfl⟩
    go_wp2_with fail
    refine HC.out.mono ?_
    rintro e w1 ⟨rfl, hb1⟩
    have HB1 := Lib.hid (HB.out.trans (hb1.mono HB.out.size))
    clear hb1
    go_wp2
    go_ret
    exact ⟨ret_bool (by rw [HF.out]; rfl), HB1.out⟩
set_option maxRecDepth 100000 in
set_option maxHeartbeats 4000000 in
theorem isTree_any (P : Nat → Prop) (t : Syn) (w : World) (v : Value) (hP : ∀ b, P b → b < w.heap.size) (ht : SynV w P t v) (hbig : t.big ≤ 536870912) :
    Calls Try.prog 39 #[v] w fun e w' => e = .returned (.bool (anyP t)) ∧ Below w.heap.size w w' := by
  have HT := Lib.hid ht
  obtain ⟨na, nn, nc, la, ln, lc, rfl⟩ := ht.form
  have hb : Below w.heap.size w (w.alloc (.cells #[.int .i64 t.op, .int .i64 t.n, .string t.s, .slice na nn nc, .slice la ln lc] 25)) := (Below.refl _ _).alloc (Nat.le_refl _) _
  have HB := Lib.hid hb
  have HC := Lib.hid (isWellFormed_any P t _ _ (fun b hb' => Nat.lt_of_lt_of_le (hP b hb') hb.size) (HT.out.keep (Same.of_below hb hP)) hbig)
  have HF := Lib.hid (show anyP t = (decide (Pl.cat t.op ≠ 0) && Pl.formed t) from rfl)
  have HBE := Lib.hid (fun W => category_any t.op W)
  generalize anyP t = rr at *
  generalize Pl.formed t = r2 at *
  generalize Pl.cat t.op = k at *
  clear ht hb hP
  by_cases hk : k = 0
  · have q : (k != 0) = false := by simp [hk]
    have HK := Lib.hid hk
    clear hk
    go_enter Try.func39, Try.ntmps39
    go_wp2_with fail
    refine (HBE.out _).mono ?_
    rintro e w1 ⟨rfl, rfl⟩
    go_wp2
    go_ret
    exact ⟨ret_bool (by rw [HF.out, HK.out]; rfl), HB.out⟩
  · have q : (k != 0) = true := by simpa using hk
    have HK := Lib.hid hk
    clear hk
    go_enter Try.func39, Try.ntmps39
    go_wp2_with fail
    refine (HBE.out _).mono ?_
    rintro e w1 ⟨rfl, rfl⟩
    go_wp2_with fail
    refine HC.out.mono ?_
    rintro e w1 ⟨rfl, hb1⟩
    have HB1 := Lib.hid (HB.out.trans (hb1.mono HB.out.size))
    clear hb1
    go_wp2
    go_ret
    exact ⟨ret_bool (by rw [HF.out, decide_eq_true HK.out]; rfl), HB1.out⟩
theorem common_iff (op o : Int) : common op o = true ↔ ∃ c : Nat, 1 ≤ c ∧ c ≤ 7 ∧ (Pl.bel op c && Pl.bel o c) = true := by
  unfold common
  rw [List.any_eq_true]
  constructor
  · rintro ⟨c, hc, h⟩
    simp only [List.mem_cons, List.mem_nil_iff, or_false] at hc
    rcases hc with rfl | rfl | rfl | rfl | rfl | rfl | rfl
    · exact ⟨1, by omega, by omega, h⟩
    · exact ⟨2, by omega, by omega, h⟩
    · exact ⟨3, by omega, by omega, h⟩
    · exact ⟨4, by omega, by omega, h⟩
    · exact ⟨5, by omega, by omega, h⟩
    · exact ⟨6, by omega, by omega, h⟩
    · exact ⟨7, by omega, by omega, h⟩
  · rintro ⟨c, h1, h2, h⟩
    refine ⟨c, ?_, h⟩
    simp only [List.mem_cons, List.mem_nil_iff, or_false]
    omega
set_option maxHeartbeats 4000000 in
theorem common_any (op o : Int) (w : World) : Calls Try.prog 47 #[.int .i64 op, .int .i64 o] w fun e w' => e = .returned (.bool (common op o)) ∧ w = w' := by
  have HI := Lib.hid (common_iff op o)
  generalize common op o = rr at *
  go_enter Try.func47, Try.ntmps47
  go_wp2_with fail
  go_loopg [5] 8 (fun g v wr => ∃ k : Nat, 1 ≤ k ∧ k ≤ 8 ∧ v = .int .i64 k ∧ g = 9 - k ∧ wr = w ∧ ∀ c : Nat, 1 ≤ c → c < k → (Pl.bel op c && Pl.bel o c) = false)
  case atStart => exact ⟨1, by omega, by omega, rfl, by omega, rfl, fun c h1 h2 => (by exfalso; omega)⟩
  case round =>
    obtain ⟨k, hk1, hk, rfl, hg, rfl, hall⟩ := hrel
    have HA := Lib.hid hall
    clear hall
    by_cases hlt : k ≤ 7
    · have H1 := Lib.hid (belongs_any op k wr)
      have H2 := Lib.hid (belongs_any o k wr)
      have HX := Lib.hid (show (Pl.bel op k && Pl.bel o k) = false → ∀ c : Nat, 1 ≤ c → c < k + 1 → (Pl.bel op c && Pl.bel o c) = false from fun h c h1 h2 => by
        rcases Nat.lt_or_ge c k with h3 | h3
        · exact HA.out c h1 h3
        · obtain rfl : c = k := by omega
          exact h)
      have HY := Lib.hid (show (Pl.bel op k && Pl.bel o k) = true → rr = true from fun h => HI.out.2 ⟨k, hk1, hlt, h⟩)
      generalize Pl.bel op k = r1 at *
      generalize Pl.bel o k = r2 at *
      cases r1
      · go_wp2_with fail
        refine H1.out.mono ?_
        rintro e w1 ⟨rfl, rfl⟩
        go_wp2
        go_roundg (gk - 1)
        case measure => omega
        case rel => exact ⟨k + 1, by omega, by omega, by go_num, by omega, rfl, HX.out (by first | rfl | trivial)⟩
      · go_wp2_with fail
        refine H1.out.mono ?_
        rintro e w1 ⟨rfl, rfl⟩
        go_wp2_with fail
        refine H2.out.mono ?_
        rintro e w1 ⟨rfl, rfl⟩
        cases r2
        · go_wp2
          go_roundg (gk - 1)
          case measure => omega
          case rel => exact ⟨k + 1, by omega, by omega, by go_num, by omega, rfl, HX.out (by first | rfl | trivial)⟩
        · go_wp2
          go_ret
          exact ⟨ret_bool (HY.out (by first | rfl | trivial)).symm, rfl⟩
    · obtain rfl : k = 8 := by omega
      have HZ := Lib.hid (show rr = false from by
        rw [Bool.eq_false_iff]
        intro h
        obtain ⟨c, h1, h2, h3⟩ := HI.out.1 h
        rw [HA.out c h1 (by omega)] at h3; cases h3)
      go_wp2
      go_ret
      exact ⟨ret_bool HZ.out.symm, rfl⟩
end Go.Proofs.Ytkhpihacjhhklaa
