/-
  Walks of layer 2: many.
-/
import Derived.Test.YtbmkbenlhkcklaaMe
namespace Go.Proofs.Ytbmkbenlhkcklaa
open Go.RowKit

theorem indexBig_none (a c) (w : World) :
    Calls Try.prog 64 #[.slice a 0 c, .func (.func 42) #[] #[]] w fun e w' => e = .returned (.int .i64 (-1)) ∧ Below w.heap.size w w' := by
  have HBL : Hid (Below w.heap.size w w) := Below.refl _ _
  go_enter Try.func64, Try.ntmps64
  go_wp2_with fail
  go_loopg [8] 1 (fun g v wr => v = .int .i64 0 ∧ wr = w)
  case atStart => exact ⟨rfl, rfl⟩
  case round =>
    obtain ⟨rfl, rfl⟩ := hrel
    go_wp2
    go_ret
    exact ⟨rfl, HBL.out⟩
theorem TokSlice.form {w : World} {v : Value} {ts : List Pl.Tok} (h : TokSlice w v ts) : ∃ a c, v = .slice a ts.length c ∧ ts.length ≤ maxLen := by
  rcases h with ⟨h0, a, c, rfl⟩ | ⟨b, off, c, rfl, h1, h2, h3, h4, h5⟩
  · exact ⟨a, c, by rw [h0]; rfl, by rw [h0]; exact Nat.zero_le _⟩
  · exact ⟨_, c, rfl, Nat.le_trans h2 h3⟩
theorem indexBig_any (v : Value) (ts : List Pl.Tok) (w : World) (h : TokSlice w v ts) :
    Calls Try.prog 64 #[v, .func (.func 42) #[] #[]] w fun e w' => (∃ r : Int, e = .returned (.int .i64 r) ∧ (r < 0 → ∀ t ∈ ts, t.text.length ≤ 17000)) ∧ Below w.heap.size w w' := by
  rcases h with ⟨h0, a, c, rfl⟩ | ⟨b, off, c, rfl, h1, h2, h3, h4, h5⟩
  · refine (indexBig_none a c w).mono ?_
    rintro e w' ⟨rfl, hb⟩
    exact ⟨⟨-1, rfl, fun _ t ht => by rw [h0] at ht; cases ht⟩, hb⟩
  · refine (indexBig_some b off c ts.length ts w rfl (Nat.le_trans h2 h3) h4 h5).mono ?_
    rintro e w' ⟨⟨r, rfl, _, _, hr⟩, hb⟩
    exact ⟨⟨r, rfl, hr⟩, hb⟩
theorem contains_any (v : Value) (ts : List Pl.Tok) (w : World) (h : TokSlice w v ts) :
    Calls Try.prog 41 #[v, .func (.func 42) #[] #[]] w fun e w' => (∃ r : Bool, e = .returned (.bool r) ∧ (r = false → ∀ t ∈ ts, t.text.length ≤ 17000)) ∧ Below w.heap.size w w' := by
  have HC := Lib.hid (indexBig_any v ts w h)
  obtain ⟨a, c, rfl, -⟩ := h.form
  clear h
  go_enter Try.func41, Try.ntmps41
  go_wp2_with fail
  refine HC.out.mono ?_
  rintro e w2 ⟨⟨r, rfl, hr⟩, hb2⟩
  have HR := Lib.hid hr
  have HB := Lib.hid hb2
  clear hr hb2
  by_cases h0 : (0 : Int) ≤ r
  · have q1 : decide ((0 : Int) ≤ r) = true := decide_eq_true h0
    go_wp2
    go_ret
    exact ⟨⟨true, rfl, fun h => by cases h⟩, HB.out⟩
  · have q1 : decide ((0 : Int) ≤ r) = false := decide_eq_false h0
    have HF := Lib.hid (HR.out (by omega))
    go_wp2
    go_ret
    exact ⟨⟨false, rfl, fun _ => HF.out⟩, HB.out⟩
theorem many_any (v : Value) (ts : List Pl.Tok) (w : World) (h : TokSlice w v ts) :
    Calls Try.prog 23 #[v] w fun e w' => (∃ r : Bool, e = .returned (.bool r) ∧ (r = false → ∀ t ∈ ts, t.text.length ≤ 17000)) ∧ Below w.heap.size w w' := by
  have HC := Lib.hid (contains_any v ts w h)
  obtain ⟨a, c, rfl, -⟩ := h.form
  clear h
  have HBL : Hid (Below w.heap.size w w) := Below.refl _ _
  generalize hn : ts.length = n at HC ⊢
  clear hn
  by_cases h1 : 60 < n
  · have q1 : decide ((60 : Int) < (n : Int)) = true := by simp; omega
    by_cases h2 : n ≤ 20000
    · have q2 : decide ((n : Int) ≤ 20000) = true := by simp; omega
      go_enter Try.func23, Try.ntmps23
      go_wp2_with fail
      go_ret
      exact ⟨⟨true, rfl, fun h => by cases h⟩, HBL.out⟩
    · have q2 : decide ((n : Int) ≤ 20000) = false := by simp; omega
      by_cases h3 : 20100 < n
      · have q3 : decide ((20100 : Int) < (n : Int)) = true := by simp; omega
        go_enter Try.func23, Try.ntmps23
        go_wp2_with fail
        go_ret
        exact ⟨⟨true, rfl, fun h => by cases h⟩, HBL.out⟩
      · have q3 : decide ((20100 : Int) < (n : Int)) = false := by simp; omega
        go_enter Try.func23, Try.ntmps23
        go_wp2_with fail
        refine HC.out.mono ?_
        rintro e w2 ⟨⟨r, rfl, hr⟩, hb2⟩
        have HR := Lib.hid hr
        have HB := Lib.hid hb2
        clear hr hb2
        go_wp2
        go_ret
        exact ⟨⟨r, rfl, HR.out⟩, HB.out⟩
  · have q1 : decide ((60 : Int) < (n : Int)) = false := by simp; omega
    have q3 : decide ((20100 : Int) < (n : Int)) = false := by simp; omega
    go_enter Try.func23, Try.ntmps23
    go_wp2_with fail
    refine HC.out.mono ?_
    rintro e w2 ⟨⟨r, rfl, hr⟩, hb2⟩
    have HR := Lib.hid hr
    have HB := Lib.hid hb2
    clear hr hb2
    go_wp2
    go_ret
    exact ⟨⟨r, rfl, HR.out⟩, HB.out⟩
end Go.Proofs.Ytbmkbenlhkcklaa
