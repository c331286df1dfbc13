/-
  Layer 8: what the code's exported functions answer, all of it; the examples of the chapter hold.
-/
import Derived.Test.YthamhgnhdjahgaaJm
import Derived.Test.YthamhgnhdjahgaaJh
namespace Go.Proofs.Ythamhgnhdjahgaa
open Go Go.RowKit
open Pl (K)
set_option linter.unusedSimpArgs false

set_option maxRecDepth 100000 in
theorem arity_out (n : Int) (w : World) (h : n < 0 ∨ 100 < n) :
    Calls Try.prog 21 #[.int .i64 n] w (KindCode (fun _ => False) (.mk [], 2) w) := by
  obtain ⟨hbx, hb⟩ := box_new w 24 (.slice none 0 0)
  have HB := Lib.hid hb
  have HBX := Lib.hid hbx
  have c1 := hbx.cell 0 (.slice none 0 0) rfl
  have f1 := hbx.thaw 0
  have HX := Lib.hid (blk_one (y := .slice none 0 0) hbx)
  have HY := Lib.hid (below_set hb (Nat.le_refl w.heap.size) (.slice none 0 0))
  clear hb hbx
  by_cases h1 : n < 0
  · have q1 : decide (n < 0) = true := decide_eq_true h1
    clear h h1
    go_enter Try.func21, Try.ntmps21
    go_wp2
    have d0 := HX.out.cell 0 (.slice none 0 0) rfl
    refine bodyPost_ret (v := .tuple #[.agg #[.slice none 0 0], .int .i64 2]) (by first | (simp [results, Try.results21, go_sem, d0]; done) | (simp [results, Try.results21, go_sem, c1]; done)) rfl ?_
    refine ⟨⟨_, rfl, kV_none _ _⟩, ?_⟩
    first | exact HY.out | exact HB.out
  · have q1 : decide (n < 0) = false := decide_eq_false h1
    have q2 : decide ((100 : Int) < n) = true := decide_eq_true (by omega)
    clear h h1
    go_enter Try.func21, Try.ntmps21
    go_wp2
    have d0 := HX.out.cell 0 (.slice none 0 0) rfl
    refine bodyPost_ret (v := .tuple #[.agg #[.slice none 0 0], .int .i64 2]) (by first | (simp [results, Try.results21, go_sem, d0]; done) | (simp [results, Try.results21, go_sem, c1]; done)) rfl ?_
    refine ⟨⟨_, rfl, kV_none _ _⟩, ?_⟩
    first | exact HY.out | exact HB.out
theorem code8 : Code8 where
  valid P t w v hP ht := valid_any P t w v hP ht
  equal P Q t u w v x hP hQ ht hu := equal_any P Q t u w v x hP hQ ht hu
  star w := star_any w
  arrow P l to w v x hP hl ht := by
    refine (carrow_any P l to w v x hP hl ht).mono ?_
    rintro e w' ⟨⟨y, rfl, hy⟩, hb⟩
    exact ⟨⟨y, rfl, hy.mono (fun q hq => .inr hq)⟩, hb⟩
  arity n w := by
    unfold K.arityOut
    by_cases h : 0 ≤ n ∧ n ≤ 100
    · rw [if_pos h]
      obtain ⟨m, rfl⟩ : ∃ m : Nat, n = (m : Int) := ⟨n.toNat, by omega⟩
      rw [Int.toNat_natCast]
      refine (arity_in m w (by omega)).mono ?_
      rintro e w' ⟨⟨a, k, c, rfl, hk⟩, hb⟩
      exact ⟨⟨_, rfl, _, rfl, hk.mono (fun q hq => .inr hq)⟩, hb⟩
    · rw [if_neg h]
      exact arity_out n w (by omega)
  parts P t w v hP ht := cparts_any P t w v hP ht
  apply P f a w v x hP hf ha := capply_any P f a w v x hP hf ha
  text P t w v hP ht := ctext_any P t w v hP ht
  parse s w hs := cparse_any s w hs
end Go.Proofs.Ythamhgnhdjahgaa
