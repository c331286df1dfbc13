/-
  Walks of layer 8: whether a text has a part at an index.
-/
import Derived.Test.YthamhgnhdjahgaaKi
namespace Go.Proofs.Ythamhgnhdjahgaa
open Go Go.RowKit
open Pl (K)
set_option linter.unusedSimpArgs false

/-- a part at an index -/
def atN (l : List UInt8) (i : Nat) (p : List UInt8) : Bool := decide (i + p.length ≤ l.length) && ((l.drop i).take p.length == p)
theorem cut_toList (s : ByteArray) (i j : Nat) : (s.extract i j).toList = (s.toList.drop i).take (j - i) := by
  rw [Pl.toList_eq, Pl.toList_eq, ByteArray.data_extract, Array.toList_extract, List.extract]
theorem atN_app (a b p : List UInt8) : atN (a ++ (p ++ b)) a.length p = true := by
  unfold atN
  rw [List.drop_left, List.take_left, beq_self_eq_true, Bool.and_true]
  exact decide_eq_true (by rw [List.length_append, List.length_append]; omega)
theorem atN_iff (l : List UInt8) (i : Nat) (p : List UInt8) : atN l i p = true ↔ ∃ r, l.drop i = p ++ r ∧ i ≤ l.length := by
  unfold atN
  rw [Bool.and_eq_true, decide_eq_true_iff, beq_iff_eq]
  constructor
  · rintro ⟨h1, h2⟩
    exact ⟨(l.drop i).drop p.length, by rw [← h2, List.length_take, List.length_drop, Nat.min_eq_left (by omega)]; exact (List.take_append_drop _ _).symm, by omega⟩
  · rintro ⟨r, h1, h2⟩
    have := congrArg List.length h1
    rw [List.length_drop, List.length_append] at this
    exact ⟨by omega, by rw [h1, List.take_left]⟩
set_option maxRecDepth 100000 in
theorem rat_any (s p : ByteArray) (i : Nat) (w : World) (hs : s.size ≤ 1099511627776) (hi : i ≤ 1099511627776) (hp : p.size ≤ 100) :
    Calls Try.prog 56 #[.string s, .int .i64 i, .string p] w fun e w' => e = .returned (.bool (atN s.toList i p.toList)) ∧ Below w.heap.size w w' := by
  have HB : Hid (Below w.heap.size w w) := Below.refl _ _
  have HR := Lib.hid (show atN s.toList i p.toList = (decide (i + p.size ≤ s.size) && ((s.extract i (i + p.size)).toList == p.toList)) from by
    unfold atN
    rw [Pl.len_size, Pl.len_size, cut_toList, Nat.add_sub_cancel_left])
  generalize atN s.toList i p.toList = R at HR ⊢
  have q0 : decide ((0 : Int) ≤ (i : Int)) = true := decide_eq_true (by omega)
  have q1 : wrap64 ((i : Int) + (p.size : Int)) = (i : Int) + (p.size : Int) := by rw [wrap64]; omega
  by_cases h1 : i + p.size ≤ s.size
  · have q2 : decide ((i : Int) + (p.size : Int) ≤ (s.size : Int)) = true := decide_eq_true (by omega)
    have HF := Lib.hid (show R = ((s.extract i (i + p.size)).toList == p.toList) from by rw [HR.out, decide_eq_true h1, Bool.true_and])
    have hsl : ∀ W, Sem.run Try.prog (Instr.slice 9 (.string s) (some (.int .i64 (i : Int))) (some (.int .i64 ((i : Int) + (p.size : Int)))) none) W = .ok (.string (s.extract i (i + p.size))) W := fun W => by
      rw [run_slice_string W _ s .i64 .i64 (i : Int) ((i : Int) + (p.size : Int)) Try.underlying9 (by omega) (by omega) (by omega)]
      congr 3
    obtain ⟨r, hr⟩ : ∃ r, ((s.extract i (i + p.size)).toList == p.toList) = r := ⟨_, rfl⟩
    generalize s.extract i (i + p.size) = E at hsl hr HF
    rw [hr] at HF
    clear HR
    cases r
    · go_enter Try.func56, Try.ntmps56
      go_wp2
      go_ret
      exact ⟨by rw [HF.out]; rfl, HB.out⟩
    · go_enter Try.func56, Try.ntmps56
      go_wp2
      go_ret
      exact ⟨by rw [HF.out]; rfl, HB.out⟩
  · have q2 : decide ((i : Int) + (p.size : Int) ≤ (s.size : Int)) = false := decide_eq_false (by omega)
    have HF := Lib.hid (show R = false from by rw [HR.out, decide_eq_false h1, Bool.false_and])
    clear HR
    go_enter Try.func56, Try.ntmps56
    go_wp2
    go_ret
    exact ⟨by rw [HF.out]; rfl, HB.out⟩
end Go.Proofs.Ythamhgnhdjahgaa
