/-
  Walks of layer 8: the reference's Text.
-/
import Derived.Test.YtmjiocpcenbndaaGreatDoorKh
namespace Go.Proofs.YtmjiocpcenbndaaGreatDoor
open Go Go.RowKit
open Pl (K)
set_option linter.unusedSimpArgs false

namespace Pl.K
/-- the text of a kind -/
def text : K → List UInt8
  | mk [] => [42]
  | mk [a, b] => (if a.l.length = 0 then text a else 40 :: (text a ++ [41])) ++ ([32, 45, 62, 32] ++ text b)
  | mk _ => []
theorem text_star : text (.mk []) = [42] := by rw [text]
theorem text_two (a b : K) : text (.mk [a, b]) = (if a.l.length = 0 then text a else 40 :: (text a ++ [41])) ++ ([32, 45, 62, 32] ++ text b) := by rw [text]
theorem ok_two {a b : K} (h : ok (.mk [a, b]) = true) : ok a = true ∧ ok b = true := by
  rw [ok, oks, oks, oks] at h
  simp only [Bool.and_eq_true] at h
  exact ⟨h.2.1, h.2.2.1⟩
theorem size_two (a b : K) : size (.mk [a, b]) = 1 + (size a + size b) := by rw [size, sizes, sizes, sizes]; omega
/-- what is well-formed has no part or two -/
theorem ok_cases {t : K} (h : ok t = true) : t = .mk [] ∨ ∃ a b, t = .mk [a, b] := by
  obtain ⟨l⟩ := t
  rw [ok, Bool.and_eq_true] at h
  match l, h with
  | [], _ => exact .inl rfl
  | [_], h => exact absurd h.1 (by simp)
  | [a, b], _ => exact .inr ⟨a, b, rfl⟩
  | _ :: _ :: _ :: _, h => exact absurd h.1 (by simp)
theorem text_len (t : K) (h : ok t = true) : (text t).length + 5 ≤ 6 * size t := by
  induction t using K.ind with
  | h t ih =>
    rcases ok_cases h with rfl | ⟨a, b, rfl⟩
    · rw [text_star, size, sizes]; simp
    · have h2 := ok_two h
      have ha := ih a (by simp [K.l]) h2.1
      have hb := ih b (by simp [K.l]) h2.2
      rw [text_two, size_two, List.length_append, List.length_append]
      split
      · simp only [List.length_cons, List.length_nil]; omega
      · simp only [List.length_cons, List.length_nil, List.length_append]; omega
end Pl.K
/-- bytes as a string -/
def mkB (l : List UInt8) : ByteArray := ⟨l.toArray⟩
theorem mkB_app (a b : List UInt8) : mkB a ++ mkB b = mkB (a ++ b) := by
  apply ByteArray.ext
  rw [ByteArray.data_append]
  simp [mkB]
theorem mkB_size (l : List UInt8) : (mkB l).size = l.length := by show l.toArray.size = _; simp
end Go.Proofs.YtmjiocpcenbndaaGreatDoor
