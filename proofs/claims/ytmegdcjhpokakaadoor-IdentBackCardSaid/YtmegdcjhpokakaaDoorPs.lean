/-
  Plain mathematics of layer 1: labels are read as they were written.
-/
import Derived.Test.YtmegdcjhpokakaaDoorPq
import Derived.Test.YtmegdcjhpokakaaDoorPr
namespace Go.Proofs.YtmegdcjhpokakaaDoor.Pl
open Go

theorem head_prefix (k j : Nat) (hk1 : 1 ≤ k) (hk : k ≤ 5) (hj1 : 1 ≤ j) (hj : j ≤ 5) (l : Bytes) (hne : j ≠ k) : (head (j : Int)).isPrefixOf (head (k : Int) ++ l) = false := by
  have h1 : k = 1 ∨ k = 2 ∨ k = 3 ∨ k = 4 ∨ k = 5 := by omega
  have h2 : j = 1 ∨ j = 2 ∨ j = 3 ∨ j = 4 ∨ j = 5 := by omega
  rcases h1 with rfl | rfl | rfl | rfl | rfl <;> rcases h2 with rfl | rfl | rfl | rfl | rfl <;> first | exact absurd rfl hne | rfl
theorem prefix_self (a l : Bytes) : a.isPrefixOf (a ++ l) = true := by
  rw [List.isPrefixOf_iff_prefix]; exact List.prefix_append a l
theorem rest_self (k : Int) (l : Bytes) : rest k (head k ++ l) = l := by
  unfold rest; exact List.drop_left
theorem parts_label (k : Nat) (hk1 : 1 ≤ k) (hk : k ≤ 5) (l : Bytes) (hf : fits (k : Int) l = true) : parts (head (k : Int) ++ l) = ((k : Int), l) := by
  have h := parts_hit (head (k : Int) ++ l) k hk1 hk (by unfold hitN hit; rw [prefix_self, rest_self, hf]; rfl) (fun j h1 h2 => by
    unfold hitN hit; rw [head_prefix k j hk1 hk h1 (by omega) l (by omega)]; rfl)
  rw [h, rest_self]
theorem fits_name (k : Int) (l : Bytes) (hf : fits k l = true) : isName l = true := by
  unfold fits at hf
  unfold isName
  split at hf
  · rw [hf]; rfl
  · rw [hf]; simp
theorem head_label (k : Int) : (head k).all labelB = true := by
  unfold head; repeat' split
  all_goals decide
theorem isLabel_label (k : Nat) (l : Bytes) (hf : fits (k : Int) l = true) : isLabel (head (k : Int) ++ l) = true := by
  have hl := fits_le _ l hf
  have hh := head_le (k : Int)
  have hn := name_label l (fits_name _ l hf)
  unfold isLabel at hn ⊢
  rw [Bool.and_eq_true] at hn
  rw [List.all_append, head_label, hn.1, List.length_append, decide_eq_true (show 1 ≤ (head (k : Int)).length + l.length by omega), decide_eq_true (show (head (k : Int)).length + l.length ≤ 48 by omega)]
  rfl
theorem suffix_label (k : Nat) (hk1 : 1 ≤ k) (hk : k ≤ 5) (l : Bytes) : Lib.hasSuffix (head (k : Int) ++ l) (46 :: l) = true := by
  unfold Lib.hasSuffix
  rw [List.isSuffixOf_iff_suffix]
  have h1 : k = 1 ∨ k = 2 ∨ k = 3 ∨ k = 4 ∨ k = 5 := by omega
  rcases h1 with rfl | rfl | rfl | rfl | rfl
  · exact ⟨[118, 97, 108], rfl⟩
  · exact ⟨[116, 121, 112, 101], rfl⟩
  · exact ⟨[99, 111, 110], rfl⟩
  · exact ⟨[109, 111, 100], rfl⟩
  · exact ⟨[115, 105, 103], rfl⟩

end Go.Proofs.YtmegdcjhpokakaaDoor.Pl
