/-
  Walks of layer 9: nodes of a constructor, as the laws count them.
-/
import Derived.Test.YtmjkeejinagokaaQj
import Derived.Deep.RegionHeld3
namespace Go.Proofs.Ytmjkeejinagokaa
open Go Go.RowKit
open Pl (K Con)
set_option linter.unusedSimpArgs false

mutual
/-- nodes and names -/
def Con.wt : Con → Nat
  | ⟨_, _, _, _, names, l⟩ => 1 + names.length + Con.wts l
def Con.wts : List Con → Nat
  | [] => 0
  | t :: r => Con.wt t + Con.wts r
end
theorem wt_eq (t : Con) : Con.wt t = 1 + t.names.length + Con.wts t.l := by cases t; rw [Con.wt]
theorem wts_nil : Con.wts [] = 0 := by rw [Con.wts]
theorem wts_cons (t : Con) (r : List Con) : Con.wts (t :: r) = Con.wt t + Con.wts r := by rw [Con.wts]
theorem wts_take (l : List Con) (i : Nat) (h : i < l.length) : Con.wts (l.take (i + 1)) = Con.wts (l.take i) + Con.wt l[i] := by
  induction l generalizing i with
  | nil => exact absurd h (Nat.not_lt_zero _)
  | cons t r ih =>
    cases i with
    | zero => simp [wts_cons, wts_nil]
    | succ i =>
      have := ih i (by simpa using h)
      simp only [List.take_succ_cons, wts_cons, List.getElem_cons_succ]
      omega
theorem size_le_wt (t : Con) : t.size ≤ Con.wt t := by
  induction t using Con.ind with
  | h t ih =>
    rw [Con.size_eq, wt_eq]
    have : ∀ l : List Con, (∀ x ∈ l, x.size ≤ Con.wt x) → Con.sizes l ≤ Con.wts l := by
      intro l
      induction l with
      | nil => intro _; rw [Con.sizes_nil]; exact Nat.zero_le _
      | cons x r ihr =>
        intro h
        rw [Con.sizes_cons, wts_cons]
        have := h x List.mem_cons_self
        have := ihr (fun y hy => h y (List.mem_cons_of_mem _ hy))
        omega
    have := this t.l ih
    omega
theorem names_le_wt (t : Con) : t.names.length ≤ Con.wt t := by rw [wt_eq]; omega
end Go.Proofs.Ytmjkeejinagokaa
