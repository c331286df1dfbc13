/-
  Plain mathematics of layer 2: a comment around a source. No program.
-/
import Derived.Test.YtbmkbenlhkcklaaMs
namespace Go.Proofs.Ytbmkbenlhkcklaa
open Go Go.RowKit
namespace Pl
def noCom (b : UInt8) : Bool := b != 40 && b != 42 && b != 41
theorem com_plain : ∀ (l rest : Bytes) (d k : Nat), l.all noCom = true → com (l ++ rest) false d k = com rest false d (k + l.length) := by
  intro l
  induction l with
  | nil => intro rest d k _; rfl
  | cons a r ih =>
    intro rest d k h
    rw [List.all_cons, Bool.and_eq_true] at h
    obtain ⟨h1, h2⟩ := h
    unfold noCom at h1
    simp only [Bool.and_eq_true, bne_iff_ne, ne_eq] at h1
    have ho : opens (a :: (r ++ rest)) = false := by
      rw [Bool.eq_false_iff]; intro hx
      unfold opens at hx
      cases hr : r ++ rest with
      | nil => rw [hr] at hx; simp [List.isPrefixOf] at hx
      | cons c z => rw [hr] at hx; simp only [List.isPrefixOf, Bool.and_eq_true, beq_iff_eq] at hx; exact h1.1.1 hx.1.symm
    have hc : closes (a :: (r ++ rest)) = false := by
      rw [Bool.eq_false_iff]; intro hx
      unfold closes at hx
      cases hr : r ++ rest with
      | nil => rw [hr] at hx; simp [List.isPrefixOf] at hx
      | cons c z => rw [hr] at hx; simp only [List.isPrefixOf, Bool.and_eq_true, beq_iff_eq] at hx; exact h1.1.2 hx.1.symm
    rw [List.cons_append, com, if_neg (by rw [ho]; simp), if_neg (by rw [hc]; simp), ih rest d (k + 1) h2, List.length_cons]
    congr 1; omega
/-- a comment around a source leaves no token -/
theorem tokens_comment (s : Bytes) (hs : s.length ≤ 600) (h : s.all noCom = true) :
    (tokens ([40, 42, 32] ++ s ++ [32, 42, 41])).err = 0 ∧ (tokens ([40, 42, 32] ++ s ++ [32, 42, 41])).toks.map kt = [(8, [])] := by
  have hc : com ([40, 42, 32] ++ s ++ [32, 42, 41]) false 0 0 = s.length + 6 := by
    rw [List.append_assoc]
    show com (40 :: 42 :: 32 :: (s ++ [32, 42, 41])) false 0 0 = _
    have e1 : com (40 :: 42 :: 32 :: (s ++ [32, 42, 41])) false 0 0 = com (32 :: (s ++ [32, 42, 41])) false 1 2 := rfl
    have e2 := com_plain (32 :: s) [32, 42, 41] 1 2 (by rw [List.all_cons, h]; rfl)
    rw [List.cons_append] at e2
    rw [e1, e2]
    show com [42, 41] false 1 (2 + (s.length + 1) + 1) = _
    have e3 : ∀ k, com [42, 41] false 1 k = k + 2 := fun k => rfl
    rw [e3]; omega
  have hsc : scan ([40, 42, 32] ++ s ++ [32, 42, 41]) = some [] := by
    refine (scan_com _ [] (s.length + 6) (by omega) rfl hc ?_).trans rfl
    exact List.drop_eq_nil_of_le (by simp)
  have := (tokens_scan ([40, 42, 32] ++ s ++ [32, 42, 41]) (by simp; omega)).2 _ hsc
  exact ⟨this.1, by rw [this.2]; rfl⟩
end Pl
end Go.Proofs.Ytbmkbenlhkcklaa
