/-
  Layer 9, plain: what Shift and Subst answer, and TyconBack's and TyconCommute's laws.
-/
import Derived.Test.YtmjkeejinagokaaQn
namespace Go.Proofs.Ytmjkeejinagokaa
open Go Go.RowKit
open Pl (K Con)
set_option linter.unusedSimpArgs false

mutual
/-- no variable in the gap of m behind f -/
def Con.gap (m : Int) : Con → Int → Bool
  | ⟨op, n, _, _, _, l⟩, f => if op = 1 then decide (n < f) || decide (f + m ≤ n) else Con.gaps m l (Con.deep op f)
def Con.gaps (m : Int) : List Con → Int → Bool
  | [], _ => true
  | t :: r, f => Con.gap m t f && Con.gaps m r f
end
theorem gaps_all (m f : Int) (l : List Con) : Con.gaps m l f = l.all (fun t => Con.gap m t f) := by
  induction l with
  | nil => rw [Con.gaps]; rfl
  | cons t r ih => rw [Con.gaps, ih]; rfl
theorem gap_var (m f : Int) (t : Con) (h : t.op = 1) : Con.gap m t f = (decide (t.n < f) || decide (f + m ≤ t.n)) := by
  obtain ⟨op, n, s, k, names, l⟩ := t
  have h : op = 1 := h
  rw [Con.gap, if_pos h]
theorem gap_node (m f : Int) (t : Con) (h : t.op ≠ 1) : Con.gap m t f = t.l.all (fun x => Con.gap m x (Con.deep t.op f)) := by
  obtain ⟨op, n, s, k, names, l⟩ := t
  have h : op ≠ 1 := h
  rw [Con.gap, if_neg h, gaps_all]
theorem gap_shift (t : Con) (m : Int) : ∀ f, 0 ≤ m → Con.gap m (Con.shift m t f) f = true := by
  induction t using Con.ind with
  | h t ih =>
  intro f hm
  by_cases h : t.op = 1
  · rw [Con.shift_var _ _ t h]
    by_cases h1 : f ≤ t.n
    · rw [if_pos h1, gap_var _ _ _ rfl]
      show (decide (t.n + m < f) || decide (f + m ≤ t.n + m)) = true
      rw [decide_eq_true (by omega : f + m ≤ t.n + m), Bool.or_true]
    · rw [if_neg h1, gap_var _ _ _ h, decide_eq_true (by omega : t.n < f), Bool.true_or]
  · rw [Con.shift_node _ _ t h, gap_node _ _ _ (show (Con.inside t _).op ≠ 1 from h)]
    show (t.l.map (fun x => Con.shift m x (Con.deep t.op f))).all (fun x => Con.gap m x (Con.deep t.op f)) = true
    rw [List.all_map, List.all_eq_true]
    exact fun x hx => ih x hx _ hm
theorem bytes_none {s : ByteArray} (h : s.toList = []) : s = ByteArray.empty := bytes_ext (h.trans (by rw [ByteArray.toList_eq]; rfl))
theorem kind_none {k : K} (h : k.l.length = 0) : k = .mk [] := by
  obtain ⟨l⟩ := k
  rw [List.eq_nil_of_length_eq_zero (show l.length = 0 from h)]
/-- a right variable is nothing but its index -/
theorem clean_node (t : Con) (h : Con.nodeB t = true) : Con.Clean t := by
  intro h1
  unfold Con.nodeB at h
  simp only [Bool.and_eq_true] at h
  obtain ⟨-, hs, -, hst, hk⟩ := h
  unfold Con.shapeB at hs
  unfold Con.strB at hst
  unfold Con.kindB at hk
  rw [h1] at hs hst hk
  rw [if_pos (by decide), Bool.and_eq_true, decide_eq_true_eq, decide_eq_true_eq] at hs
  rw [if_neg (by decide), decide_eq_true_eq] at hst
  rw [if_neg (by decide), decide_eq_true_eq] at hk
  have hl : t.l.length = 0 := by
    have := hs.1
    rw [show Con.partsOf 1 = 0 from rfl] at this
    omega
  obtain ⟨op, n, s, k, names, l⟩ := t
  have e1 : op = 1 := h1
  have e2 := bytes_none (s := s) hst
  have e3 := kind_none (k := k) hk
  have e4 : names = [] := List.eq_nil_of_length_eq_zero hs.2
  have e5 : l = [] := List.eq_nil_of_length_eq_zero hl
  subst e1 e2 e3 e4 e5
  rfl
theorem clean_all (t : Con) : Con.allB t = true → Con.clean t := by
  induction t using Con.ind with
  | h t ih =>
  intro h
  rw [allB_eq, Bool.and_eq_true, List.all_eq_true] at h
  exact (Con.clean_iff t).2 ⟨clean_node t h.1, fun x hx => ih x hx (h.2 x hx)⟩
theorem clean_valid (t : Con) (h : Con.validB t = true) : Con.clean t := by
  unfold Con.validB at h
  rw [Bool.and_eq_true] at h
  exact clean_all t h.2
/-- a result, or ErrBig -/
def outB (x : Con) : Con × Int := if Con.validB x then (x, 0) else (Con.none0, 6)
/-- what Shift answers -/
def shiftOut (t : Con) (b f : Int) : Con × Int :=
  if Con.validB t then (if f < 0 ∨ b < -20000 ∨ 20000 < b ∨ (b < 0 ∧ Con.gap (-b) t f = false) then (Con.none0, 2) else outB (Con.shift b t f)) else (Con.none0, 1)
/-- what Subst answers -/
def substOut (t : Con) (l : List Con) : Con × Int :=
  if Con.validB t && l.all Con.validB then (if 1000 < l.length then (Con.none0, 5) else outB (Con.subst l t 0)) else (Con.none0, 1)
theorem outB_cases (x : Con) : (Con.validB x = true ∧ outB x = (x, 0)) ∨ (Con.validB x = false ∧ outB x = (Con.none0, 6)) := by
  unfold outB
  cases h : Con.validB x
  · exact .inr ⟨rfl, if_neg (by simp)⟩
  · exact .inl ⟨rfl, if_pos rfl⟩
theorem shiftOut_up (t : Con) (b f : Int) (h : Con.validB t = true) (h0 : 0 ≤ b) (h1 : b ≤ 20000) (hf : 0 ≤ f) : shiftOut t b f = outB (Con.shift b t f) := by
  unfold shiftOut
  rw [if_pos h, if_neg (by omega)]
theorem shiftOut_back (t : Con) (b f : Int) (h : Con.validB t = true) (hs : Con.validB (Con.shift b t f) = true) (h0 : 0 ≤ b) (h1 : b ≤ 20000) (hf : 0 ≤ f) : shiftOut (Con.shift b t f) (-b) f = (t, 0) := by
  unfold shiftOut
  rw [if_pos hs, if_neg, Con.shift_back t b f h0 (clean_valid t h)]
  · unfold outB
    rw [if_pos h]
  · rintro (h2 | h2 | h2 | ⟨-, h2⟩)
    · omega
    · omega
    · omega
    · rw [show - -b = b from by omega, gap_shift t b f h0] at h2
      cases h2
theorem shiftOut_two (t : Con) (n m f : Int) (h : Con.validB t = true) (hs : Con.validB (Con.shift n t f) = true) (h0 : 0 ≤ n) (h1 : 0 ≤ m) (h2 : n + m ≤ 20000) (hf : 0 ≤ f) : shiftOut (Con.shift n t f) m f = shiftOut t (n + m) f := by
  rw [shiftOut_up _ m f hs h1 (by omega) hf, shiftOut_up t (n + m) f h (by omega) h2 hf, Con.shift_shift t m n f (n + f) h0 rfl f (by omega) (by omega)]
theorem substOut_up (t a : Con) (h : Con.validB t = true) (ha : Con.validB a = true) (hs : Con.validB (Con.shift 1 t 0) = true) : substOut (Con.shift 1 t 0) [a] = (t, 0) := by
  unfold substOut
  rw [hs, List.all_cons, ha, show (true && (true && ([] : List Con).all Con.validB)) = true from rfl, if_pos rfl, if_neg (by simp)]
  have := Con.subst_shift t a 0 0 (Int.le_refl _) (Int.le_refl _)
  rw [show (0 : Int) + 1 = 1 from rfl, show (0 : Int) + 0 = 0 from rfl, Con.shift_zero t 0 (clean_valid t h)] at this
  rw [this]
  unfold outB
  rw [if_pos h]
end Go.Proofs.Ytmjkeejinagokaa
