/-
  Layer 9: several texts in one (Qn Qo Qp Qq Qr Qs Qt).
-/
import Derived.Test.YtkjaicmfegpjdaaGreatQl
import Derived.Deep.RegionHeld3
import Derived.Deep.AppendLies
import Derived.Laws.OwnMore
namespace Go.Proofs.YtkjaicmfegpjdaaGreat
open Go Go.RowKit
open Pl (K Con)
set_option linter.unusedSimpArgs false

/-- whether two constructors are equal -/
noncomputable def Con.sameB (t u : Con) : Bool := @decide (t = u) (Classical.propDecidable _)
theorem sameB_iff (t u : Con) : Con.sameB t u = true ↔ t = u := by unfold Con.sameB; exact @decide_eq_true_iff _ (Classical.propDecidable _)
theorem sameB_self (t : Con) : Con.sameB t t = true := (sameB_iff t t).2 rfl
theorem rsameB_any (P Q : Nat → Prop) (t u : Con) (w : World) (v x : Value) (hP : ∀ b, P b → b < w.heap.size) (hQ : ∀ b, Q b → b < w.heap.size) (ht : ConV w P t v) (hu : ConV w Q u x) :
    Calls Tryz.prog 40 #[v, x] w fun e w' => e = .returned (.bool (Con.sameB t u)) ∧ Below w.heap.size w w' := by
  refine (rsame9_any P Q t u w v x hP hQ ht hu).mono ?_
  rintro e w' ⟨r, rfl, hr, hb⟩
  refine ⟨?_, hb⟩
  have : r = Con.sameB t u := by
    rw [Bool.eq_iff_iff, hr, sameB_iff]
  rw [this]
/-- the examples hold -/
def Awake9 : Prop := ∀ W : World, Calls Tryz.prog 8 #[] W fun e w' => e = .returned (.bool true) ∧ Below W.heap.size W w'
/-- two constructors side by side -/
theorem cons_two {w : World} {P : Nat → Prop} {g : Nat} {t u : Con} {x0 x1 x2 x3 x4 x5 y0 y1 y2 y3 y4 y5 : Value} (hb : Blk w g 28 #[x0, x1, x2, x3, x4, x5, y0, y1, y2, y3, y4, y5]) (hg : P g) (ht : ConV w P t (.agg #[x0, x1, x2, x3, x4, x5])) (hu : ConV w P u (.agg #[y0, y1, y2, y3, y4, y5])) : ConSl w P (.slice (some ⟨g, 0, none⟩) 2 2) [t, u] := by
  refine ⟨_, 2, rfl, by simp, by unfold maxLen; omega, (fun h => by cases h), .inr ⟨g, 0, rfl, hg, ?_⟩⟩
  rw [ConsAt, ConsAt, ConsAt]
  exact ⟨⟨_, ⟨x0, x1, x2, x3, x4, x5, rfl, hb.cell 0 _ rfl, hb.cell 1 _ rfl, hb.cell 2 _ rfl, hb.cell 3 _ rfl, hb.cell 4 _ rfl, hb.cell 5 _ rfl⟩, ht⟩, ⟨_, ⟨y0, y1, y2, y3, y4, y5, rfl, hb.cell 6 _ rfl, hb.cell 7 _ rfl, hb.cell 8 _ rfl, hb.cell 9 _ rfl, hb.cell 10 _ rfl, hb.cell 11 _ rfl⟩, hu⟩, trivial⟩
end Go.Proofs.YtkjaicmfegpjdaaGreat
namespace Go.Proofs.YtkjaicmfegpjdaaGreat
open Go Go.RowKit
open Pl (K Con)
set_option linter.unusedSimpArgs false

mutual
/-- no variable in the gap of m behind f -/
def Con.gap (m : Int) : Con → Int → Bool
  | ⟨op, n, _, _, _, l⟩, f => if op = 1 then decide (n < f) || decide (f + m ≤ n) else Con.gaps m l (Con.deep op f)
def Con.gaps (m : Int) : List Con → Int → Bool
  | [], _ => true
  | t :: r, f => Con.gap m t f && Con.gaps m r f
end
theorem gaps_all (m f : Int) (l : List Con) : Con.gaps m l f = l.all (fun t => Con.gap m t f) := by
  induction l with
  | nil => rw [Con.gaps]; rfl
  | cons t r ih => rw [Con.gaps, ih]; rfl
theorem gap_var (m f : Int) (t : Con) (h : t.op = 1) : Con.gap m t f = (decide (t.n < f) || decide (f + m ≤ t.n)) := by
  obtain ⟨op, n, s, k, names, l⟩ := t
  have h : op = 1 := h
  rw [Con.gap, if_pos h]
theorem gap_node (m f : Int) (t : Con) (h : t.op ≠ 1) : Con.gap m t f = t.l.all (fun x => Con.gap m x (Con.deep t.op f)) := by
  obtain ⟨op, n, s, k, names, l⟩ := t
  have h : op ≠ 1 := h
  rw [Con.gap, if_neg h, gaps_all]
theorem gap_shift (t : Con) (m : Int) : ∀ f, 0 ≤ m → Con.gap m (Con.shift m t f) f = true := by
  induction t using Con.ind with
  | h t ih =>
  intro f hm
  by_cases h : t.op = 1
  · rw [Con.shift_var _ _ t h]
    by_cases h1 : f ≤ t.n
    · rw [if_pos h1, gap_var _ _ _ rfl]
      show (decide (t.n + m < f) || decide (f + m ≤ t.n + m)) = true
      rw [decide_eq_true (by omega : f + m ≤ t.n + m), Bool.or_true]
    · rw [if_neg h1, gap_var _ _ _ h, decide_eq_true (by omega : t.n < f), Bool.true_or]
  · rw [Con.shift_node _ _ t h, gap_node _ _ _ (show (Con.inside t _).op ≠ 1 from h)]
    show (t.l.map (fun x => Con.shift m x (Con.deep t.op f))).all (fun x => Con.gap m x (Con.deep t.op f)) = true
    rw [List.all_map, List.all_eq_true]
    exact fun x hx => ih x hx _ hm
theorem bytes_none {s : ByteArray} (h : s.toList = []) : s = ByteArray.empty := bytes_ext (h.trans (by rw [ByteArray.toList_eq]; rfl))
theorem kind_none {k : K} (h : k.l.length = 0) : k = .mk [] := by
  obtain ⟨l⟩ := k
  rw [List.eq_nil_of_length_eq_zero (show l.length = 0 from h)]
/-- a right variable is nothing but its index -/
theorem clean_node (t : Con) (h : Con.nodeB t = true) : Con.Clean t := by
  intro h1
  unfold Con.nodeB at h
  simp only [Bool.and_eq_true] at h
  obtain ⟨-, hs, -, hst, hk⟩ := h
  unfold Con.shapeB at hs
  unfold Con.strB at hst
  unfold Con.kindB at hk
  rw [h1] at hs hst hk
  rw [if_pos (by decide), Bool.and_eq_true, decide_eq_true_eq, decide_eq_true_eq] at hs
  rw [if_neg (by decide), decide_eq_true_eq] at hst
  rw [if_neg (by decide), decide_eq_true_eq] at hk
  have hl : t.l.length = 0 := by
    have := hs.1
    rw [show Con.partsOf 1 = 0 from rfl] at this
    omega
  obtain ⟨op, n, s, k, names, l⟩ := t
  have e1 : op = 1 := h1
  have e2 := bytes_none (s := s) hst
  have e3 := kind_none (k := k) hk
  have e4 : names = [] := List.eq_nil_of_length_eq_zero hs.2
  have e5 : l = [] := List.eq_nil_of_length_eq_zero hl
  subst e1 e2 e3 e4 e5
  rfl
theorem clean_all (t : Con) : Con.allB t = true → Con.clean t := by
  induction t using Con.ind with
  | h t ih =>
  intro h
  rw [allB_eq, Bool.and_eq_true, List.all_eq_true] at h
  exact (Con.clean_iff t).2 ⟨clean_node t h.1, fun x hx => ih x hx (h.2 x hx)⟩
theorem clean_valid (t : Con) (h : Con.validB t = true) : Con.clean t := by
  unfold Con.validB at h
  rw [Bool.and_eq_true] at h
  exact clean_all t h.2
/-- a result, or ErrBig -/
def outB (x : Con) : Con × Int := if Con.validB x then (x, 0) else (Con.none0, 6)
/-- what Shift answers -/
def shiftOut (t : Con) (b f : Int) : Con × Int :=
  if Con.validB t then (if f < 0 ∨ b < -20000 ∨ 20000 < b ∨ (b < 0 ∧ Con.gap (-b) t f = false) then (Con.none0, 2) else outB (Con.shift b t f)) else (Con.none0, 1)
/-- what Subst answers -/
def substOut (t : Con) (l : List Con) : Con × Int :=
  if Con.validB t && l.all Con.validB then (if 1000 < l.length then (Con.none0, 5) else outB (Con.subst l t 0)) else (Con.none0, 1)
theorem outB_cases (x : Con) : (Con.validB x = true ∧ outB x = (x, 0)) ∨ (Con.validB x = false ∧ outB x = (Con.none0, 6)) := by
  unfold outB
  cases h : Con.validB x
  · exact .inr ⟨rfl, if_neg (by simp)⟩
  · exact .inl ⟨rfl, if_pos rfl⟩
theorem shiftOut_up (t : Con) (b f : Int) (h : Con.validB t = true) (h0 : 0 ≤ b) (h1 : b ≤ 20000) (hf : 0 ≤ f) : shiftOut t b f = outB (Con.shift b t f) := by
  unfold shiftOut
  rw [if_pos h, if_neg (by omega)]
theorem shiftOut_back (t : Con) (b f : Int) (h : Con.validB t = true) (hs : Con.validB (Con.shift b t f) = true) (h0 : 0 ≤ b) (h1 : b ≤ 20000) (hf : 0 ≤ f) : shiftOut (Con.shift b t f) (-b) f = (t, 0) := by
  unfold shiftOut
  rw [if_pos hs, if_neg, Con.shift_back t b f h0 (clean_valid t h)]
  · unfold outB
    rw [if_pos h]
  · rintro (h2 | h2 | h2 | ⟨-, h2⟩)
    · omega
    · omega
    · omega
    · rw [show - -b = b from by omega, gap_shift t b f h0] at h2
      cases h2
theorem shiftOut_two (t : Con) (n m f : Int) (h : Con.validB t = true) (hs : Con.validB (Con.shift n t f) = true) (h0 : 0 ≤ n) (h1 : 0 ≤ m) (h2 : n + m ≤ 20000) (hf : 0 ≤ f) : shiftOut (Con.shift n t f) m f = shiftOut t (n + m) f := by
  rw [shiftOut_up _ m f hs h1 (by omega) hf, shiftOut_up t (n + m) f h (by omega) h2 hf, Con.shift_shift t m n f (n + f) h0 rfl f (by omega) (by omega)]
theorem substOut_up (t a : Con) (h : Con.validB t = true) (ha : Con.validB a = true) (hs : Con.validB (Con.shift 1 t 0) = true) : substOut (Con.shift 1 t 0) [a] = (t, 0) := by
  unfold substOut
  rw [hs, List.all_cons, ha, show (true && (true && ([] : List Con).all Con.validB)) = true from rfl, if_pos rfl, if_neg (by simp)]
  have := Con.subst_shift t a 0 0 (Int.le_refl _) (Int.le_refl _)
  rw [show (0 : Int) + 1 = 1 from rfl, show (0 : Int) + 0 = 0 from rfl, Con.shift_zero t 0 (clean_valid t h)] at this
  rw [this]
  unfold outB
  rw [if_pos h]
end Go.Proofs.YtkjaicmfegpjdaaGreat
namespace Go.Proofs.YtkjaicmfegpjdaaGreat
open Go Go.RowKit
open Pl (K Con)
set_option linter.unusedSimpArgs false

/-- what the program's Shift and Subst answer -/
structure CodeS9 : Prop where
  shift : ∀ (t : Con) (b f : Int) (W : World) (v : Value), ConV W (· < W.heap.size) t v → -9223372036854775808 ≤ b → b ≤ 9223372036854775807 → -9223372036854775808 ≤ f → f ≤ 9223372036854775807 → Calls Tryz.prog 11 #[v, .int .i64 b, .int .i64 f] W fun e w' => (∃ y, e = .returned (.tuple #[y, .int .i64 (shiftOut t b f).2]) ∧ ConV w' (· < w'.heap.size) (shiftOut t b f).1 y) ∧ Below W.heap.size W w'
  subst : ∀ (t : Con) (l : List Con) (W : World) (v x : Value), ConV W (· < W.heap.size) t v → ConSl W (· < W.heap.size) x l → Calls Tryz.prog 21 #[v, x] W fun e w' => (∃ y, e = .returned (.tuple #[y, .int .i64 (substOut t l).2]) ∧ ConV w' (· < w'.heap.size) (substOut t l).1 y) ∧ Below W.heap.size W w'
/-- a constructor in a box stays -/
theorem ConV.grow {w w' : World} {t : Con} {v : Value} (h : ConV w (· < w.heap.size) t v) (hb : Below w.heap.size w w') : ConV w' (· < w'.heap.size) t v := (h.below (fun _ h => h) hb).mono (fun _ h => Nat.lt_of_lt_of_le h hb.size)
/-- one constructor in a slice -/
theorem cons_one {w : World} {P : Nat → Prop} {g : Nat} {t : Con} {x0 x1 x2 x3 x4 x5 : Value} (hb : Blk w g 28 #[x0, x1, x2, x3, x4, x5]) (hg : P g) (ht : ConV w P t (.agg #[x0, x1, x2, x3, x4, x5])) : ConSl w P (.slice (some ⟨g, 0, none⟩) 1 1) [t] := by
  refine ⟨_, 1, rfl, by simp, by unfold maxLen; omega, (fun h => by cases h), .inr ⟨g, 0, rfl, hg, ?_⟩⟩
  rw [ConsAt, ConsAt]
  exact ⟨⟨_, ⟨x0, x1, x2, x3, x4, x5, rfl, hb.cell 0 _ rfl, hb.cell 1 _ rfl, hb.cell 2 _ rfl, hb.cell 3 _ rfl, hb.cell 4 _ rfl, hb.cell 5 _ rfl⟩, ht⟩, trivial⟩
end Go.Proofs.YtkjaicmfegpjdaaGreat
namespace Go.Proofs.YtkjaicmfegpjdaaGreat
open Go Go.RowKit
open Pl (K Con)
set_option linter.unusedSimpArgs false

theorem depth_le_size (t : Con) : t.depth ≤ t.size := by
  induction t using Con.ind with
  | h t ih =>
    rw [Con.depth_eq, Con.size_eq]
    have : ∀ l : List Con, (∀ x ∈ l, x.depth ≤ x.size) → Con.depths l ≤ Con.sizes l := by
      intro l
      induction l with
      | nil => intro _; rw [Con.depths_nil]; exact Nat.zero_le _
      | cons x r ihr =>
        intro h
        rw [Con.depths_cons, Con.sizes_cons]
        have := h x List.mem_cons_self
        have := ihr (fun y hy => h y (List.mem_cons_of_mem _ hy))
        omega
    have := this t.l ih
    omega
/-- a function of constructors -/
def lam (t : Con) : Con := ⟨11, 0, ByteArray.empty, .mk [], [], [t]⟩
theorem lam_valid (t : Con) (h : Con.Tiny9 t) : Con.validB (lam t) = true := by
  obtain ⟨h1, h2⟩ := h
  have hs := size_le_wt t
  have hd := depth_le_size t
  unfold Con.validB at h2 ⊢
  rw [Bool.and_eq_true] at h2 ⊢
  constructor
  · unfold Con.small
    rw [Con.size_eq, Con.depth_eq]
    show (decide (1 + Con.sizes [t] ≤ 20000) && decide (1 + Con.depths [t] ≤ 400)) = true
    rw [Con.sizes_cons, Con.sizes_nil, Con.depths_cons, Con.depths_nil, decide_eq_true (by omega), decide_eq_true (by omega)]
    rfl
  · rw [allB_eq, Bool.and_eq_true]
    refine ⟨?_, ?_⟩
    · have hk : K.valid (.mk []) = true := by decide +kernel
      have he : ByteArray.empty.toList = [] := by rw [ByteArray.toList_eq]; rfl
      have e1 : Con.shapeB (lam t) = true := by simp [Con.shapeB, lam, Con.partsOf, Con.binder]
      have e2 : Con.numB (lam t) = true := by simp [Con.numB, lam]
      have e3 : Con.strB (lam t) = true := by simp [Con.strB, lam, he]
      have e4 : Con.kindB (lam t) = true := by simp [Con.kindB, lam, Con.binder, hk]
      have e5 : (decide (1 ≤ (lam t).op) && decide ((lam t).op ≤ 13)) = true := by simp [lam]
      unfold Con.nodeB
      rw [e1, e2, e3, e4, e5]
      rfl
    · show [t].all Con.allB = true
      rw [List.all_cons, h2.2]; rfl
theorem part_valid (t x : Con) (h : Con.validB t = true) (hx : x ∈ t.l) : Con.validB x = true := by
  unfold Con.validB at h ⊢
  rw [Bool.and_eq_true] at h ⊢
  have h1 := h.1
  unfold Con.small at h1 ⊢
  rw [Bool.and_eq_true, decide_eq_true_eq, decide_eq_true_eq, Con.size_eq, Con.depth_eq] at h1
  have hs := Con.mem_size hx
  have hd := Con.mem_depth hx
  refine ⟨by rw [decide_eq_true (by omega : x.size ≤ 20000), decide_eq_true (by omega : x.depth ≤ 400)]; rfl, ?_⟩
  have h2 := h.2
  rw [allB_eq, Bool.and_eq_true, List.all_eq_true] at h2
  exact h2.2 x hx
theorem substOut_ok (t : Con) (l : List Con) (h : Con.validB t = true) (hl : ∀ x ∈ l, Con.validB x = true) (hn : l.length ≤ 1000) : substOut t l = outB (Con.subst l t 0) := by
  unfold substOut
  rw [h, List.all_eq_true.2 hl, show (true && true) = true from rfl, if_pos rfl, if_neg (by omega)]
theorem subst_lam (t : Con) (l : List Con) : Con.subst l (lam t) 0 = lam (Con.subst l t 1) := by
  rw [Con.subst_node _ _ _ (show (lam t).op ≠ 1 from (by decide : (11 : Int) ≠ 1))]
  rfl
/-- both ways -/
theorem commute_out (t a : Con) (l : List Con) (h1 : Con.validB (Con.subst [a] t 0) = true) (h2 : Con.validB (Con.subst l a 0) = true) (h3 : Con.validB (lam (Con.subst l t 1)) = true) (hl : ∀ x ∈ l, Con.validB x = true) (hn : l.length ≤ 1000) :
    substOut (Con.subst [a] t 0) l = substOut (Con.subst l t 1) [Con.subst l a 0] := by
  have h4 : Con.validB (Con.subst l t 1) = true := part_valid _ _ h3 (by simp [lam])
  rw [substOut_ok _ l h1 hl hn, substOut_ok _ [Con.subst l a 0] h4 (fun x hx => by rw [List.mem_singleton.1 hx]; exact h2) (by simp), Con.subst_subst t a l 0 (Int.le_refl _)]
  rfl
set_option maxRecDepth 100000 in
theorem rbound_any (t : Con) (w : World) (v : Value) (ht : ConV w (· < w.heap.size) t v) :
    Calls Tryz.prog 43 #[.int .i64 11, .agg #[.slice none 0 0], v] w fun e w' => (∃ g, e = .returned (.agg #[.int .i64 11, .int .i64 0, .string ByteArray.empty, .slice none 0 0, .slice none 0 0, .slice (some ⟨g, 0, none⟩) 1 1]) ∧ ConV w' (· < w'.heap.size) (lam t) (.agg #[.int .i64 11, .int .i64 0, .string ByteArray.empty, .slice none 0 0, .slice none 0 0, .slice (some ⟨g, 0, none⟩) 1 1])) ∧ Below w.heap.size w w' := by
  have HT := Lib.hid (fun W (hW : Below w.heap.size w W) => ht.grow hW)
  obtain ⟨ka, kn, kc, na, nn, nc, la, ln, lc, rfl, -, -, -⟩ := ht.shape
  clear ht
  go_enter Tryz.func43, Tryz.ntmps43
  have hX : Below w.heap.size w (((w.alloc (.cells #[.slice none 0 0] 24)).alloc (.cells #[.int .i64 t.op, .int .i64 t.n, .string t.s, .slice ka kn kc, .slice na nn nc, .slice la ln lc] 28)).alloc (.cells #[.int .i64 11, .int .i64 0, .string ByteArray.empty, .slice none 0 0, .slice none 0 0, .slice (some ⟨w.heap.size + 1 + 1 + 1, 0, none⟩) 1 1] 28)) := below_new (below_new (below_new (Below.refl _ _)))
  have hs : (((w.alloc (.cells #[.slice none 0 0] 24)).alloc (.cells #[.int .i64 t.op, .int .i64 t.n, .string t.s, .slice ka kn kc, .slice na nn nc, .slice la ln lc] 28)).alloc (.cells #[.int .i64 11, .int .i64 0, .string ByteArray.empty, .slice none 0 0, .slice none 0 0, .slice (some ⟨w.heap.size + 1 + 1 + 1, 0, none⟩) 1 1] 28)).heap.size = w.heap.size + 1 + 1 + 1 := by rw [size_alloc, size_alloc, size_alloc]
  obtain ⟨hbx, hb⟩ := boxN_new (((w.alloc (.cells #[.slice none 0 0] 24)).alloc (.cells #[.int .i64 t.op, .int .i64 t.n, .string t.s, .slice ka kn kc, .slice na nn nc, .slice la ln lc] 28)).alloc (.cells #[.int .i64 11, .int .i64 0, .string ByteArray.empty, .slice none 0 0, .slice none 0 0, .slice (some ⟨w.heap.size + 1 + 1 + 1, 0, none⟩) 1 1] 28)) 28 #[.int .i64 t.op, .int .i64 t.n, .string t.s, .slice ka kn kc, .slice na nn nc, .slice la ln lc]
  have hr := (blk_new ((w.alloc (.cells #[.slice none 0 0] 24)).alloc (.cells #[.int .i64 t.op, .int .i64 t.n, .string t.s, .slice ka kn kc, .slice na nn nc, .slice la ln lc] 28)) #[.int .i64 11, .int .i64 0, .string ByteArray.empty, .slice none 0 0, .slice none 0 0, .slice (some ⟨w.heap.size + 1 + 1 + 1, 0, none⟩) 1 1] 28).alloc (.cells #[.int .i64 t.op, .int .i64 t.n, .string t.s, .slice ka kn kc, .slice na nn nc, .slice la ln lc] 28)
  rw [size_alloc, size_alloc] at hr
  have d0 := hr.cell 0 (.int .i64 11) rfl
  have d1 := hr.cell 1 (.int .i64 0) rfl
  have d2 := hr.cell 2 (.string ByteArray.empty) rfl
  have d3 := hr.cell 3 (.slice none 0 0) rfl
  have d4 := hr.cell 4 (.slice none 0 0) rfl
  have d5 := hr.cell 5 (.slice (some ⟨w.heap.size + 1 + 1 + 1, 0, none⟩) 1 1) rfl
  have HB := Lib.hid (belowStep hb hX)
  rw [hs] at hbx
  have HBX := Lib.hid hbx
  clear hbx hb hX hs hr
  go_wp2_with fail
  refine bodyPost_ret (v := .agg #[.int .i64 11, .int .i64 0, .string ByteArray.empty, .slice none 0 0, .slice none 0 0, .slice (some ⟨w.heap.size + 1 + 1 + 1, 0, none⟩) 1 1]) (by first | (simp [results, Tryz.results43, go_sem, d0, d1, d2, d3, d4, d5]; done) | (simp [results, Tryz.results43, go_sem, d0, d1, d2, d3, d4, d5]; rfl)) rfl ?_
  refine ⟨⟨w.heap.size + 1 + 1 + 1, rfl, ?_⟩, HB.out⟩
  rw [conV_iff]
  refine ⟨Nat.zero_le _, _, _, _, rfl, kidV_none _ _, ⟨none, 0, rfl, Nat.le_refl _, Nat.zero_le _, fun _ => rfl, (fun z hz => by cases hz), .inl rfl⟩, ?_⟩
  exact cons_one HBX.out HBX.out.lt (HT.out _ HB.out)
end Go.Proofs.YtkjaicmfegpjdaaGreat
namespace Go.Proofs.YtkjaicmfegpjdaaGreat
open Go Go.RowKit
open Pl (K Con)
set_option linter.unusedSimpArgs false

set_option maxRecDepth 100000 in
theorem none9_any (P : Nat → Prop) (t : Con) (w : World) (v : Value) (hP : ∀ b, P b → b < w.heap.size) (ht : ConV w P t v) :
    Calls Tryz.prog 13 #[v] w fun e w' => e = .returned (.bool (Con.sameB t Con.none0)) ∧ Below w.heap.size w w' := by
  have HS := Lib.hid (fun W (hW : Below w.heap.size w W) => rsameB_any P (fun _ => False) t Con.none0 W v (.agg #[.int .i64 0, .int .i64 0, .string ByteArray.empty, .slice none 0 0, .slice none 0 0, .slice none 0 0]) (fun b h => Nat.lt_of_lt_of_le (hP b h) hW.size) (fun b h => h.elim) (ht.below hP hW) (conV_none W _))
  obtain ⟨ka, kn, kc, na, nn, nc, la, ln, lc, rfl, -, -, -, hbx, hb⟩ := con_box ht
  have c0 := hbx.cell 0 (.int .i64 t.op) rfl
  have c1 := hbx.cell 1 (.int .i64 t.n) rfl
  have c2 := hbx.cell 2 (.string t.s) rfl
  have c3 := hbx.cell 3 (.slice ka kn kc) rfl
  have c4 := hbx.cell 4 (.slice na nn nc) rfl
  have c5 := hbx.cell 5 (.slice la ln lc) rfl
  have HB := Lib.hid hb
  have HC := Lib.hid (HS.out _ hb)
  generalize Con.sameB t Con.none0 = r at *
  clear ht hbx hb hP HS
  go_enter Tryz.func13, Tryz.ntmps13
  go_wp2_with fail
  refine HC.out.mono ?_
  rintro e w1 ⟨rfl, hb1⟩
  have HB1 := Lib.hid (belowStep hb1 HB.out)
  clear hb1
  go_wp2
  go_ret
  exact ⟨rfl, HB1.out⟩
/-- what the law's answer says -/
noncomputable def answerB (t : Con) (e : Int) (want : Con) : Bool := if Con.validB want then Con.sameB t want && (e == 0) else Con.sameB t Con.none0 && (e == 6)
theorem answer_out (x : Con) : answerB (outB x).1 (outB x).2 x = true := by
  unfold answerB
  rcases outB_cases x with ⟨h, e⟩ | ⟨h, e⟩
  · rw [h, e, if_pos rfl, sameB_self]; rfl
  · rw [h, e, if_neg (by simp), sameB_self]; rfl
set_option maxRecDepth 100000 in
set_option maxHeartbeats 4000000 in
theorem answer9_any (P Q : Nat → Prop) (t want : Con) (ec : Int) (w : World) (v x : Value) (hP : ∀ b, P b → b < w.heap.size) (hQ : ∀ b, Q b → b < w.heap.size) (ht : ConV w P t v) (hu : ConV w Q want x) :
    Calls Tryz.prog 18 #[v, .int .i64 ec, x] w fun e w' => e = .returned (.bool (answerB t ec want)) ∧ Below w.heap.size w w' := by
  have HV := Lib.hid (fun W (hW : Below w.heap.size w W) => rvalid9_any Q want W x (fun b h => Nat.lt_of_lt_of_le (hQ b h) hW.size) (hu.below hQ hW))
  have HN := Lib.hid (fun W (hW : Below w.heap.size w W) => none9_any P t W v (fun b h => Nat.lt_of_lt_of_le (hP b h) hW.size) (ht.below hP hW))
  have HS := Lib.hid (fun W (hW : Below w.heap.size w W) => rsameB_any P Q t want W v x (fun b h => Nat.lt_of_lt_of_le (hP b h) hW.size) (fun b h => Nat.lt_of_lt_of_le (hQ b h) hW.size) (ht.below hP hW) (hu.below hQ hW))
  have HR := Lib.hid (show answerB t ec want = if Con.validB want then Con.sameB t want && (ec == 0) else Con.sameB t Con.none0 && (ec == 6) from rfl)
  generalize answerB t ec want = R at *
  generalize Con.validB want = r1 at *
  generalize Con.sameB t want = r2 at *
  generalize Con.sameB t Con.none0 = r3 at *
  obtain ⟨ka, kn, kc, na, nn, nc, la, ln, lc, rfl, -, -, -⟩ := ht.shape
  obtain ⟨ka2, kn2, kc2, na2, nn2, nc2, la2, ln2, lc2, rfl, -, -, -⟩ := hu.shape
  obtain ⟨hbx, hbx2, hb⟩ := twoN_new w 28 28 #[.int .i64 t.op, .int .i64 t.n, .string t.s, .slice ka kn kc, .slice na nn nc, .slice la ln lc] #[.int .i64 want.op, .int .i64 want.n, .string want.s, .slice ka2 kn2 kc2, .slice na2 nn2 nc2, .slice la2 ln2 lc2]
  have HB := Lib.hid hb
  have HBX := Lib.hid hbx
  have HBX2 := Lib.hid hbx2
  have d0 := hbx2.cell 0 (.int .i64 want.op) rfl
  have d1 := hbx2.cell 1 (.int .i64 want.n) rfl
  have d2 := hbx2.cell 2 (.string want.s) rfl
  have d3 := hbx2.cell 3 (.slice ka2 kn2 kc2) rfl
  have d4 := hbx2.cell 4 (.slice na2 nn2 nc2) rfl
  have d5 := hbx2.cell 5 (.slice la2 ln2 lc2) rfl
  clear hbx hbx2 hb ht hu hP hQ
  go_enter Tryz.func18, Tryz.ntmps18
  go_wp2_with fail
  clear d0 d1 d2 d3 d4 d5
  generalize (w.alloc (.cells #[.int .i64 t.op, .int .i64 t.n, .string t.s, .slice ka kn kc, .slice na nn nc, .slice la ln lc] 28)).alloc (.cells #[.int .i64 want.op, .int .i64 want.n, .string want.s, .slice ka2 kn2 kc2, .slice na2 nn2 nc2, .slice la2 ln2 lc2] 28) = w2 at *
  refine (HV.out _ HB.out).mono ?_
  rintro e w3 ⟨rfl, hb3⟩
  replace HB := Lib.hid (belowStep hb3 HB.out)
  replace HBX := Lib.hid (HBX.out.of_eq (hb3.block _ HBX.out.lt))
  replace HBX2 := Lib.hid (HBX2.out.of_eq (hb3.block _ HBX2.out.lt))
  clear hb3
  have c0 := HBX.out.cell 0 (.int .i64 t.op) rfl
  have c1 := HBX.out.cell 1 (.int .i64 t.n) rfl
  have c2 := HBX.out.cell 2 (.string t.s) rfl
  have c3 := HBX.out.cell 3 (.slice ka kn kc) rfl
  have c4 := HBX.out.cell 4 (.slice na nn nc) rfl
  have c5 := HBX.out.cell 5 (.slice la ln lc) rfl
  have d0 := HBX2.out.cell 0 (.int .i64 want.op) rfl
  have d1 := HBX2.out.cell 1 (.int .i64 want.n) rfl
  have d2 := HBX2.out.cell 2 (.string want.s) rfl
  have d3 := HBX2.out.cell 3 (.slice ka2 kn2 kc2) rfl
  have d4 := HBX2.out.cell 4 (.slice na2 nn2 nc2) rfl
  have d5 := HBX2.out.cell 5 (.slice la2 ln2 lc2) rfl
  cases r1
  · have HR2 := Lib.hid (show R = (r3 && (ec == 6)) from by rw [HR.out]; rfl)
    go_wp2_with fail
    refine (HN.out _ HB.out).mono ?_
    rintro e w4 ⟨rfl, hb4⟩
    have HB4 := Lib.hid (belowStep hb4 HB.out)
    clear hb4 HR c0 c1 c2 c3 c4 c5 d0 d1 d2 d3 d4 d5
    cases r3
    · go_wp2
      go_ret
      exact ⟨by rw [HR2.out]; rfl, HB4.out⟩
    · go_wp2
      go_ret
      exact ⟨by rw [HR2.out]; rfl, HB4.out⟩
  · have HR2 := Lib.hid (show R = (r2 && (ec == 0)) from by rw [HR.out]; rfl)
    go_wp2_with fail
    refine (HS.out _ HB.out).mono ?_
    rintro e w4 ⟨rfl, hb4⟩
    have HB4 := Lib.hid (belowStep hb4 HB.out)
    clear hb4 HR c0 c1 c2 c3 c4 c5 d0 d1 d2 d3 d4 d5
    cases r2
    · go_wp2
      go_ret
      exact ⟨by rw [HR2.out]; rfl, HB4.out⟩
    · go_wp2
      go_ret
      exact ⟨by rw [HR2.out]; rfl, HB4.out⟩
end Go.Proofs.YtkjaicmfegpjdaaGreat
namespace Go.Proofs.YtkjaicmfegpjdaaGreat
open Go Go.RowKit
open Pl (K Con)
set_option linter.unusedSimpArgs false

set_option maxRecDepth 100000 in
theorem rinside_any (P : Nat → Prop) (t : Con) (l : List Con) (w : World) (v x : Value) (hP : ∀ b, P b → b < w.heap.size) (ht : ConV w P t v) (hl : ConSl w P x l) :
    Calls Tryz.prog 67 #[v, x] w fun e w' => (∃ y, e = .returned y ∧ ConV w' P (Con.inside t l) y) ∧ Below w.heap.size w w' := by
  have hin : ∀ W, Below w.heap.size w W → ∀ ka kn kc na nn nc la ln lc, v = .agg #[.int .i64 t.op, .int .i64 t.n, .string t.s, .slice ka kn kc, .slice na nn nc, .slice la ln lc] → ConV W P (Con.inside t l) (.agg #[.int .i64 t.op, .int .i64 t.n, .string t.s, .slice ka kn kc, .slice na nn nc, x]) := by
    intro W hW ka kn kc na nn nc la ln lc hv
    obtain ⟨h0, kv, nv, lv, hv2, hk, hs, -⟩ := (conV_iff _ _ _ _).1 (ht.below hP hW)
    have e2 := hv.symm.trans hv2
    simp only [Value.agg.injEq, Array.mk.injEq, List.cons.injEq, and_true, true_and] at e2
    obtain ⟨rfl, rfl, -⟩ := e2
    exact (conV_iff _ _ _ _).2 ⟨h0, _, _, _, rfl, hk, hs, hl.below hP hW⟩
  have HIN := Lib.hid hin
  obtain ⟨xa, xc, rfl, -, -, -⟩ := hl.each
  obtain ⟨ka, kn, kc, na, nn, nc, la, ln, lc, rfl, -, -, -⟩ := ht.shape
  have HI2 := Lib.hid (fun W hW => HIN.out W hW ka kn kc na nn nc la ln lc rfl)
  generalize l.length = xn at *
  obtain ⟨hbx, hb⟩ := boxN_new w 28 #[.int .i64 t.op, .int .i64 t.n, .string t.s, .slice ka kn kc, .slice na nn nc, .slice la ln lc]
  have hr := blk_new (w.alloc (.cells #[.int .i64 t.op, .int .i64 t.n, .string t.s, .slice ka kn kc, .slice na nn nc, .slice la ln lc] 28)) #[.int .i64 t.op, .int .i64 t.n, .string t.s, .slice ka kn kc, .slice na nn nc, .slice xa xn xc] 28
  rw [size_alloc] at hr
  have d0 := hr.cell 0 (.int .i64 t.op) rfl
  have d1 := hr.cell 1 (.int .i64 t.n) rfl
  have d2 := hr.cell 2 (.string t.s) rfl
  have d3 := hr.cell 3 (.slice ka kn kc) rfl
  have d4 := hr.cell 4 (.slice na nn nc) rfl
  have d5 := hr.cell 5 (.slice xa xn xc) rfl
  have hbz := hbx.alloc (.cells #[.int .i64 0, .int .i64 0, .string ByteArray.empty, .slice none 0 0, .slice none 0 0, .slice none 0 0] 28)
  have c0 := hbz.cell 0 (.int .i64 t.op) rfl
  have c1 := hbz.cell 1 (.int .i64 t.n) rfl
  have c2 := hbz.cell 2 (.string t.s) rfl
  have c3 := hbz.cell 3 (.slice ka kn kc) rfl
  have c4 := hbz.cell 4 (.slice na nn nc) rfl
  have HB := Lib.hid (below_new (o := .cells #[.int .i64 t.op, .int .i64 t.n, .string t.s, .slice ka kn kc, .slice na nn nc, .slice xa xn xc] 28) hb)
  clear hbx hb hr hbz ht hl hin hP HIN
  go_enter Tryz.func67, Tryz.ntmps67
  go_wp2_with fail
  refine bodyPost_ret (v := .agg #[.int .i64 t.op, .int .i64 t.n, .string t.s, .slice ka kn kc, .slice na nn nc, .slice xa xn xc]) (by first | (simp [results, Tryz.results67, go_sem, d0, d1, d2, d3, d4, d5]; done) | (simp [results, Tryz.results67, go_sem, d0, d1, d2, d3, d4, d5]; rfl)) rfl ?_
  exact ⟨⟨_, rfl, HI2.out _ HB.out⟩, HB.out⟩
end Go.Proofs.YtkjaicmfegpjdaaGreat
namespace Go.Proofs.YtkjaicmfegpjdaaGreat
open Go Go.RowKit
open Pl (K Con)
set_option linter.unusedSimpArgs false

/-- six cells in a row of values -/
def ConIn (cs : Array Value) (o : Nat) (v : Value) : Prop :=
  ∃ x0 x1 x2 x3 x4 x5, v = .agg #[x0, x1, x2, x3, x4, x5] ∧ cs[o]? = some x0 ∧ cs[o + 1]? = some x1 ∧ cs[o + 2]? = some x2 ∧ cs[o + 3]? = some x3 ∧ cs[o + 4]? = some x4 ∧ cs[o + 5]? = some x5
/-- the cells of constructors side by side, their parts in the blocks R -/
def ConRow (w : World) (R : Nat → Prop) (us : List Value) (l : List Con) : Prop :=
  us.length = l.length * 6 ∧ (∀ u ∈ us, u.oneCell' = true) ∧ ∀ j (h : j < l.length), ∃ x, ConIn us.toArray (j * 6) x ∧ ConV w R l[j] x
theorem ConRow.nil (w : World) (R : Nat → Prop) : ConRow w R [] [] := ⟨rfl, fun u hu => (by cases hu), fun j hj => absurd hj (Nat.not_lt_zero _)⟩
theorem ConRow.keep {w w' : World} {R : Nat → Prop} {us : List Value} {l : List Con} (h : ConRow w R us l) (hs : Same R w w') : ConRow w' R us l := ⟨h.1, h.2.1, fun j hj => by obtain ⟨x, hx, hv⟩ := h.2.2 j hj; exact ⟨x, hx, hv.keep hs⟩⟩
theorem ConRow.mono {w : World} {R S : Nat → Prop} {us : List Value} {l : List Con} (h : ConRow w R us l) (hs : ∀ b, R b → S b) : ConRow w S us l := ⟨h.1, h.2.1, fun j hj => by obtain ⟨x, hx, hv⟩ := h.2.2 j hj; exact ⟨x, hx, hv.mono hs⟩⟩
theorem ConIn.left {us vs : List Value} {o : Nat} {v : Value} (h : ConIn us.toArray o v) : ConIn (us ++ vs).toArray o v := by
  obtain ⟨x0, x1, x2, x3, x4, x5, rfl, h0, h1, h2, h3, h4, h5⟩ := h
  have each : ∀ (i : Nat) (x : Value), us.toArray[i]? = some x → (us ++ vs).toArray[i]? = some x := by
    intro i x hx
    simp only [List.getElem?_toArray] at hx ⊢
    have hi : i < us.length := by
      rcases Nat.lt_or_ge i us.length with h | h
      · exact h
      · rw [List.getElem?_eq_none h] at hx; cases hx
    rw [List.getElem?_append_left hi]; exact hx
  exact ⟨x0, x1, x2, x3, x4, x5, rfl, each _ _ h0, each _ _ h1, each _ _ h2, each _ _ h3, each _ _ h4, each _ _ h5⟩
theorem con_one_cell {w : World} {P : Nat → Prop} {t : Con} {x0 x1 x2 x3 x4 x5 : Value} (h : ConV w P t (.agg #[x0, x1, x2, x3, x4, x5])) : ∀ u ∈ [x0, x1, x2, x3, x4, x5], u.oneCell' = true := by
  obtain ⟨ka, kn, kc, na, nn, nc, la, ln, lc, e, -, -, -⟩ := h.shape
  simp only [Value.agg.injEq, Array.mk.injEq, List.cons.injEq, and_true] at e
  obtain ⟨rfl, rfl, rfl, rfl, rfl, rfl⟩ := e
  intro u hu
  simp at hu
  rcases hu with rfl | rfl | rfl | rfl | rfl | rfl <;> rfl
theorem ConRow.push {w : World} {R : Nat → Prop} {us : List Value} {l : List Con} {x0 x1 x2 x3 x4 x5 : Value} {y : Con} (h : ConRow w R us l) (hy : ConV w R y (.agg #[x0, x1, x2, x3, x4, x5])) : ConRow w R (us ++ [x0, x1, x2, x3, x4, x5]) (l ++ [y]) := by
  obtain ⟨h1, h2, h3⟩ := h
  refine ⟨by simp [h1]; omega, fun u hu => ?_, fun j hj => ?_⟩
  · rw [List.mem_append] at hu
    rcases hu with hu | hu
    · exact h2 u hu
    · exact con_one_cell hy u hu
  · by_cases hlt : j < l.length
    · obtain ⟨x, hx, hv⟩ := h3 j hlt
      exact ⟨x, hx.left, by rw [List.getElem_append_left hlt]; exact hv⟩
    · have hjl : j = l.length := by simp at hj; omega
      subst hjl
      refine ⟨.agg #[x0, x1, x2, x3, x4, x5], ⟨x0, x1, x2, x3, x4, x5, rfl, ?_⟩, by rw [List.getElem_append_right (Nat.le_refl _)]; simpa using hy⟩
      rw [← h1]
      simp only [List.getElem?_toArray]
      refine ⟨?_, ?_, ?_, ?_, ?_, ?_⟩
      all_goals (rw [List.getElem?_append_right (by omega)]; simp)
theorem ownsRow6_below {w w' : World} {base n : Nat} {T : TypeId} {v : Value} {xs : List Value} (h : w.ownsRow base T 6 v n xs) (hb : Below w.heap.size w w') : w'.ownsRow base T 6 v n xs :=
  h.kept (row := none) ⟨hb.os, hb.tape, hb.output, hb.size, fun i hi _ => hb.block i hi⟩ (by cases ho : v.ownBlock with | none => exact .inl rfl | some k => exact .inr (by simp))
/-- the row is a slice of constructors -/
theorem ConRow.cons {w : World} {base : Nat} {R S : Nat → Prop} {v : Value} {cur : List Con} {us : List Value} (h1 : w.ownsRow base 28 6 v cur.length us) (h2 : ConRow w R us cur) (hR : ∀ b, R b → S b) (hS : ∀ b, base ≤ b → b < w.heap.size → S b) : ConSl w S v cur := by
  have hc := h1
  rcases h1.2 with ⟨rfl, h0⟩ | ⟨g, cap, cu, rfl, hbg, hg, hnc, hcm, hcs, htake⟩
  · obtain rfl : cur = [] := List.eq_nil_of_length_eq_zero h0
    exact ⟨none, 0, rfl, Nat.le_refl _, Nat.zero_le _, fun _ => rfl, .inl rfl⟩
  · have hgl : g < w.heap.size := (hc.lt g rfl).2
    refine ⟨_, cap, rfl, hnc, hcm, (fun h => by cases h), .inr ⟨g, 0, rfl, hS g hbg hgl, ?_⟩⟩
    rw [consAt_iff]
    intro j hj
    obtain ⟨x, hx, hv⟩ := h2.2.2 j hj
    refine ⟨x, ?_, hv.mono hR⟩
    obtain ⟨x0, x1, x2, x3, x4, x5, rfl, c0, c1, c2, c3, c4, c5⟩ := hx
    simp only [List.getElem?_toArray] at c0 c1 c2 c3 c4 c5
    have each : ∀ d u, d < 6 → us[j * 6 + d]? = some u → w.cell? ⟨g, 0 + j * 6 + d, none⟩ = some u := by
      intro d u hd hu
      rw [Nat.zero_add, hc.cellAt (j * 6 + d) (by omega), hu]
    exact ⟨x0, x1, x2, x3, x4, x5, rfl, each 0 _ (by omega) c0, each 1 _ (by omega) c1, each 2 _ (by omega) c2, each 3 _ (by omega) c3, each 4 _ (by omega) c4, each 5 _ (by omega) c5⟩
end Go.Proofs.YtkjaicmfegpjdaaGreat
