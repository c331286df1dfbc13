/-
  Several texts in one (Qo Qp Qq Ra Rb Rc Rd Re Rf Rg Rh Qr Qs Qt Ri).
-/
import Derived.Test.YtmjiocpcenbndaaGreatDoorQn
import Derived.Test.YtmjiocpcenbndaaGreatDoorJe
import Derived.Test.YtmjiocpcenbndaaGreatDoorShelf
import Derived.Lib.IndexLaws
import Derived.Deep.AppendLies
import Derived.Laws.OwnMore
import Derived.Laws.AppendOwnNone
namespace Go.Proofs.YtmjiocpcenbndaaGreatDoor
open Go Go.RowKit
open Pl (K Con)
set_option linter.unusedSimpArgs false

mutual
/-- no variable in the gap of m behind f -/
def Con.gap (m : Int) : Con → Int → Bool
  | ⟨op, n, _, _, _, l⟩, f => if op = 1 then decide (n < f) || decide (f + m ≤ n) else Con.gaps m l (Con.deep op f)
def Con.gaps (m : Int) : List Con → Int → Bool
  | [], _ => true
  | t :: r, f => Con.gap m t f && Con.gaps m r f
end
theorem gaps_all (m f : Int) (l : List Con) : Con.gaps m l f = l.all (fun t => Con.gap m t f) := by
  induction l with
  | nil => rw [Con.gaps]; rfl
  | cons t r ih => rw [Con.gaps, ih]; rfl
theorem gap_var (m f : Int) (t : Con) (h : t.op = 1) : Con.gap m t f = (decide (t.n < f) || decide (f + m ≤ t.n)) := by
  obtain ⟨op, n, s, k, names, l⟩ := t
  have h : op = 1 := h
  rw [Con.gap, if_pos h]
theorem gap_node (m f : Int) (t : Con) (h : t.op ≠ 1) : Con.gap m t f = t.l.all (fun x => Con.gap m x (Con.deep t.op f)) := by
  obtain ⟨op, n, s, k, names, l⟩ := t
  have h : op ≠ 1 := h
  rw [Con.gap, if_neg h, gaps_all]
theorem gap_shift (t : Con) (m : Int) : ∀ f, 0 ≤ m → Con.gap m (Con.shift m t f) f = true := by
  induction t using Con.ind with
  | h t ih =>
  intro f hm
  by_cases h : t.op = 1
  · rw [Con.shift_var _ _ t h]
    by_cases h1 : f ≤ t.n
    · rw [if_pos h1, gap_var _ _ _ rfl]
      show (decide (t.n + m < f) || decide (f + m ≤ t.n + m)) = true
      rw [decide_eq_true (by omega : f + m ≤ t.n + m), Bool.or_true]
    · rw [if_neg h1, gap_var _ _ _ h, decide_eq_true (by omega : t.n < f), Bool.true_or]
  · rw [Con.shift_node _ _ t h, gap_node _ _ _ (show (Con.inside t _).op ≠ 1 from h)]
    show (t.l.map (fun x => Con.shift m x (Con.deep t.op f))).all (fun x => Con.gap m x (Con.deep t.op f)) = true
    rw [List.all_map, List.all_eq_true]
    exact fun x hx => ih x hx _ hm
theorem bytes_none {s : ByteArray} (h : s.toList = []) : s = ByteArray.empty := bytes_ext (h.trans (by rw [ByteArray.toList_eq]; rfl))
theorem kind_none {k : K} (h : k.l.length = 0) : k = .mk [] := by
  obtain ⟨l⟩ := k
  rw [List.eq_nil_of_length_eq_zero (show l.length = 0 from h)]
/-- a right variable is nothing but its index -/
theorem clean_node (t : Con) (h : Con.nodeB t = true) : Con.Clean t := by
  intro h1
  unfold Con.nodeB at h
  simp only [Bool.and_eq_true] at h
  obtain ⟨-, hs, -, hst, hk⟩ := h
  unfold Con.shapeB at hs
  unfold Con.strB at hst
  unfold Con.kindB at hk
  rw [h1] at hs hst hk
  rw [if_pos (by decide), Bool.and_eq_true, decide_eq_true_eq, decide_eq_true_eq] at hs
  rw [if_neg (by decide), decide_eq_true_eq] at hst
  rw [if_neg (by decide), decide_eq_true_eq] at hk
  have hl : t.l.length = 0 := by
    have := hs.1
    rw [show Con.partsOf 1 = 0 from rfl] at this
    omega
  obtain ⟨op, n, s, k, names, l⟩ := t
  have e1 : op = 1 := h1
  have e2 := bytes_none (s := s) hst
  have e3 := kind_none (k := k) hk
  have e4 : names = [] := List.eq_nil_of_length_eq_zero hs.2
  have e5 : l = [] := List.eq_nil_of_length_eq_zero hl
  subst e1 e2 e3 e4 e5
  rfl
theorem clean_all (t : Con) : Con.allB t = true → Con.clean t := by
  induction t using Con.ind with
  | h t ih =>
  intro h
  rw [allB_eq, Bool.and_eq_true, List.all_eq_true] at h
  exact (Con.clean_iff t).2 ⟨clean_node t h.1, fun x hx => ih x hx (h.2 x hx)⟩
theorem clean_valid (t : Con) (h : Con.validB t = true) : Con.clean t := by
  unfold Con.validB at h
  rw [Bool.and_eq_true] at h
  exact clean_all t h.2
/-- a result, or ErrBig -/
def outB (x : Con) : Con × Int := if Con.validB x then (x, 0) else (Con.none0, 6)
/-- what Shift answers -/
def shiftOut (t : Con) (b f : Int) : Con × Int :=
  if Con.validB t then (if f < 0 ∨ b < -20000 ∨ 20000 < b ∨ (b < 0 ∧ Con.gap (-b) t f = false) then (Con.none0, 2) else outB (Con.shift b t f)) else (Con.none0, 1)
/-- what Subst answers -/
def substOut (t : Con) (l : List Con) : Con × Int :=
  if Con.validB t && l.all Con.validB then (if 1000 < l.length then (Con.none0, 5) else outB (Con.subst l t 0)) else (Con.none0, 1)
theorem outB_cases (x : Con) : (Con.validB x = true ∧ outB x = (x, 0)) ∨ (Con.validB x = false ∧ outB x = (Con.none0, 6)) := by
  unfold outB
  cases h : Con.validB x
  · exact .inr ⟨rfl, if_neg (by simp)⟩
  · exact .inl ⟨rfl, if_pos rfl⟩
theorem shiftOut_up (t : Con) (b f : Int) (h : Con.validB t = true) (h0 : 0 ≤ b) (h1 : b ≤ 20000) (hf : 0 ≤ f) : shiftOut t b f = outB (Con.shift b t f) := by
  unfold shiftOut
  rw [if_pos h, if_neg (by omega)]
theorem shiftOut_back (t : Con) (b f : Int) (h : Con.validB t = true) (hs : Con.validB (Con.shift b t f) = true) (h0 : 0 ≤ b) (h1 : b ≤ 20000) (hf : 0 ≤ f) : shiftOut (Con.shift b t f) (-b) f = (t, 0) := by
  unfold shiftOut
  rw [if_pos hs, if_neg, Con.shift_back t b f h0 (clean_valid t h)]
  · unfold outB
    rw [if_pos h]
  · rintro (h2 | h2 | h2 | ⟨-, h2⟩)
    · omega
    · omega
    · omega
    · rw [show - -b = b from by omega, gap_shift t b f h0] at h2
      cases h2
theorem shiftOut_two (t : Con) (n m f : Int) (h : Con.validB t = true) (hs : Con.validB (Con.shift n t f) = true) (h0 : 0 ≤ n) (h1 : 0 ≤ m) (h2 : n + m ≤ 20000) (hf : 0 ≤ f) : shiftOut (Con.shift n t f) m f = shiftOut t (n + m) f := by
  rw [shiftOut_up _ m f hs h1 (by omega) hf, shiftOut_up t (n + m) f h (by omega) h2 hf, Con.shift_shift t m n f (n + f) h0 rfl f (by omega) (by omega)]
theorem substOut_up (t a : Con) (h : Con.validB t = true) (ha : Con.validB a = true) (hs : Con.validB (Con.shift 1 t 0) = true) : substOut (Con.shift 1 t 0) [a] = (t, 0) := by
  unfold substOut
  rw [hs, List.all_cons, ha, show (true && (true && ([] : List Con).all Con.validB)) = true from rfl, if_pos rfl, if_neg (by simp)]
  have := Con.subst_shift t a 0 0 (Int.le_refl _) (Int.le_refl _)
  rw [show (0 : Int) + 1 = 1 from rfl, show (0 : Int) + 0 = 0 from rfl, Con.shift_zero t 0 (clean_valid t h)] at this
  rw [this]
  unfold outB
  rw [if_pos h]
end Go.Proofs.YtmjiocpcenbndaaGreatDoor
namespace Go.Proofs.YtmjiocpcenbndaaGreatDoor
open Go Go.RowKit
open Pl (K Con)
set_option linter.unusedSimpArgs false

/-- what the program's Shift and Subst answer -/
structure CodeS9 : Prop where
  shift : ∀ (t : Con) (b f : Int) (W : World) (v : Value), ConV W (· < W.heap.size) t v → -9223372036854775808 ≤ b → b ≤ 9223372036854775807 → -9223372036854775808 ≤ f → f ≤ 9223372036854775807 → Calls Tryz.prog 26 #[v, .int .i64 b, .int .i64 f] W fun e w' => (∃ y, e = .returned (.tuple #[y, .int .i64 (shiftOut t b f).2]) ∧ ConV w' (· < w'.heap.size) (shiftOut t b f).1 y) ∧ Below W.heap.size W w'
  subst : ∀ (t : Con) (l : List Con) (W : World) (v x : Value), ConV W (· < W.heap.size) t v → ConSl W (· < W.heap.size) x l → Calls Tryz.prog 27 #[v, x] W fun e w' => (∃ y, e = .returned (.tuple #[y, .int .i64 (substOut t l).2]) ∧ ConV w' (· < w'.heap.size) (substOut t l).1 y) ∧ Below W.heap.size W w'
/-- a constructor in a box stays -/
theorem ConV.grow {w w' : World} {t : Con} {v : Value} (h : ConV w (· < w.heap.size) t v) (hb : Below w.heap.size w w') : ConV w' (· < w'.heap.size) t v := (h.below (fun _ h => h) hb).mono (fun _ h => Nat.lt_of_lt_of_le h hb.size)
/-- one constructor in a slice -/
theorem cons_one {w : World} {P : Nat → Prop} {g : Nat} {t : Con} {x0 x1 x2 x3 x4 x5 : Value} (hb : Blk w g 28 #[x0, x1, x2, x3, x4, x5]) (hg : P g) (ht : ConV w P t (.agg #[x0, x1, x2, x3, x4, x5])) : ConSl w P (.slice (some ⟨g, 0, none⟩) 1 1) [t] := by
  refine ⟨_, 1, rfl, by simp, by unfold maxLen; omega, (fun h => by cases h), .inr ⟨g, 0, rfl, hg, ?_⟩⟩
  rw [ConsAt, ConsAt]
  exact ⟨⟨_, ⟨x0, x1, x2, x3, x4, x5, rfl, hb.cell 0 _ rfl, hb.cell 1 _ rfl, hb.cell 2 _ rfl, hb.cell 3 _ rfl, hb.cell 4 _ rfl, hb.cell 5 _ rfl⟩, ht⟩, trivial⟩
end Go.Proofs.YtmjiocpcenbndaaGreatDoor
namespace Go.Proofs.YtmjiocpcenbndaaGreatDoor
open Go Go.RowKit
open Pl (K Con)
set_option linter.unusedSimpArgs false

theorem depth_le_size (t : Con) : t.depth ≤ t.size := by
  induction t using Con.ind with
  | h t ih =>
    rw [Con.depth_eq, Con.size_eq]
    have : ∀ l : List Con, (∀ x ∈ l, x.depth ≤ x.size) → Con.depths l ≤ Con.sizes l := by
      intro l
      induction l with
      | nil => intro _; rw [Con.depths_nil]; exact Nat.zero_le _
      | cons x r ihr =>
        intro h
        rw [Con.depths_cons, Con.sizes_cons]
        have := h x List.mem_cons_self
        have := ihr (fun y hy => h y (List.mem_cons_of_mem _ hy))
        omega
    have := this t.l ih
    omega
/-- a function of constructors -/
def lam (t : Con) : Con := ⟨11, 0, ByteArray.empty, .mk [], [], [t]⟩
theorem lam_valid (t : Con) (h : Con.Tiny9 t) : Con.validB (lam t) = true := by
  obtain ⟨h1, h2⟩ := h
  have hs := size_le_wt t
  have hd := depth_le_size t
  unfold Con.validB at h2 ⊢
  rw [Bool.and_eq_true] at h2 ⊢
  constructor
  · unfold Con.small
    rw [Con.size_eq, Con.depth_eq]
    show (decide (1 + Con.sizes [t] ≤ 20000) && decide (1 + Con.depths [t] ≤ 400)) = true
    rw [Con.sizes_cons, Con.sizes_nil, Con.depths_cons, Con.depths_nil, decide_eq_true (by omega), decide_eq_true (by omega)]
    rfl
  · rw [allB_eq, Bool.and_eq_true]
    refine ⟨?_, ?_⟩
    · have hk : K.valid (.mk []) = true := by decide +kernel
      have he : ByteArray.empty.toList = [] := by rw [ByteArray.toList_eq]; rfl
      have e1 : Con.shapeB (lam t) = true := by simp [Con.shapeB, lam, Con.partsOf, Con.binder]
      have e2 : Con.numB (lam t) = true := by simp [Con.numB, lam]
      have e3 : Con.strB (lam t) = true := by simp [Con.strB, lam, he]
      have e4 : Con.kindB (lam t) = true := by simp [Con.kindB, lam, Con.binder, hk]
      have e5 : (decide (1 ≤ (lam t).op) && decide ((lam t).op ≤ 13)) = true := by simp [lam]
      unfold Con.nodeB
      rw [e1, e2, e3, e4, e5]
      rfl
    · show [t].all Con.allB = true
      rw [List.all_cons, h2.2]; rfl
theorem part_valid (t x : Con) (h : Con.validB t = true) (hx : x ∈ t.l) : Con.validB x = true := by
  unfold Con.validB at h ⊢
  rw [Bool.and_eq_true] at h ⊢
  have h1 := h.1
  unfold Con.small at h1 ⊢
  rw [Bool.and_eq_true, decide_eq_true_eq, decide_eq_true_eq, Con.size_eq, Con.depth_eq] at h1
  have hs := Con.mem_size hx
  have hd := Con.mem_depth hx
  refine ⟨by rw [decide_eq_true (by omega : x.size ≤ 20000), decide_eq_true (by omega : x.depth ≤ 400)]; rfl, ?_⟩
  have h2 := h.2
  rw [allB_eq, Bool.and_eq_true, List.all_eq_true] at h2
  exact h2.2 x hx
theorem substOut_ok (t : Con) (l : List Con) (h : Con.validB t = true) (hl : ∀ x ∈ l, Con.validB x = true) (hn : l.length ≤ 1000) : substOut t l = outB (Con.subst l t 0) := by
  unfold substOut
  rw [h, List.all_eq_true.2 hl, show (true && true) = true from rfl, if_pos rfl, if_neg (by omega)]
theorem subst_lam (t : Con) (l : List Con) : Con.subst l (lam t) 0 = lam (Con.subst l t 1) := by
  rw [Con.subst_node _ _ _ (show (lam t).op ≠ 1 from (by decide : (11 : Int) ≠ 1))]
  rfl
/-- both ways -/
theorem commute_out (t a : Con) (l : List Con) (h1 : Con.validB (Con.subst [a] t 0) = true) (h2 : Con.validB (Con.subst l a 0) = true) (h3 : Con.validB (lam (Con.subst l t 1)) = true) (hl : ∀ x ∈ l, Con.validB x = true) (hn : l.length ≤ 1000) :
    substOut (Con.subst [a] t 0) l = substOut (Con.subst l t 1) [Con.subst l a 0] := by
  have h4 : Con.validB (Con.subst l t 1) = true := part_valid _ _ h3 (by simp [lam])
  rw [substOut_ok _ l h1 hl hn, substOut_ok _ [Con.subst l a 0] h4 (fun x hx => by rw [List.mem_singleton.1 hx]; exact h2) (by simp), Con.subst_subst t a l 0 (Int.le_refl _)]
  rfl
set_option maxRecDepth 100000 in
theorem rbound_any (t : Con) (w : World) (v : Value) (ht : ConV w (· < w.heap.size) t v) :
    Calls Tryz.prog 22 #[.int .i64 11, .agg #[.slice none 0 0], v] w fun e w' => (∃ g, e = .returned (.agg #[.int .i64 11, .int .i64 0, .string ByteArray.empty, .slice none 0 0, .slice none 0 0, .slice (some ⟨g, 0, none⟩) 1 1]) ∧ ConV w' (· < w'.heap.size) (lam t) (.agg #[.int .i64 11, .int .i64 0, .string ByteArray.empty, .slice none 0 0, .slice none 0 0, .slice (some ⟨g, 0, none⟩) 1 1])) ∧ Below w.heap.size w w' := by
  have HT := Lib.hid (fun W (hW : Below w.heap.size w W) => ht.grow hW)
  obtain ⟨ka, kn, kc, na, nn, nc, la, ln, lc, rfl, -, -, -⟩ := ht.shape
  clear ht
  go_enter Tryz.func22, Tryz.ntmps22
  have hX : Below w.heap.size w (((w.alloc (.cells #[.slice none 0 0] 24)).alloc (.cells #[.int .i64 t.op, .int .i64 t.n, .string t.s, .slice ka kn kc, .slice na nn nc, .slice la ln lc] 28)).alloc (.cells #[.int .i64 11, .int .i64 0, .string ByteArray.empty, .slice none 0 0, .slice none 0 0, .slice (some ⟨w.heap.size + 1 + 1 + 1, 0, none⟩) 1 1] 28)) := below_new (below_new (below_new (Below.refl _ _)))
  have hs : (((w.alloc (.cells #[.slice none 0 0] 24)).alloc (.cells #[.int .i64 t.op, .int .i64 t.n, .string t.s, .slice ka kn kc, .slice na nn nc, .slice la ln lc] 28)).alloc (.cells #[.int .i64 11, .int .i64 0, .string ByteArray.empty, .slice none 0 0, .slice none 0 0, .slice (some ⟨w.heap.size + 1 + 1 + 1, 0, none⟩) 1 1] 28)).heap.size = w.heap.size + 1 + 1 + 1 := by rw [size_alloc, size_alloc, size_alloc]
  obtain ⟨hbx, hb⟩ := boxN_new (((w.alloc (.cells #[.slice none 0 0] 24)).alloc (.cells #[.int .i64 t.op, .int .i64 t.n, .string t.s, .slice ka kn kc, .slice na nn nc, .slice la ln lc] 28)).alloc (.cells #[.int .i64 11, .int .i64 0, .string ByteArray.empty, .slice none 0 0, .slice none 0 0, .slice (some ⟨w.heap.size + 1 + 1 + 1, 0, none⟩) 1 1] 28)) 28 #[.int .i64 t.op, .int .i64 t.n, .string t.s, .slice ka kn kc, .slice na nn nc, .slice la ln lc]
  have hr := (blk_new ((w.alloc (.cells #[.slice none 0 0] 24)).alloc (.cells #[.int .i64 t.op, .int .i64 t.n, .string t.s, .slice ka kn kc, .slice na nn nc, .slice la ln lc] 28)) #[.int .i64 11, .int .i64 0, .string ByteArray.empty, .slice none 0 0, .slice none 0 0, .slice (some ⟨w.heap.size + 1 + 1 + 1, 0, none⟩) 1 1] 28).alloc (.cells #[.int .i64 t.op, .int .i64 t.n, .string t.s, .slice ka kn kc, .slice na nn nc, .slice la ln lc] 28)
  rw [size_alloc, size_alloc] at hr
  have d0 := hr.cell 0 (.int .i64 11) rfl
  have d1 := hr.cell 1 (.int .i64 0) rfl
  have d2 := hr.cell 2 (.string ByteArray.empty) rfl
  have d3 := hr.cell 3 (.slice none 0 0) rfl
  have d4 := hr.cell 4 (.slice none 0 0) rfl
  have d5 := hr.cell 5 (.slice (some ⟨w.heap.size + 1 + 1 + 1, 0, none⟩) 1 1) rfl
  have HB := Lib.hid (belowStep hb hX)
  rw [hs] at hbx
  have HBX := Lib.hid hbx
  clear hbx hb hX hs hr
  go_wp2_with fail
  refine bodyPost_ret (v := .agg #[.int .i64 11, .int .i64 0, .string ByteArray.empty, .slice none 0 0, .slice none 0 0, .slice (some ⟨w.heap.size + 1 + 1 + 1, 0, none⟩) 1 1]) (by first | (simp [results, Tryz.results22, go_sem, d0, d1, d2, d3, d4, d5]; done) | (simp [results, Tryz.results22, go_sem, d0, d1, d2, d3, d4, d5]; rfl)) rfl ?_
  refine ⟨⟨w.heap.size + 1 + 1 + 1, rfl, ?_⟩, HB.out⟩
  rw [conV_iff]
  refine ⟨Nat.zero_le _, _, _, _, rfl, kidV_none _ _, ⟨none, 0, rfl, Nat.le_refl _, Nat.zero_le _, fun _ => rfl, (fun z hz => by cases hz), .inl rfl⟩, ?_⟩
  exact cons_one HBX.out HBX.out.lt (HT.out _ HB.out)
end Go.Proofs.YtmjiocpcenbndaaGreatDoor
namespace Go.Proofs.YtmjiocpcenbndaaGreatDoor
open Go Go.RowKit
open Pl (K Con)
set_option linter.unusedSimpArgs false

mutual
/-- a change of the free variables and the constants -/
def Con.reb (F : Con → Int → Con) : Con → Int → Con
  | ⟨op, n, s, k, names, l⟩, d => if op = 2 ∨ (op = 1 ∧ d ≤ n) then F ⟨op, n, s, k, names, l⟩ d else ⟨op, n, s, k, names, Con.rebs F l (Con.deep op d)⟩
def Con.rebs (F : Con → Int → Con) : List Con → Int → List Con
  | [], _ => []
  | t :: r, d => Con.reb F t d :: Con.rebs F r d
end
theorem rebs_map (F : Con → Int → Con) (d : Int) (l : List Con) : Con.rebs F l d = l.map (fun t => Con.reb F t d) := by
  induction l with
  | nil => rw [Con.rebs]; rfl
  | cons t r ih => rw [Con.rebs, ih]; rfl
/-- what is changed -/
def Con.leafy (t : Con) (d : Int) : Prop := t.op = 2 ∨ (t.op = 1 ∧ d ≤ t.n)
theorem reb_leaf (F : Con → Int → Con) (t : Con) (d : Int) (h : Con.leafy t d) : Con.reb F t d = F t d := by
  obtain ⟨op, n, s, k, names, l⟩ := t
  have h : op = 2 ∨ (op = 1 ∧ d ≤ n) := h
  rw [Con.reb, if_pos h]
theorem reb_node (F : Con → Int → Con) (t : Con) (d : Int) (h : ¬ Con.leafy t d) : Con.reb F t d = Con.inside t (t.l.map (fun x => Con.reb F x (Con.deep t.op d))) := by
  obtain ⟨op, n, s, k, names, l⟩ := t
  have h : ¬ (op = 2 ∨ (op = 1 ∧ d ≤ n)) := h
  rw [Con.reb, if_neg h, rebs_map]
  rfl
mutual
/-- no index is greater than the greatest -/
def Con.nOk : Con → Bool
  | ⟨_, n, _, _, _, l⟩ => decide (n ≤ 20000) && Con.nOks l
def Con.nOks : List Con → Bool
  | [] => true
  | t :: r => Con.nOk t && Con.nOks r
end
theorem nOks_all (l : List Con) : Con.nOks l = l.all Con.nOk := by
  induction l with
  | nil => rw [Con.nOks]; rfl
  | cons t r ih => rw [Con.nOks, ih]; rfl
theorem nOk_eq (t : Con) : Con.nOk t = (decide (t.n ≤ 20000) && t.l.all Con.nOk) := by
  obtain ⟨op, n, s, k, names, l⟩ := t
  rw [Con.nOk, nOks_all]
/-- within the limits, with so many nodes left, at a depth -/
def fitB (t : Con) (L d : Int) : Bool := decide ((t.size : Int) ≤ L) && (decide (d + (t.depth : Int) ≤ 401) && Con.nOk t)
def fitsB (l : List Con) (L d : Int) : Bool := decide ((Con.sizes l : Int) ≤ L) && (decide (d + (Con.depths l : Int) ≤ 401) && l.all Con.nOk)
theorem fitB_node (t : Con) (L d : Int) : fitB t L d = ((decide (1 ≤ L) && (decide (d ≤ 400) && decide (t.n ≤ 20000))) && fitsB t.l (L - 1) (d + 1)) := by
  unfold fitB fitsB
  rw [Con.size_eq, Con.depth_eq, nOk_eq, Bool.eq_iff_iff]
  simp only [Bool.and_eq_true, decide_eq_true_eq]
  constructor
  · rintro ⟨h1, h2, h3, h4⟩
    exact ⟨⟨by omega, by omega, h3⟩, by omega, by omega, h4⟩
  · rintro ⟨⟨h1, h2, h3⟩, h4, h5, h6⟩
    exact ⟨by omega, by omega, h3, h6⟩
theorem fitsB_nil (L d : Int) : fitsB [] L d = (decide (0 ≤ L) && decide (d ≤ 401)) := by
  unfold fitsB
  rw [Con.sizes_nil, Con.depths_nil]
  simp
theorem fitsB_take (l : List Con) (k : Nat) (hk : k < l.length) (L d : Int) : fitsB (l.take (k + 1)) L d = (fitsB (l.take k) L d && fitB l[k] (L - (Con.sizes (l.take k) : Int)) d) := by
  unfold fitsB fitB
  rw [Con.sizes_take l k hk, Con.depths_take l k hk, all_take_step Con.nOk l k hk, Bool.eq_iff_iff]
  simp only [Bool.and_eq_true, decide_eq_true_eq]
  constructor
  · rintro ⟨h1, h2, h3, h4⟩
    exact ⟨⟨by omega, by omega, h3⟩, by omega, by omega, h4⟩
  · rintro ⟨⟨h1, h2, h3⟩, h4, h5, h6⟩
    exact ⟨by omega, by omega, h3, h6⟩
theorem fitsB_le (l : List Con) (k : Nat) (L d : Int) (h : fitsB (l.take k) L d = false) : fitsB l L d = false := by
  cases h2 : fitsB l L d
  · rfl
  · rw [← h]
    unfold fitsB at h2 ⊢
    simp only [Bool.and_eq_true, decide_eq_true_eq] at h2
    obtain ⟨h3, h4, h5⟩ := h2
    have h6 := Con.sizes_le l k
    have h7 := Con.depths_le l k
    symm
    simp only [Bool.and_eq_true, decide_eq_true_eq]
    refine ⟨by omega, by omega, ?_⟩
    rw [List.all_eq_true] at h5 ⊢
    exact fun x hx => h5 x (List.mem_of_mem_take hx)
mutual
/-- right, but for an index that may be too great -/
def Con.half : Con → Prop
  | ⟨op, n, s, k, names, l⟩ => (n ≤ 20000 → Con.nodeB ⟨op, n, s, k, names, l⟩ = true) ∧ Con.halfs l
def Con.halfs : List Con → Prop
  | [] => True
  | t :: r => Con.half t ∧ Con.halfs r
end
theorem halfs_iff (l : List Con) : Con.halfs l ↔ ∀ x ∈ l, Con.half x := by
  induction l with
  | nil => rw [Con.halfs]; simp
  | cons t r ih => rw [Con.halfs, ih]; simp
theorem half_iff (t : Con) : Con.half t ↔ (t.n ≤ 20000 → Con.nodeB t = true) ∧ ∀ x ∈ t.l, Con.half x := by
  obtain ⟨op, n, s, k, names, l⟩ := t
  rw [Con.half, halfs_iff]
theorem nodeB_n (t : Con) (h : Con.nodeB t = true) : 0 ≤ t.n ∧ t.n ≤ 20000 := by
  unfold Con.nodeB at h
  simp only [Bool.and_eq_true] at h
  have h := h.2.2.1
  unfold Con.numB at h
  split at h
  · rw [Bool.and_eq_true, decide_eq_true_eq, decide_eq_true_eq] at h
    exact h
  · rw [decide_eq_true_eq] at h
    omega
theorem nOk_all (t : Con) : Con.allB t = true → Con.nOk t = true := by
  induction t using Con.ind with
  | h t ih =>
  intro h
  rw [allB_eq, Bool.and_eq_true, List.all_eq_true] at h
  rw [nOk_eq, Bool.and_eq_true, List.all_eq_true, decide_eq_true_eq]
  exact ⟨(nodeB_n t h.1).2, fun x hx => ih x hx (h.2 x hx)⟩
theorem half_all (t : Con) : Con.half t → Con.nOk t = true → Con.allB t = true := by
  induction t using Con.ind with
  | h t ih =>
  intro h hn
  rw [half_iff] at h
  rw [nOk_eq, Bool.and_eq_true, List.all_eq_true, decide_eq_true_eq] at hn
  rw [allB_eq, Bool.and_eq_true, List.all_eq_true]
  exact ⟨h.1 hn.1, fun x hx => ih x hx (h.2 x hx) (hn.2 x hx)⟩
/-- well-formed just if within the limits -/
theorem half_valid (t : Con) (h : Con.half t) : Con.validB t = fitB t 20000 1 := by
  unfold Con.validB fitB Con.small
  rw [Bool.eq_iff_iff]
  simp only [Bool.and_eq_true, decide_eq_true_eq]
  constructor
  · rintro ⟨⟨h1, h2⟩, h3⟩
    exact ⟨by omega, by omega, nOk_all t h3⟩
  · rintro ⟨h1, h2, h3⟩
    exact ⟨⟨by omega, by omega⟩, half_all t h h3⟩
theorem half_of_all (t : Con) : Con.allB t = true → Con.half t := by
  induction t using Con.ind with
  | h t ih =>
  intro h
  rw [allB_eq, Bool.and_eq_true, List.all_eq_true] at h
  rw [half_iff]
  exact ⟨fun _ => h.1, fun x hx => ih x hx (h.2 x hx)⟩
/-- a leaf has no parts -/
theorem leaf_none (t : Con) (h : Con.nodeB t = true) (h2 : t.op = 1 ∨ t.op = 2) : t.l = [] := by
  unfold Con.nodeB at h
  simp only [Bool.and_eq_true] at h
  have h := h.2.1
  unfold Con.shapeB at h
  have hp : Con.partsOf t.op = 0 := by rcases h2 with h2 | h2 <;> rw [h2] <;> rfl
  rw [hp, if_pos (by decide), Bool.and_eq_true, decide_eq_true_eq] at h
  exact List.eq_nil_of_length_eq_zero (by omega)
/-- the change of a shift -/
def shF (b f : Int) (t : Con) (d : Int) : Con := if t.op = 1 ∧ f ≤ t.n - d then ⟨t.op, t.n + b, t.s, t.kind, t.names, t.l⟩ else t
theorem reb_shift (b f : Int) (hf : 0 ≤ f) (t : Con) : ∀ d, Con.allB t = true → Con.reb (shF b f) t d = Con.shift b t (d + f) := by
  induction t using Con.ind with
  | h t ih =>
  intro d ha
  rw [allB_eq, Bool.and_eq_true, List.all_eq_true] at ha
  obtain ⟨hn, ha⟩ := ha
  by_cases h1 : t.op = 1
  · have hc := clean_node t hn h1
    have hl := leaf_none t hn (.inl h1)
    rw [Con.shift_var _ _ t h1]
    by_cases h2 : d ≤ t.n
    · rw [reb_leaf _ _ _ (.inr ⟨h1, h2⟩)]
      unfold shF
      by_cases h3 : f ≤ t.n - d
      · rw [if_pos ⟨h1, h3⟩, if_pos (by omega)]
        obtain ⟨op, n, s, k, names, l⟩ := t
        have hc : (⟨op, n, s, k, names, l⟩ : Con) = ⟨1, n, ByteArray.empty, .mk [], [], []⟩ := hc
        injection hc with e1 e2 e3 e4 e5 e6
        subst e1 e3 e4 e5 e6
        rfl
      · rw [if_neg (fun h => h3 h.2), if_neg (by omega)]
    · rw [reb_node _ _ _ (fun h => by rcases h with h | h <;> omega), hl, if_neg (by omega)]
      conv => rhs; rw [← Con.inside_self t, hl]
      rfl
  · by_cases h2 : t.op = 2
    · have hl := leaf_none t hn (.inr h2)
      rw [reb_leaf _ _ _ (.inl h2), Con.shift_node _ _ t h1, hl]
      unfold shF
      rw [if_neg (fun h => h1 h.1)]
      conv => lhs; rw [← Con.inside_self t, hl]
      rfl
    · rw [reb_node _ _ _ (fun h => by rcases h with h | h <;> omega), Con.shift_node _ _ t h1]
      congr 1
      refine List.map_congr_left (fun x hx => ?_)
      rw [ih x hx _ (ha x hx), Con.deep_add]
/-- the change of a substitution -/
def suF (ts : List Con) (t : Con) (d : Int) : Con := if t.op = 1 then (if t.n - d < ts.length then Con.reb (shF d 0) (ts.getD (t.n - d).toNat Con.none0) 0 else ⟨t.op, t.n - ts.length, t.s, t.kind, t.names, t.l⟩) else t
theorem getD_mem {α : Type} (l : List α) (k : Nat) (z : α) (h : k < l.length) : l.getD k z ∈ l := by
  have e : l.getD k z = l[k] := by simp [List.getD, List.getElem?_eq_getElem h]
  rw [e]
  exact List.getElem_mem h
theorem reb_subst (ts : List Con) (hts : ∀ x ∈ ts, Con.allB x = true) (t : Con) : ∀ d, Con.allB t = true → Con.reb (suF ts) t d = Con.subst ts t d := by
  induction t using Con.ind with
  | h t ih =>
  intro d ha
  rw [allB_eq, Bool.and_eq_true, List.all_eq_true] at ha
  obtain ⟨hn, ha⟩ := ha
  by_cases h1 : t.op = 1
  · have hc := clean_node t hn h1
    have hl := leaf_none t hn (.inl h1)
    rw [Con.subst_var _ _ t h1]
    by_cases h2 : d ≤ t.n
    · rw [reb_leaf _ _ _ (.inr ⟨h1, h2⟩), if_neg (by omega)]
      unfold suF
      rw [if_pos h1]
      by_cases h3 : t.n - d < (ts.length : Int)
      · rw [if_pos h3, if_pos h3, reb_shift d 0 (Int.le_refl _) _ _ (hts _ (getD_mem _ _ _ (by omega)))]
        rw [Int.add_zero]
      · rw [if_neg h3, if_neg h3]
        obtain ⟨op, n, s, k, names, l⟩ := t
        have hc : (⟨op, n, s, k, names, l⟩ : Con) = ⟨1, n, ByteArray.empty, .mk [], [], []⟩ := hc
        injection hc with e1 e2 e3 e4 e5 e6
        subst e1 e3 e4 e5 e6
        rfl
    · rw [reb_node _ _ _ (fun h => by rcases h with h | h <;> omega), hl, if_pos (by omega)]
      conv => rhs; rw [← Con.inside_self t, hl]
      rfl
  · by_cases h2 : t.op = 2
    · have hl := leaf_none t hn (.inr h2)
      rw [reb_leaf _ _ _ (.inl h2), Con.subst_node _ _ t h1, hl]
      unfold suF
      rw [if_neg h1]
      conv => lhs; rw [← Con.inside_self t, hl]
      rfl
    · rw [reb_node _ _ _ (fun h => by rcases h with h | h <;> omega), Con.subst_node _ _ t h1]
      congr 1
      refine List.map_congr_left (fun x hx => ih x hx _ (ha x hx))
/-- a variable is right just if its index is -/
theorem var_node (m : Int) (h : 0 ≤ m) (h2 : m ≤ 20000) : Con.nodeB (Con.var m) = true := by
  have he : ByteArray.empty.toList = [] := by rw [ByteArray.toList_eq]; rfl
  have e1 : Con.shapeB (Con.var m) = true := by simp [Con.shapeB, Con.var, Con.partsOf, Con.binder]
  have e2 : Con.numB (Con.var m) = true := by
    unfold Con.numB
    rw [if_pos (.inl rfl), Bool.and_eq_true, decide_eq_true_eq, decide_eq_true_eq]
    exact ⟨h, h2⟩
  have e3 : Con.strB (Con.var m) = true := by simp [Con.strB, Con.var, he]
  have e4 : Con.kindB (Con.var m) = true := by simp [Con.kindB, Con.var, Con.binder, K.l]
  have e5 : (decide (1 ≤ (Con.var m).op) && decide ((Con.var m).op ≤ 13)) = true := by simp [Con.var]
  unfold Con.nodeB
  rw [e1, e2, e3, e4, e5]
  rfl
theorem half_var (m : Int) (h : 0 ≤ m) : Con.half (Con.var m) := by
  rw [half_iff]
  exact ⟨fun h2 => var_node m h h2, fun x hx => by cases hx⟩
/-- a node's rightness does not ask about its parts, but for their number -/
theorem node_inside (t : Con) (l : List Con) (h : l.length = t.l.length) : Con.nodeB (Con.inside t l) = Con.nodeB t := by
  unfold Con.nodeB
  have e : Con.shapeB (Con.inside t l) = Con.shapeB t := by
    unfold Con.shapeB
    show (if 0 ≤ Con.partsOf t.op then decide ((l.length : Int) = Con.partsOf t.op) && decide (t.names.length = 0) else decide (l.length = t.names.length) && Con.labelsOk t.names) = _
    rw [h]
  rw [e]
  rfl
theorem half_shift (b : Int) (t : Con) : ∀ f, 0 ≤ f → Con.allB t = true → (0 ≤ b ∨ Con.gap (-b) t f = true) → Con.half (Con.shift b t f) := by
  induction t using Con.ind with
  | h t ih =>
  intro f hf ha hb
  have ha' := half_of_all t ha
  have hn := ((half_iff t).1 ha')
  rw [allB_eq, Bool.and_eq_true, List.all_eq_true] at ha
  by_cases h1 : t.op = 1
  · rw [Con.shift_var _ _ t h1]
    split
    · rename_i h2
      refine half_var _ ?_
      rcases hb with hb | hb
      · omega
      · rw [gap_var _ _ _ h1, Bool.or_eq_true, decide_eq_true_eq, decide_eq_true_eq] at hb
        omega
    · exact ha'
  · rw [Con.shift_node _ _ t h1, half_iff]
    refine ⟨fun h2 => by rw [node_inside _ _ (by simp)]; exact hn.1 h2, fun x hx => ?_⟩
    obtain ⟨y, hy, rfl⟩ := List.mem_map.1 hx
    refine ih y hy _ (by have := Con.deep_le t.op f; omega) (ha.2 y hy) ?_
    rcases hb with hb | hb
    · exact .inl hb
    · rw [gap_node _ _ _ h1, List.all_eq_true] at hb
      exact .inr (hb y hy)
theorem half_subst (ts : List Con) (hts : ∀ x ∈ ts, Con.allB x = true) (t : Con) : ∀ d, 0 ≤ d → Con.allB t = true → Con.half (Con.subst ts t d) := by
  induction t using Con.ind with
  | h t ih =>
  intro d hd ha
  have ha' := half_of_all t ha
  have hn := ((half_iff t).1 ha')
  rw [allB_eq, Bool.and_eq_true, List.all_eq_true] at ha
  by_cases h1 : t.op = 1
  · rw [Con.subst_var _ _ t h1]
    split
    · exact ha'
    · split
      · exact half_shift d _ 0 (Int.le_refl _) (hts _ (getD_mem _ _ _ (by omega))) (.inl hd)
      · exact half_var _ (by omega)
  · rw [Con.subst_node _ _ t h1, half_iff]
    refine ⟨fun h2 => by rw [node_inside _ _ (by simp)]; exact hn.1 h2, fun x hx => ?_⟩
    obtain ⟨y, hy, rfl⟩ := List.mem_map.1 hx
    exact ih y hy _ (by have := Con.deep_le t.op d; omega) (ha.2 y hy)
theorem valid_all (t : Con) (h : Con.validB t = true) : Con.allB t = true := by
  unfold Con.validB at h
  rw [Bool.and_eq_true] at h
  exact h.2
mutual
/-- the free indices of the variables, one after another -/
def Con.frees : Con → Int → List Int
  | ⟨op, n, _, _, _, l⟩, d => if op = 1 then (if d ≤ n then [n - d] else []) else Con.freess l (Con.deep op d)
def Con.freess : List Con → Int → List Int
  | [], _ => []
  | t :: r, d => Con.frees t d ++ Con.freess r d
end
theorem freess_map (d : Int) (l : List Con) : Con.freess l d = l.flatMap (fun t => Con.frees t d) := by
  induction l with
  | nil => rw [Con.freess]; rfl
  | cons t r ih => rw [Con.freess, ih]; rfl
theorem frees_var (t : Con) (d : Int) (h : t.op = 1) : Con.frees t d = if d ≤ t.n then [t.n - d] else [] := by
  obtain ⟨op, n, s, k, names, l⟩ := t
  have h : op = 1 := h
  rw [Con.frees, if_pos h]
theorem frees_node (t : Con) (d : Int) (h : t.op ≠ 1) : Con.frees t d = t.l.flatMap (fun x => Con.frees x (Con.deep t.op d)) := by
  obtain ⟨op, n, s, k, names, l⟩ := t
  have h : op ≠ 1 := h
  rw [Con.frees, if_neg h, freess_map]
theorem gap_frees (m : Int) (t : Con) : ∀ f d, 0 ≤ f → Con.gap m t (f + d) = (Con.frees t d).all (fun i => decide (i < f) || decide (f + m ≤ i)) := by
  induction t using Con.ind with
  | h t ih =>
  intro f d hf
  by_cases h1 : t.op = 1
  · rw [gap_var _ _ _ h1, frees_var _ _ h1]
    by_cases h2 : d ≤ t.n
    · rw [if_pos h2]
      simp only [List.all_cons, List.all_nil, Bool.and_true]
      rw [Bool.eq_iff_iff]
      simp only [Bool.or_eq_true, decide_eq_true_eq]
      omega
    · rw [if_neg h2, decide_eq_true (by omega : t.n < f + d)]
      rfl
  · rw [gap_node _ _ _ h1, frees_node _ _ h1]
    have : ∀ l : List Con, (∀ x ∈ l, Con.gap m x (Con.deep t.op (f + d)) = (Con.frees x (Con.deep t.op d)).all (fun i => decide (i < f) || decide (f + m ≤ i))) → l.all (fun x => Con.gap m x (Con.deep t.op (f + d))) = (l.flatMap (fun x => Con.frees x (Con.deep t.op d))).all (fun i => decide (i < f) || decide (f + m ≤ i)) := by
      intro l
      induction l with
      | nil => intro _; rfl
      | cons x r ihr =>
        intro h
        rw [List.all_cons, List.flatMap_cons, List.all_append, h x List.mem_cons_self, ihr (fun y hy => h y (List.mem_cons_of_mem _ hy))]
    refine this t.l (fun x hx => ?_)
    rw [Int.add_comm f d, Con.deep_add, Int.add_comm _ f]
    exact ih x hx f _ hf
/-- a shift that would make a variable from from on one from before -/
def fallsB (t : Con) (b f : Int) : Bool := (Con.frees t 0).any (fun i => decide (f ≤ i) && decide (i + b < f))
theorem falls_gap (t : Con) (b f : Int) (hf : 0 ≤ f) : fallsB t b f = true ↔ (b < 0 ∧ Con.gap (-b) t f = false) := by
  have h := gap_frees (-b) t f 0 hf
  rw [Int.add_zero] at h
  rw [h]
  unfold fallsB
  rw [List.any_eq_true, Bool.eq_false_iff, Ne, List.all_eq_true]
  constructor
  · rintro ⟨i, hi, h2⟩
    rw [Bool.and_eq_true, decide_eq_true_eq, decide_eq_true_eq] at h2
    refine ⟨by omega, fun h3 => ?_⟩
    have := h3 i hi
    rw [Bool.or_eq_true, decide_eq_true_eq, decide_eq_true_eq] at this
    omega
  · rintro ⟨hb, h2⟩
    by_cases h3 : ∃ i ∈ Con.frees t 0, (decide (f ≤ i) && decide (i + b < f)) = true
    · exact h3
    · exfalso
      refine h2 (fun i hi => ?_)
      have h4 : ¬ (decide (f ≤ i) && decide (i + b < f)) = true := fun h5 => h3 ⟨i, hi, h5⟩
      rw [Bool.and_eq_true, decide_eq_true_eq, decide_eq_true_eq] at h4
      rw [Bool.or_eq_true, decide_eq_true_eq, decide_eq_true_eq]
      omega
/-- what Shift answers, as the code finds it -/
theorem shiftOut_eq (t : Con) (b f : Int) : shiftOut t b f = if Con.validB t = true then (if f < 0 ∨ b < -20000 ∨ 20000 < b ∨ fallsB t b f = true then (Con.none0, 2) else if fitB (Con.reb (shF b f) t 0) 20000 1 = true then (Con.reb (shF b f) t 0, 0) else (Con.none0, 6)) else (Con.none0, 1) := by
  unfold shiftOut
  by_cases hv : Con.validB t = true
  · rw [if_pos hv, if_pos hv]
    by_cases hf : f < 0
    · rw [if_pos (.inl hf), if_pos (.inl hf)]
    have hg := falls_gap t b f (by omega)
    by_cases h : f < 0 ∨ b < -20000 ∨ 20000 < b ∨ fallsB t b f = true
    · rw [if_pos h, if_pos]
      rcases h with h | h | h | h
      · exact .inl h
      · exact .inr (.inl h)
      · exact .inr (.inr (.inl h))
      · exact .inr (.inr (.inr (hg.1 h)))
    · rw [if_neg h, if_neg]
      · have e := reb_shift b f (by omega) t 0 (valid_all t hv)
        rw [Int.zero_add] at e
        rw [e]
        unfold outB
        rw [half_valid]
        refine half_shift b t f (by omega) (valid_all t hv) ?_
        by_cases hb : 0 ≤ b
        · exact .inl hb
        · right
          cases hgp : Con.gap (-b) t f
          · exact absurd (.inr (.inr (.inr (hg.2 ⟨by omega, hgp⟩)))) h
          · rfl
      · intro h2
        apply h
        rcases h2 with h2 | h2 | h2 | h2
        · exact .inl h2
        · exact .inr (.inl h2)
        · exact .inr (.inr (.inl h2))
        · exact .inr (.inr (.inr (hg.2 h2)))
  · rw [if_neg hv, if_neg hv]
theorem substOut_eq (t : Con) (l : List Con) : substOut t l = if (Con.validB t && l.all Con.validB) = true then (if 1000 < l.length then (Con.none0, 5) else if fitB (Con.reb (suF l) t 0) 20000 1 = true then (Con.reb (suF l) t 0, 0) else (Con.none0, 6)) else (Con.none0, 1) := by
  unfold substOut
  by_cases hv : (Con.validB t && l.all Con.validB) = true
  · rw [if_pos hv, if_pos hv]
    split
    · rfl
    · rw [Bool.and_eq_true, List.all_eq_true] at hv
      have hl : ∀ x ∈ l, Con.allB x = true := fun x hx => valid_all x (hv.2 x hx)
      rw [reb_subst l hl t 0 (valid_all t hv.1)]
      unfold outB
      rw [half_valid _ (half_subst l hl t 0 (Int.le_refl _) (valid_all t hv.1))]
  · rw [if_neg hv, if_neg hv]
end Go.Proofs.YtmjiocpcenbndaaGreatDoor
namespace Go.Proofs.YtmjiocpcenbndaaGreatDoor
open Go Go.RowKit
open Pl (K Con)
set_option linter.unusedSimpArgs false
set_option linter.unusedVariables false

theorem cbinder_any (op : Int) (w : World) :
    Calls Tryz.prog 65 #[.int .i64 op] w fun e w' => e = .returned (.bool (Con.binder op)) ∧ w = w' := by
  by_cases h9 : op = 9
  · subst h9
    go_enter Tryz.func65, Tryz.ntmps65
    go_wp2
    go_ret
    exact ⟨rfl, rfl⟩
  have q9 : (op == 9) = false := beq_eq_false_iff_ne.2 h9
  by_cases h10 : op = 10
  · subst h10
    go_enter Tryz.func65, Tryz.ntmps65
    go_wp2
    go_ret
    exact ⟨rfl, rfl⟩
  have q10 : (op == 10) = false := beq_eq_false_iff_ne.2 h10
  by_cases h11 : op = 11
  · subst h11
    go_enter Tryz.func65, Tryz.ntmps65
    go_wp2
    go_ret
    exact ⟨rfl, rfl⟩
  have q11 : (op == 11) = false := beq_eq_false_iff_ne.2 h11
  by_cases h13 : op = 13
  · subst h13
    go_enter Tryz.func65, Tryz.ntmps65
    go_wp2
    go_ret
    exact ⟨rfl, rfl⟩
  have q13 : (op == 13) = false := beq_eq_false_iff_ne.2 h13
  have HV := Lib.hid (show Con.binder op = false from by unfold Con.binder; rw [decide_eq_false h9, decide_eq_false h10, decide_eq_false h11, decide_eq_false h13]; rfl)
  clear h9 h10 h11 h13
  go_enter Tryz.func65, Tryz.ntmps65
  go_wp2
  go_ret
  exact ⟨by rw [HV.out]; rfl, rfl⟩
/-- the number of parts, as the code asks it -/
def partsFitB (op : Int) (ln nn : Nat) : Bool :=
  if op = 1 ∨ op = 2 ∨ op = 3 ∨ op = 4 ∨ op = 5 then decide (ln = 0) else if op = 9 ∨ op = 10 ∨ op = 11 ∨ op = 13 then decide (ln = 1) else if op = 6 ∨ op = 12 then decide (ln = 2) else if op = 7 ∨ op = 8 then decide (ln = nn) else false
theorem nat_beq (a b : Nat) : ((a : Int) == (b : Int)) = decide (a = b) := by
  rw [Bool.eq_iff_iff, beq_iff_eq, decide_eq_true_eq]; omega
theorem nat_beq0 (a : Nat) : ((a : Int) == 0) = decide (a = 0) := nat_beq a 0
theorem nat_beq1 (a : Nat) : ((a : Int) == 1) = decide (a = 1) := nat_beq a 1
theorem nat_beq2 (a : Nat) : ((a : Int) == 2) = decide (a = 2) := nat_beq a 2
set_option maxRecDepth 100000 in
theorem partsFit_any (o : Nat) (b : Nat) (op n : Int) (s : ByteArray) (ka na la : Option Addr) (kn kc nn nc ln lc : Nat) (w : World) (c0 : w.cell? ⟨b, o, none⟩ = some (.int .i64 op)) (c4 : w.cell? ⟨b, o + 4, none⟩ = some (.slice na nn nc)) (c5 : w.cell? ⟨b, o + 5, none⟩ = some (.slice la ln lc)) :
    Calls Tryz.prog 89 #[.pointer (some ⟨b, o, none⟩)] w fun e w' => e = .returned (.bool (partsFitB op ln nn)) ∧ w = w' := by
  by_cases h1 : op = 1
  · subst h1
    have HV := Lib.hid (show partsFitB 1 ln nn = decide (ln = 0) from rfl)
    have HQ := Lib.hid (nat_beq0 ln)
    go_enter Tryz.func89, Tryz.ntmps89
    go_wp2
    go_ret
    exact ⟨by rw [HV.out, ← HQ.out]; rfl, rfl⟩
  have q1 : (op == 1) = false := beq_eq_false_iff_ne.2 h1
  by_cases h2 : op = 2
  · subst h2
    have HV := Lib.hid (show partsFitB 2 ln nn = decide (ln = 0) from rfl)
    have HQ := Lib.hid (nat_beq0 ln)
    go_enter Tryz.func89, Tryz.ntmps89
    go_wp2
    go_ret
    exact ⟨by rw [HV.out, ← HQ.out]; rfl, rfl⟩
  have q2 : (op == 2) = false := beq_eq_false_iff_ne.2 h2
  by_cases h3 : op = 3
  · subst h3
    have HV := Lib.hid (show partsFitB 3 ln nn = decide (ln = 0) from rfl)
    have HQ := Lib.hid (nat_beq0 ln)
    go_enter Tryz.func89, Tryz.ntmps89
    go_wp2
    go_ret
    exact ⟨by rw [HV.out, ← HQ.out]; rfl, rfl⟩
  have q3 : (op == 3) = false := beq_eq_false_iff_ne.2 h3
  by_cases h4 : op = 4
  · subst h4
    have HV := Lib.hid (show partsFitB 4 ln nn = decide (ln = 0) from rfl)
    have HQ := Lib.hid (nat_beq0 ln)
    go_enter Tryz.func89, Tryz.ntmps89
    go_wp2
    go_ret
    exact ⟨by rw [HV.out, ← HQ.out]; rfl, rfl⟩
  have q4 : (op == 4) = false := beq_eq_false_iff_ne.2 h4
  by_cases h5 : op = 5
  · subst h5
    have HV := Lib.hid (show partsFitB 5 ln nn = decide (ln = 0) from rfl)
    have HQ := Lib.hid (nat_beq0 ln)
    go_enter Tryz.func89, Tryz.ntmps89
    go_wp2
    go_ret
    exact ⟨by rw [HV.out, ← HQ.out]; rfl, rfl⟩
  have q5 : (op == 5) = false := beq_eq_false_iff_ne.2 h5
  by_cases h9 : op = 9
  · subst h9
    have HV := Lib.hid (show partsFitB 9 ln nn = decide (ln = 1) from rfl)
    have HQ := Lib.hid (nat_beq1 ln)
    go_enter Tryz.func89, Tryz.ntmps89
    go_wp2
    go_ret
    exact ⟨by rw [HV.out, ← HQ.out]; rfl, rfl⟩
  have q9 : (op == 9) = false := beq_eq_false_iff_ne.2 h9
  by_cases h10 : op = 10
  · subst h10
    have HV := Lib.hid (show partsFitB 10 ln nn = decide (ln = 1) from rfl)
    have HQ := Lib.hid (nat_beq1 ln)
    go_enter Tryz.func89, Tryz.ntmps89
    go_wp2
    go_ret
    exact ⟨by rw [HV.out, ← HQ.out]; rfl, rfl⟩
  have q10 : (op == 10) = false := beq_eq_false_iff_ne.2 h10
  by_cases h11 : op = 11
  · subst h11
    have HV := Lib.hid (show partsFitB 11 ln nn = decide (ln = 1) from rfl)
    have HQ := Lib.hid (nat_beq1 ln)
    go_enter Tryz.func89, Tryz.ntmps89
    go_wp2
    go_ret
    exact ⟨by rw [HV.out, ← HQ.out]; rfl, rfl⟩
  have q11 : (op == 11) = false := beq_eq_false_iff_ne.2 h11
  by_cases h13 : op = 13
  · subst h13
    have HV := Lib.hid (show partsFitB 13 ln nn = decide (ln = 1) from rfl)
    have HQ := Lib.hid (nat_beq1 ln)
    go_enter Tryz.func89, Tryz.ntmps89
    go_wp2
    go_ret
    exact ⟨by rw [HV.out, ← HQ.out]; rfl, rfl⟩
  have q13 : (op == 13) = false := beq_eq_false_iff_ne.2 h13
  by_cases h6 : op = 6
  · subst h6
    have HV := Lib.hid (show partsFitB 6 ln nn = decide (ln = 2) from rfl)
    have HQ := Lib.hid (nat_beq2 ln)
    go_enter Tryz.func89, Tryz.ntmps89
    go_wp2
    go_ret
    exact ⟨by rw [HV.out, ← HQ.out]; rfl, rfl⟩
  have q6 : (op == 6) = false := beq_eq_false_iff_ne.2 h6
  by_cases h12 : op = 12
  · subst h12
    have HV := Lib.hid (show partsFitB 12 ln nn = decide (ln = 2) from rfl)
    have HQ := Lib.hid (nat_beq2 ln)
    go_enter Tryz.func89, Tryz.ntmps89
    go_wp2
    go_ret
    exact ⟨by rw [HV.out, ← HQ.out]; rfl, rfl⟩
  have q12 : (op == 12) = false := beq_eq_false_iff_ne.2 h12
  by_cases h7 : op = 7
  · subst h7
    have HV := Lib.hid (show partsFitB 7 ln nn = decide (ln = nn) from rfl)
    have HQ := Lib.hid (nat_beq ln nn)
    go_enter Tryz.func89, Tryz.ntmps89
    go_wp2
    go_ret
    exact ⟨by rw [HV.out, ← HQ.out]; rfl, rfl⟩
  have q7 : (op == 7) = false := beq_eq_false_iff_ne.2 h7
  by_cases h8 : op = 8
  · subst h8
    have HV := Lib.hid (show partsFitB 8 ln nn = decide (ln = nn) from rfl)
    have HQ := Lib.hid (nat_beq ln nn)
    go_enter Tryz.func89, Tryz.ntmps89
    go_wp2
    go_ret
    exact ⟨by rw [HV.out, ← HQ.out]; rfl, rfl⟩
  have q8 : (op == 8) = false := beq_eq_false_iff_ne.2 h8
  have HV := Lib.hid (show partsFitB op ln nn = false from by
    unfold partsFitB
    rw [if_neg (by omega), if_neg (by omega), if_neg (by omega), if_neg (by omega)])
  clear h1 h2 h3 h4 h5 h6 h7 h8 h9 h10 h11 h12 h13
  go_enter Tryz.func89, Tryz.ntmps89
  go_wp2
  go_ret
  exact ⟨by rw [HV.out]; rfl, rfl⟩
def numFitB (op n : Int) : Bool := if op = 1 ∨ op = 3 then decide (0 ≤ n) && decide (n ≤ 20000) else decide (n = 0)
theorem int_beq (a b : Int) : (a == b) = decide (a = b) := by
  rw [Bool.eq_iff_iff, beq_iff_eq, decide_eq_true_eq]
set_option maxRecDepth 100000 in
theorem numFit_any (o : Nat) (b : Nat) (op n : Int) (s : ByteArray) (ka na la : Option Addr) (kn kc nn nc ln lc : Nat) (w : World) (c0 : w.cell? ⟨b, o, none⟩ = some (.int .i64 op)) (c1 : w.cell? ⟨b, o + 1, none⟩ = some (.int .i64 n)) :
    Calls Tryz.prog 90 #[.pointer (some ⟨b, o, none⟩)] w fun e w' => e = .returned (.bool (numFitB op n)) ∧ w = w' := by
  by_cases h1 : op = 1
  · subst h1
    have HV := Lib.hid (show numFitB 1 n = (decide (0 ≤ n) && decide (n ≤ 20000)) from rfl)
    cases h0 : decide (0 ≤ n)
    · rw [h0] at HV
      go_enter Tryz.func90, Tryz.ntmps90
      go_wp2
      go_ret
      exact ⟨by rw [HV.out]; rfl, rfl⟩
    · rw [h0] at HV
      go_enter Tryz.func90, Tryz.ntmps90
      go_wp2
      go_ret
      exact ⟨by rw [HV.out]; rfl, rfl⟩
  have q1 : (op == 1) = false := beq_eq_false_iff_ne.2 h1
  by_cases h3 : op = 3
  · subst h3
    have HV := Lib.hid (show numFitB 3 n = (decide (0 ≤ n) && decide (n ≤ 20000)) from rfl)
    cases h0 : decide (0 ≤ n)
    · rw [h0] at HV
      go_enter Tryz.func90, Tryz.ntmps90
      go_wp2
      go_ret
      exact ⟨by rw [HV.out]; rfl, rfl⟩
    · rw [h0] at HV
      go_enter Tryz.func90, Tryz.ntmps90
      go_wp2
      go_ret
      exact ⟨by rw [HV.out]; rfl, rfl⟩
  have q3 : (op == 3) = false := beq_eq_false_iff_ne.2 h3
  have HV := Lib.hid (show numFitB op n = decide (n = 0) from by unfold numFitB; rw [if_neg (by omega)])
  have HQ := Lib.hid (int_beq n 0)
  clear h1 h3
  go_enter Tryz.func90, Tryz.ntmps90
  go_wp2
  go_ret
  exact ⟨by rw [HV.out, ← HQ.out]; rfl, rfl⟩
end Go.Proofs.YtmjiocpcenbndaaGreatDoor
namespace Go.Proofs.YtmjiocpcenbndaaGreatDoor
open Go Go.RowKit
open Pl (K Con)
set_option linter.unusedSimpArgs false
set_option linter.unusedVariables false

set_option maxRecDepth 100000 in
/-- every string of a row, asked by a function -/
theorem allS_any (f : Nat) (hen : ∀ (W : World) (args : Array Value), Sem.run Tryz.prog (callFunc f args) W = .ok (.enter f args) W) (p : ByteArray → Bool)
    (hk : ∀ (z : ByteArray) (W : World), z.size ≤ maxLen → Calls Tryz.prog f #[.string z] W fun e w' => e = .returned (.bool (p z)) ∧ Below W.heap.size W w')
    (P : Nat → Prop) (zs : List ByteArray) (w : World) (v : Value) (hP : ∀ b, P b → b < w.heap.size) (hz : StrSl w P v zs) :
    Calls Tryz.prog 134 #[v, .func (.func f) #[] #[]] w fun e w' => e = .returned (.bool (zs.all p)) ∧ Below w.heap.size w w' := by
  have HKK := Lib.hid hk
  have HSL := Lib.hid (fun W (hW : Below w.heap.size w W) => hz.keep (Same.of_below hW hP))
  obtain ⟨a, c, hv, h1, h2, h3, h4, -⟩ := hz
  have HSZ := Lib.hid h4
  subst hv
  obtain ⟨n, hn⟩ : ∃ n, n = zs.length := ⟨_, rfl⟩
  have HN := Lib.hid hn
  have hn63 : n ≤ 9223372036854775807 := by unfold maxLen at h2; omega
  rw [← hn] at HSL ⊢
  clear h1 h2 h3 h4 hn hk hP
  go_enter Tryz.func134, Tryz.ntmps134
  go_wp2_with fail
  go_loopg [9] (n + 1) (fun g i wr => ∃ k : Nat, k ≤ n ∧ i = .int .i64 k ∧ g = n + 1 - k ∧ (zs.take k).all p = true ∧ Below w.heap.size w wr)
  case atStart => exact ⟨0, by omega, rfl, by omega, by simp, Below.refl _ _⟩
  case round =>
    obtain ⟨k, hk, rfl, hg, hin, hbw⟩ := hrel
    have HI := Lib.hid hin
    have HBW := Lib.hid hbw
    clear hin
    by_cases hlt : k < n
    · have q5 : decide ((k : Int) < (n : Int)) = true := decide_eq_true (by omega)
      have hkz : k < zs.length := by rw [← HN.out]; exact hlt
      obtain ⟨b, off, c', e, f0⟩ := strs_at (HSL.out wr hbw) k hkz
      injection e with e1 e2 e3
      subst e1 e3
      clear e2 hbw
      have HC := Lib.hid (HKK.out zs[k] wr (HSZ.out _ (List.getElem_mem hkz)))
      have HT := Lib.hid (all_take_step p zs k hkz)
      have HM := Lib.hid (all_miss p zs k hkz)
      generalize zs[k] = x at *
      generalize hr : p x = r at HC HT HM
      go_wp2_with fail
      refine HC.out.mono ?_
      rintro e w' ⟨rfl, hb3⟩
      have HB3 := Lib.hid (belowStep hb3 HBW.out)
      clear hb3 f0
      cases r
      · have HF := Lib.hid (HM.out rfl)
        clear hr
        go_wp2
        go_ret
        exact ⟨by rw [HF.out]; rfl, HB3.out⟩
      · have HT2 := Lib.hid (show (zs.take (k + 1)).all p = true from by rw [HT.out, HI.out]; rfl)
        clear HM HT hr
        go_wp2
        go_roundg (gk - 1)
        case measure => omega
        case rel => exact ⟨k + 1, by omega, by go_num, by omega, HT2.out, HB3.out⟩
    · have q5 : decide ((k : Int) < (n : Int)) = false := decide_eq_false (by omega)
      have HA := Lib.hid (show zs.all p = true from by have := HI.out; rwa [List.take_of_length_le (by rw [← HN.out]; omega)] at this)
      clear hbw
      go_wp2
      go_ret
      exact ⟨by rw [HA.out]; rfl, HBW.out⟩
set_option maxRecDepth 100000 in
/-- every constructor of a row, asked by a function -/
theorem allC_any (f : Nat) (hen : ∀ (W : World) (args : Array Value), Sem.run Tryz.prog (callFunc f args) W = .ok (.enter f args) W) (p : Con → Bool)
    (P : Nat → Prop) (l : List Con) (hk : ∀ t ∈ l, ∀ (W : World) (v : Value), (∀ b, P b → b < W.heap.size) → ConV W P t v → Calls Tryz.prog f #[v] W fun e w' => e = .returned (.bool (p t)) ∧ Below W.heap.size W w')
    (w : World) (v : Value) (hP : ∀ b, P b → b < w.heap.size) (hl : ConSl w P v l) :
    Calls Tryz.prog 33 #[v, .func (.func f) #[] #[]] w fun e w' => e = .returned (.bool (l.all p)) ∧ Below w.heap.size w w' := by
  have HKK := Lib.hid hk
  have HP := Lib.hid hP
  have HSL := Lib.hid (fun W (hW : Below w.heap.size w W) => hl.keep (Same.of_below hW hP))
  obtain ⟨la, lc, rfl, hlc, hcm, -⟩ := hl.each
  obtain ⟨n, hn⟩ : ∃ n, n = l.length := ⟨_, rfl⟩
  have HN := Lib.hid hn
  rw [← hn] at HSL ⊢
  have hn63 : n ≤ 9223372036854775807 := by unfold maxLen at hcm; omega
  clear hl hn hcm hlc hP hk
  go_enter Tryz.func33, Tryz.ntmps33
  go_wp2_with fail
  go_loopg [9] (n + 1) (fun g i wr => ∃ k : Nat, k ≤ n ∧ i = .int .i64 k ∧ g = n + 1 - k ∧ (l.take k).all p = true ∧ Below w.heap.size w wr)
  case atStart => exact ⟨0, by omega, rfl, by omega, by simp, Below.refl _ _⟩
  case round =>
    obtain ⟨k, hk, rfl, hg, hin, hbw⟩ := hrel
    have HI := Lib.hid hin
    have HBW := Lib.hid hbw
    clear hin
    by_cases hlt : k < n
    · have q5 : decide ((k : Int) < (n : Int)) = true := decide_eq_true (by omega)
      have hkl : k < l.length := by rw [← HN.out]; exact hlt
      obtain ⟨b, off, c', xa, xn, xc, ya, yn, yc, za, zn, zc, e, -, f0, f1, f2, f3, f4, f5, hx⟩ := (HSL.out wr hbw).part k hkl
      injection e with e1 e2 e3
      subst e1 e3
      clear e2
      obtain ⟨hbx, hb⟩ := boxN_new wr 28 #[.int .i64 l[k].op, .int .i64 l[k].n, .string l[k].s, .slice xa xn xc, .slice ya yn yc, .slice za zn zc]
      have d0 := hbx.cell 0 (.int .i64 l[k].op) rfl
      have d1 := hbx.cell 1 (.int .i64 l[k].n) rfl
      have d2 := hbx.cell 2 (.string l[k].s) rfl
      have d3 := hbx.cell 3 (.slice xa xn xc) rfl
      have d4 := hbx.cell 4 (.slice ya yn yc) rfl
      have d5 := hbx.cell 5 (.slice za zn zc) rfl
      have HC := Lib.hid (HKK.out _ (List.getElem_mem hkl) _ _ (fun b hb' => Nat.lt_of_lt_of_le (HP.out b hb') (Nat.le_trans hbw.size hb.size)) (hx.keep (Same.of_below hb (fun b hb' => Nat.lt_of_lt_of_le (HP.out b hb') hbw.size))))
      have HB1 := Lib.hid (belowStep hb hbw)
      have HT := Lib.hid (all_take_step p l k hkl)
      have HM := Lib.hid (all_miss p l k hkl)
      generalize l[k] = x at *
      generalize hr : p x = r at HC HT HM
      clear hbx hb hbw hx
      go_wp2_with fail
      refine HC.out.mono ?_
      rintro e w' ⟨rfl, hb3⟩
      have HB3 := Lib.hid (belowStep hb3 HB1.out)
      clear hb3 f0 f1 f2 f3 f4 f5 d0 d1 d2 d3 d4 d5
      cases r
      · have HF := Lib.hid (HM.out rfl)
        clear hr
        go_wp2
        go_ret
        exact ⟨by rw [HF.out]; rfl, HB3.out⟩
      · have HT2 := Lib.hid (show (l.take (k + 1)).all p = true from by rw [HT.out, HI.out]; rfl)
        clear HM HT hr
        go_wp2
        go_roundg (gk - 1)
        case measure => omega
        case rel => exact ⟨k + 1, by omega, by go_num, by omega, HT2.out, HB3.out⟩
    · have q5 : decide ((k : Int) < (n : Int)) = false := decide_eq_false (by omega)
      have HA := Lib.hid (show l.all p = true from by have := HI.out; rwa [List.take_of_length_le (by rw [← HN.out]; omega)] at this)
      clear hbw
      go_wp2
      go_ret
      exact ⟨by rw [HA.out]; rfl, HBW.out⟩
/-- where the first full stop stands -/
theorem dot_none (s : ByteArray) (h : Lib.indexByte s.data.toList 46 = -1) : s.toList.all Pl.noDot = true := by
  rw [List.all_eq_true]
  intro x hx
  obtain ⟨j, hj, rfl⟩ := List.getElem_of_mem hx
  have h1 := Lib.indexByte_none h j
  unfold Pl.noDot
  rw [Bool.not_eq_true', decide_eq_false_iff_not]
  intro h2
  apply h1
  rw [← Pl.toList_eq, List.getElem?_eq_getElem hj]
  congr 1
  exact UInt8.toNat_inj.1 (show _ = 46 by omega)
theorem dot_some (s : ByteArray) (k : Nat) (h : Lib.indexByte s.data.toList 46 = (k : Int)) : ∃ hk : k < s.size, (s.toList.take k).all Pl.noDot = true ∧ Pl.noDot s[k] = false := by
  obtain ⟨h1, h2⟩ := Lib.indexByte_some h
  rw [← Pl.toList_eq] at h1 h2
  have hk : k < s.toList.length := by
    rcases Nat.lt_or_ge k s.toList.length with h3 | h3
    · exact h3
    · rw [List.getElem?_eq_none h3] at h1; cases h1
  have hk' : k < s.size := by rw [← Pl.len_size]; exact hk
  refine ⟨hk', ?_, ?_⟩
  · rw [List.all_eq_true]
    intro x hx
    obtain ⟨j, hj, rfl⟩ := List.getElem_of_mem hx
    rw [List.length_take] at hj
    have h3 := h2 j (by omega)
    rw [List.getElem_take]
    unfold Pl.noDot
    rw [Bool.not_eq_true', decide_eq_false_iff_not]
    intro h4
    apply h3
    rw [List.getElem?_eq_getElem (by omega)]
    congr 1
    exact UInt8.toNat_inj.1 (show _ = 46 by omega)
  · have e := Pl.drop_cons s k hk'
    rw [List.drop_eq_getElem_cons hk] at e
    injection e with e _
    rw [List.getElem?_eq_getElem hk, e] at h1
    injection h1 with h1
    rw [h1]
    rfl
set_option maxRecDepth 100000 in
theorem cut_none (s : ByteArray) (w : World) (h : Lib.indexByte s.data.toList 46 = -1) :
    Calls Tryz.prog 141 #[.string s, .string ⟨#[46]⟩] w fun e w' => e = .returned (.tuple #[.string s, .string ⟨#[]⟩, .bool false]) ∧ Below w.heap.size w w' := by
  have HC := Lib.hid (fun W => Tryz.stringslite_Index_one s 46 W)
  rw [h] at HC
  clear h
  go_enter Tryz.func141, Tryz.ntmps141
  go_wp2_with fail
  refine (HC.out _).mono ?_
  rintro e w' ⟨rfl, rfl⟩
  go_wp2
  refine bodyPost_ret (v := .tuple #[.string s, .string ⟨#[]⟩, .bool false]) (by simp [results, Tryz.results141, go_sem]) rfl ?_
  exact ⟨rfl, Below.refl _ _⟩
set_option maxRecDepth 100000 in
theorem cut_some (s : ByteArray) (k : Nat) (w : World) (hs : s.size ≤ 1000000) (hk : k < s.size) (h : Lib.indexByte s.data.toList 46 = (k : Int)) :
    Calls Tryz.prog 141 #[.string s, .string ⟨#[46]⟩] w fun e w' => e = .returned (.tuple #[.string (s.extract 0 k), .string (s.extract (k + 1) s.size), .bool true]) ∧ Below w.heap.size w w' := by
  have HC := Lib.hid (fun W => Tryz.stringslite_Index_one s 46 W)
  rw [h] at HC
  have hz : ByteArray.size ⟨#[46]⟩ = 1 := rfl
  have w1 : wrap64 ((k : Int) + 1) = (k : Int) + 1 := by rw [wrap64]; omega
  have q1 : decide ((0 : Int) ≤ (k : Int)) = true := decide_eq_true (by omega)
  clear h
  go_enter Tryz.func141, Tryz.ntmps141
  go_wp2_with fail
  refine (HC.out _).mono ?_
  rintro e w' ⟨rfl, rfl⟩
  go_wp2
  go_region
  all_goals go_wp2
  all_goals (refine bodyPost_ret (v := .tuple #[.string (s.extract 0 k), .string (s.extract (k + 1) s.size), .bool true]) (by simp [results, Tryz.results141, go_sem]) rfl ?_)
  all_goals exact ⟨rfl, (Below.refl _ _).drew⟩
end Go.Proofs.YtmjiocpcenbndaaGreatDoor
namespace Go.Proofs.YtmjiocpcenbndaaGreatDoor
open Go Go.RowKit
open Pl (K Con)
set_option linter.unusedSimpArgs false
set_option linter.unusedVariables false

theorem cutS_none (s : ByteArray) (w : World) (h : Lib.indexByte s.data.toList 46 = -1) :
    Calls Tryz.prog 131 #[.string s, .string ⟨#[46]⟩] w fun e w' => e = .returned (.tuple #[.string s, .string ⟨#[]⟩, .bool false]) ∧ Below w.heap.size w w' := by
  have HC := Lib.hid (cut_none s w h)
  go_enter Tryz.func131, Tryz.ntmps131
  go_wp2_with fail
  refine HC.out.mono ?_
  rintro e w' ⟨rfl, hb⟩
  have HB := Lib.hid hb
  clear hb
  go_wp2
  refine bodyPost_ret (v := .tuple #[.string s, .string ⟨#[]⟩, .bool false]) (by simp [results, Tryz.results131, go_sem]) rfl ?_
  exact ⟨rfl, HB.out⟩
theorem cutS_some (s : ByteArray) (k : Nat) (w : World) (hs : s.size ≤ 1000000) (hk : k < s.size) (h : Lib.indexByte s.data.toList 46 = (k : Int)) :
    Calls Tryz.prog 131 #[.string s, .string ⟨#[46]⟩] w fun e w' => e = .returned (.tuple #[.string (s.extract 0 k), .string (s.extract (k + 1) s.size), .bool true]) ∧ Below w.heap.size w w' := by
  have HC := Lib.hid (cut_some s k w hs hk h)
  generalize s.extract 0 k = x at *
  generalize s.extract (k + 1) s.size = y at *
  go_enter Tryz.func131, Tryz.ntmps131
  go_wp2_with fail
  refine HC.out.mono ?_
  rintro e w' ⟨rfl, hb⟩
  have HB := Lib.hid hb
  clear hb
  go_wp2
  refine bodyPost_ret (v := .tuple #[.string x, .string y, .bool true]) (by simp [results, Tryz.results131, go_sem]) rfl ?_
  exact ⟨rfl, HB.out⟩
set_option maxRecDepth 100000 in
theorem ccname_any (s : ByteArray) (w : World) (hs : s.size ≤ maxLen) :
    Calls Tryz.prog 115 #[.string s] w fun e w' => e = .returned (.bool (Pl.cname s.toList)) ∧ Below w.heap.size w w' := by
  unfold maxLen at hs
  by_cases h48 : 48 < s.size
  · have q1 : decide ((48 : Int) < (s.size : Int)) = true := decide_eq_true (by omega)
    have HF := Lib.hid (Pl.cname_long s.toList (by rw [Pl.len_size]; exact h48))
    go_enter Tryz.func115, Tryz.ntmps115
    go_wp2
    go_ret
    exact ⟨by rw [HF.out]; rfl, Below.refl _ _⟩
  have q1 : decide ((48 : Int) < (s.size : Int)) = false := decide_eq_false (by omega)
  have hge := Lib.indexByte_ge s.data.toList 46
  by_cases hi : Lib.indexByte s.data.toList 46 = -1
  · have HV := Lib.hid (Pl.cname_none s.toList (dot_none s hi))
    have HC := Lib.hid (cutS_none s w hi)
    have HA := Lib.hid (fun W => number_any ⟨#[]⟩ W (Nat.zero_le _))
    generalize (Pl.number (ByteArray.toList ⟨#[]⟩)).1 = z at *
    generalize (Pl.number (ByteArray.toList ⟨#[]⟩)).2 = y at *
    clear hi hge
    go_enter Tryz.func115, Tryz.ntmps115
    go_wp2_with fail
    refine HC.out.mono ?_
    rintro e w3 ⟨rfl, hb⟩
    have HB := Lib.hid hb
    clear hb
    go_wp2_with fail
    refine (HA.out _).mono ?_
    rintro e w' ⟨rfl, rfl⟩
    go_wp2
    go_ret
    exact ⟨by rw [HV.out]; rfl, HB.out⟩
  · obtain ⟨k, hk⟩ : ∃ k : Nat, Lib.indexByte s.data.toList 46 = (k : Int) := ⟨(Lib.indexByte s.data.toList 46).toNat, by omega⟩
    obtain ⟨hks, ha, hp⟩ := dot_some s k hk
    have HV := Lib.hid (Pl.cname_at s k hks (by omega) ha hp)
    have HC := Lib.hid (cutS_some s k w (by omega) hks hk)
    have HA := Lib.hid (fun W => number_any (s.extract (k + 1) s.size) W (by rw [ByteArray.size_extract]; unfold maxLen; omega))
    have HB := Lib.hid (fun W => isUpper_any (s.extract 0 k) W (by rw [ByteArray.size_extract]; unfold maxLen; omega))
    rw [Pl.extract_end] at HA
    rw [show (s.extract 0 k).toList = s.toList.take k from by rw [Lib.extract_toList, ← Pl.toList_eq]; simp] at HB
    generalize s.extract 0 k = e1 at *
    generalize s.extract (k + 1) s.size = e2 at *
    generalize Pl.isUpper (s.toList.take k) = r at *
    generalize (Pl.number (s.toList.drop (k + 1))).2 = y at *
    generalize (Pl.number (s.toList.drop (k + 1))).1 = z at *
    clear hi hge hk ha hp
    go_enter Tryz.func115, Tryz.ntmps115
    go_wp2_with fail
    refine HC.out.mono ?_
    rintro e w3 ⟨rfl, hb⟩
    have HBB := Lib.hid hb
    clear hb
    go_wp2_with fail
    refine (HA.out _).mono ?_
    rintro e w' ⟨rfl, rfl⟩
    go_wp2_with fail
    refine (HB.out _).mono ?_
    rintro e w' ⟨rfl, rfl⟩
    cases r
    · go_wp2
      go_ret
      exact ⟨by rw [HV.out]; rfl, HBB.out⟩
    · by_cases hy : y = 0
      · subst hy
        go_wp2
        go_ret
        exact ⟨by rw [HV.out]; rfl, HBB.out⟩
      · have q7 : (y == 0) = false := by simpa using hy
        have HY := Lib.hid (decide_eq_false hy)
        clear hy
        go_wp2
        go_ret
        exact ⟨by rw [HV.out, HY.out]; rfl, HBB.out⟩
set_option maxRecDepth 100000 in
theorem clabels_any (P : Nat → Prop) (zs : List ByteArray) (w : World) (v : Value) (hP : ∀ b, P b → b < w.heap.size) (hz : StrSl w P v zs) :
    Calls Tryz.prog 116 #[v] w fun e w' => e = .returned (.bool (Con.labelsOk zs)) ∧ Below w.heap.size w w' := by
  have HA := Lib.hid (allS_any 135 (fun _ _ => rfl) (fun z => Pl.isLabel z.toList) (fun z W h => (isLabel_any z W h).mono (fun e w' he => ⟨he.1, by rw [← he.2]; exact Below.refl _ _⟩)) P zs w v hP hz)
  have HS := Lib.hid (fun W (hW : Below w.heap.size w W) => asc_of ((hz.keep (Same.of_below hW hP)).sliceOf (fun b h => Nat.lt_of_lt_of_le (hP b h) hW.size)))
  obtain ⟨a, c, hv, h1, h2, h3, h4, -⟩ := hz
  subst hv
  obtain ⟨n, hn⟩ : ∃ n, n = zs.length := ⟨_, rfl⟩
  have hn63 : n ≤ 9223372036854775807 := by unfold maxLen at h2; omega
  have HV := Lib.hid (show Con.labelsOk zs = (zs.all (fun z => Pl.isLabel z.toList) && (decide (n ≤ 1000) && asc zs)) from by rw [hn]; rfl)
  generalize Con.labelsOk zs = R at HV ⊢
  rw [← hn] at HA HS ⊢
  generalize hr : zs.all (fun z => Pl.isLabel z.toList) = r1 at *
  generalize hr2 : asc zs = r2 at *
  clear h1 h2 h3 h4 hn hr hr2
  by_cases h1000 : n ≤ 1000
  · have q6 : decide ((n : Int) ≤ 1000) = true := decide_eq_true (by omega)
    rw [decide_eq_true h1000] at HV
    clear h1000
    go_enter Tryz.func116, Tryz.ntmps116
    go_wp2_with fail
    refine HA.out.mono ?_
    rintro e w3 ⟨rfl, hb⟩
    have HB := Lib.hid hb
    have HS3 := Lib.hid (HS.out _ hb)
    clear hb
    cases r1
    · go_wp2
      go_ret
      exact ⟨by rw [HV.out]; rfl, HB.out⟩
    go_wp2_with fail
    refine HS3.out.mono ?_
    rintro e w' ⟨rfl, rfl⟩
    go_wp2
    go_ret
    exact ⟨by rw [HV.out]; rfl, HB.out⟩
  · have q6 : decide ((n : Int) ≤ 1000) = false := decide_eq_false (by omega)
    rw [decide_eq_false h1000, Bool.false_and, Bool.and_false] at HV
    clear h1000
    go_enter Tryz.func116, Tryz.ntmps116
    go_wp2
    go_ret
    exact ⟨by rw [HV.out]; rfl, Below.refl _ _⟩
end Go.Proofs.YtmjiocpcenbndaaGreatDoor
namespace Go.Proofs.YtmjiocpcenbndaaGreatDoor
open Go Go.RowKit
open Pl (K Con)
set_option linter.unusedSimpArgs false
set_option linter.unusedVariables false

def namesFitB (op : Int) (zs : List ByteArray) : Bool := if op = 7 ∨ op = 8 then Con.labelsOk zs else decide (zs.length = 0)
theorem shape_eq (t : Con) : (partsFitB t.op t.l.length t.names.length && namesFitB t.op t.names) = ((decide (1 ≤ t.op) && decide (t.op ≤ 13)) && Con.shapeB t) := by
  unfold Con.shapeB
  have e0 : decide ((t.l.length : Int) = 0) = decide (t.l.length = 0) := by rw [Bool.eq_iff_iff, decide_eq_true_eq, decide_eq_true_eq]; omega
  have e1 : decide ((t.l.length : Int) = 1) = decide (t.l.length = 1) := by rw [Bool.eq_iff_iff, decide_eq_true_eq, decide_eq_true_eq]; omega
  have e2 : decide ((t.l.length : Int) = 2) = decide (t.l.length = 2) := by rw [Bool.eq_iff_iff, decide_eq_true_eq, decide_eq_true_eq]; omega
  unfold namesFitB
  generalize t.op = op at *
  generalize Con.labelsOk t.names = L at *
  generalize t.names.length = nn at *
  generalize t.l.length = ln at *
  by_cases hr : 1 ≤ op ∧ op ≤ 13
  · rw [decide_eq_true hr.1, decide_eq_true hr.2]
    have h : op = 1 ∨ op = 2 ∨ op = 3 ∨ op = 4 ∨ op = 5 ∨ op = 6 ∨ op = 7 ∨ op = 8 ∨ op = 9 ∨ op = 10 ∨ op = 11 ∨ op = 12 ∨ op = 13 := by omega
    rcases h with h | h | h | h | h | h | h | h | h | h | h | h | h <;> subst h
    · show _ = (true && (decide ((ln : Int) = 0) && decide (nn = 0))); rw [e0]; rfl
    · show _ = (true && (decide ((ln : Int) = 0) && decide (nn = 0))); rw [e0]; rfl
    · show _ = (true && (decide ((ln : Int) = 0) && decide (nn = 0))); rw [e0]; rfl
    · show _ = (true && (decide ((ln : Int) = 0) && decide (nn = 0))); rw [e0]; rfl
    · show _ = (true && (decide ((ln : Int) = 0) && decide (nn = 0))); rw [e0]; rfl
    · show _ = (true && (decide ((ln : Int) = 2) && decide (nn = 0))); rw [e2]; rfl
    · rfl
    · rfl
    · show _ = (true && (decide ((ln : Int) = 1) && decide (nn = 0))); rw [e1]; rfl
    · show _ = (true && (decide ((ln : Int) = 1) && decide (nn = 0))); rw [e1]; rfl
    · show _ = (true && (decide ((ln : Int) = 1) && decide (nn = 0))); rw [e1]; rfl
    · show _ = (true && (decide ((ln : Int) = 2) && decide (nn = 0))); rw [e2]; rfl
    · show _ = (true && (decide ((ln : Int) = 1) && decide (nn = 0))); rw [e1]; rfl
  · have h1 : (decide (1 ≤ op) && decide (op ≤ 13)) = false := by
      rw [Bool.and_eq_false_iff, decide_eq_false_iff_not, decide_eq_false_iff_not]; omega
    rw [h1, Bool.false_and]
    unfold partsFitB
    rw [if_neg (by omega), if_neg (by omega), if_neg (by omega), if_neg (by omega), Bool.false_and]
theorem form_eq9 (t : Con) : Con.nodeB t = (partsFitB t.op t.l.length t.names.length && (numFitB t.op t.n && (Con.strB t && (namesFitB t.op t.names && Con.kindB t)))) := by
  have h := shape_eq t
  unfold Con.nodeB
  rw [← Bool.and_assoc, ← h]
  rw [show Con.numB t = numFitB t.op t.n from rfl]
  generalize partsFitB t.op t.l.length t.names.length = a
  generalize namesFitB t.op t.names = b
  generalize numFitB t.op t.n = c
  generalize Con.strB t = d
  generalize Con.kindB t = e
  cases a <;> cases b <;> cases c <;> cases d <;> cases e <;> rfl

set_option maxRecDepth 100000 in
theorem textFit_any (o : Nat) (b : Nat) (t : Con) (ka na la : Option Addr) (kn kc nn nc ln lc : Nat) (w : World) (hs : t.s.size ≤ maxLen) (c0 : w.cell? ⟨b, o, none⟩ = some (.int .i64 t.op)) (c2 : w.cell? ⟨b, o + 2, none⟩ = some (.string t.s)) :
    Calls Tryz.prog 91 #[.pointer (some ⟨b, o, none⟩)] w fun e w' => e = .returned (.bool (Con.strB t)) ∧ Below w.heap.size w w' := by
  have HV := Lib.hid (show Con.strB t = if t.op = 2 then Pl.cname t.s.toList else decide (t.s.toList = []) from rfl)
  have HC := Lib.hid (ccname_any t.s w hs)
  generalize t.op = op at *
  generalize t.s = s at *
  generalize Con.strB t = R at *
  generalize Pl.cname s.toList = r at *
  by_cases h2 : op = 2
  · subst h2
    rw [if_pos rfl] at HV
    go_enter Tryz.func91, Tryz.ntmps91
    go_wp2_with fail
    refine HC.out.mono ?_
    rintro e w3 ⟨rfl, hb⟩
    have HB := Lib.hid hb
    clear hb
    go_wp2
    go_ret
    exact ⟨by rw [HV.out]; rfl, HB.out⟩
  · have q2 : (op == 2) = false := beq_eq_false_iff_ne.2 h2
    rw [if_neg h2] at HV
    by_cases h3 : s.toList = []
    · have q3 : (s.toList == []) = true := by rw [h3]; rfl
      rw [decide_eq_true h3] at HV
      clear h2 h3
      go_enter Tryz.func91, Tryz.ntmps91
      go_wp2
      go_ret
      exact ⟨by rw [HV.out]; rfl, Below.refl _ _⟩
    · have q3 : (s.toList == []) = false := by simpa using h3
      rw [decide_eq_false h3] at HV
      clear h2 h3
      go_enter Tryz.func91, Tryz.ntmps91
      go_wp2
      go_ret
      exact ⟨by rw [HV.out]; rfl, Below.refl _ _⟩
set_option maxRecDepth 100000 in
theorem namesFit_any (P : Nat → Prop) (o : Nat) (b : Nat) (t : Con) (ka na la : Option Addr) (kn kc nn nc ln lc : Nat) (w : World) (hP : ∀ b, P b → b < w.heap.size) (hz : StrSl w P (.slice na nn nc) t.names) (c0 : w.cell? ⟨b, o, none⟩ = some (.int .i64 t.op)) (c4 : w.cell? ⟨b, o + 4, none⟩ = some (.slice na nn nc)) :
    Calls Tryz.prog 92 #[.pointer (some ⟨b, o, none⟩)] w fun e w' => e = .returned (.bool (namesFitB t.op t.names)) ∧ Below w.heap.size w w' := by
  have HV := Lib.hid (show namesFitB t.op t.names = if t.op = 7 ∨ t.op = 8 then Con.labelsOk t.names else decide (nn = 0) from by
    obtain ⟨a, c, e, -⟩ := hz
    injection e with _ e _
    rw [e]; rfl)
  have HC := Lib.hid (clabels_any P t.names w _ hP hz)
  generalize t.op = op at *
  generalize Con.labelsOk t.names = r at *
  generalize namesFitB op t.names = R at *
  have HQ := Lib.hid (nat_beq0 nn)
  clear hz hP
  by_cases h7 : op = 7
  · subst h7
    rw [if_pos (.inl rfl)] at HV
    go_enter Tryz.func92, Tryz.ntmps92
    go_wp2_with fail
    refine HC.out.mono ?_
    rintro e w3 ⟨rfl, hb⟩
    have HB := Lib.hid hb
    clear hb
    go_wp2
    go_ret
    exact ⟨by rw [HV.out]; rfl, HB.out⟩
  by_cases h8 : op = 8
  · subst h8
    rw [if_pos (.inr rfl)] at HV
    go_enter Tryz.func92, Tryz.ntmps92
    go_wp2_with fail
    refine HC.out.mono ?_
    rintro e w3 ⟨rfl, hb⟩
    have HB := Lib.hid hb
    clear hb
    go_wp2
    go_ret
    exact ⟨by rw [HV.out]; rfl, HB.out⟩
  have q7 : (op == 7) = false := beq_eq_false_iff_ne.2 h7
  have q8 : (op == 8) = false := beq_eq_false_iff_ne.2 h8
  rw [if_neg (by omega)] at HV
  clear h7 h8
  go_enter Tryz.func92, Tryz.ntmps92
  go_wp2
  go_ret
  exact ⟨by rw [HV.out, ← HQ.out]; rfl, Below.refl _ _⟩
set_option maxRecDepth 100000 in
theorem kindFit_any (P : Nat → Prop) (o : Nat) (b : Nat) (t : Con) (ka na la : Option Addr) (kn kc nn nc ln lc : Nat) (w : World) (hP : ∀ b, P b → b < w.heap.size) (hz : KidV w P t.kind (.slice ka kn kc)) (c0 : w.cell? ⟨b, o, none⟩ = some (.int .i64 t.op)) (c3 : w.cell? ⟨b, o + 3, none⟩ = some (.slice ka kn kc)) :
    Calls Tryz.prog 93 #[.pointer (some ⟨b, o, none⟩)] w fun e w' => e = .returned (.bool (Con.kindB t)) ∧ Below w.heap.size w w' := by
  have HV := Lib.hid (show Con.kindB t = if t.op = 2 ∨ Con.binder t.op = true then K.valid t.kind else decide (kn = 0) from by
    obtain ⟨a, c, e⟩ := hz.shape
    injection e with _ e _
    rw [e]; rfl)
  have HC := Lib.hid (valid_any P t.kind w (.agg #[.slice ka kn kc]) hP ⟨_, rfl, hz⟩)
  have HB := Lib.hid (cbinder_any t.op w)
  have HQ := Lib.hid (nat_beq0 kn)
  generalize t.op = op at *
  generalize Con.kindB t = R at *
  generalize K.valid t.kind = r at *
  clear hz hP
  by_cases h2 : op = 2
  · subst h2
    rw [if_pos (.inl rfl)] at HV
    go_enter Tryz.func93, Tryz.ntmps93
    go_wp2_with fail
    refine HC.out.mono ?_
    rintro e w3 ⟨rfl, hb⟩
    have HB := Lib.hid hb
    clear hb
    go_wp2
    go_ret
    exact ⟨by rw [HV.out]; rfl, HB.out⟩
  have q2 : (op == 2) = false := beq_eq_false_iff_ne.2 h2
  cases hb : Con.binder op
  · rw [hb] at HB HV
    rw [if_neg (by rintro (h | h); exact h2 h; cases h)] at HV
    clear h2 hb
    go_enter Tryz.func93, Tryz.ntmps93
    go_wp2_with fail
    refine HB.out.mono ?_
    rintro e w' ⟨rfl, rfl⟩
    go_wp2
    go_ret
    exact ⟨by rw [HV.out, ← HQ.out]; rfl, Below.refl _ _⟩
  · rw [hb] at HB HV
    rw [if_pos (.inr rfl)] at HV
    clear h2 hb
    go_enter Tryz.func93, Tryz.ntmps93
    go_wp2_with fail
    refine HB.out.mono ?_
    rintro e w' ⟨rfl, rfl⟩
    go_wp2_with fail
    refine HC.out.mono ?_
    rintro e w3 ⟨rfl, hb⟩
    have HB := Lib.hid hb
    clear hb
    go_wp2
    go_ret
    exact ⟨by rw [HV.out]; rfl, HB.out⟩
/-- six cells of a place lie on -/
theorem cells_on {w w' : World} {b o : Nat} {v : Value} (h : Cells6 w b o v) (hb : b < w.heap.size) (hw : Below w.heap.size w w') : Cells6 w' b o v := h.keep (P := fun q => q = b) (fun q hq => hw.block q (by rw [hq]; exact hb)) rfl
set_option maxRecDepth 100000 in
theorem hasForm_any (P : Nat → Prop) (o b : Nat) (t : Con) (w : World) (v : Value) (hP : ∀ b, P b → b < w.heap.size) (hb : b < w.heap.size) (ht : ConV w P t v) (hc : Cells6 w b o v) :
    Calls Tryz.prog 68 #[.pointer (some ⟨b, o, none⟩)] w fun e w' => e = .returned (.bool (Con.nodeB t)) ∧ Below w.heap.size w w' := by
  have HV := Lib.hid (form_eq9 t)
  have HQ := Lib.hid (fun W (hW : Below w.heap.size w W) => (show ConV W P t v ∧ Cells6 W b o v ∧ ∀ b, P b → b < W.heap.size from ⟨ht.keep (Same.of_below hW hP), cells_on hc hb hW, fun b h => Nat.lt_of_lt_of_le (hP b h) hW.size⟩))
  obtain ⟨kv, nv, la, lc, hv, hs, -⟩ := ht.open
  obtain ⟨ka, kn, kc, na, nn, nc, la', ln, lc', hv2, hkn, hnn, hln⟩ := ht.shape
  subst hv2
  subst hln
  have HCELLS := Lib.hid (fun W (hW : Below w.heap.size w W) => (show W.cell? ⟨b, o, none⟩ = some (.int .i64 t.op) ∧ W.cell? ⟨b, o + 1, none⟩ = some (.int .i64 t.n) ∧ W.cell? ⟨b, o + 2, none⟩ = some (.string t.s) ∧ W.cell? ⟨b, o + 3, none⟩ = some (.slice ka kn kc) ∧ W.cell? ⟨b, o + 4, none⟩ = some (.slice na nn nc) ∧ W.cell? ⟨b, o + 5, none⟩ = some (.slice la' t.l.length lc') ∧ KidV W P t.kind (.slice ka kn kc) ∧ StrSl W P (.slice na nn nc) t.names ∧ ∀ b, P b → b < W.heap.size from by
    obtain ⟨h1, h2, h3⟩ := HQ.out W hW
    obtain ⟨x0, x1, x2, x3, x4, x5, e, g0, g1, g2, g3, g4, g5⟩ := h2
    simp only [Value.agg.injEq, Array.mk.injEq, List.cons.injEq, and_true] at e
    obtain ⟨rfl, rfl, rfl, rfl, rfl, rfl⟩ := e
    obtain ⟨-, kv', nv', lv', e, hk, hn, -⟩ := (conV_iff _ _ _ _).1 h1
    simp only [Value.agg.injEq, Array.mk.injEq, List.cons.injEq, and_true, true_and] at e
    obtain ⟨rfl, rfl, rfl⟩ := e
    exact ⟨g0, g1, g2, g3, g4, g5, hk, hn, h3⟩))
  have H1 := Lib.hid (fun W (hW : Below w.heap.size w W) => let h := HCELLS.out W hW; partsFit_any o b t.op t.n t.s ka na la' kn kc nn nc t.l.length lc' W h.1 h.2.2.2.2.1 h.2.2.2.2.2.1)
  have H2 := Lib.hid (fun W (hW : Below w.heap.size w W) => let h := HCELLS.out W hW; numFit_any o b t.op t.n t.s ka na la' kn kc nn nc t.l.length lc' W h.1 h.2.1)
  have H3 := Lib.hid (fun W (hW : Below w.heap.size w W) => let h := HCELLS.out W hW; textFit_any o b t ka na la' kn kc nn nc t.l.length lc' W hs h.1 h.2.2.1)
  have H4 := Lib.hid (fun W (hW : Below w.heap.size w W) => let h := HCELLS.out W hW; namesFit_any P o b t ka na la' kn kc nn nc t.l.length lc' W h.2.2.2.2.2.2.2.2 h.2.2.2.2.2.2.2.1 h.1 h.2.2.2.2.1)
  have H5 := Lib.hid (fun W (hW : Below w.heap.size w W) => let h := HCELLS.out W hW; kindFit_any P o b t ka na la' kn kc nn nc t.l.length lc' W h.2.2.2.2.2.2.2.2 h.2.2.2.2.2.2.1 h.1 h.2.2.2.1)
  rw [← hnn] at HV
  generalize partsFitB t.op t.l.length nn = r1 at *
  generalize numFitB t.op t.n = r2 at *
  generalize Con.strB t = r3 at *
  generalize namesFitB t.op t.names = r4 at *
  generalize Con.kindB t = r5 at *
  generalize Con.nodeB t = R at *
  clear HCELLS HQ hc ht hv hkn hP hnn
  have HB0 := Lib.hid (Below.refl w.heap.size w)
  go_enter Tryz.func68, Tryz.ntmps68
  go_wp2_with fail
  refine (H1.out _ HB0.out).mono ?_
  rintro e w' ⟨rfl, rfl⟩
  cases r1
  · go_wp2
    go_ret
    exact ⟨by rw [HV.out]; rfl, HB0.out⟩
  go_wp2_with fail
  refine (H2.out _ HB0.out).mono ?_
  rintro e w' ⟨rfl, rfl⟩
  cases r2
  · go_wp2
    go_ret
    exact ⟨by rw [HV.out]; rfl, HB0.out⟩
  go_wp2_with fail
  refine (H3.out _ HB0.out).mono ?_
  rintro e w3 ⟨rfl, hb3⟩
  have HB3 := Lib.hid hb3
  clear hb3
  cases r3
  · go_wp2
    go_ret
    exact ⟨by rw [HV.out]; rfl, HB3.out⟩
  go_wp2_with fail
  refine (H4.out _ HB3.out).mono ?_
  rintro e w4 ⟨rfl, hb4⟩
  have HB4 := Lib.hid (belowStep hb4 HB3.out)
  clear hb4
  cases r4
  · go_wp2
    go_ret
    exact ⟨by rw [HV.out]; rfl, HB4.out⟩
  go_wp2_with fail
  refine (H5.out _ HB4.out).mono ?_
  rintro e w5 ⟨rfl, hb5⟩
  have HB5 := Lib.hid (belowStep hb5 HB4.out)
  clear hb5
  go_wp2
  go_ret
  exact ⟨by rw [HV.out]; rfl, HB5.out⟩
end Go.Proofs.YtmjiocpcenbndaaGreatDoor
namespace Go.Proofs.YtmjiocpcenbndaaGreatDoor
open Go Go.RowKit
open Pl (K Con)
set_option linter.unusedSimpArgs false
set_option linter.unusedVariables false

/-- right, within so many nodes and levels -/
def fwB (t : Con) (L d : Int) : Bool := Con.allB t && (decide ((t.size : Int) ≤ L) && decide ((t.depth : Int) ≤ d))
def fwsB (l : List Con) (L d : Int) : Bool := l.all Con.allB && (decide ((Con.sizes l : Int) ≤ L) && decide ((Con.depths l : Int) ≤ d))
theorem fwB_node (t : Con) (L d : Int) : fwB t L d = ((Con.nodeB t && (decide (1 ≤ L) && decide (1 ≤ d))) && fwsB t.l (L - 1) (d - 1)) := by
  unfold fwB fwsB
  rw [Con.size_eq, Con.depth_eq, allB_eq, Bool.eq_iff_iff]
  simp only [Bool.and_eq_true, decide_eq_true_eq]
  constructor
  · rintro ⟨⟨h1, h2⟩, h3, h4⟩
    exact ⟨⟨h1, by omega, by omega⟩, h2, by omega, by omega⟩
  · rintro ⟨⟨h1, h2, h3⟩, h4, h5, h6⟩
    exact ⟨⟨h1, h4⟩, by omega, by omega⟩
theorem fwsB_take (l : List Con) (k : Nat) (hk : k < l.length) (L d : Int) : fwsB (l.take (k + 1)) L d = (fwsB (l.take k) L d && fwB l[k] (L - (Con.sizes (l.take k) : Int)) d) := by
  unfold fwsB fwB
  rw [Con.sizes_take l k hk, Con.depths_take l k hk, all_take_step Con.allB l k hk, Bool.eq_iff_iff]
  simp only [Bool.and_eq_true, decide_eq_true_eq]
  constructor
  · rintro ⟨⟨h1, h2⟩, h3, h4⟩
    exact ⟨⟨h1, by omega, by omega⟩, h2, by omega, by omega⟩
  · rintro ⟨⟨h1, h2, h3⟩, h4, h5, h6⟩
    exact ⟨⟨h1, h4⟩, by omega, by omega⟩
theorem fwsB_le (l : List Con) (k : Nat) (L d : Int) (h : fwsB (l.take k) L d = false) : fwsB l L d = false := by
  cases h2 : fwsB l L d
  · rfl
  · rw [← h]
    unfold fwsB at h2 ⊢
    simp only [Bool.and_eq_true, decide_eq_true_eq] at h2
    obtain ⟨h5, h3, h4⟩ := h2
    have h6 := Con.sizes_le l k
    have h7 := Con.depths_le l k
    symm
    simp only [Bool.and_eq_true, decide_eq_true_eq]
    refine ⟨?_, by omega, by omega⟩
    rw [List.all_eq_true] at h5 ⊢
    exact fun x hx => h5 x (List.mem_of_mem_take hx)
theorem fwsB_nil (L d : Int) (h1 : 0 ≤ L) (h2 : 0 ≤ d) : fwsB [] L d = true := by
  unfold fwsB
  rw [Con.sizes_nil, Con.depths_nil, decide_eq_true (by omega : ((0 : Nat) : Int) ≤ L), decide_eq_true (by omega : ((0 : Nat) : Int) ≤ d)]
  rfl
theorem fwB_valid (t : Con) : fwB t 20000 400 = Con.validB t := by
  unfold fwB Con.validB Con.small
  rw [Bool.eq_iff_iff]
  simp only [Bool.and_eq_true, decide_eq_true_eq]
  constructor
  · rintro ⟨h1, h2, h3⟩; exact ⟨⟨by omega, by omega⟩, h1⟩
  · rintro ⟨⟨h1, h2⟩, h3⟩; exact ⟨h3, by omega, by omega⟩
/-- what the code's count leaves behind -/
def IsW (N : Nat) (t : Con) (left d : Int) (w : World) (e : Ending) (w' : World) : Prop :=
  ∃ c : Int, e = .returned (.bool (fwB t left d)) ∧ Blk w' N 3 #[.int .i64 c] ∧ 0 ≤ c ∧ c ≤ left ∧ (fwB t left d = true → c = left - t.size) ∧ Only N w w'
theorem cells_only6 {N : Nat} {w w' : World} {b o : Nat} {v : Value} (h : Cells6 w b o v) (hb : b < w.heap.size) (hn : b ≠ N) (hw : Only N w w') : Cells6 w' b o v := h.keep (P := fun q => q = b) (fun q hq => World.grownBy.block hw q (by rw [hq]; exact hb) (fun e => by injection e with e; rw [hq] at e; exact hn e)) rfl
theorem Same.of_only {P : Nat → Prop} {N : Nat} {w w' : World} (h : Only N w w') (hP : ∀ b, P b → b < w.heap.size ∧ b ≠ N) : Same P w w' := fun b hb => World.grownBy.block h b (hP b hb).1 (fun e => by injection e with e; exact (hP b hb).2 e)
theorem only_below {N : Nat} {w w' : World} (h : Below w.heap.size w w') : Only N w w' := (Only.refl N w).below h (Nat.le_refl _)
set_option maxRecDepth 100000 in
set_option maxHeartbeats 1000000 in
theorem isWell_any (P : Nat → Prop) (N : Nat) (t : Con) : ∀ (left d : Int) (b o : Nat) (w : World) (v : Value), (∀ q, P q → q < w.heap.size ∧ q ≠ N) → b < w.heap.size → b ≠ N → Blk w N 3 #[.int .i64 left] → ConV w P t v → Cells6 w b o v → 0 ≤ left → left ≤ 1000000 → 0 ≤ d → d ≤ 1000000 →
    Calls Tryz.prog 56 #[.pointer (some ⟨b, o, none⟩), .pointer (some ⟨N, 0, none⟩), .int .i64 d] w (IsW N t left d w) := by
  induction t using Con.ind with
  | h t ih =>
  intro left d b o w v hP hb hbN hN ht hc hl0 hl1 hd0 hd1
  have HIH := Lib.hid ih
  have HNODE := Lib.hid (fwB_node t left d)
  have w1 : wrap64 (left - 1) = left - 1 := by rw [wrap64]; omega
  have w2 : wrap64 (d - 1) = d - 1 := by rw [wrap64]; omega
  have cn := hN.cell 0 (.int .i64 left) rfl
  have fn := hN.thaw 0
  have HN := Lib.hid hN
  have HP := Lib.hid hP
  clear ih
  by_cases h1 : left = 0
  · subst h1
    have HF := Lib.hid (show fwB t 0 d = false from by rw [HNODE.out, decide_eq_false (by omega : ¬ (1 : Int) ≤ 0), Bool.false_and, Bool.and_false, Bool.false_and])
    clear ht hc hN
    go_enter Tryz.func56, Tryz.ntmps56
    go_wp2
    go_ret
    exact ⟨0, by rw [HF.out]; rfl, HN.out, by omega, by omega, (fun h => by rw [HF.out] at h; cases h), Only.refl _ _⟩
  have q1 : (left == 0) = false := beq_eq_false_iff_ne.2 h1
  by_cases h2 : d = 0
  · subst h2
    have HF := Lib.hid (show fwB t left 0 = false from by rw [HNODE.out, decide_eq_false (by omega : ¬ (1 : Int) ≤ 0), Bool.and_false, Bool.and_false, Bool.false_and])
    clear ht hc hN
    go_enter Tryz.func56, Tryz.ntmps56
    go_wp2
    go_ret
    exact ⟨left, by rw [HF.out]; rfl, HN.out, by omega, by omega, (fun h => by rw [HF.out] at h; cases h), Only.refl _ _⟩
  have q2 : (d == 0) = false := beq_eq_false_iff_ne.2 h2
  rw [decide_eq_true (by omega : 1 ≤ left), decide_eq_true (by omega : 1 ≤ d), Bool.and_true, Bool.and_true] at HNODE
  have HF := Lib.hid (hasForm_any P o b t w v (fun q hq => (hP q hq).1) hb ht hc)
  have HSL := Lib.hid (fun W (hW : Only N w W) => (ht.keep (Same.of_only hW hP)))
  have HCC := Lib.hid (fun W (hW : Only N w W) => cells_only6 hc hb hbN hW)
  obtain ⟨ka, kn, kc, na, nn, nc, la, ln, lc, rfl, -, -, hln⟩ := ht.shape
  obtain ⟨n, hn⟩ : ∃ n, n = t.l.length := ⟨_, rfl⟩
  have HLN := Lib.hid hn
  rw [← hn] at hln
  subst hln
  have hn63 : ln ≤ 9223372036854775807 := by
    obtain ⟨_, _, _, _, _, _, _, _, h5, h6, _⟩ := ht.open
    have h5 : t.l.length ≤ _ := h5
    unfold maxLen at *
    omega
  have HLC := Lib.hid (fun W (hW : Only N w W) => (show W.cell? ⟨b, o + 5, none⟩ = some (.slice la ln lc) from by
    obtain ⟨x0, x1, x2, x3, x4, x5, e, g0, g1, g2, g3, g4, g5⟩ := HCC.out W hW
    simp only [Value.agg.injEq, Array.mk.injEq, List.cons.injEq, and_true] at e
    obtain ⟨rfl, rfl, rfl, rfl, rfl, rfl⟩ := e
    exact g5))
  have HBN := Lib.hid hbN
  have HBS := Lib.hid hb
  have hl2 : 1 ≤ left := by omega
  have hd2 : 1 ≤ d := by omega
  clear ht hc hn hP h1 h2 HCC hN
  go_enter Tryz.func56, Tryz.ntmps56
  go_wp2_with fail
  refine HF.out.mono ?_
  rintro e w3 ⟨rfl, hb3⟩
  have HO3 := Lib.hid (only_below (N := N) hb3)
  have HN3 := Lib.hid (HN.out.of_eq (hb3.block _ HN.out.lt))
  clear hb3 cn fn HF
  cases hr : Con.nodeB t
  · have HFF := Lib.hid (show fwB t left d = false from by rw [HNODE.out, hr, Bool.false_and])
    clear hr
    go_wp2
    go_ret
    exact ⟨left, by rw [HFF.out]; rfl, HN3.out, by omega, by omega, (fun h => by rw [HFF.out] at h; cases h), HO3.out⟩
  rw [hr, Bool.true_and] at HNODE
  clear hr
  have HO4 := Lib.hid (show Only N w (w3.setCell ⟨N, 0, none⟩ (.int .i64 (left - 1))) from HO3.out.setCell (p := ⟨N, 0, none⟩) (.inl rfl) _)
  have HN4 := Lib.hid (show Blk (w3.setCell ⟨N, 0, none⟩ (.int .i64 (left - 1))) N 3 #[.int .i64 (left - 1)] from blk_one HN3.out)
  have cn := HN3.out.cell 0 (.int .i64 left) rfl
  have fn := HN3.out.thaw 0
  have g5 := HLC.out _ HO4.out
  go_wp2
  clear cn fn g5
  generalize w3.setCell ⟨N, 0, none⟩ (.int .i64 (left - 1)) = w4 at *
  go_loopg [31] (ln + 1) (fun g i wr => ∃ k : Nat, k ≤ ln ∧ i = .int .i64 k ∧ g = ln + 1 - k ∧ fwsB (t.l.take k) (left - 1) (d - 1) = true ∧ Blk wr N 3 #[.int .i64 (left - 1 - (Con.sizes (t.l.take k) : Int))] ∧ Only N w wr)
  case atStart => exact ⟨0, by omega, rfl, by omega, by rw [List.take_zero]; exact fwsB_nil _ _ (by omega) (by omega), by rw [List.take_zero, Con.sizes_nil]; simpa using HN4.out, HO4.out⟩
  case round =>
    obtain ⟨k, hk, rfl, hg, hin, hnk, hok⟩ := hrel
    have HI := Lib.hid hin
    have HNK := Lib.hid hnk
    have HOK := Lib.hid hok
    have hsl := (show (Con.sizes (t.l.take k) : Int) ≤ left - 1 from by
      have := hin
      unfold fwsB at this
      simp only [Bool.and_eq_true, decide_eq_true_eq] at this
      exact this.2.1)
    have HST := Lib.hid (fun hkl : k < t.l.length => fwsB_take t.l k hkl (left - 1) (d - 1))
    have HSS := Lib.hid (fun hkl : k < t.l.length => Con.sizes_take t.l k hkl)
    clear hin hnk
    by_cases hlt : k < ln
    · have q5 : decide ((k : Int) < (ln : Int)) = true := decide_eq_true (by omega)
      have hkl : k < t.l.length := by rw [← HLN.out]; exact hlt
      have hv := HSL.out wr hok
      rw [conV_iff] at hv
      obtain ⟨-, kv, nv, lv, e, -, -, hsl2⟩ := hv
      simp only [Value.agg.injEq, Array.mk.injEq, List.cons.injEq, and_true, true_and] at e
      obtain ⟨-, -, rfl⟩ := e
      obtain ⟨a5, c5, e5, -, -, hea⟩ := hsl2.each
      obtain ⟨b5, o5, x5, e6, hPb, hcx, hvx⟩ := hea k hkl
      injection e5 with e5 e8 e7
      clear e8
      subst e5 e6 e7
      have HC := Lib.hid (HIH.out t.l[k] (List.getElem_mem hkl) (left - 1 - (Con.sizes (t.l.take k) : Int)) (d - 1) b5 (o5 + k * 6) wr x5 (fun q hq => ⟨Nat.lt_of_lt_of_le (HP.out q hq).1 hok.size, (HP.out q hq).2⟩) (Nat.lt_of_lt_of_le (HP.out b5 hPb).1 hok.size) (HP.out b5 hPb).2 HNK.out hvx hcx (by omega) (by omega) (by omega) (by omega))
      have g5 := HLC.out _ hok
      replace HST := Lib.hid (HST.out hkl)
      replace HSS := Lib.hid (HSS.out hkl)
      have HLE := Lib.hid (fwsB_le t.l (k + 1) (left - 1) (d - 1))
      rw [HI.out, Bool.true_and] at HST
      generalize hz : t.l[k] = z at HC HST HSS
      clear hz hsl2 hea hcx hvx hok hPb HNK
      go_wp2_with fail
      refine HC.out.mono ?_
      rintro e w5 ⟨c, rfl, hnc, hc0, hc1, hcs, ho5⟩
      have HO5 := Lib.hid (HOK.out.trans ho5)
      have HN5 := Lib.hid hnc
      have HCS := Lib.hid hcs
      clear ho5 hnc hcs g5 HC
      generalize hfw : fwB z (left - 1 - (Con.sizes (t.l.take k) : Int)) (d - 1) = r at *
      clear hfw
      cases r
      · have HFF := Lib.hid (show fwB t left d = false from by rw [HNODE.out]; exact HLE.out HST.out)
        clear HIH
        go_wp2
        go_ret
        exact ⟨c, by rw [HFF.out]; rfl, HN5.out, hc0, by omega, (fun h => by rw [HFF.out] at h; cases h), HO5.out⟩
      · have hcc := HCS.out rfl
        have HN6 := Lib.hid (show Blk w5 N 3 #[.int .i64 (left - 1 - (Con.sizes (t.l.take (k + 1)) : Int))] from by
          have h1 := HN5.out
          rw [hcc] at h1
          rw [HSS.out, show left - 1 - ((Con.sizes (t.l.take k) + z.size : Nat) : Int) = left - 1 - (Con.sizes (t.l.take k) : Int) - (z.size : Int) from by omega]
          exact h1)
        clear hcc
        go_wp2
        go_roundg (gk - 1)
        case measure => omega
        case rel => exact ⟨k + 1, by omega, by go_num, by omega, HST.out, HN6.out, HO5.out⟩
    · have q5 : decide ((k : Int) < (ln : Int)) = false := decide_eq_false (by omega)
      have HFF := Lib.hid (show fwB t left d = true ∧ Blk wr N 3 #[.int .i64 (left - t.size)] from by
        have h1 := HI.out
        have h2 := HNK.out
        rw [List.take_of_length_le (by rw [← HLN.out]; omega)] at h1 h2
        refine ⟨by rw [HNODE.out]; exact h1, ?_⟩
        rw [Con.size_eq, show left - ((1 + Con.sizes t.l : Nat) : Int) = left - 1 - (Con.sizes t.l : Int) from by omega]
        exact h2)
      have hsz := (show (t.size : Int) ≤ left from by
        have := HFF.out.1
        unfold fwB at this
        simp only [Bool.and_eq_true, decide_eq_true_eq] at this
        exact this.2.1)
      clear hok HIH
      go_wp2
      go_ret
      exact ⟨left - t.size, by rw [HFF.out.1]; rfl, HFF.out.2, by omega, by omega, fun _ => rfl, HOK.out⟩
set_option maxRecDepth 100000 in
theorem cvalid_any (P : Nat → Prop) (t : Con) (w : World) (v : Value) (hP : ∀ b, P b → b < w.heap.size) (ht : ConV w P t v) :
    Calls Tryz.prog 32 #[v] w fun e w' => e = .returned (.bool (Con.validB t)) ∧ Below w.heap.size w w' := by
  have HT := Lib.hid (fun W (hW : Below w.heap.size w W) => ht.keep (Same.of_below hW hP))
  obtain ⟨ka, kn, kc, na, nn, nc, la, ln, lc, rfl, -, -, -⟩ := ht.shape
  obtain ⟨hbx, hbn, hb⟩ := twoN_new w 28 3 #[.int .i64 t.op, .int .i64 t.n, .string t.s, .slice ka kn kc, .slice na nn nc, .slice la ln lc] #[.int .i64 20000]
  obtain ⟨-, hbn0, -⟩ := twoN_new w 28 3 #[.int .i64 t.op, .int .i64 t.n, .string t.s, .slice ka kn kc, .slice na nn nc, .slice la ln lc] #[.int .i64 0]
  have fz := hbn0.thaw 0
  have HC := Lib.hid (isWell_any P (w.heap.size + 1) t 20000 400 w.heap.size 0 _ _ (fun q hq => ⟨Nat.lt_of_lt_of_le (hP q hq) hb.size, by have := hP q hq; omega⟩) hbx.lt (by omega) hbn (HT.out _ hb) ⟨_, _, _, _, _, _, rfl, hbx.cell 0 _ rfl, hbx.cell 1 _ rfl, hbx.cell 2 _ rfl, hbx.cell 3 _ rfl, hbx.cell 4 _ rfl, hbx.cell 5 _ rfl⟩ (by omega) (by omega) (by omega) (by omega))
  have HB := Lib.hid hb
  rw [← fwB_valid]
  clear ht hb hbx hbn hbn0
  go_enter Tryz.func32, Tryz.ntmps32
  go_wp2_with fail
  refine HC.out.mono ?_
  rintro e w3 ⟨c, rfl, -, -, -, -, ho⟩
  have HO := Lib.hid (HB.out.trans (ho.to (Nat.le_succ _) HB.out.size))
  clear ho
  go_wp2
  go_ret
  exact ⟨rfl, HO.out⟩
end Go.Proofs.YtmjiocpcenbndaaGreatDoor
namespace Go.Proofs.YtmjiocpcenbndaaGreatDoor
open Go Go.RowKit
open Pl (K Con)
set_option linter.unusedSimpArgs false
set_option linter.unusedVariables false

def eqAllC (f : Con → Con → Bool) : List Con → List Con → Bool
  | t :: r, u :: s => f t u && eqAllC f r s
  | _, _ => true
theorem eqAllC_step (f : Con → Con → Bool) (l m : List Con) (i : Nat) (hl : i < l.length) (hm : i < m.length) : eqAllC f (l.drop i) (m.drop i) = (f l[i] m[i] && eqAllC f (l.drop (i + 1)) (m.drop (i + 1))) := by
  rw [List.drop_eq_getElem_cons hl, List.drop_eq_getElem_cons hm, eqAllC]
theorem eqAllC_end (f : Con → Con → Bool) (l m : List Con) (i : Nat) (hl : l.length ≤ i) : eqAllC f (l.drop i) (m.drop i) = true := by
  rw [List.drop_of_length_le hl]
  cases m.drop i <;> rfl
theorem eqAllC_same (l : List Con) : ∀ m : List Con, (l.length == m.length && eqAllC Con.sameB l m) = true ↔ l = m := by
  induction l with
  | nil =>
    intro m
    cases m with
    | nil => simp [eqAllC]
    | cons _ _ => simp [eqAllC]
  | cons t r ih =>
    intro m
    cases m with
    | nil => simp [eqAllC]
    | cons u s =>
      have := ih s
      rw [Bool.and_eq_true, beq_iff_eq] at this
      rw [eqAllC, Bool.and_eq_true, Bool.and_eq_true, sameB_iff, beq_iff_eq, List.cons.injEq, ← this, List.length_cons, List.length_cons]
      constructor
      · rintro ⟨h1, h2, h3⟩; exact ⟨h2, by omega, h3⟩
      · rintro ⟨h1, h2, h3⟩; exact ⟨by omega, h1, h3⟩
end Go.Proofs.YtmjiocpcenbndaaGreatDoor
namespace Go.Proofs.YtmjiocpcenbndaaGreatDoor
open Go Go.RowKit
open Pl (K Con)
set_option linter.unusedSimpArgs false
set_option linter.unusedVariables false

theorem sameB_parts (t u : Con) : Con.sameB t u = ((t.op == u.op) && ((t.n == u.n) && ((t.s.toList == u.s.toList) && (K.eqv t.kind u.kind && (decide (t.names = u.names) && (t.l.length == u.l.length && eqAllC Con.sameB t.l u.l)))))) := by
  rw [Bool.eq_iff_iff, sameB_iff]
  rw [Bool.and_eq_true, Bool.and_eq_true, Bool.and_eq_true, Bool.and_eq_true, Bool.and_eq_true, beq_iff_eq, beq_iff_eq, beq_iff_eq, K.eqv_iff, decide_eq_true_eq, eqAllC_same]
  constructor
  · rintro rfl; exact ⟨rfl, rfl, rfl, rfl, rfl, rfl⟩
  · rintro ⟨h1, h2, h3, h4, h5, h6⟩; exact con_ext h1 h2 (bytes_ext h3) h4 h5 h6
end Go.Proofs.YtmjiocpcenbndaaGreatDoor
namespace Go.Proofs.YtmjiocpcenbndaaGreatDoor
open Go Go.RowKit
open Pl (K Con)
set_option linter.unusedSimpArgs false

set_option maxRecDepth 100000 in
theorem none9_any (P : Nat → Prop) (t : Con) (w : World) (v : Value) (hP : ∀ b, P b → b < w.heap.size) (ht : ConV w P t v) :
    Calls Tryz.prog 15 #[v] w fun e w' => e = .returned (.bool (Con.sameB t Con.none0)) ∧ Below w.heap.size w w' := by
  have HS := Lib.hid (fun W (hW : Below w.heap.size w W) => rsameB_any P (fun _ => False) t Con.none0 W v (.agg #[.int .i64 0, .int .i64 0, .string ByteArray.empty, .slice none 0 0, .slice none 0 0, .slice none 0 0]) (fun b h => Nat.lt_of_lt_of_le (hP b h) hW.size) (fun b h => h.elim) (ht.below hP hW) (conV_none W _))
  obtain ⟨ka, kn, kc, na, nn, nc, la, ln, lc, rfl, -, -, -, hbx, hb⟩ := con_box ht
  have c0 := hbx.cell 0 (.int .i64 t.op) rfl
  have c1 := hbx.cell 1 (.int .i64 t.n) rfl
  have c2 := hbx.cell 2 (.string t.s) rfl
  have c3 := hbx.cell 3 (.slice ka kn kc) rfl
  have c4 := hbx.cell 4 (.slice na nn nc) rfl
  have c5 := hbx.cell 5 (.slice la ln lc) rfl
  have HB := Lib.hid hb
  have HC := Lib.hid (HS.out _ hb)
  generalize Con.sameB t Con.none0 = r at *
  clear ht hbx hb hP HS
  go_enter Tryz.func15, Tryz.ntmps15
  go_wp2_with fail
  refine HC.out.mono ?_
  rintro e w1 ⟨rfl, hb1⟩
  have HB1 := Lib.hid (belowStep hb1 HB.out)
  clear hb1
  go_wp2
  go_ret
  exact ⟨rfl, HB1.out⟩
/-- what the law's answer says -/
noncomputable def answerB (t : Con) (e : Int) (want : Con) : Bool := if Con.validB want then Con.sameB t want && (e == 0) else Con.sameB t Con.none0 && (e == 6)
theorem answer_out (x : Con) : answerB (outB x).1 (outB x).2 x = true := by
  unfold answerB
  rcases outB_cases x with ⟨h, e⟩ | ⟨h, e⟩
  · rw [h, e, if_pos rfl, sameB_self]; rfl
  · rw [h, e, if_neg (by simp), sameB_self]; rfl
set_option maxRecDepth 100000 in
set_option maxHeartbeats 4000000 in
theorem answer9_any (P Q : Nat → Prop) (t want : Con) (ec : Int) (w : World) (v x : Value) (hP : ∀ b, P b → b < w.heap.size) (hQ : ∀ b, Q b → b < w.heap.size) (ht : ConV w P t v) (hu : ConV w Q want x) :
    Calls Tryz.prog 19 #[v, .int .i64 ec, x] w fun e w' => e = .returned (.bool (answerB t ec want)) ∧ Below w.heap.size w w' := by
  have HV := Lib.hid (fun W (hW : Below w.heap.size w W) => rvalid9_any Q want W x (fun b h => Nat.lt_of_lt_of_le (hQ b h) hW.size) (hu.below hQ hW))
  have HN := Lib.hid (fun W (hW : Below w.heap.size w W) => none9_any P t W v (fun b h => Nat.lt_of_lt_of_le (hP b h) hW.size) (ht.below hP hW))
  have HS := Lib.hid (fun W (hW : Below w.heap.size w W) => rsameB_any P Q t want W v x (fun b h => Nat.lt_of_lt_of_le (hP b h) hW.size) (fun b h => Nat.lt_of_lt_of_le (hQ b h) hW.size) (ht.below hP hW) (hu.below hQ hW))
  have HR := Lib.hid (show answerB t ec want = if Con.validB want then Con.sameB t want && (ec == 0) else Con.sameB t Con.none0 && (ec == 6) from rfl)
  generalize answerB t ec want = R at *
  generalize Con.validB want = r1 at *
  generalize Con.sameB t want = r2 at *
  generalize Con.sameB t Con.none0 = r3 at *
  obtain ⟨ka, kn, kc, na, nn, nc, la, ln, lc, rfl, -, -, -⟩ := ht.shape
  obtain ⟨ka2, kn2, kc2, na2, nn2, nc2, la2, ln2, lc2, rfl, -, -, -⟩ := hu.shape
  obtain ⟨hbx, hbx2, hb⟩ := twoN_new w 28 28 #[.int .i64 t.op, .int .i64 t.n, .string t.s, .slice ka kn kc, .slice na nn nc, .slice la ln lc] #[.int .i64 want.op, .int .i64 want.n, .string want.s, .slice ka2 kn2 kc2, .slice na2 nn2 nc2, .slice la2 ln2 lc2]
  have HB := Lib.hid hb
  have HBX := Lib.hid hbx
  have HBX2 := Lib.hid hbx2
  have d0 := hbx2.cell 0 (.int .i64 want.op) rfl
  have d1 := hbx2.cell 1 (.int .i64 want.n) rfl
  have d2 := hbx2.cell 2 (.string want.s) rfl
  have d3 := hbx2.cell 3 (.slice ka2 kn2 kc2) rfl
  have d4 := hbx2.cell 4 (.slice na2 nn2 nc2) rfl
  have d5 := hbx2.cell 5 (.slice la2 ln2 lc2) rfl
  clear hbx hbx2 hb ht hu hP hQ
  go_enter Tryz.func19, Tryz.ntmps19
  go_wp2_with fail
  clear d0 d1 d2 d3 d4 d5
  generalize (w.alloc (.cells #[.int .i64 t.op, .int .i64 t.n, .string t.s, .slice ka kn kc, .slice na nn nc, .slice la ln lc] 28)).alloc (.cells #[.int .i64 want.op, .int .i64 want.n, .string want.s, .slice ka2 kn2 kc2, .slice na2 nn2 nc2, .slice la2 ln2 lc2] 28) = w2 at *
  refine (HV.out _ HB.out).mono ?_
  rintro e w3 ⟨rfl, hb3⟩
  replace HB := Lib.hid (belowStep hb3 HB.out)
  replace HBX := Lib.hid (HBX.out.of_eq (hb3.block _ HBX.out.lt))
  replace HBX2 := Lib.hid (HBX2.out.of_eq (hb3.block _ HBX2.out.lt))
  clear hb3
  have c0 := HBX.out.cell 0 (.int .i64 t.op) rfl
  have c1 := HBX.out.cell 1 (.int .i64 t.n) rfl
  have c2 := HBX.out.cell 2 (.string t.s) rfl
  have c3 := HBX.out.cell 3 (.slice ka kn kc) rfl
  have c4 := HBX.out.cell 4 (.slice na nn nc) rfl
  have c5 := HBX.out.cell 5 (.slice la ln lc) rfl
  have d0 := HBX2.out.cell 0 (.int .i64 want.op) rfl
  have d1 := HBX2.out.cell 1 (.int .i64 want.n) rfl
  have d2 := HBX2.out.cell 2 (.string want.s) rfl
  have d3 := HBX2.out.cell 3 (.slice ka2 kn2 kc2) rfl
  have d4 := HBX2.out.cell 4 (.slice na2 nn2 nc2) rfl
  have d5 := HBX2.out.cell 5 (.slice la2 ln2 lc2) rfl
  cases r1
  · have HR2 := Lib.hid (show R = (r3 && (ec == 6)) from by rw [HR.out]; rfl)
    go_wp2_with fail
    refine (HN.out _ HB.out).mono ?_
    rintro e w4 ⟨rfl, hb4⟩
    have HB4 := Lib.hid (belowStep hb4 HB.out)
    clear hb4 HR c0 c1 c2 c3 c4 c5 d0 d1 d2 d3 d4 d5
    cases r3
    · go_wp2
      go_ret
      exact ⟨by rw [HR2.out]; rfl, HB4.out⟩
    · go_wp2
      go_ret
      exact ⟨by rw [HR2.out]; rfl, HB4.out⟩
  · have HR2 := Lib.hid (show R = (r2 && (ec == 0)) from by rw [HR.out]; rfl)
    go_wp2_with fail
    refine (HS.out _ HB.out).mono ?_
    rintro e w4 ⟨rfl, hb4⟩
    have HB4 := Lib.hid (belowStep hb4 HB.out)
    clear hb4 HR c0 c1 c2 c3 c4 c5 d0 d1 d2 d3 d4 d5
    cases r2
    · go_wp2
      go_ret
      exact ⟨by rw [HR2.out]; rfl, HB4.out⟩
    · go_wp2
      go_ret
      exact ⟨by rw [HR2.out]; rfl, HB4.out⟩
end Go.Proofs.YtmjiocpcenbndaaGreatDoor
namespace Go.Proofs.YtmjiocpcenbndaaGreatDoor
open Go Go.RowKit
open Pl (K Con)
set_option linter.unusedSimpArgs false

end Go.Proofs.YtmjiocpcenbndaaGreatDoor
namespace Go.Proofs.YtmjiocpcenbndaaGreatDoor
open Go Go.RowKit
open Pl (K Con)
set_option linter.unusedSimpArgs false

/-- six cells in a row of values -/
def ConIn (cs : Array Value) (o : Nat) (v : Value) : Prop :=
  ∃ x0 x1 x2 x3 x4 x5, v = .agg #[x0, x1, x2, x3, x4, x5] ∧ cs[o]? = some x0 ∧ cs[o + 1]? = some x1 ∧ cs[o + 2]? = some x2 ∧ cs[o + 3]? = some x3 ∧ cs[o + 4]? = some x4 ∧ cs[o + 5]? = some x5
/-- the cells of constructors side by side, their parts in the blocks R -/
def ConRow (w : World) (R : Nat → Prop) (us : List Value) (l : List Con) : Prop :=
  us.length = l.length * 6 ∧ (∀ u ∈ us, u.oneCell' = true) ∧ ∀ j (h : j < l.length), ∃ x, ConIn us.toArray (j * 6) x ∧ ConV w R l[j] x
theorem ConRow.nil (w : World) (R : Nat → Prop) : ConRow w R [] [] := ⟨rfl, fun u hu => (by cases hu), fun j hj => absurd hj (Nat.not_lt_zero _)⟩
theorem ConRow.keep {w w' : World} {R : Nat → Prop} {us : List Value} {l : List Con} (h : ConRow w R us l) (hs : Same R w w') : ConRow w' R us l := ⟨h.1, h.2.1, fun j hj => by obtain ⟨x, hx, hv⟩ := h.2.2 j hj; exact ⟨x, hx, hv.keep hs⟩⟩
theorem ConRow.mono {w : World} {R S : Nat → Prop} {us : List Value} {l : List Con} (h : ConRow w R us l) (hs : ∀ b, R b → S b) : ConRow w S us l := ⟨h.1, h.2.1, fun j hj => by obtain ⟨x, hx, hv⟩ := h.2.2 j hj; exact ⟨x, hx, hv.mono hs⟩⟩
theorem ConIn.left {us vs : List Value} {o : Nat} {v : Value} (h : ConIn us.toArray o v) : ConIn (us ++ vs).toArray o v := by
  obtain ⟨x0, x1, x2, x3, x4, x5, rfl, h0, h1, h2, h3, h4, h5⟩ := h
  have each : ∀ (i : Nat) (x : Value), us.toArray[i]? = some x → (us ++ vs).toArray[i]? = some x := by
    intro i x hx
    simp only [List.getElem?_toArray] at hx ⊢
    have hi : i < us.length := by
      rcases Nat.lt_or_ge i us.length with h | h
      · exact h
      · rw [List.getElem?_eq_none h] at hx; cases hx
    rw [List.getElem?_append_left hi]; exact hx
  exact ⟨x0, x1, x2, x3, x4, x5, rfl, each _ _ h0, each _ _ h1, each _ _ h2, each _ _ h3, each _ _ h4, each _ _ h5⟩
theorem con_one_cell {w : World} {P : Nat → Prop} {t : Con} {x0 x1 x2 x3 x4 x5 : Value} (h : ConV w P t (.agg #[x0, x1, x2, x3, x4, x5])) : ∀ u ∈ [x0, x1, x2, x3, x4, x5], u.oneCell' = true := by
  obtain ⟨ka, kn, kc, na, nn, nc, la, ln, lc, e, -, -, -⟩ := h.shape
  simp only [Value.agg.injEq, Array.mk.injEq, List.cons.injEq, and_true] at e
  obtain ⟨rfl, rfl, rfl, rfl, rfl, rfl⟩ := e
  intro u hu
  simp at hu
  rcases hu with rfl | rfl | rfl | rfl | rfl | rfl <;> rfl
theorem ConRow.push {w : World} {R : Nat → Prop} {us : List Value} {l : List Con} {x0 x1 x2 x3 x4 x5 : Value} {y : Con} (h : ConRow w R us l) (hy : ConV w R y (.agg #[x0, x1, x2, x3, x4, x5])) : ConRow w R (us ++ [x0, x1, x2, x3, x4, x5]) (l ++ [y]) := by
  obtain ⟨h1, h2, h3⟩ := h
  refine ⟨by simp [h1]; omega, fun u hu => ?_, fun j hj => ?_⟩
  · rw [List.mem_append] at hu
    rcases hu with hu | hu
    · exact h2 u hu
    · exact con_one_cell hy u hu
  · by_cases hlt : j < l.length
    · obtain ⟨x, hx, hv⟩ := h3 j hlt
      exact ⟨x, hx.left, by rw [List.getElem_append_left hlt]; exact hv⟩
    · have hjl : j = l.length := by simp at hj; omega
      subst hjl
      refine ⟨.agg #[x0, x1, x2, x3, x4, x5], ⟨x0, x1, x2, x3, x4, x5, rfl, ?_⟩, by rw [List.getElem_append_right (Nat.le_refl _)]; simpa using hy⟩
      rw [← h1]
      simp only [List.getElem?_toArray]
      refine ⟨?_, ?_, ?_, ?_, ?_, ?_⟩
      all_goals (rw [List.getElem?_append_right (by omega)]; simp)
theorem ownsRow6_below {w w' : World} {base n : Nat} {T : TypeId} {v : Value} {xs : List Value} (h : w.ownsRow base T 6 v n xs) (hb : Below w.heap.size w w') : w'.ownsRow base T 6 v n xs :=
  h.kept (row := none) ⟨hb.os, hb.tape, hb.output, hb.size, fun i hi _ => hb.block i hi⟩ (by cases ho : v.ownBlock with | none => exact .inl rfl | some k => exact .inr (by simp))
/-- the row is a slice of constructors -/
theorem ConRow.cons {w : World} {base : Nat} {R S : Nat → Prop} {v : Value} {cur : List Con} {us : List Value} (h1 : w.ownsRow base 28 6 v cur.length us) (h2 : ConRow w R us cur) (hR : ∀ b, R b → S b) (hS : ∀ b, base ≤ b → b < w.heap.size → S b) : ConSl w S v cur := by
  have hc := h1
  rcases h1.2 with ⟨rfl, h0⟩ | ⟨g, cap, cu, rfl, hbg, hg, hnc, hcm, hcs, htake⟩
  · obtain rfl : cur = [] := List.eq_nil_of_length_eq_zero h0
    exact ⟨none, 0, rfl, Nat.le_refl _, Nat.zero_le _, fun _ => rfl, .inl rfl⟩
  · have hgl : g < w.heap.size := (hc.lt g rfl).2
    refine ⟨_, cap, rfl, hnc, hcm, (fun h => by cases h), .inr ⟨g, 0, rfl, hS g hbg hgl, ?_⟩⟩
    rw [consAt_iff]
    intro j hj
    obtain ⟨x, hx, hv⟩ := h2.2.2 j hj
    refine ⟨x, ?_, hv.mono hR⟩
    obtain ⟨x0, x1, x2, x3, x4, x5, rfl, c0, c1, c2, c3, c4, c5⟩ := hx
    simp only [List.getElem?_toArray] at c0 c1 c2 c3 c4 c5
    have each : ∀ d u, d < 6 → us[j * 6 + d]? = some u → w.cell? ⟨g, 0 + j * 6 + d, none⟩ = some u := by
      intro d u hd hu
      rw [Nat.zero_add, hc.cellAt (j * 6 + d) (by omega), hu]
    exact ⟨x0, x1, x2, x3, x4, x5, rfl, each 0 _ (by omega) c0, each 1 _ (by omega) c1, each 2 _ (by omega) c2, each 3 _ (by omega) c3, each 4 _ (by omega) c4, each 5 _ (by omega) c5⟩
end Go.Proofs.YtmjiocpcenbndaaGreatDoor
namespace Go.Proofs.YtmjiocpcenbndaaGreatDoor
open Go Go.RowKit
open Pl (K Con)
set_option linter.unusedSimpArgs false
set_option linter.unusedVariables false

set_option maxRecDepth 100000 in
theorem copiedKind_any (P : Nat → Prop) (k : K) (w : World) (v : Value) (hP : ∀ b, P b → b < w.heap.size) (hk : KV w P k v) (hv : K.valid k = true) :
    Calls Tryz.prog 66 #[v] w fun e w' => (∃ ra rc, e = .returned (.agg #[.slice ra k.l.length rc]) ∧ KidV w' (From w.heap.size w') k (.slice ra k.l.length rc)) ∧ Below w.heap.size w w' := by
  have HA := Lib.hid (fun W (hW : Below w.heap.size w W) => carrow_any P [] k W (.slice none 0 0) v (fun b h => Nat.lt_of_lt_of_le (hP b h) hW.size) (kidV_none W P) (hk.keep (Same.of_below hW hP)))
  have ho : K.arrowOut [] k = (k, 0) := by
    unfold K.arrowOut
    have e : K.arrow [] k = k := rfl
    rw [e, hv]
    rfl
  rw [ho] at HA
  obtain ⟨a, c, rfl⟩ := hk.form
  obtain ⟨hbx, hbx2, hb⟩ := two_new w 24 (.slice a k.l.length c) (.slice none 0 0)
  have c0 := hbx.cell 0 (.slice a k.l.length c) rfl
  have HB := Lib.hid hb
  have HBX2 := Lib.hid hbx2
  generalize hn : k.l.length = n at *
  clear hbx hbx2 hb hk hP ho
  go_enter Tryz.func66, Tryz.ntmps66
  go_wp2_with fail
  clear c0
  generalize ((w.alloc (.cells #[.slice a n c] 24)).alloc (.cells #[.slice none 0 0] 24)) = w2 at *
  refine (HA.out _ HB.out).mono ?_
  rintro e w3 ⟨⟨y, rfl, hy⟩, hb3⟩
  obtain ⟨ra, rc, rfl⟩ := hy.form
  have HY := Lib.hid hy.kid
  have hb4 : Below w.heap.size w (w3.alloc (.cells #[.slice ra k.l.length rc] 24)) := below_new (belowStep hb3 HB.out)
  obtain ⟨hn4, hb5⟩ := boxN_new w3 24 #[.slice ra k.l.length rc]
  rw [hn] at HY hn4 hb5 hb4
  have h2 := (HBX2.out.of_eq (hb3.block _ HBX2.out.lt))
  have h3 := h2.alloc (.cells #[.slice ra n rc] 24)
  have c3 := hn4.cell 0 (.slice ra n rc) rfl
  have f3 := h3.thaw 0
  have c4 := h3.cell 0 (.slice none 0 0) rfl
  have HE1 := Lib.hid (blk_one (y := .slice ra n rc) h3)
  have HE2 := Lib.hid (below_set hb4 (Nat.le_succ w.heap.size) (.slice ra n rc))
  have HE3 := Lib.hid (show KidV ((w3.alloc (.cells #[.slice ra n rc] 24)).setCell ⟨w.heap.size + 1, 0, none⟩ (.slice ra n rc)) (From w.heap.size ((w3.alloc (.cells #[.slice ra n rc] 24)).setCell ⟨w.heap.size + 1, 0, none⟩ (.slice ra n rc))) k (.slice ra n rc) from by
    have h1 := (HY.out.keep (Same.of_below hb5 (fun b h => h.2))).keep (Same.set (w := w3.alloc (.cells #[.slice ra n rc] 24)) ⟨w.heap.size + 1, 0, none⟩ (.slice ra n rc) (fun q h e => by
      have e : q = w.heap.size + 1 := e
      have := h.1
      have := HBX2.out.lt
      omega))
    exact h1.mono (fun b h => ⟨Nat.le_trans HB.out.size h.1, by rw [size_set]; exact Nat.lt_of_lt_of_le h.2 hb5.size⟩))
  rw [hn]
  clear hy hb3 hb4 hb5 h2 h3 hn4 hn
  go_wp2
  generalize (w3.alloc (.cells #[.slice ra n rc] 24)).setCell ⟨w.heap.size + 1, 0, none⟩ (.slice ra n rc) = w5 at *
  have d0 := HE1.out.cell 0 (.slice ra n rc) rfl
  refine bodyPost_ret (v := .agg #[.slice ra n rc]) (by simp [results, Tryz.results66, go_sem, d0]) rfl ?_
  exact ⟨⟨ra, rc, rfl, HE3.out⟩, HE2.out⟩
/-- append to nil, whatever the source -/
theorem append_fresh {P : Program} {w : World} {ops : Array Oper} {rest : List Oper} {o : Oper} {a : Act} {Q : Exit → Act → World → Prop} (hgd : o.guard = none) (s x : Operand) (t : TypeId)
    (ho : o.op = .call { callee := .builtin .append, args := #[s, x], argTypes := #[t, t] })
    (base : Nat) (e : TypeId) (i : TypeInfo) (z : Value) (size bytes : Nat) (ht : P.underlying t = some (.slice e)) (hi : P.info? e = some i) (hz : i.zero = some z)
    (hsize : i.size = size) (hby : i.bytes = bytes) (hzs : z.cells.size = size) (hsz : 0 < size)
    (hs : a.eval s = .slice none 0 0) (oa : Option Addr) (m c : Nat) (news : List Value) (hx : a.eval x = .slice oa m c)
    (hnone : oa = none → m = 0 ∧ c = 0) (hl : news.length = m * size) (hnews : ∀ ad, oa = some ad → ∀ j u, news[j]? = some u → w.cell? (ad.add j) = some u) (h1 : ∀ u ∈ news, u.oneCell' = true)
    (h63 : m ≤ maxLen) (hbytes : m * bytes ≤ 140737488355328) (hbase : base ≤ w.heap.size)
    (h : ∀ v' w', w'.ownsRow base e size v' m news → w.grownBy w' none → wpList P ops Q rest (a.put o.dst v') w') : wpList P ops Q (o :: rest) a w := by
  cases oa with
  | none =>
    obtain ⟨rfl, rfl⟩ := hnone rfl
    have hn : news = [] := List.eq_nil_of_length_eq_zero (by omega)
    subst hn
    exact wpList_append_own_none hgd s x t ho base e i size ht hi (.slice none 0 0) 0 [] hs (World.ownsRow_nil w base e size) hx (h _ _ (World.ownsRow_nil w base e size) ⟨rfl, rfl, rfl, Nat.le_refl _, fun _ _ _ => rfl⟩)
  | some ad =>
    refine wpList_append_own w hgd s x t ho base e i z size bytes ht hi hz hsize hby hzs hsz (.slice none 0 0) 0 [] hs (World.ownsRow_nil w base e size) ad m c news hx hl (hnews ad rfl) h1 (by omega) (by rw [Nat.zero_add]; exact hbytes) hbase ?_
    intro v' w' h2 h3 _
    rw [Nat.zero_add, List.nil_append] at h2
    exact h v' w' h2 h3
theorem infoCon : (Tryz.prog.info? 28).map (fun i => (i.zero, i.size, i.bytes)) = some (some (.agg #[.int .i64 0, .int .i64 0, .string ByteArray.empty, .slice none 0 0, .slice none 0 0, .slice none 0 0]), 6, 104) := by kernel_rfl
theorem infoStr : (Tryz.prog.info? 9).map (fun i => (i.zero, i.size, i.bytes)) = some (some (.string ByteArray.empty), 1, 16) := by kernel_rfl
/-- the cells of a row of strings -/
theorem strs_us {w : World} {P : Nat → Prop} {a : Option Addr} {n c : Nat} {zs : List ByteArray} (h : StrSl w P (.slice a n c) zs) :
    n = zs.length ∧ n ≤ c ∧ c ≤ maxLen ∧ (a = none → n = 0 ∧ c = 0) ∧ (zs.map Value.string).length = n * 1 ∧ (∀ ad, a = some ad → ∀ j u, (zs.map Value.string)[j]? = some u → w.cell? (ad.add j) = some u) ∧ (∀ u ∈ zs.map Value.string, u.oneCell' = true) ∧ ∀ z ∈ zs, z.size ≤ maxLen := by
  obtain ⟨a', c', e, h1, h2, h3, h4, h5⟩ := h
  injection e with e1 e2 e3
  subst e1 e2 e3
  refine ⟨rfl, h1, h2, fun h => ⟨by have := h3 h; omega, h3 h⟩, by simp, fun ad had j u hu => ?_, fun u hu => ?_, h4⟩
  · rcases h5 with h5 | ⟨b, off, h5, h6, h7⟩
    · subst h5; simp at hu
    · rw [h5] at had
      injection had with had
      subst had
      rw [List.getElem?_map] at hu
      have hj : j < zs.length := by
        rcases Nat.lt_or_ge j zs.length with h | h
        · exact h
        · rw [List.getElem?_eq_none h] at hu; cases hu
      rw [List.getElem?_eq_getElem hj] at hu
      injection hu with hu
      rw [← hu, Go.WideShapes.add_plain]
      exact h7 j hj
  · obtain ⟨z, -, rfl⟩ := List.mem_map.1 hu
    rfl
/-- strings of a row that a call owns -/
theorem strs_of_row {w : World} {base n : Nat} {v : Value} {zs : List ByteArray} {S : Nat → Prop} (h : w.ownsRow base 9 1 v n (zs.map Value.string)) (hn : n = zs.length) (hz : ∀ z ∈ zs, z.size ≤ maxLen) (hS : ∀ b, base ≤ b → b < w.heap.size → S b) : ∃ a c, v = .slice a n c ∧ StrSl w S (.slice a n c) zs := by
  subst hn
  have hc := h
  rcases h.2 with ⟨rfl, h0⟩ | ⟨g, cap, cu, rfl, hbg, hg, hnc, hcm, hcs, htake⟩
  · obtain rfl : zs = [] := List.eq_nil_of_length_eq_zero h0
    exact ⟨none, 0, rfl, none, 0, rfl, Nat.le_refl _, Nat.zero_le _, fun _ => rfl, (fun z hz => by cases hz), .inl rfl⟩
  · have hgl : g < w.heap.size := (hc.lt g rfl).2
    refine ⟨_, cap, rfl, _, cap, rfl, hnc, hcm, (fun h => by cases h), hz, .inr ⟨g, 0, rfl, hS g hbg hgl, fun j hj => ?_⟩⟩
    rw [Nat.zero_add, hc.cellAt j (by omega), List.getElem?_map, List.getElem?_eq_getElem hj]
    rfl
/-- the cells of a row of constructors -/
theorem cons_us {w : World} {P : Nat → Prop} {a : Option Addr} {n c : Nat} {l : List Con} (h : ConSl w P (.slice a n c) l) :
    n = l.length ∧ n ≤ c ∧ c ≤ maxLen ∧ (a = none → n = 0 ∧ c = 0) ∧ ∃ us : List Value, us.length = n * 6 ∧ (∀ ad, a = some ad → ∀ j u, us[j]? = some u → w.cell? (ad.add j) = some u) ∧ (∀ u ∈ us, u.oneCell' = true) ∧ ConRow w P us l := by
  obtain ⟨a', c', e, h1, h2, h3, h5⟩ := h
  injection e with e1 e2 e3
  subst e1 e2 e3
  refine ⟨rfl, h1, h2, fun h => ⟨by have := h3 h; omega, h3 h⟩, ?_⟩
  rcases h5 with h5 | ⟨b, off, rfl, h6, h7⟩
  · subst h5
    exact ⟨[], rfl, (fun ad _ j u hu => by simp at hu), (fun u hu => by cases hu), ConRow.nil w P⟩
  · have main : ∀ (l : List Con) (off : Nat), ConsAt w P l b off → ∃ us : List Value, us.length = l.length * 6 ∧ (∀ j u, us[j]? = some u → w.cell? ⟨b, off + j, none⟩ = some u) ∧ (∀ u ∈ us, u.oneCell' = true) ∧ ConRow w P us l := by
      intro l
      induction l with
      | nil => intro off _; exact ⟨[], rfl, (fun i u hu => by simp at hu), (fun u hu => by cases hu), ConRow.nil w P⟩
      | cons t r ih =>
        intro off h
        rw [ConsAt] at h
        obtain ⟨⟨v, hv, hs⟩, hr⟩ := h
        obtain ⟨us, g1, g2, g3, g4, g5, g6⟩ := ih _ hr
        obtain ⟨y0, y1, y2, y3, y4, y5, rfl, c0, c1, c2, c3, c4, c5⟩ := hv
        have h1c := con_one_cell hs
        refine ⟨y0 :: y1 :: y2 :: y3 :: y4 :: y5 :: us, by simp [g1]; omega, fun i u hu => ?_, fun u hu => ?_, by simp [g1]; omega, fun u hu => ?_, fun j hj => ?_⟩
        · match i, hu with
          | 0, hu => simp at hu; subst hu; exact c0
          | 1, hu => simp at hu; subst hu; exact c1
          | 2, hu => simp at hu; subst hu; exact c2
          | 3, hu => simp at hu; subst hu; exact c3
          | 4, hu => simp at hu; subst hu; exact c4
          | 5, hu => simp at hu; subst hu; exact c5
          | i + 6, hu =>
            have := g2 i u (by simpa using hu)
            rw [show off + 6 + i = off + (i + 6) from by omega] at this
            exact this
        · rw [show y0 :: y1 :: y2 :: y3 :: y4 :: y5 :: us = [y0, y1, y2, y3, y4, y5] ++ us from rfl, List.mem_append] at hu
          rcases hu with hu | hu
          · exact h1c u hu
          · exact g3 u hu
        · rw [show y0 :: y1 :: y2 :: y3 :: y4 :: y5 :: us = [y0, y1, y2, y3, y4, y5] ++ us from rfl, List.mem_append] at hu
          rcases hu with hu | hu
          · exact h1c u hu
          · exact g3 u hu
        · cases j with
          | zero => exact ⟨_, ⟨y0, y1, y2, y3, y4, y5, rfl, rfl, rfl, rfl, rfl, rfl, rfl⟩, hs⟩
          | succ j =>
            obtain ⟨x, ⟨x0, x1, x2, x3, x4, x5, rfl, k0, k1, k2, k3, k4, k5⟩, hx⟩ := g6 j (by simpa using hj)
            simp only [List.getElem?_toArray] at k0 k1 k2 k3 k4 k5
            have each : ∀ d u, us[j * 6 + d]? = some u → (y0 :: y1 :: y2 :: y3 :: y4 :: y5 :: us).toArray[(j + 1) * 6 + d]? = some u := by
              intro d u hu
              rw [show (j + 1) * 6 + d = j * 6 + d + 6 from by omega]
              simpa using hu
            exact ⟨_, ⟨x0, x1, x2, x3, x4, x5, rfl, each 0 _ k0, each 1 _ k1, each 2 _ k2, each 3 _ k3, each 4 _ k4, each 5 _ k5⟩, hx⟩
    obtain ⟨us, g1, g2, g3, g4⟩ := main l off h7
    refine ⟨us, g1, fun ad had j u hu => ?_, g3, g4⟩
    injection had with had
    subst had
    rw [Go.WideShapes.add_plain]
    exact g2 j u hu
/-- constructors in a row that a call owns, at a block of its own, their parts in the blocks R -/
def FreshC (w : World) (base : Nat) (R : Nat → Prop) (v : Value) (l : List Con) : Prop :=
  ∃ a c, v = .slice a l.length c ∧ l.length ≤ c ∧ c ≤ maxLen ∧ (a = none → c = 0) ∧ (l = [] ∨ ∃ g cur, a = some ⟨g, 0, none⟩ ∧ base ≤ g ∧ Blk w g 28 cur ∧ l.length * 6 ≤ cur.size ∧ ∀ j (h : j < l.length), ∃ x, ConIn cur (j * 6) x ∧ ConV w R l[j] x)
theorem ConIn.at {w : World} {g o : Nat} {cur : Array Value} {v : Value} {T : TypeId} (h : ConIn cur o v) (hb : Blk w g T cur) : Cells6 w g o v := by
  obtain ⟨x0, x1, x2, x3, x4, x5, rfl, h0, h1, h2, h3, h4, h5⟩ := h
  exact ⟨x0, x1, x2, x3, x4, x5, rfl, hb.cell _ _ h0, hb.cell _ _ h1, hb.cell _ _ h2, hb.cell _ _ h3, hb.cell _ _ h4, hb.cell _ _ h5⟩
theorem FreshC.cons {w : World} {base : Nat} {R S : Nat → Prop} {v : Value} {l : List Con} (h : FreshC w base R v l) (hR : ∀ b, R b → S b) (hS : ∀ b, base ≤ b → b < w.heap.size → S b) : ConSl w S v l := by
  obtain ⟨a, c, h1, h2, h3, h4, h5⟩ := h
  refine ⟨a, c, h1, h2, h3, h4, ?_⟩
  rcases h5 with h5 | ⟨g, cur, h5, h6, h7, -, h8⟩
  · exact .inl h5
  · refine .inr ⟨g, 0, h5, hS g h6 h7.lt, ?_⟩
    rw [consAt_iff]
    intro j hj
    obtain ⟨x, hx, hv⟩ := h8 j hj
    exact ⟨x, by rw [Nat.zero_add]; exact hx.at h7, hv.mono hR⟩
theorem FreshC.keep {w w' : World} {base : Nat} {R : Nat → Prop} {v : Value} {l : List Con} (h : FreshC w base R v l) (hs : ∀ q, base ≤ q → q < w.heap.size → w'.heap[q]? = w.heap[q]?) (hR : Same R w w') : FreshC w' base R v l := by
  obtain ⟨a, c, h1, h2, h3, h4, h5⟩ := h
  refine ⟨a, c, h1, h2, h3, h4, ?_⟩
  rcases h5 with h5 | ⟨g, cur, h5, h6, h7, h8, h9⟩
  · exact .inl h5
  · refine .inr ⟨g, cur, h5, h6, h7.of_eq (hs g h6 h7.lt), h8, fun j hj => ?_⟩
    obtain ⟨x, hx, hv⟩ := h9 j hj
    exact ⟨x, hx, hv.keep hR⟩
theorem fresh_of_row {w : World} {base n : Nat} {v : Value} {l : List Con} {us : List Value} {R : Nat → Prop} (h : w.ownsRow base 28 6 v n us) (hn : n = l.length) (hr : ConRow w R us l) : FreshC w base R v l := by
  subst hn
  have hc := h
  rcases h.2 with ⟨rfl, h0⟩ | ⟨g, cap, cu, rfl, hbg, hg, hnc, hcm, hcs, htake⟩
  · obtain rfl : l = [] := List.eq_nil_of_length_eq_zero h0
    exact ⟨none, 0, rfl, Nat.le_refl _, Nat.zero_le _, fun _ => rfl, .inl rfl⟩
  · refine ⟨_, cap, rfl, hnc, hcm, (fun h => by cases h), .inr ⟨g, cu, rfl, hbg, hg, by rw [hcs]; exact Nat.mul_le_mul_right 6 hnc, fun j hj => ?_⟩⟩
    obtain ⟨x, ⟨x0, x1, x2, x3, x4, x5, rfl, k0, k1, k2, k3, k4, k5⟩, hx⟩ := hr.2.2 j hj
    simp only [List.getElem?_toArray] at k0 k1 k2 k3 k4 k5
    have each : ∀ d u, d < 6 → us[j * 6 + d]? = some u → cu[j * 6 + d]? = some u := by
      intro d u hd hu
      rw [← htake, List.getElem?_take_of_lt (by omega)] at hu
      simpa using hu
    exact ⟨_, ⟨x0, x1, x2, x3, x4, x5, rfl, each 0 _ (by omega) k0, each 1 _ (by omega) k1, each 2 _ (by omega) k2, each 3 _ (by omega) k3, each 4 _ (by omega) k4, each 5 _ (by omega) k5⟩, hx⟩
end Go.Proofs.YtmjiocpcenbndaaGreatDoor
