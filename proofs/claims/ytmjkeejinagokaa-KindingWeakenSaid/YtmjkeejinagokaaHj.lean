/-
  Layer 9: several texts in one (Qp Qq Ra).
-/
import Derived.Test.YtmjkeejinagokaaQo
namespace Go.Proofs.Ytmjkeejinagokaa
open Go Go.RowKit
open Pl (K Con)
set_option linter.unusedSimpArgs false

/-- what the program's Shift and Subst answer -/
structure CodeS9 : Prop where
  shift : ∀ (t : Con) (b f : Int) (W : World) (v : Value), ConV W (· < W.heap.size) t v → -9223372036854775808 ≤ b → b ≤ 9223372036854775807 → -9223372036854775808 ≤ f → f ≤ 9223372036854775807 → Calls Try.prog 14 #[v, .int .i64 b, .int .i64 f] W fun e w' => (∃ y, e = .returned (.tuple #[y, .int .i64 (shiftOut t b f).2]) ∧ ConV w' (· < w'.heap.size) (shiftOut t b f).1 y) ∧ Below W.heap.size W w'
  subst : ∀ (t : Con) (l : List Con) (W : World) (v x : Value), ConV W (· < W.heap.size) t v → ConSl W (· < W.heap.size) x l → Calls Try.prog 19 #[v, x] W fun e w' => (∃ y, e = .returned (.tuple #[y, .int .i64 (substOut t l).2]) ∧ ConV w' (· < w'.heap.size) (substOut t l).1 y) ∧ Below W.heap.size W w'
/-- a constructor in a box stays -/
theorem ConV.grow {w w' : World} {t : Con} {v : Value} (h : ConV w (· < w.heap.size) t v) (hb : Below w.heap.size w w') : ConV w' (· < w'.heap.size) t v := (h.below (fun _ h => h) hb).mono (fun _ h => Nat.lt_of_lt_of_le h hb.size)
/-- one constructor in a slice -/
theorem cons_one {w : World} {P : Nat → Prop} {g : Nat} {t : Con} {x0 x1 x2 x3 x4 x5 : Value} (hb : Blk w g 28 #[x0, x1, x2, x3, x4, x5]) (hg : P g) (ht : ConV w P t (.agg #[x0, x1, x2, x3, x4, x5])) : ConSl w P (.slice (some ⟨g, 0, none⟩) 1 1) [t] := by
  refine ⟨_, 1, rfl, by simp, by unfold maxLen; omega, (fun h => by cases h), .inr ⟨g, 0, rfl, hg, ?_⟩⟩
  rw [ConsAt, ConsAt]
  exact ⟨⟨_, ⟨x0, x1, x2, x3, x4, x5, rfl, hb.cell 0 _ rfl, hb.cell 1 _ rfl, hb.cell 2 _ rfl, hb.cell 3 _ rfl, hb.cell 4 _ rfl, hb.cell 5 _ rfl⟩, ht⟩, trivial⟩
end Go.Proofs.Ytmjkeejinagokaa
namespace Go.Proofs.Ytmjkeejinagokaa
open Go Go.RowKit
open Pl (K Con)
set_option linter.unusedSimpArgs false

theorem depth_le_size (t : Con) : t.depth ≤ t.size := by
  induction t using Con.ind with
  | h t ih =>
    rw [Con.depth_eq, Con.size_eq]
    have : ∀ l : List Con, (∀ x ∈ l, x.depth ≤ x.size) → Con.depths l ≤ Con.sizes l := by
      intro l
      induction l with
      | nil => intro _; rw [Con.depths_nil]; exact Nat.zero_le _
      | cons x r ihr =>
        intro h
        rw [Con.depths_cons, Con.sizes_cons]
        have := h x List.mem_cons_self
        have := ihr (fun y hy => h y (List.mem_cons_of_mem _ hy))
        omega
    have := this t.l ih
    omega
/-- a function of constructors -/
def lam (t : Con) : Con := ⟨11, 0, ByteArray.empty, .mk [], [], [t]⟩
theorem lam_valid (t : Con) (h : Con.Tiny9 t) : Con.validB (lam t) = true := by
  obtain ⟨h1, h2⟩ := h
  have hs := size_le_wt t
  have hd := depth_le_size t
  unfold Con.validB at h2 ⊢
  rw [Bool.and_eq_true] at h2 ⊢
  constructor
  · unfold Con.small
    rw [Con.size_eq, Con.depth_eq]
    show (decide (1 + Con.sizes [t] ≤ 20000) && decide (1 + Con.depths [t] ≤ 400)) = true
    rw [Con.sizes_cons, Con.sizes_nil, Con.depths_cons, Con.depths_nil, decide_eq_true (by omega), decide_eq_true (by omega)]
    rfl
  · rw [allB_eq, Bool.and_eq_true]
    refine ⟨?_, ?_⟩
    · have hk : K.valid (.mk []) = true := by decide +kernel
      have he : ByteArray.empty.toList = [] := by rw [ByteArray.toList_eq]; rfl
      have e1 : Con.shapeB (lam t) = true := by simp [Con.shapeB, lam, Con.partsOf, Con.binder]
      have e2 : Con.numB (lam t) = true := by simp [Con.numB, lam]
      have e3 : Con.strB (lam t) = true := by simp [Con.strB, lam, he]
      have e4 : Con.kindB (lam t) = true := by simp [Con.kindB, lam, Con.binder, hk]
      have e5 : (decide (1 ≤ (lam t).op) && decide ((lam t).op ≤ 13)) = true := by simp [lam]
      unfold Con.nodeB
      rw [e1, e2, e3, e4, e5]
      rfl
    · show [t].all Con.allB = true
      rw [List.all_cons, h2.2]; rfl
theorem part_valid (t x : Con) (h : Con.validB t = true) (hx : x ∈ t.l) : Con.validB x = true := by
  unfold Con.validB at h ⊢
  rw [Bool.and_eq_true] at h ⊢
  have h1 := h.1
  unfold Con.small at h1 ⊢
  rw [Bool.and_eq_true, decide_eq_true_eq, decide_eq_true_eq, Con.size_eq, Con.depth_eq] at h1
  have hs := Con.mem_size hx
  have hd := Con.mem_depth hx
  refine ⟨by rw [decide_eq_true (by omega : x.size ≤ 20000), decide_eq_true (by omega : x.depth ≤ 400)]; rfl, ?_⟩
  have h2 := h.2
  rw [allB_eq, Bool.and_eq_true, List.all_eq_true] at h2
  exact h2.2 x hx
theorem substOut_ok (t : Con) (l : List Con) (h : Con.validB t = true) (hl : ∀ x ∈ l, Con.validB x = true) (hn : l.length ≤ 1000) : substOut t l = outB (Con.subst l t 0) := by
  unfold substOut
  rw [h, List.all_eq_true.2 hl, show (true && true) = true from rfl, if_pos rfl, if_neg (by omega)]
theorem subst_lam (t : Con) (l : List Con) : Con.subst l (lam t) 0 = lam (Con.subst l t 1) := by
  rw [Con.subst_node _ _ _ (show (lam t).op ≠ 1 from (by decide : (11 : Int) ≠ 1))]
  rfl
/-- both ways -/
theorem commute_out (t a : Con) (l : List Con) (h1 : Con.validB (Con.subst [a] t 0) = true) (h2 : Con.validB (Con.subst l a 0) = true) (h3 : Con.validB (lam (Con.subst l t 1)) = true) (hl : ∀ x ∈ l, Con.validB x = true) (hn : l.length ≤ 1000) :
    substOut (Con.subst [a] t 0) l = substOut (Con.subst l t 1) [Con.subst l a 0] := by
  have h4 : Con.validB (Con.subst l t 1) = true := part_valid _ _ h3 (by simp [lam])
  rw [substOut_ok _ l h1 hl hn, substOut_ok _ [Con.subst l a 0] h4 (fun x hx => by rw [List.mem_singleton.1 hx]; exact h2) (by simp), Con.subst_subst t a l 0 (Int.le_refl _)]
  rfl
end Go.Proofs.Ytmjkeejinagokaa
namespace Go.Proofs.Ytmjkeejinagokaa
open Go Go.RowKit
open Pl (K Con)
set_option linter.unusedSimpArgs false

mutual
/-- a change of the free variables and the constants -/
def Con.reb (F : Con → Int → Con) : Con → Int → Con
  | ⟨op, n, s, k, names, l⟩, d => if op = 2 ∨ (op = 1 ∧ d ≤ n) then F ⟨op, n, s, k, names, l⟩ d else ⟨op, n, s, k, names, Con.rebs F l (Con.deep op d)⟩
def Con.rebs (F : Con → Int → Con) : List Con → Int → List Con
  | [], _ => []
  | t :: r, d => Con.reb F t d :: Con.rebs F r d
end
theorem rebs_map (F : Con → Int → Con) (d : Int) (l : List Con) : Con.rebs F l d = l.map (fun t => Con.reb F t d) := by
  induction l with
  | nil => rw [Con.rebs]; rfl
  | cons t r ih => rw [Con.rebs, ih]; rfl
/-- what is changed -/
def Con.leafy (t : Con) (d : Int) : Prop := t.op = 2 ∨ (t.op = 1 ∧ d ≤ t.n)
theorem reb_leaf (F : Con → Int → Con) (t : Con) (d : Int) (h : Con.leafy t d) : Con.reb F t d = F t d := by
  obtain ⟨op, n, s, k, names, l⟩ := t
  have h : op = 2 ∨ (op = 1 ∧ d ≤ n) := h
  rw [Con.reb, if_pos h]
theorem reb_node (F : Con → Int → Con) (t : Con) (d : Int) (h : ¬ Con.leafy t d) : Con.reb F t d = Con.inside t (t.l.map (fun x => Con.reb F x (Con.deep t.op d))) := by
  obtain ⟨op, n, s, k, names, l⟩ := t
  have h : ¬ (op = 2 ∨ (op = 1 ∧ d ≤ n)) := h
  rw [Con.reb, if_neg h, rebs_map]
  rfl
mutual
/-- no index is greater than the greatest -/
def Con.nOk : Con → Bool
  | ⟨_, n, _, _, _, l⟩ => decide (n ≤ 20000) && Con.nOks l
def Con.nOks : List Con → Bool
  | [] => true
  | t :: r => Con.nOk t && Con.nOks r
end
theorem nOks_all (l : List Con) : Con.nOks l = l.all Con.nOk := by
  induction l with
  | nil => rw [Con.nOks]; rfl
  | cons t r ih => rw [Con.nOks, ih]; rfl
theorem nOk_eq (t : Con) : Con.nOk t = (decide (t.n ≤ 20000) && t.l.all Con.nOk) := by
  obtain ⟨op, n, s, k, names, l⟩ := t
  rw [Con.nOk, nOks_all]
/-- within the limits, with so many nodes left, at a depth -/
def fitB (t : Con) (L d : Int) : Bool := decide ((t.size : Int) ≤ L) && (decide (d + (t.depth : Int) ≤ 401) && Con.nOk t)
def fitsB (l : List Con) (L d : Int) : Bool := decide ((Con.sizes l : Int) ≤ L) && (decide (d + (Con.depths l : Int) ≤ 401) && l.all Con.nOk)
theorem fitB_node (t : Con) (L d : Int) : fitB t L d = ((decide (1 ≤ L) && (decide (d ≤ 400) && decide (t.n ≤ 20000))) && fitsB t.l (L - 1) (d + 1)) := by
  unfold fitB fitsB
  rw [Con.size_eq, Con.depth_eq, nOk_eq, Bool.eq_iff_iff]
  simp only [Bool.and_eq_true, decide_eq_true_eq]
  constructor
  · rintro ⟨h1, h2, h3, h4⟩
    exact ⟨⟨by omega, by omega, h3⟩, by omega, by omega, h4⟩
  · rintro ⟨⟨h1, h2, h3⟩, h4, h5, h6⟩
    exact ⟨by omega, by omega, h3, h6⟩
theorem fitsB_nil (L d : Int) : fitsB [] L d = (decide (0 ≤ L) && decide (d ≤ 401)) := by
  unfold fitsB
  rw [Con.sizes_nil, Con.depths_nil]
  simp
theorem fitsB_take (l : List Con) (k : Nat) (hk : k < l.length) (L d : Int) : fitsB (l.take (k + 1)) L d = (fitsB (l.take k) L d && fitB l[k] (L - (Con.sizes (l.take k) : Int)) d) := by
  unfold fitsB fitB
  rw [Con.sizes_take l k hk, Con.depths_take l k hk, all_take_step Con.nOk l k hk, Bool.eq_iff_iff]
  simp only [Bool.and_eq_true, decide_eq_true_eq]
  constructor
  · rintro ⟨h1, h2, h3, h4⟩
    exact ⟨⟨by omega, by omega, h3⟩, by omega, by omega, h4⟩
  · rintro ⟨⟨h1, h2, h3⟩, h4, h5, h6⟩
    exact ⟨by omega, by omega, h3, h6⟩
theorem fitsB_le (l : List Con) (k : Nat) (L d : Int) (h : fitsB (l.take k) L d = false) : fitsB l L d = false := by
  cases h2 : fitsB l L d
  · rfl
  · rw [← h]
    unfold fitsB at h2 ⊢
    simp only [Bool.and_eq_true, decide_eq_true_eq] at h2
    obtain ⟨h3, h4, h5⟩ := h2
    have h6 := Con.sizes_le l k
    have h7 := Con.depths_le l k
    symm
    simp only [Bool.and_eq_true, decide_eq_true_eq]
    refine ⟨by omega, by omega, ?_⟩
    rw [List.all_eq_true] at h5 ⊢
    exact fun x hx => h5 x (List.mem_of_mem_take hx)
mutual
/-- right, but for an index that may be too great -/
def Con.half : Con → Prop
  | ⟨op, n, s, k, names, l⟩ => (n ≤ 20000 → Con.nodeB ⟨op, n, s, k, names, l⟩ = true) ∧ Con.halfs l
def Con.halfs : List Con → Prop
  | [] => True
  | t :: r => Con.half t ∧ Con.halfs r
end
theorem halfs_iff (l : List Con) : Con.halfs l ↔ ∀ x ∈ l, Con.half x := by
  induction l with
  | nil => rw [Con.halfs]; simp
  | cons t r ih => rw [Con.halfs, ih]; simp
theorem half_iff (t : Con) : Con.half t ↔ (t.n ≤ 20000 → Con.nodeB t = true) ∧ ∀ x ∈ t.l, Con.half x := by
  obtain ⟨op, n, s, k, names, l⟩ := t
  rw [Con.half, halfs_iff]
theorem nodeB_n (t : Con) (h : Con.nodeB t = true) : 0 ≤ t.n ∧ t.n ≤ 20000 := by
  unfold Con.nodeB at h
  simp only [Bool.and_eq_true] at h
  have h := h.2.2.1
  unfold Con.numB at h
  split at h
  · rw [Bool.and_eq_true, decide_eq_true_eq, decide_eq_true_eq] at h
    exact h
  · rw [decide_eq_true_eq] at h
    omega
theorem nOk_all (t : Con) : Con.allB t = true → Con.nOk t = true := by
  induction t using Con.ind with
  | h t ih =>
  intro h
  rw [allB_eq, Bool.and_eq_true, List.all_eq_true] at h
  rw [nOk_eq, Bool.and_eq_true, List.all_eq_true, decide_eq_true_eq]
  exact ⟨(nodeB_n t h.1).2, fun x hx => ih x hx (h.2 x hx)⟩
theorem half_all (t : Con) : Con.half t → Con.nOk t = true → Con.allB t = true := by
  induction t using Con.ind with
  | h t ih =>
  intro h hn
  rw [half_iff] at h
  rw [nOk_eq, Bool.and_eq_true, List.all_eq_true, decide_eq_true_eq] at hn
  rw [allB_eq, Bool.and_eq_true, List.all_eq_true]
  exact ⟨h.1 hn.1, fun x hx => ih x hx (h.2 x hx) (hn.2 x hx)⟩
/-- well-formed just if within the limits -/
theorem half_valid (t : Con) (h : Con.half t) : Con.validB t = fitB t 20000 1 := by
  unfold Con.validB fitB Con.small
  rw [Bool.eq_iff_iff]
  simp only [Bool.and_eq_true, decide_eq_true_eq]
  constructor
  · rintro ⟨⟨h1, h2⟩, h3⟩
    exact ⟨by omega, by omega, nOk_all t h3⟩
  · rintro ⟨h1, h2, h3⟩
    exact ⟨⟨by omega, by omega⟩, half_all t h h3⟩
theorem half_of_all (t : Con) : Con.allB t = true → Con.half t := by
  induction t using Con.ind with
  | h t ih =>
  intro h
  rw [allB_eq, Bool.and_eq_true, List.all_eq_true] at h
  rw [half_iff]
  exact ⟨fun _ => h.1, fun x hx => ih x hx (h.2 x hx)⟩
/-- a leaf has no parts -/
theorem leaf_none (t : Con) (h : Con.nodeB t = true) (h2 : t.op = 1 ∨ t.op = 2) : t.l = [] := by
  unfold Con.nodeB at h
  simp only [Bool.and_eq_true] at h
  have h := h.2.1
  unfold Con.shapeB at h
  have hp : Con.partsOf t.op = 0 := by rcases h2 with h2 | h2 <;> rw [h2] <;> rfl
  rw [hp, if_pos (by decide), Bool.and_eq_true, decide_eq_true_eq] at h
  exact List.eq_nil_of_length_eq_zero (by omega)
/-- the change of a shift -/
def shF (b f : Int) (t : Con) (d : Int) : Con := if t.op = 1 ∧ f ≤ t.n - d then ⟨t.op, t.n + b, t.s, t.kind, t.names, t.l⟩ else t
theorem reb_shift (b f : Int) (hf : 0 ≤ f) (t : Con) : ∀ d, Con.allB t = true → Con.reb (shF b f) t d = Con.shift b t (d + f) := by
  induction t using Con.ind with
  | h t ih =>
  intro d ha
  rw [allB_eq, Bool.and_eq_true, List.all_eq_true] at ha
  obtain ⟨hn, ha⟩ := ha
  by_cases h1 : t.op = 1
  · have hc := clean_node t hn h1
    have hl := leaf_none t hn (.inl h1)
    rw [Con.shift_var _ _ t h1]
    by_cases h2 : d ≤ t.n
    · rw [reb_leaf _ _ _ (.inr ⟨h1, h2⟩)]
      unfold shF
      by_cases h3 : f ≤ t.n - d
      · rw [if_pos ⟨h1, h3⟩, if_pos (by omega)]
        obtain ⟨op, n, s, k, names, l⟩ := t
        have hc : (⟨op, n, s, k, names, l⟩ : Con) = ⟨1, n, ByteArray.empty, .mk [], [], []⟩ := hc
        injection hc with e1 e2 e3 e4 e5 e6
        subst e1 e3 e4 e5 e6
        rfl
      · rw [if_neg (fun h => h3 h.2), if_neg (by omega)]
    · rw [reb_node _ _ _ (fun h => by rcases h with h | h <;> omega), hl, if_neg (by omega)]
      conv => rhs; rw [← Con.inside_self t, hl]
      rfl
  · by_cases h2 : t.op = 2
    · have hl := leaf_none t hn (.inr h2)
      rw [reb_leaf _ _ _ (.inl h2), Con.shift_node _ _ t h1, hl]
      unfold shF
      rw [if_neg (fun h => h1 h.1)]
      conv => lhs; rw [← Con.inside_self t, hl]
      rfl
    · rw [reb_node _ _ _ (fun h => by rcases h with h | h <;> omega), Con.shift_node _ _ t h1]
      congr 1
      refine List.map_congr_left (fun x hx => ?_)
      rw [ih x hx _ (ha x hx), Con.deep_add]
/-- the change of a substitution -/
def suF (ts : List Con) (t : Con) (d : Int) : Con := if t.op = 1 then (if t.n - d < ts.length then Con.reb (shF d 0) (ts.getD (t.n - d).toNat Con.none0) 0 else ⟨t.op, t.n - ts.length, t.s, t.kind, t.names, t.l⟩) else t
theorem getD_mem {α : Type} (l : List α) (k : Nat) (z : α) (h : k < l.length) : l.getD k z ∈ l := by
  have e : l.getD k z = l[k] := by simp [List.getD, List.getElem?_eq_getElem h]
  rw [e]
  exact List.getElem_mem h
theorem reb_subst (ts : List Con) (hts : ∀ x ∈ ts, Con.allB x = true) (t : Con) : ∀ d, Con.allB t = true → Con.reb (suF ts) t d = Con.subst ts t d := by
  induction t using Con.ind with
  | h t ih =>
  intro d ha
  rw [allB_eq, Bool.and_eq_true, List.all_eq_true] at ha
  obtain ⟨hn, ha⟩ := ha
  by_cases h1 : t.op = 1
  · have hc := clean_node t hn h1
    have hl := leaf_none t hn (.inl h1)
    rw [Con.subst_var _ _ t h1]
    by_cases h2 : d ≤ t.n
    · rw [reb_leaf _ _ _ (.inr ⟨h1, h2⟩), if_neg (by omega)]
      unfold suF
      rw [if_pos h1]
      by_cases h3 : t.n - d < (ts.length : Int)
      · rw [if_pos h3, if_pos h3, reb_shift d 0 (Int.le_refl _) _ _ (hts _ (getD_mem _ _ _ (by omega)))]
        rw [Int.add_zero]
      · rw [if_neg h3, if_neg h3]
        obtain ⟨op, n, s, k, names, l⟩ := t
        have hc : (⟨op, n, s, k, names, l⟩ : Con) = ⟨1, n, ByteArray.empty, .mk [], [], []⟩ := hc
        injection hc with e1 e2 e3 e4 e5 e6
        subst e1 e3 e4 e5 e6
        rfl
    · rw [reb_node _ _ _ (fun h => by rcases h with h | h <;> omega), hl, if_pos (by omega)]
      conv => rhs; rw [← Con.inside_self t, hl]
      rfl
  · by_cases h2 : t.op = 2
    · have hl := leaf_none t hn (.inr h2)
      rw [reb_leaf _ _ _ (.inl h2), Con.subst_node _ _ t h1, hl]
      unfold suF
      rw [if_neg h1]
      conv => lhs; rw [← Con.inside_self t, hl]
      rfl
    · rw [reb_node _ _ _ (fun h => by rcases h with h | h <;> omega), Con.subst_node _ _ t h1]
      congr 1
      refine List.map_congr_left (fun x hx => ih x hx _ (ha x hx))
/-- a variable is right just if its index is -/
theorem var_node (m : Int) (h : 0 ≤ m) (h2 : m ≤ 20000) : Con.nodeB (Con.var m) = true := by
  have he : ByteArray.empty.toList = [] := by rw [ByteArray.toList_eq]; rfl
  have e1 : Con.shapeB (Con.var m) = true := by simp [Con.shapeB, Con.var, Con.partsOf, Con.binder]
  have e2 : Con.numB (Con.var m) = true := by
    unfold Con.numB
    rw [if_pos (.inl rfl), Bool.and_eq_true, decide_eq_true_eq, decide_eq_true_eq]
    exact ⟨h, h2⟩
  have e3 : Con.strB (Con.var m) = true := by simp [Con.strB, Con.var, he]
  have e4 : Con.kindB (Con.var m) = true := by simp [Con.kindB, Con.var, Con.binder, K.l]
  have e5 : (decide (1 ≤ (Con.var m).op) && decide ((Con.var m).op ≤ 13)) = true := by simp [Con.var]
  unfold Con.nodeB
  rw [e1, e2, e3, e4, e5]
  rfl
theorem half_var (m : Int) (h : 0 ≤ m) : Con.half (Con.var m) := by
  rw [half_iff]
  exact ⟨fun h2 => var_node m h h2, fun x hx => by cases hx⟩
/-- a node's rightness does not ask about its parts, but for their number -/
theorem node_inside (t : Con) (l : List Con) (h : l.length = t.l.length) : Con.nodeB (Con.inside t l) = Con.nodeB t := by
  unfold Con.nodeB
  have e : Con.shapeB (Con.inside t l) = Con.shapeB t := by
    unfold Con.shapeB
    show (if 0 ≤ Con.partsOf t.op then decide ((l.length : Int) = Con.partsOf t.op) && decide (t.names.length = 0) else decide (l.length = t.names.length) && Con.labelsOk t.names) = _
    rw [h]
  rw [e]
  rfl
theorem half_shift (b : Int) (t : Con) : ∀ f, 0 ≤ f → Con.allB t = true → (0 ≤ b ∨ Con.gap (-b) t f = true) → Con.half (Con.shift b t f) := by
  induction t using Con.ind with
  | h t ih =>
  intro f hf ha hb
  have ha' := half_of_all t ha
  have hn := ((half_iff t).1 ha')
  rw [allB_eq, Bool.and_eq_true, List.all_eq_true] at ha
  by_cases h1 : t.op = 1
  · rw [Con.shift_var _ _ t h1]
    split
    · rename_i h2
      refine half_var _ ?_
      rcases hb with hb | hb
      · omega
      · rw [gap_var _ _ _ h1, Bool.or_eq_true, decide_eq_true_eq, decide_eq_true_eq] at hb
        omega
    · exact ha'
  · rw [Con.shift_node _ _ t h1, half_iff]
    refine ⟨fun h2 => by rw [node_inside _ _ (by simp)]; exact hn.1 h2, fun x hx => ?_⟩
    obtain ⟨y, hy, rfl⟩ := List.mem_map.1 hx
    refine ih y hy _ (by have := Con.deep_le t.op f; omega) (ha.2 y hy) ?_
    rcases hb with hb | hb
    · exact .inl hb
    · rw [gap_node _ _ _ h1, List.all_eq_true] at hb
      exact .inr (hb y hy)
theorem half_subst (ts : List Con) (hts : ∀ x ∈ ts, Con.allB x = true) (t : Con) : ∀ d, 0 ≤ d → Con.allB t = true → Con.half (Con.subst ts t d) := by
  induction t using Con.ind with
  | h t ih =>
  intro d hd ha
  have ha' := half_of_all t ha
  have hn := ((half_iff t).1 ha')
  rw [allB_eq, Bool.and_eq_true, List.all_eq_true] at ha
  by_cases h1 : t.op = 1
  · rw [Con.subst_var _ _ t h1]
    split
    · exact ha'
    · split
      · exact half_shift d _ 0 (Int.le_refl _) (hts _ (getD_mem _ _ _ (by omega))) (.inl hd)
      · exact half_var _ (by omega)
  · rw [Con.subst_node _ _ t h1, half_iff]
    refine ⟨fun h2 => by rw [node_inside _ _ (by simp)]; exact hn.1 h2, fun x hx => ?_⟩
    obtain ⟨y, hy, rfl⟩ := List.mem_map.1 hx
    exact ih y hy _ (by have := Con.deep_le t.op d; omega) (ha.2 y hy)
theorem valid_all (t : Con) (h : Con.validB t = true) : Con.allB t = true := by
  unfold Con.validB at h
  rw [Bool.and_eq_true] at h
  exact h.2
mutual
/-- the free indices of the variables, one after another -/
def Con.frees : Con → Int → List Int
  | ⟨op, n, _, _, _, l⟩, d => if op = 1 then (if d ≤ n then [n - d] else []) else Con.freess l (Con.deep op d)
def Con.freess : List Con → Int → List Int
  | [], _ => []
  | t :: r, d => Con.frees t d ++ Con.freess r d
end
theorem freess_map (d : Int) (l : List Con) : Con.freess l d = l.flatMap (fun t => Con.frees t d) := by
  induction l with
  | nil => rw [Con.freess]; rfl
  | cons t r ih => rw [Con.freess, ih]; rfl
theorem frees_var (t : Con) (d : Int) (h : t.op = 1) : Con.frees t d = if d ≤ t.n then [t.n - d] else [] := by
  obtain ⟨op, n, s, k, names, l⟩ := t
  have h : op = 1 := h
  rw [Con.frees, if_pos h]
theorem frees_node (t : Con) (d : Int) (h : t.op ≠ 1) : Con.frees t d = t.l.flatMap (fun x => Con.frees x (Con.deep t.op d)) := by
  obtain ⟨op, n, s, k, names, l⟩ := t
  have h : op ≠ 1 := h
  rw [Con.frees, if_neg h, freess_map]
theorem gap_frees (m : Int) (t : Con) : ∀ f d, 0 ≤ f → Con.gap m t (f + d) = (Con.frees t d).all (fun i => decide (i < f) || decide (f + m ≤ i)) := by
  induction t using Con.ind with
  | h t ih =>
  intro f d hf
  by_cases h1 : t.op = 1
  · rw [gap_var _ _ _ h1, frees_var _ _ h1]
    by_cases h2 : d ≤ t.n
    · rw [if_pos h2]
      simp only [List.all_cons, List.all_nil, Bool.and_true]
      rw [Bool.eq_iff_iff]
      simp only [Bool.or_eq_true, decide_eq_true_eq]
      omega
    · rw [if_neg h2, decide_eq_true (by omega : t.n < f + d)]
      rfl
  · rw [gap_node _ _ _ h1, frees_node _ _ h1]
    have : ∀ l : List Con, (∀ x ∈ l, Con.gap m x (Con.deep t.op (f + d)) = (Con.frees x (Con.deep t.op d)).all (fun i => decide (i < f) || decide (f + m ≤ i))) → l.all (fun x => Con.gap m x (Con.deep t.op (f + d))) = (l.flatMap (fun x => Con.frees x (Con.deep t.op d))).all (fun i => decide (i < f) || decide (f + m ≤ i)) := by
      intro l
      induction l with
      | nil => intro _; rfl
      | cons x r ihr =>
        intro h
        rw [List.all_cons, List.flatMap_cons, List.all_append, h x List.mem_cons_self, ihr (fun y hy => h y (List.mem_cons_of_mem _ hy))]
    refine this t.l (fun x hx => ?_)
    rw [Int.add_comm f d, Con.deep_add, Int.add_comm _ f]
    exact ih x hx f _ hf
/-- a shift that would make a variable from from on one from before -/
def fallsB (t : Con) (b f : Int) : Bool := (Con.frees t 0).any (fun i => decide (f ≤ i) && decide (i + b < f))
theorem falls_gap (t : Con) (b f : Int) (hf : 0 ≤ f) : fallsB t b f = true ↔ (b < 0 ∧ Con.gap (-b) t f = false) := by
  have h := gap_frees (-b) t f 0 hf
  rw [Int.add_zero] at h
  rw [h]
  unfold fallsB
  rw [List.any_eq_true, Bool.eq_false_iff, Ne, List.all_eq_true]
  constructor
  · rintro ⟨i, hi, h2⟩
    rw [Bool.and_eq_true, decide_eq_true_eq, decide_eq_true_eq] at h2
    refine ⟨by omega, fun h3 => ?_⟩
    have := h3 i hi
    rw [Bool.or_eq_true, decide_eq_true_eq, decide_eq_true_eq] at this
    omega
  · rintro ⟨hb, h2⟩
    by_cases h3 : ∃ i ∈ Con.frees t 0, (decide (f ≤ i) && decide (i + b < f)) = true
    · exact h3
    · exfalso
      refine h2 (fun i hi => ?_)
      have h4 : ¬ (decide (f ≤ i) && decide (i + b < f)) = true := fun h5 => h3 ⟨i, hi, h5⟩
      rw [Bool.and_eq_true, decide_eq_true_eq, decide_eq_true_eq] at h4
      rw [Bool.or_eq_true, decide_eq_true_eq, decide_eq_true_eq]
      omega
/-- what Shift answers, as the code finds it -/
theorem shiftOut_eq (t : Con) (b f : Int) : shiftOut t b f = if Con.validB t = true then (if f < 0 ∨ b < -20000 ∨ 20000 < b ∨ fallsB t b f = true then (Con.none0, 2) else if fitB (Con.reb (shF b f) t 0) 20000 1 = true then (Con.reb (shF b f) t 0, 0) else (Con.none0, 6)) else (Con.none0, 1) := by
  unfold shiftOut
  by_cases hv : Con.validB t = true
  · rw [if_pos hv, if_pos hv]
    by_cases hf : f < 0
    · rw [if_pos (.inl hf), if_pos (.inl hf)]
    have hg := falls_gap t b f (by omega)
    by_cases h : f < 0 ∨ b < -20000 ∨ 20000 < b ∨ fallsB t b f = true
    · rw [if_pos h, if_pos]
      rcases h with h | h | h | h
      · exact .inl h
      · exact .inr (.inl h)
      · exact .inr (.inr (.inl h))
      · exact .inr (.inr (.inr (hg.1 h)))
    · rw [if_neg h, if_neg]
      · have e := reb_shift b f (by omega) t 0 (valid_all t hv)
        rw [Int.zero_add] at e
        rw [e]
        unfold outB
        rw [half_valid]
        refine half_shift b t f (by omega) (valid_all t hv) ?_
        by_cases hb : 0 ≤ b
        · exact .inl hb
        · right
          cases hgp : Con.gap (-b) t f
          · exact absurd (.inr (.inr (.inr (hg.2 ⟨by omega, hgp⟩)))) h
          · rfl
      · intro h2
        apply h
        rcases h2 with h2 | h2 | h2 | h2
        · exact .inl h2
        · exact .inr (.inl h2)
        · exact .inr (.inr (.inl h2))
        · exact .inr (.inr (.inr (hg.2 h2)))
  · rw [if_neg hv, if_neg hv]
theorem substOut_eq (t : Con) (l : List Con) : substOut t l = if (Con.validB t && l.all Con.validB) = true then (if 1000 < l.length then (Con.none0, 5) else if fitB (Con.reb (suF l) t 0) 20000 1 = true then (Con.reb (suF l) t 0, 0) else (Con.none0, 6)) else (Con.none0, 1) := by
  unfold substOut
  by_cases hv : (Con.validB t && l.all Con.validB) = true
  · rw [if_pos hv, if_pos hv]
    split
    · rfl
    · rw [Bool.and_eq_true, List.all_eq_true] at hv
      have hl : ∀ x ∈ l, Con.allB x = true := fun x hx => valid_all x (hv.2 x hx)
      rw [reb_subst l hl t 0 (valid_all t hv.1)]
      unfold outB
      rw [half_valid _ (half_subst l hl t 0 (Int.le_refl _) (valid_all t hv.1))]
  · rw [if_neg hv, if_neg hv]
end Go.Proofs.Ytmjkeejinagokaa
