/-
  Plain mathematics of layer 3: trees, their sizes and depths, and what a tree holds. No program.
-/
import Derived.Test.YtkhpihacjhhklaaPl
namespace Go.Proofs.Ytkhpihacjhhklaa.Pl
open Go

structure Syn where
  op : Int
  n : Int
  s : ByteArray
  names : List ByteArray
  l : List Syn
instance : Inhabited Syn := ⟨⟨0, 0, ByteArray.empty, [], []⟩⟩
def none0 : Syn := ⟨0, 0, ByteArray.empty, [], []⟩

mutual
def Syn.size : Syn → Nat
  | ⟨_, _, _, _, l⟩ => 1 + sizes l
def sizes : List Syn → Nat
  | [] => 0
  | t :: r => t.size + sizes r
end
mutual
def Syn.depth : Syn → Nat
  | ⟨_, _, _, _, l⟩ => depths l + 1
def depths : List Syn → Nat
  | [] => 0
  | t :: r => max t.depth (depths r)
end
mutual
/-- nodes, and names -/
def Syn.big : Syn → Nat
  | ⟨_, _, _, names, l⟩ => 1 + names.length + bigs l
def bigs : List Syn → Nat
  | [] => 0
  | t :: r => t.big + bigs r
end
theorem size_eq (t : Syn) : t.size = 1 + sizes t.l := by cases t; rw [Syn.size]
theorem depth_eq (t : Syn) : t.depth = depths t.l + 1 := by cases t; rw [Syn.depth]
theorem big_eq (t : Syn) : t.big = 1 + t.names.length + bigs t.l := by cases t; rw [Syn.big]
theorem sizes_nil : sizes [] = 0 := by rw [sizes]
theorem sizes_cons (t : Syn) (r : List Syn) : sizes (t :: r) = t.size + sizes r := by rw [sizes]
theorem depths_nil : depths [] = 0 := by rw [depths]
theorem depths_cons (t : Syn) (r : List Syn) : depths (t :: r) = max t.depth (depths r) := by rw [depths]
theorem bigs_nil : bigs [] = 0 := by rw [bigs]
theorem bigs_cons (t : Syn) (r : List Syn) : bigs (t :: r) = t.big + bigs r := by rw [bigs]
theorem sizes_app (a b : List Syn) : sizes (a ++ b) = sizes a + sizes b := by
  induction a with
  | nil => rw [sizes_nil]; simp
  | cons t r ih => rw [List.cons_append, sizes_cons, sizes_cons, ih]; omega
theorem bigs_app (a b : List Syn) : bigs (a ++ b) = bigs a + bigs b := by
  induction a with
  | nil => rw [bigs_nil]; simp
  | cons t r ih => rw [List.cons_append, bigs_cons, bigs_cons, ih]; omega
theorem depths_app (a b : List Syn) : depths (a ++ b) = max (depths a) (depths b) := by
  induction a with
  | nil => rw [depths_nil]; simp
  | cons t r ih => rw [List.cons_append, depths_cons, depths_cons, ih]; omega
theorem size_pos (t : Syn) : 1 ≤ t.size := by rw [size_eq]; omega
theorem depth_pos (t : Syn) : 1 ≤ t.depth := by rw [depth_eq]; omega
theorem mem_size {t : Syn} {l : List Syn} (h : t ∈ l) : t.size ≤ sizes l := by
  induction l with
  | nil => cases h
  | cons a r ih =>
    rw [sizes_cons]
    cases h with
    | head => omega
    | tail _ h => have := ih h; omega
theorem mem_big {t : Syn} {l : List Syn} (h : t ∈ l) : t.big ≤ bigs l := by
  induction l with
  | nil => cases h
  | cons a r ih =>
    rw [bigs_cons]
    cases h with
    | head => omega
    | tail _ h => have := ih h; omega
theorem mem_depth {t : Syn} {l : List Syn} (h : t ∈ l) : t.depth ≤ depths l := by
  induction l with
  | nil => cases h
  | cons a r ih =>
    rw [depths_cons]
    cases h with
    | head => omega
    | tail _ h => have := ih h; omega
theorem len_sizes (l : List Syn) : l.length ≤ sizes l := by
  induction l with
  | nil => rw [sizes_nil]; exact Nat.le_refl _
  | cons a r ih => rw [sizes_cons, List.length_cons]; have := size_pos a; omega
theorem sizes_bigs_of (l : List Syn) (h : ∀ t ∈ l, t.size ≤ t.big) : sizes l ≤ bigs l := by
  induction l with
  | nil => rw [sizes_nil, bigs_nil]; exact Nat.le_refl _
  | cons a r ih =>
    rw [sizes_cons, bigs_cons]
    have h1 := h a List.mem_cons_self
    have h2 := ih (fun t ht => h t (List.mem_cons_of_mem _ ht))
    omega
/-- what holds of a tree if it holds of its parts, holds of all trees -/
theorem Syn.ind {P : Syn → Prop} (h : ∀ t : Syn, (∀ x ∈ t.l, P x) → P t) : ∀ t, P t := by
  have main : ∀ (n : Nat) (t : Syn), t.size ≤ n → P t := by
    intro n
    induction n with
    | zero => intro t ht; have := size_pos t; omega
    | succ n ih =>
      intro t ht
      refine h t (fun x hx => ih x ?_)
      have := mem_size hx
      rw [size_eq] at ht
      omega
  exact fun t => main t.size t (Nat.le_refl _)
theorem size_big (t : Syn) : t.size ≤ t.big := by
  induction t using Syn.ind with
  | h t ih =>
    rw [size_eq, big_eq]
    have := sizes_bigs_of t.l ih
    omega
theorem depths_sizes_of (l : List Syn) (h : ∀ t ∈ l, t.depth ≤ t.size) : depths l ≤ sizes l := by
  induction l with
  | nil => rw [sizes_nil, depths_nil]; exact Nat.le_refl _
  | cons a r ih =>
    rw [sizes_cons, depths_cons]
    have h1 := h a List.mem_cons_self
    have h2 := ih (fun t ht => h t (List.mem_cons_of_mem _ ht))
    omega
theorem depth_size (t : Syn) : t.depth ≤ t.size := by
  induction t using Syn.ind with
  | h t ih =>
    rw [size_eq, depth_eq]
    have := depths_sizes_of t.l ih
    omega
theorem len_big (t : Syn) : t.l.length + t.names.length < t.big := by
  rw [big_eq]
  have h1 := len_sizes t.l
  have h2 := sizes_bigs_of t.l (fun x _ => size_big x)
  omega
theorem get_mem' (l : List Syn) (j : Nat) (h : j < l.length) : l[j] ∈ l := List.getElem_mem h
theorem take_sizes (l : List Syn) (j : Nat) : sizes (l.take j) ≤ sizes l := by
  have h := sizes_app (l.take j) (l.drop j)
  rw [List.take_append_drop] at h
  omega
theorem take_depths (l : List Syn) (j : Nat) : depths (l.take j) ≤ depths l := by
  have h := depths_app (l.take j) (l.drop j)
  rw [List.take_append_drop] at h
  omega
theorem sizes_snoc (l : List Syn) (j : Nat) (h : j < l.length) : sizes (l.take (j + 1)) = sizes (l.take j) + l[j].size := by
  rw [List.take_succ_eq_append_getElem h, sizes_app, sizes_cons, sizes_nil]; rfl
theorem depths_snoc (l : List Syn) (j : Nat) (h : j < l.length) : depths (l.take (j + 1)) = max (depths (l.take j)) l[j].depth := by
  rw [List.take_succ_eq_append_getElem h, depths_app, depths_cons, depths_nil]; simp
/-- the paths -/
def hasPath (op : Int) : Bool := decide (op = 2 ∨ op = 5 ∨ op = 14 ∨ op = 23 ∨ op = 24 ∨ op = 34 ∨ op = 48 ∨ op = 49 ∨ op = 66 ∨ op = 72 ∨ op = 74 ∨ op = 82)
mutual
def Syn.paths : Syn → List (List ByteArray)
  | ⟨op, _, _, names, l⟩ => (if hasPath op then [names] else []) ++ pathss l
def pathss : List Syn → List (List ByteArray)
  | [] => []
  | t :: r => t.paths ++ pathss r
end
theorem paths_eq (t : Syn) : t.paths = (if hasPath t.op then [t.names] else []) ++ pathss t.l := by cases t; rw [Syn.paths]
theorem pathss_nil : pathss [] = [] := by rw [pathss]
theorem pathss_cons (t : Syn) (r : List Syn) : pathss (t :: r) = t.paths ++ pathss r := by rw [pathss]
theorem pathss_app (a b : List Syn) : pathss (a ++ b) = pathss a ++ pathss b := by
  induction a with
  | nil => rw [pathss_nil]; simp
  | cons t r ih => rw [List.cons_append, pathss_cons, pathss_cons, ih]; simp
theorem pathss_snoc (l : List Syn) (j : Nat) (h : j < l.length) : pathss (l.take (j + 1)) = pathss (l.take j) ++ l[j].paths := by
  rw [List.take_succ_eq_append_getElem h, pathss_app, pathss_cons, pathss_nil]; simp
theorem len_paths (t : Syn) : t.paths.length ≤ t.size := by
  induction t using Syn.ind with
  | h t ih =>
    rw [paths_eq, size_eq, List.length_append]
    have h1 : (if hasPath t.op then [t.names] else []).length ≤ 1 := by split <;> simp
    have h2 : ∀ l : List Syn, (∀ x ∈ l, x.paths.length ≤ x.size) → (pathss l).length ≤ sizes l := by
      intro l
      induction l with
      | nil => intro _; rw [pathss_nil, sizes_nil]; simp
      | cons a r ihr =>
        intro hl
        rw [pathss_cons, sizes_cons, List.length_append]
        have := hl a List.mem_cons_self
        have := ihr (fun x hx => hl x (List.mem_cons_of_mem _ hx))
        omega
    have := h2 t.l ih
    omega
/-- a tree with another one at a place -/
def put : List Int → Syn → Syn → Option Syn
  | [], _, by' => some by'
  | i :: r, t, by' => if h : 0 ≤ i ∧ i.toNat < t.l.length then (put r (t.l[i.toNat]'h.2) by').map (fun x => { t with l := t.l.set i.toNat x }) else none
def find : List Int → Syn → Option Syn
  | [], t => some t
  | i :: r, t => if h : 0 ≤ i ∧ i.toNat < t.l.length then find r (t.l[i.toNat]'h.2) else none
theorem sizes_set (l : List Syn) (j : Nat) (h : j < l.length) (x : Syn) : sizes (l.set j x) + l[j].size = sizes l + x.size := by
  induction l generalizing j with
  | nil => simp at h
  | cons a r ih =>
    cases j with
    | zero => simp only [List.set_cons_zero, sizes_cons, List.getElem_cons_zero]; omega
    | succ j =>
      simp only [List.set_cons_succ, sizes_cons, List.getElem_cons_succ]
      have := ih j (by simpa using h)
      omega
theorem bigs_set (l : List Syn) (j : Nat) (h : j < l.length) (x : Syn) : bigs (l.set j x) + l[j].big = bigs l + x.big := by
  induction l generalizing j with
  | nil => simp at h
  | cons a r ih =>
    cases j with
    | zero => simp only [List.set_cons_zero, bigs_cons, List.getElem_cons_zero]; omega
    | succ j =>
      simp only [List.set_cons_succ, bigs_cons, List.getElem_cons_succ]
      have := ih j (by simpa using h)
      omega
theorem put_none (at' : List Int) : ∀ t by' : Syn, put at' t by' = none ↔ find at' t = none := by
  induction at' with
  | nil => intro t by'; simp [put, find]
  | cons i r ih =>
    intro t by'
    rw [put, find]
    by_cases h : 0 ≤ i ∧ i.toNat < t.l.length
    · rw [dif_pos h, dif_pos h, Option.map_eq_none_iff]; exact ih _ _
    · rw [dif_neg h, dif_neg h]
theorem put_big (at' : List Int) : ∀ t by' x : Syn, put at' t by' = some x → x.big ≤ t.big + by'.big := by
  induction at' with
  | nil => intro t by' x h; simp [put] at h; subst h; omega
  | cons i r ih =>
    intro t by' x h
    rw [put] at h
    by_cases hi : 0 ≤ i ∧ i.toNat < t.l.length
    · rw [dif_pos hi, Option.map_eq_some_iff] at h
      obtain ⟨y, hy, rfl⟩ := h
      have h1 := ih _ _ _ hy
      have h2 := bigs_set t.l i.toNat hi.2 y
      rw [big_eq, big_eq t]
      show 1 + t.names.length + bigs (t.l.set i.toNat y) ≤ _
      omega
    · rw [dif_neg hi] at h; cases h
/-- putting, finding, and putting again -/
theorem put_find (at' : List Int) : ∀ t by' x : Syn, put at' t by' = some x → find at' x = some by' := by
  induction at' with
  | nil => intro t by' x h; simp [put] at h; subst h; rfl
  | cons i r ih =>
    intro t by' x h
    rw [put] at h
    by_cases hi : 0 ≤ i ∧ i.toNat < t.l.length
    · rw [dif_pos hi, Option.map_eq_some_iff] at h
      obtain ⟨y, hy, rfl⟩ := h
      rw [find, dif_pos (by simpa using hi)]
      simpa using ih _ _ _ hy
    · rw [dif_neg hi] at h; cases h
theorem put_self (at' : List Int) : ∀ t old : Syn, find at' t = some old → put at' t old = some t := by
  induction at' with
  | nil => intro t old h; simp [find] at h; subst h; rfl
  | cons i r ih =>
    intro t old h
    rw [find] at h
    by_cases hi : 0 ≤ i ∧ i.toNat < t.l.length
    · rw [dif_pos hi] at h
      rw [put, dif_pos hi, ih _ _ h]
      cases t
      simp
    · rw [dif_neg hi] at h; cases h
theorem put_put (at' : List Int) : ∀ t by' x z : Syn, put at' t by' = some x → put at' x z = put at' t z := by
  induction at' with
  | nil => intro t by' x z h; rfl
  | cons i r ih =>
    intro t by' x z h
    rw [put] at h
    by_cases hi : 0 ≤ i ∧ i.toNat < t.l.length
    · rw [dif_pos hi, Option.map_eq_some_iff] at h
      obtain ⟨y, hy, rfl⟩ := h
      rw [put, put, dif_pos hi, dif_pos (by simpa using hi)]
      have := ih _ _ _ z hy
      simp only [List.getElem_set_self, this, List.set_set]
    · rw [dif_neg hi] at h; cases h
theorem put_size (at' : List Int) : ∀ t by' x old : Syn, put at' t by' = some x → find at' t = some old → x.size + old.size = t.size + by'.size := by
  induction at' with
  | nil => intro t by' x old h h'; simp [put] at h; simp [find] at h'; subst h h'; omega
  | cons i r ih =>
    intro t by' x old h h'
    rw [put] at h
    rw [find] at h'
    by_cases hi : 0 ≤ i ∧ i.toNat < t.l.length
    · rw [dif_pos hi, Option.map_eq_some_iff] at h
      rw [dif_pos hi] at h'
      obtain ⟨y, hy, rfl⟩ := h
      have h1 := ih _ _ _ _ hy h'
      have h2 := sizes_set t.l i.toNat hi.2 y
      rw [size_eq, size_eq t]
      show 1 + sizes (t.l.set i.toNat y) + _ = _
      omega
    · rw [dif_neg hi] at h; cases h
end Go.Proofs.Ytkhpihacjhhklaa.Pl
