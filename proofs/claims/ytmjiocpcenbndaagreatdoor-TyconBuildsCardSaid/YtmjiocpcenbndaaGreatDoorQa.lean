/-
  Layer 9, plain: constructors as trees, their size and depth, shifting and substitution, and the laws of both.
-/
import Derived.Test.YtmjiocpcenbndaaGreatDoorKa
namespace Go.Proofs.YtmjiocpcenbndaaGreatDoor.Pl
/-- a constructor -/
structure Con where
  op : Int
  n : Int
  s : ByteArray
  kind : K
  names : List ByteArray
  l : List Con
instance : Inhabited Con := ⟨⟨0, 0, ByteArray.empty, .mk [], [], []⟩⟩
namespace Con
def none0 : Con := ⟨0, 0, ByteArray.empty, .mk [], [], []⟩
def var (n : Int) : Con := ⟨1, n, ByteArray.empty, .mk [], [], []⟩
mutual
def size : Con → Nat
  | ⟨_, _, _, _, _, l⟩ => 1 + sizes l
def sizes : List Con → Nat
  | [] => 0
  | t :: r => t.size + sizes r
end
mutual
def depth : Con → Nat
  | ⟨_, _, _, _, _, l⟩ => 1 + depths l
def depths : List Con → Nat
  | [] => 0
  | t :: r => max t.depth (depths r)
end
theorem size_eq (t : Con) : t.size = 1 + sizes t.l := by cases t; rw [size]
theorem depth_eq (t : Con) : t.depth = 1 + depths t.l := by cases t; rw [depth]
theorem sizes_nil : sizes [] = 0 := by rw [sizes]
theorem sizes_cons (t : Con) (r : List Con) : sizes (t :: r) = t.size + sizes r := by rw [sizes]
theorem depths_nil : depths [] = 0 := by rw [depths]
theorem depths_cons (t : Con) (r : List Con) : depths (t :: r) = max t.depth (depths r) := by rw [depths]
theorem size_pos (t : Con) : 1 ≤ t.size := by rw [size_eq]; omega
theorem depth_pos (t : Con) : 1 ≤ t.depth := by rw [depth_eq]; omega
theorem mem_size {x : Con} {l : List Con} (h : x ∈ l) : x.size ≤ sizes l := by
  induction l with
  | nil => cases h
  | cons t r ih =>
    rw [sizes_cons]
    rcases List.mem_cons.1 h with rfl | h
    · omega
    · have := ih h; omega
theorem mem_depth {x : Con} {l : List Con} (h : x ∈ l) : x.depth ≤ depths l := by
  induction l with
  | nil => cases h
  | cons t r ih =>
    rw [depths_cons]
    rcases List.mem_cons.1 h with rfl | h
    · omega
    · have := ih h; omega
theorem ind {p : Con → Prop} (h : ∀ t : Con, (∀ x ∈ t.l, p x) → p t) : ∀ t, p t := by
  have main : ∀ (n : Nat) (t : Con), t.size ≤ n → p t := by
    intro n
    induction n with
    | zero => intro t ht; have := size_pos t; omega
    | succ n ih =>
      intro t ht
      refine h t (fun x hx => ih x ?_)
      have := mem_size hx
      rw [size_eq] at ht
      omega
  exact fun t => main t.size t (Nat.le_refl _)
theorem sizes_take (l : List Con) (i : Nat) (h : i < l.length) : sizes (l.take (i + 1)) = sizes (l.take i) + l[i].size := by
  induction l generalizing i with
  | nil => exact absurd h (Nat.not_lt_zero _)
  | cons t r ih =>
    cases i with
    | zero => simp [sizes_cons, sizes_nil]
    | succ i =>
      have := ih i (by simpa using h)
      simp only [List.take_succ_cons, sizes_cons, List.getElem_cons_succ]
      omega
theorem depths_take (l : List Con) (i : Nat) (h : i < l.length) : depths (l.take (i + 1)) = max (depths (l.take i)) l[i].depth := by
  induction l generalizing i with
  | nil => exact absurd h (Nat.not_lt_zero _)
  | cons t r ih =>
    cases i with
    | zero => simp [depths_cons, depths_nil]
    | succ i =>
      have := ih i (by simpa using h)
      simp only [List.take_succ_cons, depths_cons, List.getElem_cons_succ]
      omega
theorem sizes_le (l : List Con) : ∀ i, sizes (l.take i) ≤ sizes l := by
  induction l with
  | nil => intro i; simp
  | cons t r ih =>
    intro i
    cases i with
    | zero => simp [sizes_nil]
    | succ i => have := ih i; simp only [List.take_succ_cons, sizes_cons]; omega
theorem depths_le (l : List Con) : ∀ i, depths (l.take i) ≤ depths l := by
  induction l with
  | nil => intro i; simp
  | cons t r ih =>
    intro i
    cases i with
    | zero => simp [depths_nil]
    | succ i => have := ih i; simp only [List.take_succ_cons, depths_cons]; omega
theorem length_le_sizes (l : List Con) : l.length ≤ sizes l := by
  induction l with
  | nil => simp
  | cons t r ih => rw [sizes_cons, List.length_cons]; have := size_pos t; omega

/-- what binds a variable -/
def binder (op : Int) : Bool := decide (op = 9) || (decide (op = 10) || (decide (op = 11) || decide (op = 13)))
def deep (op d : Int) : Int := if binder op then d + 1 else d
theorem deep_le (op d : Int) : d ≤ deep op d ∧ deep op d ≤ d + 1 := by unfold deep; split <;> omega
theorem deep_add (op d e : Int) : deep op (d + e) = deep op d + e := by unfold deep; split <;> omega
/-- a node, with other parts -/
def inside (t : Con) (l : List Con) : Con := ⟨t.op, t.n, t.s, t.kind, t.names, l⟩
theorem inside_self (t : Con) : inside t t.l = t := by cases t; rfl
mutual
/-- shifted by a number from an index on -/
def shift (b : Int) : Con → Int → Con
  | ⟨op, n, s, k, names, l⟩, f => if op = 1 then (if f ≤ n then var (n + b) else ⟨op, n, s, k, names, l⟩) else ⟨op, n, s, k, names, shifts b l (deep op f)⟩
def shifts (b : Int) : List Con → Int → List Con
  | [], _ => []
  | t :: r, f => shift b t f :: shifts b r f
end
mutual
/-- a list substituted under d binders -/
def subst (ts : List Con) : Con → Int → Con
  | ⟨op, n, s, k, names, l⟩, d => if op = 1 then (if n < d then ⟨op, n, s, k, names, l⟩ else if n - d < ts.length then shift d (ts.getD (n - d).toNat none0) 0 else var (n - ts.length)) else ⟨op, n, s, k, names, substs ts l (deep op d)⟩
def substs (ts : List Con) : List Con → Int → List Con
  | [], _ => []
  | t :: r, d => subst ts t d :: substs ts r d
end
theorem shifts_map (b f : Int) (l : List Con) : shifts b l f = l.map (fun t => shift b t f) := by
  induction l with
  | nil => rw [shifts]; rfl
  | cons t r ih => rw [shifts, ih]; rfl
theorem substs_map (ts : List Con) (d : Int) (l : List Con) : substs ts l d = l.map (fun t => subst ts t d) := by
  induction l with
  | nil => rw [substs]; rfl
  | cons t r ih => rw [substs, ih]; rfl
theorem shift_var (b f : Int) (t : Con) (h : t.op = 1) : shift b t f = if f ≤ t.n then var (t.n + b) else t := by
  obtain ⟨op, n, s, k, names, l⟩ := t
  have h : op = 1 := h
  rw [shift, if_pos h]
theorem shift_node (b f : Int) (t : Con) (h : t.op ≠ 1) : shift b t f = inside t (t.l.map (fun x => shift b x (deep t.op f))) := by
  obtain ⟨op, n, s, k, names, l⟩ := t
  have h : op ≠ 1 := h
  rw [shift, if_neg h, shifts_map]
  rfl
theorem subst_var (ts : List Con) (d : Int) (t : Con) (h : t.op = 1) : subst ts t d = if t.n < d then t else if t.n - d < ts.length then shift d (ts.getD (t.n - d).toNat none0) 0 else var (t.n - ts.length) := by
  obtain ⟨op, n, s, k, names, l⟩ := t
  have h : op = 1 := h
  rw [subst, if_pos h]
theorem subst_node (ts : List Con) (d : Int) (t : Con) (h : t.op ≠ 1) : subst ts t d = inside t (t.l.map (fun x => subst ts x (deep t.op d))) := by
  obtain ⟨op, n, s, k, names, l⟩ := t
  have h : op ≠ 1 := h
  rw [subst, if_neg h, substs_map]
  rfl
/-- two shifts are one -/
theorem shift_shift (t : Con) : ∀ (b e f m : Int), 0 ≤ e → m = e + f → ∀ k, f ≤ k → k ≤ m → shift b (shift e t f) k = shift (e + b) t f := by
  induction t using ind with
  | h t ih =>
  intro b e f m he hm k hk hkm
  by_cases h : t.op = 1
  · rw [shift_var e f t h, shift_var (e + b) f t h]
    by_cases h1 : f ≤ t.n
    · rw [if_pos h1, if_pos h1, shift_var _ _ _ rfl]
      show (if k ≤ t.n + e then var (t.n + e + b) else _) = _
      rw [if_pos (by omega), Int.add_assoc]
    · rw [if_neg h1, if_neg h1, shift_var _ _ _ h, if_neg (by omega)]
  · rw [shift_node e f t h, shift_node (e + b) f t h, shift_node _ _ _ (show (inside t _).op ≠ 1 from h)]
    show inside t ((t.l.map (fun x => shift e x (deep t.op f))).map (fun x => shift b x (deep t.op k))) = _
    rw [List.map_map]
    congr 1
    refine List.map_congr_left (fun x hx => ?_)
    have h1 := deep_add t.op f (k - f)
    have h2 := deep_add t.op f (m - f)
    rw [show f + (k - f) = k from by omega] at h1
    rw [show f + (m - f) = m from by omega] at h2
    exact ih x hx b e (deep t.op f) (deep t.op m) he (by omega) (deep t.op k) (by omega) (by omega)
/-- variables have nothing but their index -/
def Clean (t : Con) : Prop := t.op = 1 → t = var t.n
mutual
def clean : Con → Prop
  | ⟨op, n, s, k, names, l⟩ => (op = 1 → (⟨op, n, s, k, names, l⟩ : Con) = var n) ∧ cleans l
def cleans : List Con → Prop
  | [] => True
  | t :: r => clean t ∧ cleans r
end
theorem cleans_iff (l : List Con) : cleans l ↔ ∀ x ∈ l, clean x := by
  induction l with
  | nil => rw [cleans]; simp
  | cons t r ih => rw [cleans, ih]; simp
theorem clean_iff (t : Con) : clean t ↔ Clean t ∧ ∀ x ∈ t.l, clean x := by
  obtain ⟨op, n, s, k, names, l⟩ := t
  rw [clean, cleans_iff]
  rfl
theorem shift_zero (t : Con) : ∀ f, clean t → shift 0 t f = t := by
  induction t using ind with
  | h t ih =>
  intro f hc
  obtain ⟨h0, h1⟩ := (clean_iff t).1 hc
  by_cases h : t.op = 1
  · rw [shift_var _ _ t h]
    split
    · rw [Int.add_zero]; exact (h0 h).symm
    · rfl
  · rw [shift_node _ _ t h]
    have : t.l.map (fun x => shift 0 x (deep t.op f)) = t.l := by
      conv => rhs; rw [← List.map_id t.l]
      exact List.map_congr_left (fun x hx => ih x hx _ (h1 x hx))
    rw [this, inside_self]
/-- there and back -/
theorem shift_back (t : Con) (b f : Int) (hb : 0 ≤ b) (hc : clean t) : shift (-b) (shift b t f) f = t := by
  rw [shift_shift t (-b) b f (b + f) hb rfl f (by omega) (by omega), show b + -b = 0 from by omega]
  exact shift_zero t f hc
/-- substituting one into what is shifted by one more -/
theorem subst_shift (t y : Con) : ∀ (m e : Int), 0 ≤ m → 0 ≤ e → subst [y] (shift (m + 1) t e) (e + m) = shift m t e := by
  induction t using ind with
  | h t ih =>
  intro m e hm he
  by_cases h : t.op = 1
  · rw [shift_var _ _ t h, shift_var _ _ t h]
    by_cases h1 : e ≤ t.n
    · rw [if_pos h1, if_pos h1, subst_var _ _ _ rfl]
      show (if t.n + (m + 1) < e + m then _ else if t.n + (m + 1) - (e + m) < (([y] : List Con).length : Int) then _ else var (t.n + (m + 1) - (([y] : List Con).length : Int))) = _
      rw [if_neg (by omega), if_neg (by simp; omega)]
      congr 1
      simp; omega
    · rw [if_neg h1, if_neg h1, subst_var _ _ _ h, if_pos (by omega)]
  · rw [shift_node _ _ t h, shift_node _ _ t h, subst_node _ _ _ (show (inside t _).op ≠ 1 from h)]
    show inside t ((t.l.map (fun x => shift (m + 1) x (deep t.op e))).map (fun x => subst [y] x (deep t.op (e + m)))) = _
    rw [List.map_map]
    congr 1
    refine List.map_congr_left (fun x hx => ?_)
    have := ih x hx m (deep t.op e) hm (by have := deep_le t.op e; omega)
    rw [← deep_add] at this
    exact this
/-- a shifted one, substituted into -/
theorem subst_shifted (t : Con) (ts : List Con) : ∀ (d e : Int), 0 ≤ d → 0 ≤ e → subst ts (shift d t e) (d + e) = shift d (subst ts t e) e := by
  induction t using ind with
  | h t ih =>
  intro d e hd he
  by_cases h : t.op = 1
  · rw [shift_var _ _ t h, subst_var _ _ t h]
    by_cases h1 : e ≤ t.n
    · rw [if_pos h1, if_neg (by omega), subst_var _ _ _ rfl]
      show (if t.n + d < d + e then _ else if t.n + d - (d + e) < (ts.length : Int) then shift (d + e) (ts.getD (t.n + d - (d + e)).toNat none0) 0 else var (t.n + d - (ts.length : Int))) = _
      rw [if_neg (by omega), show t.n + d - (d + e) = t.n - e from by omega]
      by_cases h2 : t.n - e < (ts.length : Int)
      · rw [if_pos h2, if_pos h2, shift_shift _ d e 0 (e + 0) he rfl e (by omega) (by omega), Int.add_comm e d]
      · rw [if_neg h2, if_neg h2, shift_var _ _ _ rfl]
        show _ = (if e ≤ t.n - (ts.length : Int) then var (t.n - (ts.length : Int) + d) else _)
        rw [if_pos (by omega)]
        congr 1
        omega
    · rw [if_neg h1, if_pos (by omega), subst_var _ _ _ h, if_pos (by omega), shift_var _ _ _ h, if_neg h1]
  · rw [shift_node _ _ t h, subst_node _ _ t h, subst_node _ _ _ (show (inside t _).op ≠ 1 from h), shift_node _ _ _ (show (inside t _).op ≠ 1 from h)]
    show inside t ((t.l.map (fun x => shift d x (deep t.op e))).map (fun x => subst ts x (deep t.op (d + e)))) = inside t ((t.l.map (fun x => subst ts x (deep t.op e))).map (fun x => shift d x (deep t.op e)))
    rw [List.map_map, List.map_map]
    congr 1
    refine List.map_congr_left (fun x hx => ?_)
    have := ih x hx d (deep t.op e) hd (by have := deep_le t.op e; omega)
    rw [Int.add_comm d (deep t.op e), ← deep_add, Int.add_comm e d] at this
    exact this
/-- substitutions commute -/
theorem subst_subst (t a : Con) (ts : List Con) : ∀ (d : Int), 0 ≤ d → subst ts (subst [a] t d) d = subst [subst ts a 0] (subst ts t (d + 1)) d := by
  induction t using ind with
  | h t ih =>
  intro d hd
  by_cases h : t.op = 1
  · rw [subst_var [a] _ t h, subst_var ts _ t h]
    by_cases h1 : t.n < d
    · rw [if_pos h1, if_pos (by omega), subst_var _ _ t h, subst_var _ _ t h, if_pos h1, if_pos h1]
    rw [if_neg h1]
    by_cases h2 : t.n = d
    · rw [if_pos (by simp; omega), if_pos (by omega), subst_var _ _ t h, if_neg h1, if_pos (by simp; omega), show (t.n - d).toNat = 0 from by omega]
      have := subst_shifted a ts d 0 hd (Int.le_refl _)
      rw [Int.add_zero] at this
      exact this
    · rw [if_neg (by simp; omega), if_neg (by omega), subst_var _ _ _ rfl]
      show (if t.n - 1 < d then _ else if t.n - 1 - d < (ts.length : Int) then shift d (ts.getD (t.n - 1 - d).toNat none0) 0 else var (t.n - 1 - (ts.length : Int))) = _
      rw [if_neg (by omega), show t.n - (d + 1) = t.n - 1 - d from by omega]
      by_cases h3 : t.n - 1 - d < (ts.length : Int)
      · rw [if_pos h3, if_pos h3]
        have := subst_shift (ts.getD (t.n - 1 - d).toNat none0) (subst ts a 0) d 0 hd (Int.le_refl _)
        rw [Int.zero_add] at this
        exact this.symm
      · rw [if_neg h3, if_neg h3, subst_var _ _ _ rfl]
        show _ = (if t.n - (ts.length : Int) < d then _ else if t.n - (ts.length : Int) - d < (([subst ts a 0] : List Con).length : Int) then _ else var (t.n - (ts.length : Int) - (([subst ts a 0] : List Con).length : Int)))
        rw [if_neg (by omega), if_neg (by simp; omega)]
        congr 1
        simp; omega
  · rw [subst_node [a] _ t h, subst_node ts _ t h, subst_node _ _ _ (show (inside t _).op ≠ 1 from h), subst_node _ _ _ (show (inside t _).op ≠ 1 from h)]
    show inside t ((t.l.map (fun x => subst [a] x (deep t.op d))).map (fun x => subst ts x (deep t.op d))) = inside t ((t.l.map (fun x => subst ts x (deep t.op (d + 1)))).map (fun x => subst [subst ts a 0] x (deep t.op d)))
    rw [List.map_map, List.map_map]
    congr 1
    refine List.map_congr_left (fun x hx => ?_)
    have := ih x hx (deep t.op d) (by have := deep_le t.op d; omega)
    rw [← deep_add] at this
    exact this
end Con
end Go.Proofs.YtmjiocpcenbndaaGreatDoor.Pl
