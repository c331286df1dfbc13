/-
  Layer 9: several texts in one (Ua Ub).
-/
import Derived.Test.YtmjkeejinagokaaQo
import Derived.Test.YtmjkeejinagokaaHj
namespace Go.Proofs.Ytmjkeejinagokaa
open Pl (K Con)
namespace Pl
/-- a kind, or a fault and its place -/
inductive KR where
  | ok (k : K)
  | bad (e : Int) (p : List Nat)
/-- kinds, or a fault and its place -/
inductive KS where
  | ok (l : List K)
  | bad (e : Int) (p : List Nat)
namespace KR
def kd : KR → K
  | ok k => k
  | bad _ _ => .mk []
def er : KR → Int
  | ok _ => 0
  | bad e _ => e
def pt : KR → List Nat
  | ok _ => []
  | bad _ p => p
end KR
def KS.pre (ks : List K) : KS → KS
  | .ok m => .ok (ks ++ m)
  | .bad e p => .bad e p
def KS.next (f : List K → KR) : KS → KR
  | .ok m => f m
  | .bad e p => .bad e p
/-- the kind of an application -/
def appK (f a : K) : KR :=
  match f with
  | .mk [x, y] => if K.eqv x a then .ok y else .bad 11 []
  | _ => .bad 11 []
/-- the kind of a node, its parts having these kinds -/
def ownK (r : List K) (op n : Int) (kd : K) (ks : List K) : KR :=
  if op = 1 then (match r[n.toNat]? with | some k => .ok k | none => .bad 10 [])
  else if op = 2 then .ok kd
  else if op = 11 then (if K.valid (.mk [kd, ks.getD 0 (.mk [])]) then .ok (.mk [kd, ks.getD 0 (.mk [])]) else .bad 6 [])
  else if op = 12 then appK (ks.getD 0 (.mk [])) (ks.getD 1 (.mk []))
  else if op = 13 then (if K.eqv kd (ks.getD 0 (.mk [])) then .ok kd else .bad 11 [])
  else if ks.all (fun k => k.l.length == 0) then .ok (.mk []) else .bad 11 []
/-- the scope of the parts -/
def inK (r : List K) (op : Int) (kd : K) : List K := if Con.binder op then kd :: r else r
mutual
def kof (r : List K) : Con → KR
  | ⟨op, n, _, kd, _, l⟩ => (kofs (inK r op kd) l 0).next (ownK r op n kd)
def kofs (r : List K) : List Con → Nat → KS
  | [], _ => .ok []
  | t :: rest, i => match kof r t with
    | .bad e p => .bad e (i :: p)
    | .ok k => (kofs r rest (i + 1)).pre [k]
end
theorem kof_eq (r : List K) (t : Con) : kof r t = (kofs (inK r t.op t.kind) t.l 0).next (ownK r t.op t.n t.kind) := by cases t; rw [kof]
theorem kofs_nil (r : List K) (i : Nat) : kofs r [] i = .ok [] := by rw [kofs]
theorem kofs_cons (r : List K) (t : Con) (rest : List Con) (i : Nat) : kofs r (t :: rest) i = (match kof r t with
    | .bad e p => .bad e (i :: p)
    | .ok k => (kofs r rest (i + 1)).pre [k]) := by rw [kofs]
theorem kofs_step (r : List K) (l : List Con) (k : Nat) (h : k < l.length) : kofs r (l.drop k) k = (match kof r l[k] with
    | .bad e p => .bad e (k :: p)
    | .ok x => (kofs r (l.drop (k + 1)) (k + 1)).pre [x]) := by rw [List.drop_eq_getElem_cons h, kofs_cons]
theorem KS.pre_pre (a b : List K) (s : KS) : (s.pre b).pre a = s.pre (a ++ b) := by cases s <;> simp [KS.pre]
theorem KS.pre_nil (s : KS) : s.pre [] = s := by cases s <;> rfl
/-- it is all of them that have kinds -/
theorem kofs_ok (r : List K) (l : List Con) : ∀ i ks, kofs r l i = .ok ks ↔ (ks.length = l.length ∧ ∀ j (h : j < l.length) (h2 : j < ks.length), kof r l[j] = .ok ks[j]) := by
  induction l with
  | nil =>
    intro i ks
    rw [kofs_nil]
    constructor
    · intro h
      injection h with h
      subst h
      exact ⟨rfl, fun j h => absurd h (Nat.not_lt_zero _)⟩
    · rintro ⟨h, -⟩
      rw [List.eq_nil_of_length_eq_zero h]
  | cons t rest ih =>
    intro i ks
    rw [kofs_cons]
    cases hk : kof r t with
    | bad e p =>
      refine ⟨fun h => (by cases h), fun ⟨h1, h2⟩ => ?_⟩
      have := h2 0 (Nat.zero_lt_succ _) (by rw [h1]; exact Nat.zero_lt_succ _)
      rw [List.getElem_cons_zero, hk] at this
      cases this
    | ok k =>
      constructor
      · intro h
        cases hr : kofs r rest (i + 1) with
        | bad e p => rw [hr] at h; cases h
        | ok m =>
          rw [hr] at h
          injection h with h
          subst h
          obtain ⟨h1, h2⟩ := (ih (i + 1) m).1 hr
          refine ⟨by simp [h1], fun j h3 h4 => ?_⟩
          cases j with
          | zero => simpa using hk
          | succ j => simpa using h2 j (by simpa using h3) (by simpa using h4)
      · rintro ⟨h1, h2⟩
        match ks, h1 with
        | x :: m, h1 =>
          have e := h2 0 (Nat.zero_lt_succ _) (Nat.zero_lt_succ _)
          rw [List.getElem_cons_zero, List.getElem_cons_zero, hk] at e
          injection e with e
          subst e
          have := (ih (i + 1) m).2 ⟨by simpa using h1, fun j h3 h4 => by
            have := h2 (j + 1) (by simpa using h3) (by simpa using h4)
            simpa using this⟩
          show (kofs r rest (i + 1)).pre [k] = _
          rw [this]
          rfl
/-- the first of them that has none -/
theorem kofs_bad (r : List K) (l : List Con) : ∀ i e p, kofs r l i = .bad e p → ∃ j q, ∃ h : j < l.length, p = (i + j) :: q ∧ kof r l[j] = .bad e q := by
  induction l with
  | nil => intro i e p h; rw [kofs_nil] at h; cases h
  | cons t rest ih =>
    intro i e p h
    rw [kofs_cons] at h
    cases hk : kof r t with
    | bad e' p' =>
      rw [hk] at h
      injection h with h1 h2
      subst h1 h2
      exact ⟨0, p', Nat.zero_lt_succ _, rfl, hk⟩
    | ok k =>
      rw [hk] at h
      cases hr : kofs r rest (i + 1) with
      | ok m => rw [hr] at h; cases h
      | bad e' p' =>
        rw [hr] at h
        injection h with h1 h2
        subst h1 h2
        obtain ⟨j, q, hj, h3, h4⟩ := ih _ _ _ hr
        exact ⟨j + 1, q, by simpa using hj, by rw [h3, show i + 1 + j = i + (j + 1) from by omega], by simpa using h4⟩
/-- a node that is no variable: the scope does not matter -/
theorem ownK_scope (r s : List K) (op n : Int) (kd : K) (ks : List K) (h : op ≠ 1) : ownK r op n kd ks = ownK s op n kd ks := by
  unfold ownK
  rw [if_neg h, if_neg h]
/-- the fault of a node is at the node -/
theorem ownK_bad {r : List K} {op n : Int} {kd : K} {ks : List K} {e : Int} {p : List Nat} (h : ownK r op n kd ks = .bad e p) : p = [] ∧ e ≠ 0 := by
  unfold ownK at h
  split at h
  · split at h
    · cases h
    · injection h with h1 h2; subst h1 h2; exact ⟨rfl, by decide⟩
  split at h
  · cases h
  split at h
  · split at h
    · cases h
    · injection h with h1 h2; subst h1 h2; exact ⟨rfl, by decide⟩
  split at h
  · unfold appK at h
    split at h
    · split at h
      · cases h
      · injection h with h1 h2; subst h1 h2; exact ⟨rfl, by decide⟩
    · injection h with h1 h2; subst h1 h2; exact ⟨rfl, by decide⟩
  split at h
  · split at h
    · cases h
    · injection h with h1 h2; subst h1 h2; exact ⟨rfl, by decide⟩
  split at h
  · cases h
  · injection h with h1 h2; subst h1 h2; exact ⟨rfl, by decide⟩
theorem valid_two (x y : K) (h : K.valid (.mk [x, y]) = true) : K.valid x = true ∧ K.valid y = true := by
  rw [K.valid_iff] at h
  obtain ⟨h1, h2, h3⟩ := h
  rw [K.ok, K.oks, K.oks, K.oks] at h1
  rw [K.size, K.sizes, K.sizes, K.sizes] at h2
  rw [K.depth, K.depths, K.depths, K.depths] at h3
  simp only [Bool.and_eq_true] at h1
  exact ⟨(K.valid_iff x).2 ⟨h1.2.1, by omega, by omega⟩, (K.valid_iff y).2 ⟨h1.2.2.1, by omega, by omega⟩⟩
theorem valid_star : K.valid (.mk []) = true := by decide +kernel
/-- what is found is valid -/
theorem ownK_valid {r : List K} {op n : Int} {kd : K} {ks : List K} {k : K} (hr : ∀ x ∈ r, K.valid x = true) (hd : K.valid kd = true) (hs : ∀ x ∈ ks, K.valid x = true) (h : ownK r op n kd ks = .ok k) : K.valid k = true := by
  have hg : ∀ i, K.valid (ks.getD i (.mk [])) = true := by
    intro i
    rw [List.getD_eq_getElem?_getD]
    cases hx : ks[i]? with
    | none => exact valid_star
    | some x => exact hs x (List.mem_of_getElem? hx)
  unfold ownK at h
  split at h
  · split at h
    · next k' hk => injection h with h; subst h; exact hr _ (List.mem_of_getElem? hk)
    · cases h
  split at h
  · injection h with h; subst h; exact hd
  split at h
  · split at h
    · next hv => injection h with h; subst h; exact hv
    · cases h
  split at h
  · unfold appK at h
    split at h
    · next x y hxy =>
      split at h
      · injection h with h; subst h
        have := hg 0
        rw [hxy] at this
        exact (valid_two x y this).2
      · cases h
    · cases h
  split at h
  · split at h
    · injection h with h; subst h; exact hd
    · cases h
  split at h
  · injection h with h; subst h; exact valid_star
  · cases h
end Pl
theorem kind_valid (t : Con) (h : Con.nodeB t = true) : K.valid t.kind = true := by
  unfold Con.nodeB at h
  simp only [Bool.and_eq_true] at h
  obtain ⟨-, -, -, -, hk⟩ := h
  unfold Con.kindB at hk
  split at hk
  · exact hk
  · rw [decide_eq_true_eq] at hk
    rw [kind_none hk]
    decide +kernel
open Pl (KR KS kof kofs ownK inK)
theorem inK_valid {r : List K} {op : Int} {kd : K} (hr : ∀ x ∈ r, K.valid x = true) (hd : K.valid kd = true) : ∀ x ∈ inK r op kd, K.valid x = true := by
  unfold inK
  split
  · intro x hx
    rcases List.mem_cons.1 hx with rfl | hx
    · exact hd
    · exact hr x hx
  · exact hr
theorem kof_valid (t : Con) : ∀ (r : List K) (k : K), Con.allB t = true → (∀ x ∈ r, K.valid x = true) → kof r t = .ok k → K.valid k = true := by
  induction t using Con.ind with
  | h t ih =>
  intro r k ha hr h
  rw [allB_eq, Bool.and_eq_true, List.all_eq_true] at ha
  rw [Pl.kof_eq] at h
  have hkv := kind_valid t ha.1
  cases hs : kofs (inK r t.op t.kind) t.l 0 with
  | bad e p => rw [hs] at h; cases h
  | ok ks =>
    rw [hs] at h
    obtain ⟨h1, h2⟩ := (Pl.kofs_ok _ _ _ _).1 hs
    refine Pl.ownK_valid hr hkv (fun x hx => ?_) h
    obtain ⟨j, hj, rfl⟩ := List.getElem_of_mem hx
    exact ih _ (List.getElem_mem (by omega)) _ _ (ha.2 _ (List.getElem_mem (by omega))) (inK_valid hr hkv) (h2 j (by omega) hj)
theorem kof_bad (t : Con) : ∀ (r : List K) (e : Int) (p : List Nat), kof r t = .bad e p → e ≠ 0 := by
  induction t using Con.ind with
  | h t ih =>
  intro r e p h
  rw [Pl.kof_eq] at h
  cases hs : kofs (inK r t.op t.kind) t.l 0 with
  | bad e' p' =>
    rw [hs] at h
    injection h with h1 h2
    subst h1 h2
    obtain ⟨j, q, hj, -, h4⟩ := Pl.kofs_bad _ _ _ _ _ hs
    exact ih _ (List.getElem_mem hj) _ _ _ h4
  | ok ks =>
    rw [hs] at h
    exact (Pl.ownK_bad h).2
theorem node_facts10 (t : Con) (h : Con.nodeB t = true) : K.valid t.kind = true ∧ t.names.length ≤ 1000 ∧ t.l.length ≤ 1000 := by
  unfold Con.nodeB at h
  simp only [Bool.and_eq_true] at h
  obtain ⟨-, hs, -, -, hk⟩ := h
  refine ⟨?_, ?_⟩
  · unfold Con.kindB at hk
    split at hk
    · exact hk
    · rw [decide_eq_true_eq] at hk
      rw [kind_none hk]
      decide +kernel
  · unfold Con.shapeB at hs
    split at hs
    · rw [Bool.and_eq_true, decide_eq_true_eq, decide_eq_true_eq] at hs
      have hp : Con.partsOf t.op ≤ 2 := by
        unfold Con.partsOf
        split
        · omega
        · split
          · omega
          · split <;> omega
      omega
    · rw [Bool.and_eq_true, decide_eq_true_eq] at hs
      have h2 := hs.2
      unfold Con.labelsOk at h2
      simp only [Bool.and_eq_true, decide_eq_true_eq] at h2
      omega
/-- what Of answers -/
def ofOut (g : List K) (t : Con) : KR := if decide (g.length ≤ 1000) && (g.all K.valid && Con.validB t) then kof g.reverse t else .bad 1 []
end Go.Proofs.Ytmjkeejinagokaa
namespace Go.Proofs.Ytmjkeejinagokaa
open Pl (K Con KR KS kof kofs ownK inK)

theorem kof_var (r : List K) (n : Int) : kof r (Con.var n) = (match r[n.toNat]? with | some k => .ok k | none => .bad 10 []) := by
  rw [Pl.kof_eq]
  show (kofs _ [] 0).next _ = _
  rw [Pl.kofs_nil]
  rfl
theorem kofs_map (f : Con → Con) (r s : List K) (l : List Con) : ∀ i, (∀ x ∈ l, kof s (f x) = kof r x) → kofs s (l.map f) i = kofs r l i := by
  induction l with
  | nil => intro i _; rw [List.map_nil, Pl.kofs_nil, Pl.kofs_nil]
  | cons t rest ih =>
    intro i h
    rw [List.map_cons, Pl.kofs_cons, Pl.kofs_cons, h t List.mem_cons_self, ih (i + 1) (fun x hx => h x (List.mem_cons_of_mem _ hx))]
theorem allB_parts (t : Con) (h : Con.allB t = true) : Con.nodeB t = true ∧ ∀ x ∈ t.l, Con.allB x = true := by
  rw [allB_eq, Bool.and_eq_true, List.all_eq_true] at h
  exact h
theorem nodeB_pos (t : Con) (h : Con.nodeB t = true) : 0 ≤ t.n := (nodeB_n t h).1
theorem inK_app (r1 r2 : List K) (op : Int) (kd : K) : inK (r1 ++ r2) op kd = inK r1 op kd ++ r2 := by
  unfold inK
  split <;> rfl
theorem inK_len (r : List K) (op : Int) (kd : K) : ((inK r op kd).length : Int) = Con.deep op r.length := by
  unfold inK Con.deep
  split <;> simp
/-- kinds do not depend on other variables -/
theorem kof_shift (m : List K) (t : Con) : ∀ (r1 r2 : List K), Con.allB t = true → kof (r1 ++ m ++ r2) (Con.shift m.length t r1.length) = kof (r1 ++ r2) t := by
  induction t using Con.ind with
  | h t ih =>
  intro r1 r2 ha
  obtain ⟨hn, hp⟩ := allB_parts t ha
  have h0 := nodeB_pos t hn
  by_cases h : t.op = 1
  · have hc := clean_node t hn h
    rw [hc] at h0 ⊢
    have h0 : 0 ≤ t.n := h0
    rw [Con.shift_var _ _ _ rfl, kof_var]
    show kof _ (if (r1.length : Int) ≤ t.n then Con.var (t.n + m.length) else Con.var t.n) = _
    by_cases h1 : (r1.length : Int) ≤ t.n
    · rw [if_pos h1, kof_var]
      have e : (r1 ++ m ++ r2)[(t.n + m.length).toNat]? = (r1 ++ r2)[t.n.toNat]? := by
        rw [List.append_assoc, List.getElem?_append_right (by omega), List.getElem?_append_right (by omega), List.getElem?_append_right (by omega)]
        congr 1
        omega
      rw [e]
    · rw [if_neg h1, kof_var]
      have e : (r1 ++ m ++ r2)[t.n.toNat]? = (r1 ++ r2)[t.n.toNat]? := by
        rw [List.append_assoc, List.getElem?_append_left (by omega), List.getElem?_append_left (by omega)]
      rw [e]
  · rw [Con.shift_node _ _ t h, Pl.kof_eq, Pl.kof_eq _ t]
    show (kofs (inK (r1 ++ m ++ r2) t.op t.kind) (t.l.map _) 0).next (ownK (r1 ++ m ++ r2) t.op t.n t.kind) = _
    rw [kofs_map _ (inK (r1 ++ r2) t.op t.kind) _ t.l 0 (fun x hx => ?_), show ownK (r1 ++ m ++ r2) t.op t.n t.kind = ownK (r1 ++ r2) t.op t.n t.kind from funext fun ks => Pl.ownK_scope _ _ _ _ _ _ h]
    rw [List.append_assoc, inK_app, inK_app, ← List.append_assoc, ← inK_len]
    exact ih x hx _ r2 (hp x hx)
/-- substitution keeps kinds -/
theorem kof_subst (ts : List Con) (ks : List K) (r2 : List K) (hl : ts.length = ks.length) (hts : ∀ x ∈ ts, Con.allB x = true) (hks : ∀ i (h : i < ts.length) (h2 : i < ks.length), kof r2 ts[i] = .ok ks[i]) (t : Con) : ∀ (r1 : List K) (k : K), Con.allB t = true → kof (r1 ++ ks ++ r2) t = .ok k → kof (r1 ++ r2) (Con.subst ts t r1.length) = .ok k := by
  induction t using Con.ind with
  | h t ih =>
  intro r1 k ha hk
  obtain ⟨hn, hp⟩ := allB_parts t ha
  have h0 := nodeB_pos t hn
  by_cases h : t.op = 1
  · have hc := clean_node t hn h
    rw [hc] at h0 hk ⊢
    have h0 : 0 ≤ t.n := h0
    rw [kof_var] at hk
    rw [Con.subst_var _ _ _ rfl]
    show kof _ (if t.n < (r1.length : Int) then Con.var t.n else if t.n - r1.length < (ts.length : Int) then Con.shift r1.length (ts.getD (t.n - r1.length).toNat Con.none0) 0 else Con.var (t.n - ts.length)) = _
    by_cases h1 : t.n < (r1.length : Int)
    · rw [if_pos h1, kof_var]
      have e : (r1 ++ ks ++ r2)[t.n.toNat]? = (r1 ++ r2)[t.n.toNat]? := by
        rw [List.append_assoc, List.getElem?_append_left (by omega), List.getElem?_append_left (by omega)]
      rw [← e]
      exact hk
    · rw [if_neg h1]
      by_cases h2 : t.n - r1.length < (ts.length : Int)
      · rw [if_pos h2]
        have hi : (t.n - r1.length).toNat < ts.length := by omega
        have hi2 : (t.n - r1.length).toNat < ks.length := by omega
        have e : (r1 ++ ks ++ r2)[t.n.toNat]? = some ks[(t.n - r1.length).toNat] := by
          rw [List.append_assoc, List.getElem?_append_right (by omega), List.getElem?_append_left (by omega), show t.n.toNat - r1.length = (t.n - r1.length).toNat from by omega, List.getElem?_eq_getElem hi2]
        rw [e] at hk
        injection hk with hk
        rw [List.getD_eq_getElem?_getD, List.getElem?_eq_getElem hi]
        have := kof_shift r1 ts[(t.n - r1.length).toNat] [] r2 (hts _ (List.getElem_mem hi))
        rw [List.nil_append, List.nil_append] at this
        rw [← hk, ← hks _ hi hi2]
        exact this
      · rw [if_neg h2, kof_var]
        have e : (r1 ++ ks ++ r2)[t.n.toNat]? = (r1 ++ r2)[(t.n - ts.length).toNat]? := by
          rw [List.append_assoc, List.getElem?_append_right (by omega), List.getElem?_append_right (by omega), List.getElem?_append_right (by omega)]
          congr 1
          omega
        rw [← e]
        exact hk
  · rw [Con.subst_node _ _ t h, Pl.kof_eq]
    rw [Pl.kof_eq] at hk
    show (kofs (inK (r1 ++ r2) t.op t.kind) (t.l.map _) 0).next (ownK (r1 ++ r2) t.op t.n t.kind) = _
    rw [show ownK (r1 ++ r2) t.op t.n t.kind = ownK (r1 ++ ks ++ r2) t.op t.n t.kind from funext fun ks => Pl.ownK_scope _ _ _ _ _ _ h]
    cases hs : kofs (inK (r1 ++ ks ++ r2) t.op t.kind) t.l 0 with
    | bad e p => rw [hs] at hk; cases hk
    | ok qs =>
      rw [hs] at hk
      obtain ⟨h1, h2⟩ := (Pl.kofs_ok _ _ _ _).1 hs
      have : kofs (inK (r1 ++ r2) t.op t.kind) (t.l.map (fun x => Con.subst ts x (Con.deep t.op r1.length))) 0 = .ok qs := by
        refine (Pl.kofs_ok _ _ _ _).2 ⟨by simp [h1], fun j h3 h4 => ?_⟩
        rw [List.getElem_map]
        have hj : j < t.l.length := by simpa using h3
        have := h2 j hj h4
        rw [List.append_assoc, inK_app, ← List.append_assoc] at this
        have key := ih _ (List.getElem_mem hj) _ _ (hp _ (List.getElem_mem hj)) this
        rw [inK_len] at key
        rw [inK_app]
        exact key
      rw [this]
      exact hk
/-- a fault in a part -/
theorem kof_at_cons {s : List K} {u : Con} {e : Int} {i : Nat} {q : List Nat} (h : kof s u = .bad e (i :: q)) : ∃ hi : i < u.l.length, kof (inK s u.op u.kind) u.l[i] = .bad e q := by
  rw [Pl.kof_eq] at h
  cases hs : kofs (inK s u.op u.kind) u.l 0 with
  | ok ks =>
    rw [hs] at h
    have := (Pl.ownK_bad h).1
    cases this
  | bad e' p' =>
    rw [hs] at h
    injection h with h1 h2
    subst h1 h2
    obtain ⟨j, q', hj, h3, h4⟩ := Pl.kofs_bad _ _ _ _ _ hs
    injection h3 with h3 h5
    subst h5
    rw [Nat.zero_add] at h3
    subst h3
    exact ⟨hj, h4⟩
/-- a fault of the node itself -/
theorem kof_at_nil {s : List K} {u : Con} {e : Int} (h : kof s u = .bad e []) : ∀ x ∈ u.l, ∃ k, kof (inK s u.op u.kind) x = .ok k := by
  rw [Pl.kof_eq] at h
  cases hs : kofs (inK s u.op u.kind) u.l 0 with
  | ok ks =>
    obtain ⟨h1, h2⟩ := (Pl.kofs_ok _ _ _ _).1 hs
    intro x hx
    obtain ⟨j, hj, rfl⟩ := List.getElem_of_mem hx
    exact ⟨_, h2 j hj (by omega)⟩
  | bad e' p' =>
    rw [hs] at h
    injection h with h1 h2
    obtain ⟨j, q', hj, h3, -⟩ := Pl.kofs_bad _ _ _ _ _ hs
    rw [h2] at h3
    cases h3
end Go.Proofs.Ytmjkeejinagokaa
