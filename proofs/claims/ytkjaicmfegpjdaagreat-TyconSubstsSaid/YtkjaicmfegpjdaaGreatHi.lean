/-
  Layer 9: several texts in one (Sa Sc Sd).
-/
import Derived.Test.YtkjaicmfegpjdaaGreatHc
import Derived.Test.YtkjaicmfegpjdaaGreatHa
import Derived.Test.YtkjaicmfegpjdaaGreatHd
import Derived.Deep.RegionHeld3
import Derived.Deep.AppendLies
namespace Go.Proofs.YtkjaicmfegpjdaaGreat
open Go Go.RowKit
open Pl (K Con)
set_option linter.unusedSimpArgs false

/-- a number put into an ascending list -/
def addGo (n : Int) : List Int → Bool → List Int
  | [], done => if done = true then [] else [n]
  | x :: r, done => (if done = false ∧ n ≤ x then [n] else []) ++ ((if x ≠ n then [x] else []) ++ addGo n r (done || decide (n ≤ x)))
def addL (l : List Int) (n : Int) : List Int := addGo n l false
theorem addGo_mem (n y : Int) : ∀ (l : List Int) (done : Bool), y ∈ addGo n l done ↔ (done = false ∧ y = n) ∨ (y ∈ l ∧ y ≠ n) := by
  intro l
  induction l with
  | nil => intro done; rw [addGo]; cases done <;> simp
  | cons x r ih =>
    intro done
    rw [addGo, List.mem_append, List.mem_append, ih]
    have e1 : (y ∈ (if done = false ∧ n ≤ x then [n] else [])) ↔ (done = false ∧ n ≤ x) ∧ y = n := by
      split
      · rename_i h; simp [h]
      · rename_i h; simp [h]
    have e2 : (y ∈ (if x ≠ n then [x] else [])) ↔ x ≠ n ∧ y = x := by
      split
      · rename_i h; simp [h]
      · rename_i h; simp [h]
    rw [e1, e2, List.mem_cons, Bool.or_eq_false_iff, decide_eq_false_iff_not]
    constructor
    · rintro (⟨⟨h1, -⟩, h2⟩ | ⟨h1, h2⟩ | ⟨⟨h1, -⟩, h2⟩ | ⟨h1, h2⟩)
      · exact .inl ⟨h1, h2⟩
      · exact .inr ⟨.inl h2, by rw [h2]; exact h1⟩
      · exact .inl ⟨h1, h2⟩
      · exact .inr ⟨.inr h1, h2⟩
    · rintro (⟨h1, h2⟩ | ⟨h1 | h1, h2⟩)
      · by_cases h3 : n ≤ x
        · exact .inl ⟨⟨h1, h3⟩, h2⟩
        · exact .inr (.inr (.inl ⟨⟨h1, h3⟩, h2⟩))
      · exact .inr (.inl ⟨by rw [← h1]; exact h2, h1⟩)
      · exact .inr (.inr (.inr ⟨h1, h2⟩))
theorem addGo_asc (n : Int) : ∀ (l : List Int) (done : Bool), l.Pairwise (· < ·) → (addGo n l done).Pairwise (· < ·) := by
  intro l
  induction l with
  | nil => intro done _; rw [addGo]; cases done <;> simp
  | cons x r ih =>
    intro done h
    rw [List.pairwise_cons] at h
    rw [addGo]
    have hr := ih (done || decide (n ≤ x)) h.2
    have hx : ∀ y ∈ addGo n r (done || decide (n ≤ x)), (¬ n ≤ x ∧ y = n) ∨ (x < y ∧ y ≠ n) := by
      intro y hy
      rcases (addGo_mem n y r _).1 hy with ⟨h1, h2⟩ | ⟨h1, h2⟩
      · rw [Bool.or_eq_false_iff, decide_eq_false_iff_not] at h1
        exact .inl ⟨h1.2, h2⟩
      · exact .inr ⟨h.1 y h1, h2⟩
    have h2 : ((if x ≠ n then [x] else []) ++ addGo n r (done || decide (n ≤ x))).Pairwise (· < ·) := by
      by_cases hn : x = n
      · rw [if_neg (fun e => e hn), List.nil_append]; exact hr
      · rw [if_pos hn, List.singleton_append, List.pairwise_cons]
        refine ⟨fun y hy => ?_, hr⟩
        rcases hx y hy with ⟨h3, h4⟩ | ⟨h3, -⟩
        · omega
        · exact h3
    by_cases hd : done = false ∧ n ≤ x
    · rw [if_pos hd, List.singleton_append, List.pairwise_cons]
      refine ⟨fun y hy => ?_, h2⟩
      rcases List.mem_append.1 hy with hy | hy
      · by_cases hn : x = n
        · rw [if_neg (fun e => e hn)] at hy; cases hy
        · rw [if_pos hn, List.mem_singleton] at hy
          have := hd.2
          omega
      · rcases hx y hy with ⟨h3, -⟩ | ⟨h3, -⟩
        · exact absurd hd.2 h3
        · have := hd.2
          omega
    · rw [if_neg hd, List.nil_append]; exact h2
theorem foldl_add : ∀ (xs l : List Int), l.Pairwise (· < ·) → (xs.foldl addL l).Pairwise (· < ·) ∧ ∀ y, y ∈ xs.foldl addL l ↔ y ∈ l ∨ y ∈ xs := by
  intro xs
  induction xs with
  | nil => intro l h; exact ⟨h, fun y => by simp⟩
  | cons x r ih =>
    intro l h
    obtain ⟨h1, h2⟩ := ih (addL l x) (addGo_asc x l false h)
    refine ⟨h1, fun y => ?_⟩
    rw [List.foldl_cons, h2 y, List.mem_cons]
    have := addGo_mem x y l false
    unfold addL
    rw [this]
    by_cases hy : y = x
    · simp [hy]
    · simp [hy]
theorem asc_ext : ∀ (l m : List Int), l.Pairwise (· < ·) → m.Pairwise (· < ·) → (∀ y, y ∈ l ↔ y ∈ m) → l = m := by
  intro l
  induction l with
  | nil =>
    intro m _ _ h
    cases m with
    | nil => rfl
    | cons x r => exact absurd ((h x).2 (by simp)) (by simp)
  | cons a l ih =>
    intro m hl hm h
    cases m with
    | nil => exact absurd ((h a).1 (by simp)) (by simp)
    | cons b m =>
      rw [List.pairwise_cons] at hl hm
      have hab : a = b := by
        rcases List.mem_cons.1 ((h a).1 (by simp)) with h1 | h1
        · exact h1
        · rcases List.mem_cons.1 ((h b).2 (by simp)) with h2 | h2
          · exact h2.symm
          · have := hl.1 b h2
            have := hm.1 a h1
            omega
      subst hab
      rw [ih m hl.2 hm.2 (fun y => ?_)]
      constructor
      · intro hy
        rcases List.mem_cons.1 ((h y).1 (List.mem_cons_of_mem _ hy)) with h1 | h1
        · have := hl.1 y hy; omega
        · exact h1
      · intro hy
        rcases List.mem_cons.1 ((h y).2 (List.mem_cons_of_mem _ hy)) with h1 | h1
        · have := hm.1 y hy; omega
        · exact h1
theorem shift_big (m : Int) (t : Con) : ∀ f, Con.allB t = true → 20001 ≤ f → Con.shift m t f = t := by
  induction t using Con.ind with
  | h t ih =>
  intro f h hf
  rw [allB_eq, Bool.and_eq_true, List.all_eq_true] at h
  by_cases h1 : t.op = 1
  · rw [Con.shift_var _ _ t h1, if_neg]
    have := (nodeB_n t h.1).2
    omega
  · rw [Con.shift_node _ _ t h1]
    have : t.l.map (fun x => Con.shift m x (Con.deep t.op f)) = t.l := by
      conv => rhs; rw [← List.map_id t.l]
      exact List.map_congr_left (fun x hx => ih x hx _ (h.2 x hx) (by have := (Con.deep_le t.op f).1; omega))
    rw [this, Con.inside_self]
theorem shift_min (m : Int) (t : Con) (f : Int) (h : Con.allB t = true) : Con.shift m t (min f 20001) = Con.shift m t f := by
  by_cases hf : f ≤ 20001
  · rw [show min f 20001 = f from by omega]
  · rw [show min f 20001 = 20001 from by omega, shift_big m t 20001 h (by omega), shift_big m t f h (by omega)]
theorem shift_min_part (m : Int) (t x : Con) (f : Int) (h : Con.allB x = true) : Con.shift m x (Con.deep t.op (min f 20001)) = Con.shift m x (Con.deep t.op f) := by
  by_cases hf : f ≤ 20001
  · rw [show min f 20001 = f from by omega]
  · rw [shift_big m x _ h (by have := (Con.deep_le t.op (min f 20001)).1; omega), shift_big m x _ h (by have := (Con.deep_le t.op f).1; omega)]
end Go.Proofs.YtkjaicmfegpjdaaGreat
namespace Go.Proofs.YtkjaicmfegpjdaaGreat
open Go Go.RowKit
open Pl (K Con)
set_option linter.unusedSimpArgs false
set_option linter.unusedVariables false

/-- an answer that is a constructor, in the blocks of P and in new ones -/
def RcP (P : Nat → Prop) (x : Con) (w : World) (e : Ending) (w' : World) : Prop := (∃ y, e = .returned y ∧ ConV w' (Ext P w w') x y) ∧ Below w.heap.size w w'
/-- a row of its own that holds these constructors -/
structure CB (P : Nat → Prop) (B : Nat) (wr : World) (l : List Con) (us : List Value) (sv : Value) : Prop where
  row : wr.ownsRow B 28 6 sv l.length us
  kids : ConRow wr (fun q => (P q ∨ (B ≤ q ∧ q < wr.heap.size)) ∧ sv.ownBlock ≠ some q) us l
theorem CB.nil (P : Nat → Prop) (B : Nat) (wr : World) : CB P B wr [] [] (.slice none 0 0) := ⟨World.ownsRow_nil _ _ _ _, ConRow.nil _ _⟩
theorem CB.below {P : Nat → Prop} {B : Nat} {wr W : World} {l : List Con} {us : List Value} {sv : Value} (h : CB P B wr l us sv) (hP : ∀ b, P b → b < wr.heap.size) (hb : Below wr.heap.size wr W) : CB P B W l us sv :=
  ⟨ownsRow6_below h.row hb, (h.kids.keep (Same.of_below hb (fun q hq => by rcases hq.1 with h1 | h1; exact hP q h1; exact h1.2))).mono (fun q hq => ⟨by rcases hq.1 with h1 | h1; exact .inl h1; exact .inr ⟨h1.1, Nat.lt_of_lt_of_le h1.2 hb.size⟩, hq.2⟩)⟩
theorem CB.cons {P S : Nat → Prop} {B : Nat} {wr : World} {l : List Con} {us : List Value} {sv : Value} (h : CB P B wr l us sv) (hP : ∀ b, P b → S b) (hS : ∀ b, B ≤ b → b < wr.heap.size → S b) : ConSl wr S sv l :=
  ConRow.cons h.row h.kids (fun q hq => by rcases hq.1 with h1 | h1; exact hP q h1; exact hS q h1.1 h1.2) hS
theorem CB.push {P Q : Nat → Prop} {B gg cap n : Nat} {wr w1 : World} {l : List Con} {us : List Value} {sv x0 x1 x2 x3 x4 x5 : Value} {y : Con} (h : CB P B wr l us sv) (hn : n = l.length) (hP : ∀ b, P b → b < wr.heap.size)
    (hy : ConV wr Q y (.agg #[x0, x1, x2, x3, x4, x5])) (hQ : ∀ q, Q q → (P q ∨ (B ≤ q ∧ q < wr.heap.size)) ∧ sv.ownBlock ≠ some q)
    (hown : w1.ownsRow B 28 6 (.slice (some ⟨gg, 0, none⟩) (n + 1) cap) (n + 1) (us ++ [x0, x1, x2, x3, x4, x5])) (hgrow : (wr.alloc (.cells #[x0, x1, x2, x3, x4, x5] 28)).grownBy w1 sv.ownBlock) (hat : sv.ownBlock = some gg ∨ gg = wr.heap.size + 1) :
    CB P B w1 (l ++ [y]) (us ++ [x0, x1, x2, x3, x4, x5]) (.slice (some ⟨gg, 0, none⟩) (n + 1) cap) := by
  subst hn
  have hlt : ∀ q, (P q ∨ (B ≤ q ∧ q < wr.heap.size)) → q < wr.heap.size := fun q hq => by rcases hq with h1 | h1; exact hP q h1; exact h1.2
  have hgB : ∀ q, (P q ∨ (B ≤ q ∧ q < wr.heap.size)) ∧ sv.ownBlock ≠ some q → q ≠ gg := by
    rintro q ⟨h1, h2⟩ rfl
    rcases hat with h5 | h5
    · exact h2 h5
    · have := hlt _ h1; omega
  have hs1 : wr.heap.size ≤ w1.heap.size := by have h1 := hgrow.size; rw [size_alloc] at h1; omega
  have hS : Same (fun q => (P q ∨ (B ≤ q ∧ q < wr.heap.size)) ∧ sv.ownBlock ≠ some q) wr w1 := fun q hq =>
    (hgrow.block q (by rw [size_alloc]; have := hlt q hq.1; omega) (fun e => hq.2 e.symm)).trans (Below.heap_alloc wr _ q (hlt q hq.1))
  refine ⟨by rw [List.length_append]; exact hown, ((h.kids.keep hS).push ((hy.mono hQ).keep hS)).mono (fun q hq => ⟨?_, fun e => ?_⟩)⟩
  · rcases hq.1 with h1 | h1
    · exact .inl h1
    · exact .inr ⟨h1.1, by omega⟩
  · have e : (some gg : Option Nat) = some q := e
    injection e with e
    exact hgB q hq e.symm
theorem CB.low {P : Nat → Prop} {B : Nat} {wr : World} {l : List Con} {us : List Value} {sv : Value} (h : CB P B wr l us sv) : ∀ q, sv.ownBlock = some q → B ≤ q ∧ q < wr.heap.size := h.row.lt
theorem cell_eq9 {w w' : World} {g o : Nat} (h : w'.heap[g]? = w.heap[g]?) : w'.cell? ⟨g, o, none⟩ = w.cell? ⟨g, o, none⟩ := by
  simp only [World.cell?]
  rw [h]
theorem row_form6 {w : World} {B z n : Nat} {T : TypeId} {v : Value} {us : List Value} (h : w.ownsRow B T z v n us) : ∃ a c, v = .slice a n c := by
  rcases h.2 with ⟨rfl, rfl⟩ | ⟨q, cap, cur, e, -⟩
  · exact ⟨_, _, rfl⟩
  · exact ⟨_, _, e⟩
theorem con_list {w : World} {P : Nat → Prop} {u : Con} {ka na la : Option Addr} {kn kc nn nc ln lc : Nat} {x0 x1 x2 : Value} (h : ConV w P u (.agg #[x0, x1, x2, .slice ka kn kc, .slice na nn nc, .slice la ln lc])) : ConSl w P (.slice la ln lc) u.l := by
  obtain ⟨-, kv', nv', lv', e, hk, hn, hl⟩ := (conV_iff _ _ _ _).1 h
  simp only [Value.agg.injEq, Array.mk.injEq, List.cons.injEq, and_true, true_and] at e
  obtain ⟨-, -, -, rfl, rfl, rfl⟩ := e
  exact hl
/-- the blocks but for a row's, as they were -/
theorem grown_block {w W : World} {g : Nat} {row : Option Nat} {T : TypeId} {cs : Array Value} (h : Blk w g T cs) (hg : w.grownBy W row) (hn : row ≠ some g) : Blk W g T cs := h.of_eq (hg.block g h.lt (fun e => hn e.symm))
end Go.Proofs.YtkjaicmfegpjdaaGreat
namespace Go.Proofs.YtkjaicmfegpjdaaGreat
open Go Go.RowKit
open Pl (K Con)
set_option linter.unusedSimpArgs false
set_option linter.unusedVariables false

theorem conV_lf (op n : Int) (w : World) (P : Nat → Prop) : ConV w P ⟨op, n, ByteArray.empty, .mk [], [], []⟩ (.agg #[.int .i64 op, .int .i64 n, .string ⟨#[]⟩, .slice none 0 0, .slice none 0 0, .slice none 0 0]) := by
  rw [conV_iff]
  exact ⟨Nat.zero_le _, _, _, _, rfl, kidV_none _ _, ⟨none, 0, rfl, Nat.le_refl _, Nat.zero_le _, fun _ => rfl, (fun z hz => by cases hz), .inl rfl⟩, ⟨none, 0, rfl, Nat.le_refl _, Nat.zero_le _, fun _ => rfl, .inl rfl⟩⟩
theorem allB_part {t : Con} (h : Con.allB t = true) {i : Nat} (hi : i < t.l.length) : Con.allB t.l[i] = true := by
  rw [allB_eq, Bool.and_eq_true, List.all_eq_true] at h
  exact h.2 _ (List.getElem_mem hi)
theorem ext_up {P : Nat → Prop} {w w1 w2 : World} (h : w.heap.size ≤ w1.heap.size) : ∀ q, Ext P w1 w2 q → Ext P w w2 q := fun q hq => by
  rcases hq with hq | hq
  · exact .inl hq
  · exact .inr ⟨Nat.le_trans h hq.1, hq.2⟩
set_option maxRecDepth 100000 in
set_option maxHeartbeats 4000000 in
theorem rshift_any (P : Nat → Prop) (t : Con) (b : Int) (hb0 : -1000000 ≤ b) (hb1 : b ≤ 1000000) : Con.allB t = true → ∀ (f : Int) (w : World) (v : Value), (∀ q, P q → q < w.heap.size) → ConV w P t v → 0 ≤ f → f ≤ 9223372036854775807 →
    Calls Tryz.prog 19 #[v, .int .i64 b, .int .i64 f] w (RcP P (Con.shift b t f) w) := by
  induction t using Con.ind with
  | h t ih =>
  intro hall f w v hP ht hf0 hf1
  have hnode : Con.nodeB t = true := by rw [allB_eq, Bool.and_eq_true] at hall; exact hall.1
  have hnn := nodeB_n t hnode
  obtain ⟨f2, hf2⟩ : ∃ f2, f2 = min f 20001 := ⟨_, rfl⟩
  have hf20 : 0 ≤ f2 ∧ f2 ≤ 20001 := by omega
  have HSM := Lib.hid (show Con.shift b t f2 = Con.shift b t f from by rw [hf2]; exact shift_min b t f hall)
  have HSP := Lib.hid (fun (i : Nat) (hi : i < t.l.length) => (show Con.shift b t.l[i] (Con.deep t.op f2) = Con.shift b t.l[i] (Con.deep t.op f) from by rw [hf2]; exact shift_min_part b t t.l[i] f (allB_part hall hi)))
  have HIH := Lib.hid (fun (i : Nat) (hi : i < t.l.length) (g : Int) (W : World) (x : Value) (h1 : ∀ q, P q → q < W.heap.size) (h2 : ConV W P t.l[i] x) (h3 : 0 ≤ g) (h4 : g ≤ 9223372036854775807) => ih t.l[i] (List.getElem_mem hi) (allB_part hall hi) g W x h1 h2 h3 h4)
  have HCV := Lib.hid (fun W (hW : Same P w W) => ht.keep hW)
  have HP := Lib.hid hP
  obtain ⟨ka, kn, kc, na, nn, nc, la, ln, lc, rfl, -, -, hln⟩ := ht.shape
  have HLN := Lib.hid hln
  obtain ⟨op, hop⟩ : ∃ op, op = t.op := ⟨_, rfl⟩
  obtain ⟨num, hnum⟩ : ∃ num, num = t.n := ⟨_, rfl⟩
  obtain ⟨s, hs⟩ : ∃ s, s = t.s := ⟨_, rfl⟩
  have HOP := Lib.hid hop
  have HSV := Lib.hid (show op = 1 → Con.shift b t f2 = if f2 ≤ num then Con.var (num + b) else t from fun h => by rw [Con.shift_var _ _ t (by rw [← hop]; exact h), hnum])
  have HSN := Lib.hid (show op ≠ 1 → Con.shift b t f2 = Con.inside t (t.l.map (fun x => Con.shift b x (Con.deep t.op f2))) from fun h => Con.shift_node b f2 t (by rw [← hop]; exact h))
  rw [← hop, ← hnum, ← hs] at HCV ⊢
  rw [← hnum] at hnn
  have HF2 := Lib.hid hf2
  have hllen := (node_facts t hnode).2.2
  clear hf2 hop hnum hs hln ih hnode hall
  have hbx := boxN_new w 28 #[.int .i64 op, .int .i64 num, .string s, .slice ka kn kc, .slice na nn nc, .slice la ln lc]
  have hr0 := boxN_new (w.alloc (.cells #[.int .i64 op, .int .i64 num, .string s, .slice ka kn kc, .slice na nn nc, .slice la ln lc] 28)) 28 #[.int .i64 0, .int .i64 0, .string ⟨#[]⟩, .slice none 0 0, .slice none 0 0, .slice none 0 0]
  have hr1 := hr0.1
  rw [size_alloc] at hr1
  have HBX := Lib.hid (hbx.1.alloc (.cells #[.int .i64 0, .int .i64 0, .string ⟨#[]⟩, .slice none 0 0, .slice none 0 0, .slice none 0 0] 28))
  have HRX := Lib.hid hr1
  have HB := Lib.hid (belowStep hr0.2 hbx.2)
  have hmin : ∀ W : World, True := fun _ => trivial
  clear hbx hr0 hr1 ht hP hmin
  by_cases h1 : op = 1
  · have q1 : (op == 1) = true := by rw [h1]; rfl
    have HV := Lib.hid (HSV.out h1)
    clear HSV HSN HSP HIH h1
    by_cases h2 : f2 ≤ num
    · have q2 : decide (f2 ≤ num) = true := decide_eq_true h2
      have HV2 := Lib.hid (show Con.shift b t f = ⟨1, num + b, ByteArray.empty, .mk [], [], []⟩ from by rw [← HSM.out, HV.out, if_pos h2]; rfl)
      have hr := boxN_new (w.alloc (.cells #[.int .i64 op, .int .i64 num, .string s, .slice ka kn kc, .slice na nn nc, .slice la ln lc] 28)) 28 #[.int .i64 1, .int .i64 (num + b), .string ⟨#[]⟩, .slice none 0 0, .slice none 0 0, .slice none 0 0]
      have hr1 := hr.1
      rw [size_alloc] at hr1
      have d0 := hr1.cell 0 (.int .i64 1) rfl
      have d1 := hr1.cell 1 (.int .i64 (num + b)) rfl
      have d2 := hr1.cell 2 (.string ⟨#[]⟩) rfl
      have d3 := hr1.cell 3 (.slice none 0 0) rfl
      have d4 := hr1.cell 4 (.slice none 0 0) rfl
      have d5 := hr1.cell 5 (.slice none 0 0) rfl
      have HB9 := Lib.hid (belowStep hr.2 (boxN_new w 28 #[.int .i64 op, .int .i64 num, .string s, .slice ka kn kc, .slice na nn nc, .slice la ln lc]).2)
      clear hr hr1 HV HSM
      have c0 := HBX.out.cell 0 (.int .i64 op) rfl
      have c1 := HBX.out.cell 1 (.int .i64 num) rfl
      have c2 := HBX.out.cell 2 (.string s) rfl
      have c3 := HBX.out.cell 3 (.slice ka kn kc) rfl
      have c4 := HBX.out.cell 4 (.slice na nn nc) rfl
      have c5 := HBX.out.cell 5 (.slice la ln lc) rfl
      go_enter Tryz.func19, Tryz.ntmps19
      go_upto_region 2 with fail
      rw [← HF2.out]
      go_wp2
      refine bodyPost_ret (v := .agg #[.int .i64 1, .int .i64 (num + b), .string ⟨#[]⟩, .slice none 0 0, .slice none 0 0, .slice none 0 0]) (by simp [results, Tryz.results19, go_sem, d0, d1, d2, d3, d4, d5]) rfl ?_
      rw [HV2.out]
      exact ⟨⟨_, rfl, conV_lf 1 (num + b) _ _⟩, HB9.out⟩
    · have q2 : decide (f2 ≤ num) = false := decide_eq_false h2
      have HV2 := Lib.hid (show Con.shift b t f = t from by rw [← HSM.out, HV.out, if_neg h2])
      have hr := boxN_new (w.alloc (.cells #[.int .i64 op, .int .i64 num, .string s, .slice ka kn kc, .slice na nn nc, .slice la ln lc] 28)) 28 #[.int .i64 op, .int .i64 num, .string s, .slice ka kn kc, .slice na nn nc, .slice la ln lc]
      have hr1 := hr.1
      rw [size_alloc] at hr1
      have d0 := hr1.cell 0 (.int .i64 op) rfl
      have d1 := hr1.cell 1 (.int .i64 num) rfl
      have d2 := hr1.cell 2 (.string s) rfl
      have d3 := hr1.cell 3 (.slice ka kn kc) rfl
      have d4 := hr1.cell 4 (.slice na nn nc) rfl
      have d5 := hr1.cell 5 (.slice la ln lc) rfl
      have HB9 := Lib.hid (belowStep hr.2 (boxN_new w 28 #[.int .i64 op, .int .i64 num, .string s, .slice ka kn kc, .slice na nn nc, .slice la ln lc]).2)
      clear hr hr1 HV HSM
      have c0 := HBX.out.cell 0 (.int .i64 op) rfl
      have c1 := HBX.out.cell 1 (.int .i64 num) rfl
      have c2 := HBX.out.cell 2 (.string s) rfl
      have c3 := HBX.out.cell 3 (.slice ka kn kc) rfl
      have c4 := HBX.out.cell 4 (.slice na nn nc) rfl
      have c5 := HBX.out.cell 5 (.slice la ln lc) rfl
      go_enter Tryz.func19, Tryz.ntmps19
      go_upto_region 2 with fail
      rw [← HF2.out]
      go_wp2
      refine bodyPost_ret (v := .agg #[.int .i64 op, .int .i64 num, .string s, .slice ka kn kc, .slice na nn nc, .slice la ln lc]) (by simp [results, Tryz.results19, go_sem, d0, d1, d2, d3, d4, d5]) rfl ?_
      rw [HV2.out]
      exact ⟨⟨_, rfl, (HCV.out _ (fun q hq => HB9.out.block q (HP.out q hq))).mono (fun q hq => .inl hq)⟩, HB9.out⟩
  have q1 : (op == 1) = false := by simpa using h1
  have HV := Lib.hid (HSN.out h1)
  clear HSV HSN
  have c0 := HBX.out.cell 0 (.int .i64 op) rfl
  have c1 := HBX.out.cell 1 (.int .i64 num) rfl
  have c2 := HBX.out.cell 2 (.string s) rfl
  have c3 := HBX.out.cell 3 (.slice ka kn kc) rfl
  have c4 := HBX.out.cell 4 (.slice na nn nc) rfl
  have c5 := HBX.out.cell 5 (.slice la ln lc) rfl
  go_enter Tryz.func19, Tryz.ntmps19
  go_upto_region 2 with fail
  rw [← HF2.out]
  generalize hw1 : (w.alloc (.cells #[.int .i64 op, .int .i64 num, .string s, .slice ka kn kc, .slice na nn nc, .slice la ln lc] 28)).alloc (.cells #[.int .i64 0, .int .i64 0, .string ⟨#[]⟩, .slice none 0 0, .slice none 0 0, .slice none 0 0] 28) = w1 at *
  have HSZ := Lib.hid (show w1.heap.size = w.heap.size + 2 from by rw [← hw1, size_alloc, size_alloc])
  clear hw1
  go_upto_region 8 with fail
  clear c0 c1 c2 c3 c4 c5 q1
  obtain ⟨dp, hdp⟩ : ∃ dp, dp = Con.deep t.op f2 := ⟨_, rfl⟩
  have hdp2 : 0 ≤ dp ∧ dp ≤ 20002 := by have := Con.deep_le t.op f2; omega
  have HDP := Lib.hid (fun W (hW : Same P w W) => (rdeep_any P t f2 W (.agg #[.int .i64 op, .int .i64 num, .string s, .slice ka kn kc, .slice na nn nc, .slice la ln lc]) (HCV.out W hW) (by omega) (by omega)))
  rw [← hdp] at HDP
  rw [← hdp] at HSP
  rw [← hdp] at HV
  clear hdp
  obtain ⟨F, hF⟩ : ∃ F : Con → Con, F = fun x => Con.shift b x dp := ⟨_, rfl⟩
  have HV2 := Lib.hid (show Con.shift b t f = Con.inside t (t.l.map F) from by rw [← HSM.out, HV.out, hF])
  replace HIH := Lib.hid (fun (i : Nat) (hi : i < t.l.length) (W : World) (x : Value) (h1 : ∀ q, P q → q < W.heap.size) (h2 : ConV W P t.l[i] x) => (show Calls Tryz.prog 19 #[x, .int .i64 b, .int .i64 dp] W (RcP P (F t.l[i]) W) from by rw [hF]; exact HIH.out i hi dp W x h1 h2 hdp2.1 (by omega)))
  clear HV HSP HSM hF
  obtain ⟨iC, ci0, ci1, ci2, ci3⟩ := info_parts infoCon
  go_loopg [7, 8] (ln + 1) (fun gk sl i wr => ∃ (k : Nat) (us : List Value), k ≤ ln ∧ i = .int .i64 k ∧ gk = ln + 1 - k ∧ CB P w1.heap.size wr ((t.l.take k).map F) us sl ∧ Below w1.heap.size w1 wr)
  case atStart => exact ⟨0, [], Nat.zero_le _, rfl, by omega, by rw [List.take_zero]; exact CB.nil _ _ _, Below.refl _ _⟩
  case round =>
    obtain ⟨k, us, hk, rfl, hgk, hcb, hbw⟩ := hrel
    have HCB := Lib.hid hcb
    have HBW := Lib.hid hbw
    replace HBX := Lib.hid (HBX.out.of_eq (hbw.block _ HBX.out.lt))
    replace HRX := Lib.hid (HRX.out.of_eq (hbw.block _ HRX.out.lt))
    have HPR := Lib.hid (fun q (hq : P q) => (show q < wr.heap.size from Nat.lt_of_lt_of_le (HP.out q hq) (Nat.le_trans HB.out.size hbw.size)))
    have HSR := Lib.hid (show Same P w wr from fun q hq => (hbw.block q (by have := HP.out q hq; have := HSZ.out; omega)).trans (HB.out.block q (HP.out q hq)))
    clear hcb hbw
    by_cases hlt : k < ln
    · have hkl : k < t.l.length := by rw [← HLN.out]; exact hlt
      have q5 : decide ((k : Int) < (ln : Int)) = true := decide_eq_true (by omega)
      have q6 : decide ((k : Int) < 0) = false := decide_eq_false (by omega)
      have q7 : decide ((ln : Int) ≤ (k : Int)) = false := decide_eq_false (by omega)
      obtain ⟨eb, off, c', ya, yn, yc, za, zn, zc, pa, pn, pc, e, hpb, f0, f1, f2, f3, f4, f5, hx⟩ := (con_list (HCV.out wr HSR.out)).part k hkl
      injection e with e1 e2 e3
      subst e1 e3
      clear e2
      have HSF := Lib.hid (fun W (hW : Below wr.heap.size wr W) => HIH.out k hkl W _ (fun q hq => Nat.lt_of_lt_of_le (HPR.out q hq) hW.size) (hx.keep (Same.of_below hW HPR.out)))
      have HTK := Lib.hid (show (t.l.take (k + 1)).map F = (t.l.take k).map F ++ [F t.l[k]] from by rw [List.take_succ_eq_append_getElem hkl, List.map_append]; rfl)
      obtain ⟨u, hu⟩ : ∃ u, u = t.l[k] := ⟨_, rfl⟩
      rw [← hu] at HSF HTK f0 f1 f2
      clear hx hu
      obtain ⟨op2, hop2⟩ : ∃ op2, op2 = u.op := ⟨_, rfl⟩
      obtain ⟨num2, hnum2⟩ : ∃ num2, num2 = u.n := ⟨_, rfl⟩
      obtain ⟨s2, hs2⟩ : ∃ s2, s2 = u.s := ⟨_, rfl⟩
      rw [← hop2] at f0 HSF
      rw [← hnum2] at f1 HSF
      rw [← hs2] at f2 HSF
      clear hop2 hnum2 hs2
      have hLk : k = ((t.l.take k).map F).length := by rw [List.length_map, List.length_take]; omega
      obtain ⟨L, hL⟩ : ∃ L, L = (t.l.take k).map F := ⟨_, rfl⟩
      rw [← hL] at HTK HCB hLk
      have HLK := Lib.hid hLk
      clear hLk hL
      obtain ⟨sa, sc, hsv⟩ := row_form6 HCB.out.row
      subst hsv
      rw [← HLK.out] at HCB ⊢
      have HEL := Lib.hid (show ∀ W : World, (∀ q, P q → W.heap[q]? = wr.heap[q]?) → W.cell? ⟨eb, off + k * 6, none⟩ = some (.int .i64 op2) ∧ W.cell? ⟨eb, off + k * 6 + 1, none⟩ = some (.int .i64 num2) ∧ W.cell? ⟨eb, off + k * 6 + 2, none⟩ = some (.string s2) ∧ W.cell? ⟨eb, off + k * 6 + 3, none⟩ = some (.slice ya yn yc) ∧ W.cell? ⟨eb, off + k * 6 + 4, none⟩ = some (.slice za zn zc) ∧ W.cell? ⟨eb, off + k * 6 + 5, none⟩ = some (.slice pa pn pc) from fun W hW => by
        have e := hW eb hpb
        exact ⟨(cell_eq9 e).trans f0, (cell_eq9 e).trans f1, (cell_eq9 e).trans f2, (cell_eq9 e).trans f3, (cell_eq9 e).trans f4, (cell_eq9 e).trans f5⟩)
      have HLOW := Lib.hid HCB.out.low
      have HSS := Lib.hid (show ∀ W : World, Blk W w.heap.size 28 #[.int .i64 op, .int .i64 num, .string s, .slice ka kn kc, .slice na nn nc, .slice (some ⟨eb, off, none⟩) ln lc] → (∀ q, P q → W.heap[q]? = wr.heap[q]?) → (fun W : World => W.cell? ⟨w.heap.size, 0, none⟩ = some (.int .i64 op) ∧ W.cell? ⟨w.heap.size, 1, none⟩ = some (.int .i64 num) ∧ W.cell? ⟨w.heap.size, 2, none⟩ = some (.string s) ∧ W.cell? ⟨w.heap.size, 3, none⟩ = some (.slice ka kn kc) ∧ W.cell? ⟨w.heap.size, 4, none⟩ = some (.slice na nn nc) ∧ W.cell? ⟨w.heap.size, 5, none⟩ = some (.slice (some ⟨eb, off, none⟩) ln lc) ∧ W.cell? ⟨eb, off + k * 6, none⟩ = some (.int .i64 op2) ∧ W.cell? ⟨eb, off + k * 6 + 1, none⟩ = some (.int .i64 num2) ∧ W.cell? ⟨eb, off + k * 6 + 2, none⟩ = some (.string s2) ∧ W.cell? ⟨eb, off + k * 6 + 3, none⟩ = some (.slice ya yn yc) ∧ W.cell? ⟨eb, off + k * 6 + 4, none⟩ = some (.slice za zn zc) ∧ W.cell? ⟨eb, off + k * 6 + 5, none⟩ = some (.slice pa pn pc)) W from fun W h1 h2 => ⟨h1.cell 0 _ rfl, h1.cell 1 _ rfl, h1.cell 2 _ rfl, h1.cell 3 _ rfl, h1.cell 4 _ rfl, h1.cell 5 _ rfl, HEL.out W h2⟩)
      have HKP := Lib.hid (fun W (hW : Below wr.heap.size wr W) => HSS.out W (HBX.out.of_eq (hW.block _ HBX.out.lt)) (fun q hq => hW.block q (HPR.out q hq)))
      have HKG := Lib.hid (fun ws x0 x1 x2 x3 x4 x5 w8 (hW : Below wr.heap.size wr ws) (hg : (ws.alloc (.cells #[x0, x1, x2, x3, x4, x5] 28)).grownBy w8 (Value.slice sa k sc).ownBlock) => HSS.out w8
        (grown_block ((HBX.out.of_eq (hW.block _ HBX.out.lt)).alloc _) hg (fun e => by have := (HLOW.out _ e).1; have := HSZ.out; omega))
        (fun q hq => ((hg.block q (by rw [size_alloc]; have := HPR.out q hq; have := hW.size; omega) (fun e => by have := (HLOW.out _ e.symm).1; have := HP.out q hq; have := HSZ.out; omega)).trans (Below.heap_alloc ws _ q (Nat.lt_of_lt_of_le (HPR.out q hq) hW.size))).trans (hW.block q (HPR.out q hq))))
      simp only at HKP HKG
      have HALC := Lib.hid (fun W o (hW : Below wr.heap.size wr W) => (hW.alloc hW.size o))
      have HD0 := Lib.hid (Below.refl wr.heap.size wr).drew
      have HDQ := Lib.hid (fun W (hW : Below wr.heap.size wr W) => HDP.out W (fun q hq => (hW.block q (HPR.out q hq)).trans (HSR.out q hq)))
      have HS7 := Lib.hid (fun ws x0 x1 x2 x3 x4 x5 (hW : Below wr.heap.size wr ws) => (show (ws.alloc (.cells #[x0, x1, x2, x3, x4, x5] 28)).ownsRow w1.heap.size 28 6 (.slice sa k sc) k us ∧ (∀ j u, [x0, x1, x2, x3, x4, x5][j]? = some u → (ws.alloc (.cells #[x0, x1, x2, x3, x4, x5] 28)).cell? ((⟨ws.heap.size, 0, none⟩ : Addr).add j) = some u) ∧ (ws.alloc (.cells #[x0, x1, x2, x3, x4, x5] 28)).heap.size = ws.heap.size + 1 from by
        have h := (HCB.out.below HPR.out hW).row
        rw [← HLK.out] at h
        exact ⟨h.alloc _, World.news_of_block (cs := #[x0, x1, x2, x3, x4, x5]) (t := 28) (fr := (0, 0)) (boxN_new ws 28 #[x0, x1, x2, x3, x4, x5]).1, size_alloc _ _⟩))
      have hwb : w1.heap.size ≤ wr.heap.size := HBW.out.size
      clear f0 f1 f2 f3 f4 f5 hpb HEL HSS
      have c0 := HBX.out.cell 0 (.int .i64 op) rfl
      have c1 := HBX.out.cell 1 (.int .i64 num) rfl
      have c2 := HBX.out.cell 2 (.string s) rfl
      have c3 := HBX.out.cell 3 (.slice ka kn kc) rfl
      have c4 := HBX.out.cell 4 (.slice na nn nc) rfl
      have c5 := HBX.out.cell 5 (.slice (some ⟨eb, off, none⟩) ln lc) rfl
      go_wp2_with fail
      clear c0 c1 c2 c3 c4 c5
      go_region_held3 (fun W => W.cell? ⟨w.heap.size, 0, none⟩ = some (.int .i64 op) ∧ W.cell? ⟨w.heap.size, 1, none⟩ = some (.int .i64 num) ∧ W.cell? ⟨w.heap.size, 2, none⟩ = some (.string s) ∧ W.cell? ⟨w.heap.size, 3, none⟩ = some (.slice ka kn kc) ∧ W.cell? ⟨w.heap.size, 4, none⟩ = some (.slice na nn nc) ∧ W.cell? ⟨w.heap.size, 5, none⟩ = some (.slice (some ⟨eb, off, none⟩) ln lc) ∧ W.cell? ⟨eb, off + k * 6, none⟩ = some (.int .i64 op2) ∧ W.cell? ⟨eb, off + k * 6 + 1, none⟩ = some (.int .i64 num2) ∧ W.cell? ⟨eb, off + k * 6 + 2, none⟩ = some (.string s2) ∧ W.cell? ⟨eb, off + k * 6 + 3, none⟩ = some (.slice ya yn yc) ∧ W.cell? ⟨eb, off + k * 6 + 4, none⟩ = some (.slice za zn zc) ∧ W.cell? ⟨eb, off + k * 6 + 5, none⟩ = some (.slice pa pn pc))
        (first | (with_reducible exact HKP.out _ HD0.out) | (with_reducible exact HKP.out _ (by assumption)) | (with_reducible exact HKP.out _ (HALC.out _ _ (by assumption))) | (with_reducible exact HKG.out _ _ _ _ _ _ _ _ (by assumption) (by assumption)))
        (first
        | (go_at_call 66; (with_reducible refine (HDQ.out _ (by first | exact HD0.out | assumption)).mono ?_); rintro e wd ⟨rfl, hbd⟩; have hbd2 := belowStep (a := wr) hbd (by first | exact HD0.out | assumption))
        | (go_at_call 19; (with_reducible refine (HSF.out _ (by assumption)).mono ?_); rintro e ws ⟨⟨yv, rfl, hy⟩, hbs⟩; have hbs2 := belowStep (a := wr) hbs (by assumption); obtain ⟨ua, un, uc, va, vn, vc, xa, xn, xc, hyv, -, -, -⟩ := hy.shape; subst hyv; obtain ⟨hrow7, hnew7, hsz7⟩ := HS7.out ws (.int .i64 (F u).op) (.int .i64 (F u).n) (.string (F u).s) (.slice ua un uc) (.slice va vn vc) (.slice xa xn xc) hbs2; have hws := hbs2.size)
        | (refine step_append_lies _ rfl (.tmp 31) (.tmp 42) 26 rfl w1.heap.size 28 iC (.agg #[.int .i64 0, .int .i64 0, .string ByteArray.empty, .slice none 0 0, .slice none 0 0, .slice none 0 0]) 6 104 Tryz.underlying26 ci0 ci1 ci2 ci3 rfl (by decide) (.slice sa k sc) k us (by simp [Act.eval, Act.put]) hrow7 ⟨ws.heap.size, 0, none⟩ 1 1 [.int .i64 (F u).op, .int .i64 (F u).n, .string (F u).s, .slice ua un uc, .slice va vn vc, .slice xa xn xc] (by simp [Act.eval, Act.put]) rfl hnew7 (by simp [Value.oneCell']) (by decide) (by unfold maxLen; omega) (by omega) (by rw [hsz7]; omega) (ws.heap.size + 1) hsz7 ?_; intro gg cap w8 hown hgrow hat hlt8))
      have hcb2 := HCB.out.below HPR.out hbs2
      have hlow := HLOW.out
      have hwd := hbd2.size
      have HCB2 := Lib.hid (hcb2.push HLK.out (fun q hq => Nat.lt_of_lt_of_le (HPR.out q hq) hbs2.size) hy (fun q hq => ⟨by
        rcases hq with hq | hq
        · exact .inl hq
        · exact .inr ⟨by omega, hq.2⟩, fun e => by
        have h1 := hlow q e
        rcases hq with hq | hq
        · have := HP.out q hq; have := HSZ.out; omega
        · have := hq.1; omega⟩) hown hgrow hat)
      have HBW2 := Lib.hid (((belowStep hbs2 HBW.out).alloc (by omega) (.cells #[.int .i64 (F u).op, .int .i64 (F u).n, .string (F u).s, .slice ua un uc, .slice va vn vc, .slice xa xn xc] 28)).grown hgrow (by rw [hsz7]; omega) (fun j hj => (hlow j hj).1))
      rw [← HTK.out] at HCB2
      clear hcb2 hlow hwd hy hown hgrow hat hlt8 hrow7 hnew7 hsz7 hws hbs hbs2 hbd hbd2 HKP HKG HALC HD0 HDQ HS7 HSF HTK HLOW HCB HLK
      go_wp2
      go_roundg (gk - 1)
      case measure => omega
      case rel => exact ⟨k + 1, _, by omega, by go_num, by omega, HCB2.out, HBW2.out⟩
    · have hkn : ln = k := by omega
      subst hkn
      have q5 : decide ((ln : Int) < (ln : Int)) = false := decide_eq_false (by omega)
      have hta : t.l.take ln = t.l := List.take_of_length_le (by rw [HLN.out]; exact Nat.le_refl _)
      rw [hta] at HCB
      clear hta
      obtain ⟨L, hL⟩ : ∃ L, L = t.l.map F := ⟨_, rfl⟩
      rw [← hL] at HCB HV2
      clear hL
      obtain ⟨sa, sc, hsv⟩ := row_form6 HCB.out.row
      subst hsv
      have hcl := HCB.out.cons (S := fun q => P q ∨ (w1.heap.size ≤ q ∧ q < wr.heap.size)) (fun q hq => .inl hq) (fun q h1 h2 => .inr ⟨h1, h2⟩)
      have HIN := Lib.hid (rinside_any (fun q => P q ∨ (w1.heap.size ≤ q ∧ q < wr.heap.size)) t L wr (.agg #[.int .i64 op, .int .i64 num, .string s, .slice ka kn kc, .slice na nn nc, .slice la ln lc]) (.slice sa L.length sc) (fun q hq => by
        rcases hq with hq | hq
        · exact HPR.out q hq
        · exact hq.2) ((HCV.out wr HSR.out).mono (fun q hq => .inl hq)) hcl)
      rw [← HV2.out] at HIN
      generalize L.length = sn at *
      have HBR := Lib.hid (show Below w.heap.size w wr from ⟨HBW.out.os.trans HB.out.os, HBW.out.tape.trans HB.out.tape, HBW.out.output.trans HB.out.output, Nat.le_trans HB.out.size HBW.out.size, fun q hq => (HBW.out.block q (by have := HSZ.out; omega)).trans (HB.out.block q hq)⟩)
      have HWB := Lib.hid (show w.heap.size + 2 ≤ wr.heap.size from by have := HBW.out.size; have := HSZ.out; omega)
      clear hcl HCB HV2
      have c0 := HBX.out.cell 0 (.int .i64 op) rfl
      have c1 := HBX.out.cell 1 (.int .i64 num) rfl
      have c2 := HBX.out.cell 2 (.string s) rfl
      have c3 := HBX.out.cell 3 (.slice ka kn kc) rfl
      have c4 := HBX.out.cell 4 (.slice na nn nc) rfl
      have c5 := HBX.out.cell 5 (.slice la ln lc) rfl
      go_wp2_with fail
      clear c0 c1 c2 c3 c4 c5
      refine HIN.out.mono ?_
      rintro e wq ⟨⟨yv, rfl, hy⟩, hbq⟩
      obtain ⟨ua, un, uc, va, vn, vc, xa, xn, xc, hyv, -, -, -⟩ := hy.shape
      subst hyv
      generalize Con.shift b t f = z at *
      have hzr := HRX.out.of_eq (hbq.block _ HRX.out.lt)
      have t0 := hzr.thaw 0
      have t1 := hzr.thaw 1
      have t2 := hzr.thaw 2
      have t3 := hzr.thaw 3
      have t4 := hzr.thaw 4
      have t5 := hzr.thaw 5
      have r0 := hzr.cell 0 (.int .i64 0) rfl
      have r1 := hzr.cell 1 (.int .i64 0) rfl
      have r2 := hzr.cell 2 (.string ⟨#[]⟩) rfl
      have r3 := hzr.cell 3 (.slice none 0 0) rfl
      have r4 := hzr.cell 4 (.slice none 0 0) rfl
      have r5 := hzr.cell 5 (.slice none 0 0) rfl
      have hz := store6_blk hzr 0 (.int .i64 z.op) (.int .i64 z.n) (.string z.s) (.slice ua un uc) (.slice va vn vc) (.slice xa xn xc)
      rw [put6_all] at hz
      have HE := Lib.hid (show RcP P z w (.returned (.agg #[.int .i64 z.op, .int .i64 z.n, .string z.s, .slice ua un uc, .slice va vn vc, .slice xa xn xc])) (store6 wq (w.heap.size + 1) 0 (.int .i64 z.op) (.int .i64 z.n) (.string z.s) (.slice ua un uc) (.slice va vn vc) (.slice xa xn xc)) from
        ⟨⟨_, rfl, (hy.keep (fun q hq => store6_other _ _ _ _ _ _ _ _ _ q (by
          have := HSZ.out
          rcases hq with hq | hq
          · have := HP.out q hq; omega
          · omega))).mono (fun q hq => by
          rcases hq with hq | hq
          · exact .inl hq
          · exact .inr ⟨by have := HSZ.out; omega, by rw [store6_size]; have := hbq.size; omega⟩)⟩, store6_below (belowStep hbq HBR.out) _ _ _ _ _ _ _ _ (Nat.le_succ _)⟩)
      unfold store6 at hz HE
      simp only [Nat.zero_add] at hz HE
      have z0 := hz.cell 0 (.int .i64 z.op) rfl
      have z1 := hz.cell 1 (.int .i64 z.n) rfl
      have z2 := hz.cell 2 (.string z.s) rfl
      have z3 := hz.cell 3 (.slice ua un uc) rfl
      have z4 := hz.cell 4 (.slice va vn vc) rfl
      have z5 := hz.cell 5 (.slice xa xn xc) rfl
      clear hy hzr hz hbq HIN
      go_wp2
      refine bodyPost_ret (v := .agg #[.int .i64 z.op, .int .i64 z.n, .string z.s, .slice ua un uc, .slice va vn vc, .slice xa xn xc]) (by simp [results, Tryz.results19, go_sem, z0, z1, z2, z3, z4, z5]) rfl ?_
      exact HE.out
end Go.Proofs.YtkjaicmfegpjdaaGreat
