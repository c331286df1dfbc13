/-
  Layer 9: several texts in one (Sf Sg Sh Si Sj).
-/
import Derived.Test.YtkjaicmfegpjdaaGreatHg
import Derived.Test.YtkjaicmfegpjdaaGreatHi
import Derived.Test.YtkjaicmfegpjdaaGreatQg
import Derived.Deep.LoopGhost
import Derived.Test.YtkjaicmfegpjdaaGreatShelf
import Derived.Test.YtkjaicmfegpjdaaGreatHa
namespace Go.Proofs.YtkjaicmfegpjdaaGreat
open Go Go.RowKit
open Pl (K Con)
set_option linter.unusedSimpArgs false

theorem keeps_iff (zs : List Int) (j : Nat) : Lib.keeps zs.toArray j = true ↔ j = 0 ∨ zs[j]! ≠ zs[j - 1]! := by
  unfold Lib.keeps
  rw [decide_eq_true_iff]
  simp
theorem compact_mem (zs : List Int) (y : Int) : y ∈ Lib.compact zs ↔ y ∈ zs := by
  unfold Lib.compact Lib.compactUpTo
  rw [List.mem_map]
  constructor
  · rintro ⟨j, hj, rfl⟩
    rw [List.mem_filter, List.mem_range] at hj
    have : zs.toArray[j]! = zs[j] := by simp [hj.1]
    rw [this]
    exact List.getElem_mem _
  · intro hy
    obtain ⟨j, hj, rfl⟩ := List.getElem_of_mem hy
    clear hy
    induction j with
    | zero => exact ⟨0, List.mem_filter.2 ⟨List.mem_range.2 hj, (keeps_iff zs 0).2 (.inl rfl)⟩, by simp [hj]⟩
    | succ j ih =>
      by_cases hk : zs[j + 1]! = zs[j]!
      · obtain ⟨i, h1, h2⟩ := ih (by omega)
        refine ⟨i, h1, h2.trans ?_⟩
        have e1 : zs[j + 1]! = zs[j + 1] := by simp [hj]
        have e2 : zs[j]! = zs[j] := by simp [show j < zs.length by omega]
        rw [← e1, ← e2, hk]
      · exact ⟨j + 1, List.mem_filter.2 ⟨List.mem_range.2 hj, (keeps_iff zs (j + 1)).2 (.inr hk)⟩, by simp [hj]⟩
theorem compact_asc (zs : List Int) (h : zs.Pairwise (· ≤ ·)) : (Lib.compact zs).Pairwise (· < ·) := by
  unfold Lib.compact Lib.compactUpTo
  rw [List.pairwise_map]
  refine List.Pairwise.imp_of_mem ?_ (List.Pairwise.filter _ List.pairwise_lt_range)
  intro i j hi hj hij
  rw [List.mem_filter, List.mem_range] at hi hj
  have e1 : zs.toArray[i]! = zs[i] := by simp [hi.1]
  have e2 : zs.toArray[j]! = zs[j] := by simp [hj.1]
  rw [e1, e2]
  have hj1 : j - 1 < zs.length := by omega
  have h1 : zs[i] ≤ zs[j - 1] := by
    by_cases he : i = j - 1
    · subst he; exact Int.le_refl _
    · exact List.pairwise_iff_getElem.1 h i (j - 1) hi.1 hj1 (by omega)
  have h2 : zs[j - 1] ≤ zs[j] := List.pairwise_iff_getElem.1 h (j - 1) j hj1 hj.1 (by omega)
  have h3 : zs[j] ≠ zs[j - 1] := by
    rcases (keeps_iff zs j).1 hj.2 with h4 | h4
    · omega
    · have e3 : zs[j]! = zs[j] := by simp [hj.1]
      have e4 : zs[j - 1]! = zs[j - 1] := by simp [hj1]
      rw [e3, e4] at h4
      exact h4
  omega
/-- the reference's list is the program's -/
theorem free_list (t : Con) : (Con.frees t 0).foldl addL [] = freeList t := by
  obtain ⟨h1, h2⟩ := foldl_add (Con.frees t 0) [] List.Pairwise.nil
  refine asc_ext _ _ h1 (compact_asc _ ?_) (fun y => ?_)
  · have := List.pairwise_mergeSort (le := fun x y : Int => decide (x ≤ y)) (fun a b c h h' => by rw [decide_eq_true_iff] at *; omega) (fun a b => by simp; omega) (Con.frees t 0)
    exact this.imp (fun h => by simpa using h)
  · rw [h2 y]
    unfold freeList
    rw [compact_mem, List.mem_mergeSort]
    simp
/-- when Shift refuses, by the list of the free indices -/
theorem falls_list (t : Con) (b f : Int) : (freeList t).any (fun i => decide (f ≤ i) && decide (i - f < -b)) = fallsB t b f := by
  rw [Bool.eq_iff_iff, List.any_eq_true]
  unfold fallsB
  rw [List.any_eq_true]
  have hm : ∀ y, y ∈ freeList t ↔ y ∈ Con.frees t 0 := fun y => by
    unfold freeList
    rw [compact_mem, List.mem_mergeSort]
  constructor
  · rintro ⟨i, h1, h2⟩
    refine ⟨i, (hm i).1 h1, ?_⟩
    simp only [Bool.and_eq_true, decide_eq_true_eq] at h2 ⊢
    omega
  · rintro ⟨i, h1, h2⟩
    refine ⟨i, (hm i).2 h1, ?_⟩
    simp only [Bool.and_eq_true, decide_eq_true_eq] at h2 ⊢
    omega
end Go.Proofs.YtkjaicmfegpjdaaGreat
namespace Go.Proofs.YtkjaicmfegpjdaaGreat
open Go Go.RowKit
open Pl (K Con)
set_option linter.unusedSimpArgs false

/-- what a prefix of the list leaves -/
def addPre (n : Int) : List Int → Bool → List Int
  | [], _ => []
  | x :: r, done => (if done = false ∧ n ≤ x then [n] else []) ++ ((if x ≠ n then [x] else []) ++ addPre n r (done || decide (n ≤ x)))
def addDone (n : Int) (l : List Int) (done : Bool) : Bool := done || l.any (fun x => decide (n ≤ x))
theorem addGo_pre (n : Int) : ∀ (l : List Int) (done : Bool), addGo n l done = addPre n l done ++ (if addDone n l done = true then [] else [n]) := by
  intro l
  induction l with
  | nil => intro done; rw [addGo, addPre, addDone]; simp
  | cons x r ih =>
    intro done
    rw [addGo, addPre, ih]
    have : addDone n (x :: r) done = addDone n r (done || decide (n ≤ x)) := by simp [addDone, Bool.or_assoc]
    rw [this]
    simp [List.append_assoc]
theorem addPre_snoc (n x : Int) : ∀ (l : List Int) (done : Bool), addPre n (l ++ [x]) done = addPre n l done ++ ((if addDone n l done = false ∧ n ≤ x then [n] else []) ++ (if x ≠ n then [x] else [])) := by
  intro l
  induction l with
  | nil => intro done; simp [addPre, addDone]
  | cons y r ih =>
    intro done
    rw [List.cons_append, addPre, addPre, ih]
    have : addDone n (y :: r) done = addDone n r (done || decide (n ≤ y)) := by simp [addDone, Bool.or_assoc]
    rw [this]
    simp [List.append_assoc]
theorem addDone_snoc (n x : Int) (l : List Int) (done : Bool) : addDone n (l ++ [x]) done = (addDone n l done || decide (n ≤ x)) := by
  simp [addDone, Bool.or_assoc]
theorem addPre_len (n : Int) : ∀ (l : List Int) (done : Bool), (addPre n l done).length ≤ l.length + (if done = false ∧ addDone n l done = true then 1 else 0) := by
  intro l
  induction l with
  | nil => intro done; simp [addPre]
  | cons x r ih =>
    intro done
    rw [addPre, List.length_append, List.length_append]
    have h := ih (done || decide (n ≤ x))
    have : addDone n (x :: r) done = addDone n r (done || decide (n ≤ x)) := by simp [addDone, Bool.or_assoc]
    rw [this, List.length_cons]
    have h1 : (if x ≠ n then [x] else []).length ≤ 1 := by split <;> simp
    have hm : ∀ d : Bool, addDone n r true = true := fun d => by simp [addDone]
    cases done
    · by_cases hx : n ≤ x
      · have e1 : (if (false : Bool) = false ∧ n ≤ x then [n] else []) = [n] := if_pos ⟨rfl, hx⟩
        have e2 : (false || decide (n ≤ x)) = true := by rw [decide_eq_true hx]; rfl
        have e3 : (if (true : Bool) = false ∧ addDone n r true = true then 1 else 0) = 0 := if_neg (by simp)
        have e4 : (if (false : Bool) = false ∧ addDone n r true = true then 1 else 0) = 1 := if_pos ⟨rfl, hm true⟩
        rw [e2] at h ⊢
        rw [e3] at h
        rw [e1, e4, List.length_singleton]
        omega
      · have e1 : (if (false : Bool) = false ∧ n ≤ x then [n] else []) = [] := if_neg (fun e => hx e.2)
        have e2 : (false || decide (n ≤ x)) = false := by rw [decide_eq_false hx]; rfl
        rw [e2] at h ⊢
        rw [e1, List.length_nil]
        omega
    · have e1 : (if (true : Bool) = false ∧ n ≤ x then [n] else []) = [] := if_neg (by simp)
      have e3 : ∀ b : Bool, (if (true : Bool) = false ∧ addDone n r b = true then 1 else 0) = 0 := fun b => if_neg (by simp)
      rw [show (true || decide (n ≤ x)) = true from rfl] at h ⊢
      rw [e3] at h ⊢
      rw [e1, List.length_nil]
      omega
theorem addPre_le (n : Int) (l : List Int) : (addPre n l false).length ≤ l.length + 1 := by
  have := addPre_len n l false
  split at this <;> omega
theorem addL_len (l : List Int) (n : Int) : (addL l n).length ≤ l.length + 1 := by
  unfold addL
  rw [addGo_pre, List.length_append]
  have := addPre_len n l false
  cases h : addDone n l false
  · rw [h] at this
    rw [if_neg (by simp)] at this
    simp
    omega
  · rw [h, if_pos ⟨rfl, rfl⟩] at this
    simp
    omega
theorem foldl_add_len : ∀ (xs l : List Int), (xs.foldl addL l).length ≤ l.length + xs.length := by
  intro xs
  induction xs with
  | nil => intro l; simp
  | cons x r ih =>
    intro l
    rw [List.foldl_cons, List.length_cons]
    have := ih (addL l x)
    have := addL_len l x
    omega
theorem frees_len (t : Con) : ∀ d, (Con.frees t d).length ≤ t.size := by
  induction t using Con.ind with
  | h t ih =>
  intro d
  rw [Con.size_eq]
  by_cases h : t.op = 1
  · rw [frees_var _ _ h]; split <;> simp
  · rw [frees_node _ _ h]
    have : ∀ l : List Con, (∀ x ∈ l, x ∈ t.l) → (l.flatMap (fun x => Con.frees x (Con.deep t.op d))).length ≤ Con.sizes l := by
      intro l
      induction l with
      | nil => intro _; simp
      | cons x r ihr =>
        intro hm
        rw [List.flatMap_cons, List.length_append, Con.sizes_cons]
        have := ih x (hm x List.mem_cons_self) (Con.deep t.op d)
        have := ihr (fun y hy => hm y (List.mem_cons_of_mem _ hy))
        omega
    have := this t.l (fun _ h => h)
    omega
end Go.Proofs.YtkjaicmfegpjdaaGreat
namespace Go.Proofs.YtkjaicmfegpjdaaGreat
open Go Go.RowKit
open Pl (K Con)
set_option linter.unusedSimpArgs false
set_option linter.unusedVariables false

/-- a row of numbers of one's own -/
def NumRow (w : World) (B : Nat) (v : Value) (l : List Int) : Prop := w.ownsRow B 3 1 v l.length (l.map (Value.int .i64))
def NumP (B : Nat) (l : List Int) (w : World) (e : Ending) (w' : World) : Prop := (∃ y, e = .returned y ∧ NumRow w' B y l) ∧ Below w.heap.size w w'
theorem NumRow.nil (w : World) (B : Nat) : NumRow w B (.slice none 0 0) [] := World.ownsRow_nil _ _ _ _
theorem NumRow.at {w : World} {B : Nat} {v : Value} {l : List Int} (h : NumRow w B v l) : ∃ a c, v = .slice a l.length c ∧ l.length ≤ c ∧ c ≤ maxLen ∧ ∀ (j : Nat) (hj : j < l.length), ∃ g, a = some ⟨g, 0, none⟩ ∧ g < w.heap.size ∧ w.cell? ⟨g, j, none⟩ = some (.int .i64 l[j]) := by
  have hc := h
  rcases h.2 with ⟨rfl, h0⟩ | ⟨g, cap, cu, rfl, hbg, hg, hnc, hcm, hcs, htake⟩
  · exact ⟨none, 0, by rw [h0], by omega, Nat.zero_le _, fun j hj => absurd hj (by omega)⟩
  · exact ⟨_, cap, rfl, hnc, hcm, fun j hj => ⟨g, rfl, (hc.lt g rfl).2, by rw [hc.cellAt j (by omega), List.getElem?_map, List.getElem?_eq_getElem hj]; rfl⟩⟩
theorem NumRow.cell {w : World} {B g n c : Nat} {l : List Int} (h : NumRow w B (.slice (some ⟨g, 0, none⟩) n c) l) (j : Nat) (hj : j < l.length) : w.cell? ⟨g, j, none⟩ = some (.int .i64 l[j]) := by
  obtain ⟨a, c', e, -, -, hat⟩ := h.at
  injection e with e1 e2 e3
  subst e1
  obtain ⟨g', e, -, hc⟩ := hat j hj
  injection e with e
  injection e with e
  subst e
  exact hc
theorem NumRow.addr {w : World} {B n c : Nat} {a : Option Addr} {l : List Int} (h : NumRow w B (.slice a n c) l) (hl : 0 < l.length) : ∃ g, a = some ⟨g, 0, none⟩ := by
  obtain ⟨a', c', e, -, -, hat⟩ := h.at
  injection e with e1 e2 e3
  subst e1
  obtain ⟨g', e, -, -⟩ := hat 0 hl
  exact ⟨g', e⟩
theorem NumRow.below {w W : World} {B : Nat} {v : Value} {l : List Int} (h : NumRow w B v l) (hb : Below w.heap.size w W) : NumRow W B v l :=
  World.ownsRow.kept (row := none) h ⟨hb.os, hb.tape, hb.output, hb.size, fun i hi _ => hb.block i hi⟩ (by cases ho : v.ownBlock with | none => exact .inl rfl | some k => exact .inr (by simp))
theorem NumRow.base {w : World} {B B2 : Nat} {v : Value} {l : List Int} (h : NumRow w B v l) (hb : B2 ≤ B) : NumRow w B2 v l := ⟨h.1, h.2.imp id fun ⟨g, cap, cur, h1, h2, h3⟩ => ⟨g, cap, cur, h1, Nat.le_trans hb h2, h3⟩⟩
theorem numRow_app {w : World} {B m : Nat} {v : Value} {l : List Int} {n : Int} {us : List Value} (h : w.ownsRow B 3 1 v m us) (hm : m = (l ++ [n]).length) (hu : us = (l ++ [n]).map (Value.int .i64)) : NumRow w B v (l ++ [n]) := by
  subst hm hu
  exact h
theorem below_app9 {w wr w1 : World} {v : Value} {B n : Nat} {e : TypeId} {xs : List Value} {o : Obj} (hbr : Below B w wr) (hB : B ≤ wr.heap.size) (hown : wr.ownsRow B e 1 v n xs) (hg : (wr.alloc o).grownBy w1 v.ownBlock) : Below B w w1 :=
  (hbr.alloc hB o).grown hg (by simp; omega) (fun j hj => (hown.lt j hj).1)
theorem infoInt9 : (Tryz.prog.info? 3).map (fun i => (i.zero, i.size, i.bytes)) = some (some (.int .i64 0), 1, 8) := by kernel_rfl
/-- what one number leaves -/
def stepA (n x : Int) (dn : Bool) : List Int := if dn = false ∧ n ≤ x then [n] else []
def stepB (n x : Int) : List Int := if x ≠ n then [x] else []
set_option maxRecDepth 100000 in
set_option maxHeartbeats 2000000 in
theorem radd_any (l : List Int) (n : Int) (B : Nat) (w : World) (v : Value) (h : NumRow w B v l) (hB : B ≤ w.heap.size) (hlen : l.length ≤ 1000000) :
    Calls Tryz.prog 112 #[v, .int .i64 n] w (NumP B (addL l n) w) := by
  have HR := Lib.hid (fun W (hW : Below w.heap.size w W) => h.below hW)
  obtain ⟨a, c, rfl, -, -, -⟩ := h.at
  obtain ⟨m, hm⟩ : ∃ m, m = l.length := ⟨_, rfl⟩
  have HM := Lib.hid hm
  have HPL := Lib.hid (fun k => show (addPre n (l.take k) false).length ≤ 1000001 from by have := addPre_le n (l.take k); rw [List.length_take] at this; omega)
  have HFIN := Lib.hid (show addL l n = addPre n l false ++ (if addDone n l false = true then [] else [n]) from addGo_pre n l false)
  have HBB := Lib.hid hB
  rw [← hm] at HR hlen ⊢
  clear h hm hB
  obtain ⟨iI, hi, hz0, hz1, hz2⟩ := info_parts infoInt9
  go_enter Tryz.func112, Tryz.ntmps112
  go_wp2
  go_loopg [5, 6, 7] (m + 1) (fun gk ov dn i wr => ∃ k : Nat, k ≤ m ∧ i = .int .i64 k ∧ dn = .bool (addDone n (l.take k) false) ∧ gk = m + 1 - k ∧ NumRow wr w.heap.size ov (addPre n (l.take k) false) ∧ Below w.heap.size w wr)
  case atStart => exact ⟨0, Nat.zero_le _, rfl, by rw [List.take_zero]; rfl, by omega, by rw [List.take_zero]; exact NumRow.nil _ _, Below.refl _ _⟩
  case round =>
    obtain ⟨k, hk, rfl, rfl, hgk, hrow, hbr⟩ := hrel
    have HO := Lib.hid hrow
    have HBR := Lib.hid hbr
    replace HPL := Lib.hid (HPL.out k)
    by_cases hlt : k < m
    · have hkl : k < l.length := by rw [← HM.out]; exact hlt
      have q5 : decide ((k : Int) < (m : Int)) = true := decide_eq_true (by omega)
      have HTK := Lib.hid (show addPre n (l.take (k + 1)) false = addPre n (l.take k) false ++ (stepA n l[k] (addDone n (l.take k) false) ++ stepB n l[k]) ∧ addDone n (l.take (k + 1)) false = (addDone n (l.take k) false || decide (n ≤ l[k])) from by
        rw [List.take_succ_eq_append_getElem hkl]; exact ⟨addPre_snoc n l[k] _ false, addDone_snoc n l[k] _ false⟩)
      obtain ⟨g, rfl⟩ := (HR.out wr hbr).addr (by omega)
      have HC := Lib.hid (fun W (hW : Below w.heap.size w W) => (HR.out W hW).cell k hkl)
      obtain ⟨x, hx0⟩ : ∃ x, x = l[k] := ⟨_, rfl⟩
      rw [← hx0] at HC HTK
      clear hbr hrow hx0 HFIN HR HM hkl
      obtain ⟨PRE0, hp0⟩ : ∃ p, p = addPre n (l.take k) false := ⟨_, rfl⟩
      rw [← hp0] at HO HTK HPL
      obtain ⟨dn, hdn⟩ : ∃ d, d = addDone n (l.take k) false := ⟨_, rfl⟩
      rw [← hdn] at HTK ⊢
      clear hp0 hdn
      have c0 := HC.out wr HBR.out
      cases dn
      · by_cases hn : n ≤ x
        · have q6 : decide (n ≤ x) = true := decide_eq_true hn
          go_wp2_with (at_builtin; refine wpList_append_own _ rfl _ _ 31 rfl w.heap.size 3 iI (.int .i64 0) 1 8 Tryz.underlying31 hi hz0 hz1 hz2 rfl (by decide) _ _ _ rfl (HO.out.alloc _) ⟨wr.heap.size, 0, none⟩ 1 1 [.int .i64 n] rfl rfl ?c1x1 ?c2x1 ?c3x1 ?c4x1 ?c5x1 ?_)
          try case c1x1 =>
            intro j u hj
            match j, hj with
            | 0, hj => simp at hj; subst hj; simp [Addr.add]
          case c2x1 => first | rfl | intro u hu; simp at hu; subst hu; rfl
          case c3x1 => have := HPL.out; unfold maxLen; omega
          case c4x1 => have := HPL.out; omega
          case c5x1 => have := HBR.out.size; simp; omega
          intro v' w1 hown' hgrow _
          have HB1 := Lib.hid (below_app9 HBR.out HBR.out.size HO.out hgrow)
          have HO1 := Lib.hid (numRow_app (l := PRE0) (n := n) hown' (by simp) (by simp))
          have HP1 := Lib.hid (show PRE0 ++ (stepA n x false ++ stepB n x) = (PRE0 ++ [n]) ++ stepB n x from by rw [show stepA n x false = [n] from if_pos ⟨rfl, hn⟩, List.append_assoc])
          have HD1 := Lib.hid (show (false || decide (n ≤ x)) = true from by rw [q6]; rfl)
          replace HPL := Lib.hid (show (PRE0 ++ [n]).length ≤ 1000002 from by have := HPL.out; simp; omega)
          obtain ⟨PRE, hp1⟩ : ∃ p, p = PRE0 ++ [n] := ⟨_, rfl⟩
          rw [← hp1] at HO1 HP1 HPL
          clear hp1 hown' hgrow HO HBR c0 hn q6
          have HO := HO1
          have HBR := HB1
          have c0 := HC.out w1 HBR.out
          clear HO1 HB1 HC
          rename World => wr
          by_cases hx : x = n
          · have q7 : (x != n) = false := by rw [hx]; simp
            have HE := Lib.hid (show addPre n (l.take (k + 1)) false = PRE from by rw [HTK.out.1, HP1.out, show stepB n x = [] from if_neg (fun e => e hx), List.append_nil])
            clear hx
            go_wp2
            go_roundg (gk - 1)
            case measure => omega
            case rel => exact ⟨k + 1, by omega, by go_num, by rw [HTK.out.2, HD1.out], by omega, by rw [HE.out]; exact HO.out, HBR.out⟩
          · have q7 : (x != n) = true := by simp [hx]
            have HE := Lib.hid (show addPre n (l.take (k + 1)) false = PRE ++ [x] from by rw [HTK.out.1, HP1.out, show stepB n x = [x] from if_pos hx])
            clear hx
            go_wp2_with (at_builtin; refine wpList_append_own _ rfl _ _ 31 rfl w.heap.size 3 iI (.int .i64 0) 1 8 Tryz.underlying31 hi hz0 hz1 hz2 rfl (by decide) _ _ _ rfl (HO.out.alloc _) ⟨wr.heap.size, 0, none⟩ 1 1 [.int .i64 x] rfl rfl ?c1x2 ?c2x2 ?c3x2 ?c4x2 ?c5x2 ?_)
            try case c1x2 =>
              intro j u hj
              match j, hj with
              | 0, hj => simp at hj; subst hj; simp [Addr.add]
            case c2x2 => first | rfl | intro u hu; simp at hu; subst hu; rfl
            case c3x2 => have := HPL.out; unfold maxLen; omega
            case c4x2 => have := HPL.out; omega
            case c5x2 => have := HBR.out.size; simp; omega
            intro v' w1 hown' hgrow _
            have HB1 := Lib.hid (below_app9 HBR.out HBR.out.size HO.out hgrow)
            have HO1 := Lib.hid (numRow_app (l := PRE) (n := x) hown' (by simp) (by simp))
            rw [← HE.out] at HO1
            clear hown' hgrow HO HE HBR c0
            go_wp2
            go_roundg (gk - 1)
            case measure => omega
            case rel => exact ⟨k + 1, by omega, by go_num, by rw [HTK.out.2, HD1.out], by omega, HO1.out, HB1.out⟩
        · have q6 : decide (n ≤ x) = false := decide_eq_false hn
          obtain ⟨PRE, hp1⟩ : ∃ p, p = PRE0 := ⟨_, rfl⟩
          have HP1 := Lib.hid (show PRE0 ++ (stepA n x false ++ stepB n x) = PRE ++ stepB n x from by rw [hp1, show stepA n x false = [] from if_neg (fun e => hn e.2), List.nil_append])
          rw [← hp1] at HO HPL
          have HD1 := Lib.hid (show (false || decide (n ≤ x)) = false from by rw [q6]; rfl)
          clear hp1 HC hn
          by_cases hx : x = n
          · have q7 : (x != n) = false := by rw [hx]; simp
            have HE := Lib.hid (show addPre n (l.take (k + 1)) false = PRE from by rw [HTK.out.1, HP1.out, show stepB n x = [] from if_neg (fun e => e hx), List.append_nil])
            clear hx
            go_wp2
            go_roundg (gk - 1)
            case measure => omega
            case rel => exact ⟨k + 1, by omega, by go_num, by rw [HTK.out.2, HD1.out], by omega, by rw [HE.out]; exact HO.out, HBR.out⟩
          · have q7 : (x != n) = true := by simp [hx]
            have HE := Lib.hid (show addPre n (l.take (k + 1)) false = PRE ++ [x] from by rw [HTK.out.1, HP1.out, show stepB n x = [x] from if_pos hx])
            clear hx
            go_wp2_with (at_builtin; refine wpList_append_own _ rfl _ _ 31 rfl w.heap.size 3 iI (.int .i64 0) 1 8 Tryz.underlying31 hi hz0 hz1 hz2 rfl (by decide) _ _ _ rfl (HO.out.alloc _) ⟨wr.heap.size, 0, none⟩ 1 1 [.int .i64 x] rfl rfl ?c1x3 ?c2x3 ?c3x3 ?c4x3 ?c5x3 ?_)
            try case c1x3 =>
              intro j u hj
              match j, hj with
              | 0, hj => simp at hj; subst hj; simp [Addr.add]
            case c2x3 => first | rfl | intro u hu; simp at hu; subst hu; rfl
            case c3x3 => have := HPL.out; unfold maxLen; omega
            case c4x3 => have := HPL.out; omega
            case c5x3 => have := HBR.out.size; simp; omega
            intro v' w1 hown' hgrow _
            have HB1 := Lib.hid (below_app9 HBR.out HBR.out.size HO.out hgrow)
            have HO1 := Lib.hid (numRow_app (l := PRE) (n := x) hown' (by simp) (by simp))
            rw [← HE.out] at HO1
            clear hown' hgrow HO HE HBR c0
            go_wp2
            go_roundg (gk - 1)
            case measure => omega
            case rel => exact ⟨k + 1, by omega, by go_num, by rw [HTK.out.2, HD1.out], by omega, HO1.out, HB1.out⟩
      · obtain ⟨PRE, hp1⟩ : ∃ p, p = PRE0 := ⟨_, rfl⟩
        have HP1 := Lib.hid (show PRE0 ++ (stepA n x true ++ stepB n x) = PRE ++ stepB n x from by rw [hp1, show stepA n x true = [] from if_neg (by simp), List.nil_append])
        rw [← hp1] at HO HPL
        have HD1 := Lib.hid (show (true || decide (n ≤ x)) = true from rfl)
        clear hp1 HC
        by_cases hx : x = n
        · have q7 : (x != n) = false := by rw [hx]; simp
          have HE := Lib.hid (show addPre n (l.take (k + 1)) false = PRE from by rw [HTK.out.1, HP1.out, show stepB n x = [] from if_neg (fun e => e hx), List.append_nil])
          clear hx
          go_wp2
          go_roundg (gk - 1)
          case measure => omega
          case rel => exact ⟨k + 1, by omega, by go_num, by rw [HTK.out.2, HD1.out], by omega, by rw [HE.out]; exact HO.out, HBR.out⟩
        · have q7 : (x != n) = true := by simp [hx]
          have HE := Lib.hid (show addPre n (l.take (k + 1)) false = PRE ++ [x] from by rw [HTK.out.1, HP1.out, show stepB n x = [x] from if_pos hx])
          clear hx
          go_wp2_with (at_builtin; refine wpList_append_own _ rfl _ _ 31 rfl w.heap.size 3 iI (.int .i64 0) 1 8 Tryz.underlying31 hi hz0 hz1 hz2 rfl (by decide) _ _ _ rfl (HO.out.alloc _) ⟨wr.heap.size, 0, none⟩ 1 1 [.int .i64 x] rfl rfl ?c1x4 ?c2x4 ?c3x4 ?c4x4 ?c5x4 ?_)
          try case c1x4 =>
            intro j u hj
            match j, hj with
            | 0, hj => simp at hj; subst hj; simp [Addr.add]
          case c2x4 => first | rfl | intro u hu; simp at hu; subst hu; rfl
          case c3x4 => have := HPL.out; unfold maxLen; omega
          case c4x4 => have := HPL.out; omega
          case c5x4 => have := HBR.out.size; simp; omega
          intro v' w1 hown' hgrow _
          have HB1 := Lib.hid (below_app9 HBR.out HBR.out.size HO.out hgrow)
          have HO1 := Lib.hid (numRow_app (l := PRE) (n := x) hown' (by simp) (by simp))
          rw [← HE.out] at HO1
          clear hown' hgrow HO HE HBR c0
          go_wp2
          go_roundg (gk - 1)
          case measure => omega
          case rel => exact ⟨k + 1, by omega, by go_num, by rw [HTK.out.2, HD1.out], by omega, HO1.out, HB1.out⟩
    · have hkm : k = m := by omega
      subst hkm
      have q5 : decide ((k : Int) < (k : Int)) = false := decide_eq_false (by omega)
      have hta : l.take k = l := List.take_of_length_le (by rw [HM.out]; exact Nat.le_refl _)
      rw [hta] at HO HPL ⊢
      clear hta hbr hrow HR
      obtain ⟨PRE, hp1⟩ : ∃ p, p = addPre n l false := ⟨_, rfl⟩
      rw [← hp1] at HO HPL HFIN
      clear hp1
      obtain ⟨dn, hdn⟩ : ∃ d, d = addDone n l false := ⟨_, rfl⟩
      rw [← hdn] at HFIN ⊢
      clear hdn
      cases dn
      · have HE := Lib.hid (show addL l n = PRE ++ [n] from by rw [HFIN.out, if_neg (by simp)])
        go_wp2_with (at_builtin; refine wpList_append_own _ rfl _ _ 31 rfl w.heap.size 3 iI (.int .i64 0) 1 8 Tryz.underlying31 hi hz0 hz1 hz2 rfl (by decide) _ _ _ rfl (HO.out.alloc _) ⟨wr.heap.size, 0, none⟩ 1 1 [.int .i64 n] rfl rfl ?c1x5 ?c2x5 ?c3x5 ?c4x5 ?c5x5 ?_)
        try case c1x5 =>
          intro j u hj
          match j, hj with
          | 0, hj => simp at hj; subst hj; simp [Addr.add]
        case c2x5 => first | rfl | intro u hu; simp at hu; subst hu; rfl
        case c3x5 => have := HPL.out; unfold maxLen; omega
        case c4x5 => have := HPL.out; omega
        case c5x5 => have := HBR.out.size; simp; omega
        intro v' w1 hown' hgrow _
        have HB1 := Lib.hid (below_app9 HBR.out HBR.out.size HO.out hgrow)
        have HO1 := Lib.hid (numRow_app (l := PRE) (n := n) hown' (by simp) (by simp))
        rw [← HE.out] at HO1
        clear hown' hgrow HO HBR
        go_wp2
        go_ret
        exact ⟨⟨_, rfl, HO1.out.base HBB.out⟩, HB1.out⟩
      · have HE := Lib.hid (show addL l n = PRE from by rw [HFIN.out, if_pos rfl, List.append_nil])
        rw [← HE.out] at HO
        go_wp2
        go_ret
        exact ⟨⟨_, rfl, HO.out.base HBB.out⟩, HBR.out⟩
theorem flat_len (F : Con → List Int) (hF : ∀ x, (F x).length ≤ x.size) : ∀ l : List Con, (l.flatMap F).length ≤ Con.sizes l := by
  intro l
  induction l with
  | nil => simp
  | cons x r ih =>
    rw [List.flatMap_cons, List.length_append, Con.sizes_cons]
    have := hF x
    omega
set_option maxRecDepth 100000 in
set_option maxHeartbeats 4000000 in
theorem rfree_any (P : Nat → Prop) (t : Con) : Con.allB t = true → ∀ (d : Int) (acc : List Int) (B : Nat) (w : World) (lv v : Value), (∀ q, P q → q < w.heap.size) → ConV w P t v → NumRow w B lv acc → B ≤ w.heap.size → 0 ≤ d → d + t.depth ≤ 100000 → acc.length + t.size ≤ 200000 →
    Calls Tryz.prog 64 #[lv, v, .int .i64 d] w (NumP B ((Con.frees t d).foldl addL acc) w) := by
  induction t using Con.ind with
  | h t ih =>
  intro hall d acc B w lv v hP ht hr hB hd0 hd1 hsz
  have hnode : Con.nodeB t = true := by rw [allB_eq, Bool.and_eq_true] at hall; exact hall.1
  have hnn := nodeB_n t hnode
  have hdpos := Con.depth_pos t
  have hdi : d ≤ 100000 := by omega
  have hsp : 1 ≤ t.size := by rw [Con.size_eq]; omega
  have HIH := Lib.hid (fun (i : Nat) (hi : i < t.l.length) (g : Int) (acc' : List Int) (W : World) (lx x : Value) (h1 : ∀ q, P q → q < W.heap.size) (h2 : ConV W P t.l[i] x) (h2' : NumRow W B lx acc') (hB : B ≤ W.heap.size) (h3 : 0 ≤ g) (h4 : g ≤ d + 1) (h5 : acc'.length + t.l[i].size ≤ 200000) => ih t.l[i] (List.getElem_mem hi) (allB_part hall hi) g acc' B W lx x h1 h2 h2' hB h3 (by have := depth_part (List.getElem_mem hi); omega) h5)
  have HCV := Lib.hid (fun W (hW : Same P w W) => ht.keep hW)
  have HRW := Lib.hid (fun W (hW : Below w.heap.size w W) => hr.below hW)
  have HP := Lib.hid hP
  have HBB := Lib.hid hB
  have HAL := Lib.hid (show acc.length + (1 + Con.sizes t.l) ≤ 200000 from by rw [Con.size_eq] at hsz; exact hsz)
  have hacc : acc.length ≤ 200000 := by omega
  obtain ⟨ka, kn, kc, na, nn, nc, la, ln, lc, rfl, -, -, hln⟩ := ht.shape
  have HLN := Lib.hid hln
  obtain ⟨op, hop⟩ : ∃ op, op = t.op := ⟨_, rfl⟩
  obtain ⟨num, hnum⟩ : ∃ num, num = t.n := ⟨_, rfl⟩
  obtain ⟨s, hs⟩ : ∃ s, s = t.s := ⟨_, rfl⟩
  have HFV := Lib.hid (show op = 1 → d ≤ num → Con.frees t d = [num - d] from fun h h2 => by rw [frees_var t d (by rw [← hop]; exact h), if_pos (by rw [← hnum]; exact h2), hnum])
  have HFN := Lib.hid (show ¬ (op = 1 ∧ d ≤ num) → Con.frees t d = t.l.flatMap (fun x => Con.frees x (Con.deep t.op d)) from fun h => by
    by_cases h1 : t.op = 1
    · rw [frees_var t d h1, if_neg (fun e => h ⟨by rw [hop]; exact h1, by rw [hnum]; exact e⟩), leaf_none t hnode (.inl h1)]; rfl
    · exact frees_node t d h1)
  rw [← hop, ← hnum, ← hs] at HCV ⊢
  rw [← hnum] at hnn
  have hllen := (node_facts t hnode).2.2
  clear hop hnum hs hln ih hnode hall ht hr hd1 hdpos hsz hP hB hsp
  have hbx := boxN_new w 28 #[.int .i64 op, .int .i64 num, .string s, .slice ka kn kc, .slice na nn nc, .slice la ln lc]
  have HBX := Lib.hid hbx.1
  have HB := Lib.hid hbx.2
  clear hbx
  by_cases h12 : op = 1 ∧ d ≤ num
  · obtain ⟨h1, h2⟩ := h12
    have q1 : (op == 1) = true := by rw [h1]; rfl
    have q2 : decide (d ≤ num) = true := decide_eq_true h2
    have HV := Lib.hid (HFV.out h1 h2)
    have hwr : wrap64 (num - d) = num - d := by rw [wrap64]; omega
    have c0 := HBX.out.cell 0 (.int .i64 op) rfl
    have c1 := HBX.out.cell 1 (.int .i64 num) rfl
    have c2 := HBX.out.cell 2 (.string s) rfl
    have c3 := HBX.out.cell 3 (.slice ka kn kc) rfl
    have c4 := HBX.out.cell 4 (.slice na nn nc) rfl
    have c5 := HBX.out.cell 5 (.slice la ln lc) rfl
    clear h1 h2 HFV HFN HIH
    go_enter Tryz.func64, Tryz.ntmps64
    go_upto_region 1 with fail
    generalize hw1 : w.alloc (.cells #[.int .i64 op, .int .i64 num, .string s, .slice ka kn kc, .slice na nn nc, .slice la ln lc] 28) = w1 at *
    go_wp2_with fail
    refine (radd_any acc (num - d) B w1 lv (HRW.out w1 HB.out) (by have := HB.out.size; have := HBB.out; omega) (by omega)).mono ?_
    rintro e w2 ⟨⟨y, rfl, hy⟩, hb2⟩
    have HY := Lib.hid hy
    have HB2 := Lib.hid (belowStep hb2 HB.out)
    clear hy hb2 c0 c1 c2 c3 c4 c5
    go_wp2
    go_ret
    rw [HV.out]
    exact ⟨⟨_, rfl, HY.out⟩, HB2.out⟩
  have HV := Lib.hid (HFN.out h12)
  have HG : (op == 1) = false ∨ ((op == 1) = true ∧ decide (d ≤ num) = false) := by
    by_cases h1 : op = 1
    · exact .inr ⟨by rw [h1]; rfl, decide_eq_false (fun h2 => h12 ⟨h1, h2⟩)⟩
    · exact .inl (by simpa using h1)
  clear h12 HFV HFN
  obtain ⟨dp, hdp⟩ : ∃ dp, dp = Con.deep t.op d := ⟨_, rfl⟩
  have hdp2 : 0 ≤ dp ∧ dp ≤ d + 1 := by have := Con.deep_le t.op d; omega
  have HDP := Lib.hid (fun W (hW : Same P w W) => (rdeep_any P t d W (.agg #[.int .i64 op, .int .i64 num, .string s, .slice ka kn kc, .slice na nn nc, .slice la ln lc]) (HCV.out W hW) (by omega) (by omega)))
  rw [← hdp] at HDP HV
  clear hdp
  obtain ⟨F, hF⟩ : ∃ F : Con → List Int, F = fun x => Con.frees x dp := ⟨_, rfl⟩
  have HV2 := Lib.hid (show Con.frees t d = t.l.flatMap F from by rw [HV.out, hF])
  have HFL := Lib.hid (show ∀ l : List Con, (l.flatMap F).length ≤ Con.sizes l from flat_len F (fun x => by rw [hF]; exact frees_len x dp))
  replace HIH := Lib.hid (fun (i : Nat) (hi : i < t.l.length) (acc' : List Int) (W : World) (lx x : Value) (h1 : ∀ q, P q → q < W.heap.size) (h2 : ConV W P t.l[i] x) (h2' : NumRow W B lx acc') (hB : B ≤ W.heap.size) (h5 : acc'.length + t.l[i].size ≤ 200000) => (show Calls Tryz.prog 64 #[lx, x, .int .i64 dp] W (NumP B ((F t.l[i]).foldl addL acc') W) from by rw [hF]; exact HIH.out i hi dp acc' W lx x h1 h2 h2' hB hdp2.1 hdp2.2 h5))
  clear HV hF
  have c0 := HBX.out.cell 0 (.int .i64 op) rfl
  have c1 := HBX.out.cell 1 (.int .i64 num) rfl
  have c2 := HBX.out.cell 2 (.string s) rfl
  have c3 := HBX.out.cell 3 (.slice ka kn kc) rfl
  have c4 := HBX.out.cell 4 (.slice na nn nc) rfl
  have c5 := HBX.out.cell 5 (.slice la ln lc) rfl
  go_enter Tryz.func64, Tryz.ntmps64
  go_upto_region 1 with fail
  generalize hw1 : w.alloc (.cells #[.int .i64 op, .int .i64 num, .string s, .slice ka kn kc, .slice na nn nc, .slice la ln lc] 28) = w1 at *
  have HSZ := Lib.hid (show w1.heap.size = w.heap.size + 1 from by rw [← hw1, size_alloc])
  clear hw1
  go_cut [16] from 8 to 16 (fun s W => s = .bool false ∧ W = w1)
  case first =>
    rcases HG with h | ⟨h, h'⟩
    · go_wp2
      go_meet
      exact ⟨rfl, rfl⟩
    · go_wp2
      go_meet
      exact ⟨rfl, rfl⟩
  case rest =>
    obtain ⟨rfl, hcw⟩ := hcut
    subst hcw
    rename World => w1
    clear c0 c1 c2 c3 c4 c5 HG
    go_wp2
    go_loopg [0, 7] (ln + 1) (fun gk lx i wr => ∃ (k : Nat) (ac : List Int), k ≤ ln ∧ i = .int .i64 k ∧ gk = ln + 1 - k ∧ ac = ((t.l.take k).flatMap F).foldl addL acc ∧ NumRow wr B lx ac ∧ Below w1.heap.size w1 wr)
    case atStart => exact ⟨0, acc, Nat.zero_le _, rfl, by omega, by rw [List.take_zero]; rfl, HRW.out _ HB.out, Below.refl _ _⟩
    case round =>
      obtain ⟨k, ac, hk, rfl, hgk, hac, hrow, hbw⟩ := hrel
      have HRO := Lib.hid (fun W (hW : Below wr.heap.size wr W) => hrow.below hW)
      have HBW := Lib.hid hbw
      replace HBX := Lib.hid (HBX.out.of_eq (hbw.block _ HBX.out.lt))
      have HPR := Lib.hid (fun q (hq : P q) => (show q < wr.heap.size from Nat.lt_of_lt_of_le (HP.out q hq) (Nat.le_trans HB.out.size hbw.size)))
      have HSR := Lib.hid (show Same P w wr from fun q hq => (hbw.block q (by have := HP.out q hq; have := HSZ.out; omega)).trans (HB.out.block q (HP.out q hq)))
      clear hbw hrow
      by_cases hlt : k < ln
      · have hkl : k < t.l.length := by rw [← HLN.out]; exact hlt
        have q5 : decide ((k : Int) < (ln : Int)) = true := decide_eq_true (by omega)
        have q6 : decide ((k : Int) < 0) = false := decide_eq_false (by omega)
        have q7 : decide ((ln : Int) ≤ (k : Int)) = false := decide_eq_false (by omega)
        obtain ⟨eb, off, c', ya, yn, yc, za, zn, zc, pa, pn, pc, e, hpb, f0, f1, f2, f3, f4, f5, hx⟩ := (con_list (HCV.out wr HSR.out)).part k hkl
        injection e with e1 e2 e3
        subst e1 e3
        clear e2
        have hfit : ac.length + t.l[k].size ≤ 200000 := by
          have h1 := foldl_add_len ((t.l.take k).flatMap F) acc
          have h2 := HFL.out (t.l.take k)
          have h3 := Con.sizes_take t.l k hkl
          have h4 := Con.sizes_le t.l (k + 1)
          have h5 := HAL.out
          rw [hac]
          omega
        have HSF := Lib.hid (fun W lx (hW : Below wr.heap.size wr W) (hl : NumRow W B lx ac) => HIH.out k hkl ac W lx _ (fun q hq => Nat.lt_of_lt_of_le (HPR.out q hq) hW.size) (hx.keep (Same.of_below hW HPR.out)) hl (by have := HBB.out; have := HB.out.size; have := HBW.out.size; have := hW.size; omega) hfit)
        have HTK := Lib.hid (show ((t.l.take (k + 1)).flatMap F).foldl addL acc = (F t.l[k]).foldl addL ac from by rw [List.take_succ_eq_append_getElem hkl, List.flatMap_append, List.foldl_append, hac]; simp)
        obtain ⟨u, hu⟩ : ∃ u, u = t.l[k] := ⟨_, rfl⟩
        rw [← hu] at HSF HTK f0 f1 f2
        clear hx hu hfit hac
        obtain ⟨op2, hop2⟩ : ∃ op2, op2 = u.op := ⟨_, rfl⟩
        obtain ⟨num2, hnum2⟩ : ∃ num2, num2 = u.n := ⟨_, rfl⟩
        obtain ⟨s2, hs2⟩ : ∃ s2, s2 = u.s := ⟨_, rfl⟩
        rw [← hop2] at f0 HSF
        rw [← hnum2] at f1 HSF
        rw [← hs2] at f2 HSF
        clear hop2 hnum2 hs2
        have HEL := Lib.hid (show ∀ W : World, (∀ q, P q → W.heap[q]? = wr.heap[q]?) → W.cell? ⟨eb, off + k * 6, none⟩ = some (.int .i64 op2) ∧ W.cell? ⟨eb, off + k * 6 + 1, none⟩ = some (.int .i64 num2) ∧ W.cell? ⟨eb, off + k * 6 + 2, none⟩ = some (.string s2) ∧ W.cell? ⟨eb, off + k * 6 + 3, none⟩ = some (.slice ya yn yc) ∧ W.cell? ⟨eb, off + k * 6 + 4, none⟩ = some (.slice za zn zc) ∧ W.cell? ⟨eb, off + k * 6 + 5, none⟩ = some (.slice pa pn pc) from fun W hW => by
          have e := hW eb hpb
          exact ⟨(cell_eq9 e).trans f0, (cell_eq9 e).trans f1, (cell_eq9 e).trans f2, (cell_eq9 e).trans f3, (cell_eq9 e).trans f4, (cell_eq9 e).trans f5⟩)
        have HSS := Lib.hid (show ∀ W : World, Blk W w.heap.size 28 #[.int .i64 op, .int .i64 num, .string s, .slice ka kn kc, .slice na nn nc, .slice (some ⟨eb, off, none⟩) ln lc] → (∀ q, P q → W.heap[q]? = wr.heap[q]?) → (fun W : World => W.cell? ⟨w.heap.size, 0, none⟩ = some (.int .i64 op) ∧ W.cell? ⟨w.heap.size, 1, none⟩ = some (.int .i64 num) ∧ W.cell? ⟨w.heap.size, 2, none⟩ = some (.string s) ∧ W.cell? ⟨w.heap.size, 3, none⟩ = some (.slice ka kn kc) ∧ W.cell? ⟨w.heap.size, 4, none⟩ = some (.slice na nn nc) ∧ W.cell? ⟨w.heap.size, 5, none⟩ = some (.slice (some ⟨eb, off, none⟩) ln lc) ∧ W.cell? ⟨eb, off + k * 6, none⟩ = some (.int .i64 op2) ∧ W.cell? ⟨eb, off + k * 6 + 1, none⟩ = some (.int .i64 num2) ∧ W.cell? ⟨eb, off + k * 6 + 2, none⟩ = some (.string s2) ∧ W.cell? ⟨eb, off + k * 6 + 3, none⟩ = some (.slice ya yn yc) ∧ W.cell? ⟨eb, off + k * 6 + 4, none⟩ = some (.slice za zn zc) ∧ W.cell? ⟨eb, off + k * 6 + 5, none⟩ = some (.slice pa pn pc)) W from fun W h1 h2 => ⟨h1.cell 0 _ rfl, h1.cell 1 _ rfl, h1.cell 2 _ rfl, h1.cell 3 _ rfl, h1.cell 4 _ rfl, h1.cell 5 _ rfl, HEL.out W h2⟩)
        have HKP := Lib.hid (fun W (hW : Below wr.heap.size wr W) => HSS.out W (HBX.out.of_eq (hW.block _ HBX.out.lt)) (fun q hq => hW.block q (HPR.out q hq)))
        simp only at HKP
        have HD0 := Lib.hid (Below.refl wr.heap.size wr).drew
        have HDQ := Lib.hid (fun W (hW : Below wr.heap.size wr W) => HDP.out W (fun q hq => (hW.block q (HPR.out q hq)).trans (HSR.out q hq)))
        clear f0 f1 f2 f3 f4 f5 hpb HEL HSS
        have c0 := HBX.out.cell 0 (.int .i64 op) rfl
        have c1 := HBX.out.cell 1 (.int .i64 num) rfl
        have c2 := HBX.out.cell 2 (.string s) rfl
        have c3 := HBX.out.cell 3 (.slice ka kn kc) rfl
        have c4 := HBX.out.cell 4 (.slice na nn nc) rfl
        have c5 := HBX.out.cell 5 (.slice (some ⟨eb, off, none⟩) ln lc) rfl
        go_wp2_with fail
        clear c0 c1 c2 c3 c4 c5
        go_region_held3 (fun W => W.cell? ⟨w.heap.size, 0, none⟩ = some (.int .i64 op) ∧ W.cell? ⟨w.heap.size, 1, none⟩ = some (.int .i64 num) ∧ W.cell? ⟨w.heap.size, 2, none⟩ = some (.string s) ∧ W.cell? ⟨w.heap.size, 3, none⟩ = some (.slice ka kn kc) ∧ W.cell? ⟨w.heap.size, 4, none⟩ = some (.slice na nn nc) ∧ W.cell? ⟨w.heap.size, 5, none⟩ = some (.slice (some ⟨eb, off, none⟩) ln lc) ∧ W.cell? ⟨eb, off + k * 6, none⟩ = some (.int .i64 op2) ∧ W.cell? ⟨eb, off + k * 6 + 1, none⟩ = some (.int .i64 num2) ∧ W.cell? ⟨eb, off + k * 6 + 2, none⟩ = some (.string s2) ∧ W.cell? ⟨eb, off + k * 6 + 3, none⟩ = some (.slice ya yn yc) ∧ W.cell? ⟨eb, off + k * 6 + 4, none⟩ = some (.slice za zn zc) ∧ W.cell? ⟨eb, off + k * 6 + 5, none⟩ = some (.slice pa pn pc))
          (first | (with_reducible exact HKP.out _ HD0.out) | (with_reducible exact HKP.out _ (by assumption)) | fail)
          (first
          | (go_at_call 66; (with_reducible refine (HDQ.out _ (by first | exact HD0.out | assumption)).mono ?_); rintro e wd ⟨rfl, hbd⟩; have hbd2 := belowStep (a := wr) hbd (by first | exact HD0.out | assumption); have hro := HRO.out _ hbd2)
          | (go_at_call 64; (with_reducible refine (HSF.out _ _ (by assumption) (by assumption)).mono ?_); rintro e ws ⟨⟨yv, rfl, hy⟩, hbs⟩; have hbs2 := belowStep (a := wr) hbs (by assumption))
          | fail)
        have HY := Lib.hid hy
        have HBW2 := Lib.hid (belowStep hbs2 HBW.out)
        rw [← HTK.out] at HY
        clear hy hbs hbs2 hbd hbd2 hro HKP HD0 HDQ HSF HTK HRO
        go_wp2
        go_roundg (gk - 1)
        case measure => omega
        case rel => exact ⟨k + 1, _, by omega, by go_num, by omega, rfl, HY.out, HBW2.out⟩
      · have hkn : ln = k := by omega
        subst hkn
        have q5 : decide ((ln : Int) < (ln : Int)) = false := decide_eq_false (by omega)
        have hta : t.l.take ln = t.l := List.take_of_length_le (by rw [HLN.out]; exact Nat.le_refl _)
        rw [hta, ← HV2.out] at hac
        have c0 := HBX.out.cell 0 (.int .i64 op) rfl
        have c5 := HBX.out.cell 5 (.slice la ln lc) rfl
        have HRF := Lib.hid (HRO.out wr (Below.refl _ _))
        have HBF := Lib.hid (belowStep HBW.out HB.out)
        subst hac
        clear hta
        go_wp2
        go_ret
        exact ⟨⟨_, rfl, HRF.out⟩, HBF.out⟩
set_option maxRecDepth 100000 in
set_option maxHeartbeats 1000000 in
theorem rFree_any (P : Nat → Prop) (t : Con) (w : World) (v : Value) (hP : ∀ q, P q → q < w.heap.size) (ht : ConV w P t v) (hv : Con.validB t = true) :
    Calls Tryz.prog 14 #[v] w (NumP w.heap.size (freeList t) w) := by
  have hsz : t.size ≤ 20000 ∧ t.depth ≤ 400 := by
    unfold Con.validB Con.small at hv
    simp only [Bool.and_eq_true, decide_eq_true_eq] at hv
    exact hv.1
  have HC := Lib.hid (fun W (hW : Below w.heap.size w W) => rfree_any P t (valid_all t hv) 0 [] w.heap.size W (.slice none 0 0) v (fun q hq => Nat.lt_of_lt_of_le (hP q hq) hW.size) (ht.keep (Same.of_below hW hP)) (NumRow.nil _ _) hW.size (by omega) (by omega) (by simp; omega))
  rw [free_list] at HC
  obtain ⟨ka, kn, kc, na, nn, nc, la, ln, lc, rfl, -, -, -, hbx, hb⟩ := con_box ht
  have c0 := hbx.cell 0 (.int .i64 t.op) rfl
  have c1 := hbx.cell 1 (.int .i64 t.n) rfl
  have c2 := hbx.cell 2 (.string t.s) rfl
  have c3 := hbx.cell 3 (.slice ka kn kc) rfl
  have c4 := hbx.cell 4 (.slice na nn nc) rfl
  have c5 := hbx.cell 5 (.slice la ln lc) rfl
  have HB := Lib.hid hb
  have HC2 := Lib.hid (HC.out _ hb)
  clear ht hbx hb hP HC hv hsz
  generalize freeList t = fl at *
  go_enter Tryz.func14, Tryz.ntmps14
  go_wp2_with fail
  refine HC2.out.mono ?_
  rintro e w2 ⟨⟨y, rfl, hy⟩, hb2⟩
  have HY := Lib.hid hy
  have HB2 := Lib.hid (belowStep hb2 HB.out)
  clear hy hb2 c0 c1 c2 c3 c4 c5
  go_wp2
  go_ret
  exact ⟨⟨_, rfl, HY.out⟩, HB2.out⟩
end Go.Proofs.YtkjaicmfegpjdaaGreat
namespace Go.Proofs.YtkjaicmfegpjdaaGreat
open Go Go.RowKit
open Pl (K Con)
set_option linter.unusedSimpArgs false
set_option linter.unusedVariables false

theorem frees_bound (t : Con) : Con.allB t = true → ∀ d, 0 ≤ d → ∀ y ∈ Con.frees t d, 0 ≤ y ∧ y ≤ 20000 := by
  induction t using Con.ind with
  | h t ih =>
  intro h d hd y hy
  rw [allB_eq, Bool.and_eq_true, List.all_eq_true] at h
  by_cases h1 : t.op = 1
  · rw [frees_var _ _ h1] at hy
    split at hy
    · rw [List.mem_singleton] at hy
      have := nodeB_n t h.1
      omega
    · cases hy
  · rw [frees_node _ _ h1, List.mem_flatMap] at hy
    obtain ⟨x, hx, hy⟩ := hy
    exact ih x hx (h.2 x hx) _ (by have := Con.deep_le t.op d; omega) y hy
theorem freeList_bound (t : Con) (h : Con.allB t = true) : ∀ y ∈ freeList t, 0 ≤ y ∧ y ≤ 20000 := fun y hy => by
  unfold freeList at hy
  rw [compact_mem, List.mem_mergeSort] at hy
  exact frees_bound t h 0 (Int.le_refl _) y hy
set_option maxRecDepth 100000 in
theorem idxN_any (f : Nat) (cap : Array Value) (hen : ∀ (W : World) (args : Array Value), Sem.run Tryz.prog (callFunc f args) W = .ok (.enter f args) W) (p : Int → Bool) (l : List Int) (B : Nat) (w : World)
    (hk : ∀ i ∈ l, ∀ (W : World), Below w.heap.size w W → Calls Tryz.prog f (#[.int .i64 i] ++ cap) W fun e w' => e = .returned (.bool (p i)) ∧ Below W.heap.size W w')
    (v : Value) (hl : NumRow w B v l) :
    Calls Tryz.prog 65 #[v, .func (.func f) #[] cap] w fun e w' => (∃ r : Int, e = .returned (.int .i64 r) ∧ decide (0 ≤ r) = l.any p) ∧ Below w.heap.size w w' := by
  have HKK := Lib.hid hk
  have HR := Lib.hid (fun W (hW : Below w.heap.size w W) => hl.below hW)
  obtain ⟨a, c, rfl, hlc, hcm, -⟩ := hl.at
  obtain ⟨n, hn⟩ : ∃ n, n = l.length := ⟨_, rfl⟩
  have HN := Lib.hid hn
  rw [← hn] at HR ⊢
  have hn63 : n ≤ 9223372036854775807 := by unfold maxLen at hcm; omega
  clear hl hn hcm hlc hk
  go_enter Tryz.func65, Tryz.ntmps65
  go_wp2_with fail
  go_loopg [8] (n + 1) (fun g i wr => ∃ k : Nat, k ≤ n ∧ i = .int .i64 k ∧ g = n + 1 - k ∧ (l.take k).any p = false ∧ Below w.heap.size w wr)
  case atStart => exact ⟨0, by omega, rfl, by omega, by rw [List.take_zero]; rfl, Below.refl _ _⟩
  case round =>
    obtain ⟨k, hk, rfl, hg, hall, hbw⟩ := hrel
    have HBW := Lib.hid hbw
    have HALL := Lib.hid hall
    by_cases hlt : k < n
    · have q5 : decide ((k : Int) < (n : Int)) = true := decide_eq_true (by omega)
      have hkl : k < l.length := by rw [← HN.out]; exact hlt
      obtain ⟨g, rfl⟩ := (HR.out wr hbw).addr (by omega)
      have c0 := (HR.out wr hbw).cell k hkl
      have HC := Lib.hid (HKK.out _ (List.getElem_mem hkl) wr hbw)
      have HNK := Lib.hid (show ∀ r, p l[k] = r → (l.take (k + 1)).any p = r from fun r h1 => by
        rw [List.take_succ_eq_append_getElem hkl, List.any_append, HALL.out]; simp; exact h1)
      have HNY := Lib.hid (show p l[k] = true → l.any p = true from fun h1 => List.any_eq_true.2 ⟨_, List.getElem_mem hkl, h1⟩)
      generalize l[k] = x at *
      obtain ⟨r, hr⟩ : ∃ r, r = p x := ⟨_, rfl⟩
      rw [← hr] at HC HNK HNY
      clear hall hbw hr
      go_wp2_with fail
      refine HC.out.mono ?_
      rintro e w3 ⟨rfl, hb3⟩
      have HB3 := Lib.hid (belowStep hb3 HBW.out)
      clear hb3 c0
      cases r
      · have HF := Lib.hid (HNK.out false rfl)
        go_wp2
        go_roundg (gk - 1)
        case measure => omega
        case rel => exact ⟨k + 1, by omega, by go_num, by omega, HF.out, HB3.out⟩
      · have HF := Lib.hid (HNY.out rfl)
        go_wp2
        go_ret
        exact ⟨⟨k, rfl, by rw [HF.out]; exact decide_eq_true (by omega)⟩, HB3.out⟩
    · have q5 : decide ((k : Int) < (n : Int)) = false := decide_eq_false (by omega)
      have HF := Lib.hid (show l.any p = false from by
        have h := HALL.out
        rwa [List.take_of_length_le (by have := HN.out; omega)] at h)
      clear hall hbw
      go_wp2
      go_ret
      exact ⟨⟨-1, rfl, by rw [HF.out]; rfl⟩, HBW.out⟩
theorem containsN_any (f : Nat) (cap : Array Value) (hen : ∀ (W : World) (args : Array Value), Sem.run Tryz.prog (callFunc f args) W = .ok (.enter f args) W) (p : Int → Bool) (l : List Int) (B : Nat) (w : World)
    (hk : ∀ i ∈ l, ∀ (W : World), Below w.heap.size w W → Calls Tryz.prog f (#[.int .i64 i] ++ cap) W fun e w' => e = .returned (.bool (p i)) ∧ Below W.heap.size W w')
    (v : Value) (hl : NumRow w B v l) :
    Calls Tryz.prog 16 #[v, .func (.func f) #[] cap] w fun e w' => e = .returned (.bool (l.any p)) ∧ Below w.heap.size w w' := by
  have HC := Lib.hid (idxN_any f cap hen p l B w hk v hl)
  obtain ⟨a, c, rfl, -⟩ := hl.at
  clear hl hk hen
  generalize l.length = n at *
  go_enter Tryz.func16, Tryz.ntmps16
  go_wp2_with fail
  refine HC.out.mono ?_
  rintro e w2 ⟨⟨r, rfl, hr⟩, hb2⟩
  have HR := Lib.hid hr
  have HB := Lib.hid hb2
  clear hr hb2
  by_cases h0 : (0 : Int) ≤ r
  · have q1 : decide ((0 : Int) ≤ r) = true := decide_eq_true h0
    have HF := Lib.hid (show l.any p = true from by rw [← HR.out]; exact decide_eq_true h0)
    go_wp2
    go_ret
    exact ⟨by rw [HF.out]; rfl, HB.out⟩
  · have q1 : decide ((0 : Int) ≤ r) = false := decide_eq_false h0
    have HF := Lib.hid (show l.any p = false from by rw [← HR.out]; exact decide_eq_false h0)
    go_wp2
    go_ret
    exact ⟨by rw [HF.out]; rfl, HB.out⟩
/-- the law's closure -/
theorem shiftsF_any (B4 B5 : Nat) (b f i : Int) (w : World) (h4 : Blk w B4 3 #[.int .i64 b]) (h5 : Blk w B5 3 #[.int .i64 f]) (hb : -20000 ≤ b ∧ b ≤ 20000) (hf : 0 ≤ f ∧ f ≤ 9223372036854775807) (hi : 0 ≤ i ∧ i ≤ 20000) :
    Calls Tryz.prog 17 #[.int .i64 i, .pointer (some ⟨B5, 0, none⟩), .pointer (some ⟨B4, 0, none⟩)] w fun e w' => e = .returned (.bool (decide (f ≤ i) && decide (i - f < -b))) ∧ Below w.heap.size w w' := by
  have c4 := h4.cell 0 _ rfl
  have c5 := h5.cell 0 _ rfl
  have w1 : wrap64 (i - f) = i - f := by rw [wrap64]; omega
  have w2 : wrap64 (-b) = -b := by rw [wrap64]; omega
  clear h4 h5
  by_cases h1 : f ≤ i
  · have q1 : decide (f ≤ i) = true := decide_eq_true h1
    obtain ⟨r, hr⟩ : ∃ r, r = decide (i - f < -b) := ⟨_, rfl⟩
    have HR := Lib.hid hr
    have q2 := hr.symm
    rw [q1, ← HR.out]
    clear hr h1
    go_enter Tryz.func17, Tryz.ntmps17
    go_wp2
    go_ret
    exact ⟨rfl, Below.refl _ _⟩
  · have q1 : decide (f ≤ i) = false := decide_eq_false h1
    rw [q1]
    clear h1
    go_enter Tryz.func17, Tryz.ntmps17
    go_wp2
    go_ret
    exact ⟨rfl, Below.refl _ _⟩
set_option maxRecDepth 100000 in
theorem numEq_any (l : List Int) (b1 b2 : Nat) (w : World) (v x : Value) (h1 : NumRow w b1 v l) (h2 : NumRow w b2 x l) :
    Calls Tryz.prog 15 #[v, x] w fun e w' => e = .returned (.bool true) ∧ Below w.heap.size w w' := by
  obtain ⟨a1, c1, rfl, hc1, hm1, e1⟩ := h1.at
  obtain ⟨a2, c2, rfl, hc2, hm2, e2⟩ := h2.at
  by_cases h0 : l.length = 0
  · have hp : l = [] := List.eq_nil_of_length_eq_zero h0
    subst hp
    refine (Tryz.slices_Equal_int_empty a1 a2 c1 0 c2 w (by omega)).mono ?_
    rintro e w' ⟨rfl, rfl⟩
    exact ⟨rfl, Below.refl _ _⟩
  · obtain ⟨g1, rfl, -, -⟩ := e1 0 (by omega)
    obtain ⟨g2, rfl, -, -⟩ := e2 0 (by omega)
    have hx : ∀ (j : Nat) (hj : j < l.length), l.getD j 0 = l[j] := by
      intro j hj
      rw [List.getD_eq_getElem?_getD, List.getElem?_eq_getElem hj]
      rfl
    have key := Tryz.slices_Equal_int g1 0 l.length c1 g2 0 l.length c2 l l w (Nat.le_refl _) (Nat.le_refl _) (by unfold maxLen at hm1; omega) (by unfold maxLen at hm2; omega) (fun j hj => by
      rw [Nat.zero_add, hx j hj]
      exact h1.cell j hj) (fun j hj => by
      rw [Nat.zero_add, hx j hj]
      exact h2.cell j hj)
    refine key.mono ?_
    rintro e w' ⟨rfl, q, rfl⟩
    refine ⟨?_, below_drewN9 (Below.refl _ _) q⟩
    have : (l.take l.length == l.take l.length) = true := by simp
    rw [this]
end Go.Proofs.YtkjaicmfegpjdaaGreat
namespace Go.Proofs.YtkjaicmfegpjdaaGreat
open Go Go.RowKit
open Pl (K Con)
set_option linter.unusedSimpArgs false
set_option linter.unusedVariables false

set_option maxRecDepth 100000 in
set_option maxHeartbeats 8000000 in
theorem shifts_walk (t : Con) (b f : Int) (w : World) (v : Value) (ht : ConV w (· < w.heap.size) t v) (hb : -9223372036854775808 ≤ b ∧ b ≤ 9223372036854775807) (hf : -9223372036854775808 ≤ f ∧ f ≤ 9223372036854775807) :
    Calls Tryz.prog 3 #[v, .int .i64 b, .int .i64 f] w fun e w' => e = .returned (.bool true) ∧ Below w.heap.size w w' := by
  have HA := Lib.hid awake9
  have HT := Lib.hid (fun W (hW : Below w.heap.size w W) => ht.grow hW)
  have HTP := Lib.hid (fun W (hW : Below w.heap.size w W) => (show (∀ q, q < w.heap.size → q < W.heap.size) ∧ ConV W (· < w.heap.size) t v from ⟨fun q h => Nat.lt_of_lt_of_le h hW.size, ht.keep (Same.of_below hW (fun _ h => h))⟩))
  have HSM := Lib.hid (fun W x' (hl : ConSl W (· < W.heap.size) x' [t]) => small_any (· < W.heap.size) [t] W x' (fun _ h => h) hl)
  obtain ⟨⟨fl, fe⟩, hfo⟩ : ∃ z, z = freeOut t := ⟨_, rfl⟩
  obtain ⟨⟨u, uc⟩, hso⟩ : ∃ z, z = shiftOut t b f := ⟨_, rfl⟩
  have HFR := Lib.hid (fun W (hW : Below w.heap.size w W) => (show Calls Tryz.prog 10 #[v] W (fun e w' => (∃ y, e = .returned (.tuple #[y, .int .i64 fe]) ∧ NumRow w' W.heap.size y fl) ∧ Below W.heap.size W w') from by
    have h := cfree_any t W v (HT.out W hW)
    rw [← hfo] at h
    exact h))
  have HSH := Lib.hid (fun W (hW : Below w.heap.size w W) => (show Calls Tryz.prog 11 #[v, .int .i64 b, .int .i64 f] W (fun e w' => (∃ y, e = .returned (.tuple #[y, .int .i64 uc]) ∧ ConV w' (· < w'.heap.size) u y) ∧ Below W.heap.size W w') from by
    have h := cshift_any t b f W v (HT.out W hW) hb.1 hb.2 hf.1 hf.2
    rw [← hso] at h
    exact h))
  have HRV := Lib.hid (fun W (hW : Below w.heap.size w W) => rvalid9_any (· < w.heap.size) t W v (HTP.out W hW).1 (HTP.out W hW).2)
  have HRF := Lib.hid (fun W (hW : Below w.heap.size w W) (hv : Con.validB t = true) => (show Calls Tryz.prog 14 #[v] W (fun e w' => (∃ y, e = .returned y ∧ NumRow w' W.heap.size y (freeList t)) ∧ Below W.heap.size W w') from rFree_any (· < w.heap.size) t W v (HTP.out W hW).1 (HTP.out W hW).2 hv))
  have HRS := Lib.hid (fun W (hW : Below w.heap.size w W) (hv : Con.validB t = true) (h0 : 0 ≤ f) (h1 : -20000 ≤ b) (h2 : b ≤ 20000) => (show Calls Tryz.prog 19 #[v, .int .i64 b, .int .i64 f] W (fun e w' => (∃ y, e = .returned y ∧ ConV w' (· < w'.heap.size) (Con.shift b t f) y) ∧ Below W.heap.size W w') from by
    refine (rshift_any (· < w.heap.size) t b (by omega) (by omega) (valid_all t hv) f W v (HTP.out W hW).1 (HTP.out W hW).2 h0 hf.2).mono ?_
    rintro e w' ⟨⟨y, rfl, hy⟩, hb⟩
    exact ⟨⟨y, rfl, hy.mono (fun q hq => by
      rcases hq with hq | hq
      · exact Nat.lt_of_lt_of_le hq (Nat.le_trans hW.size hb.size)
      · exact hq.2)⟩, hb⟩))
  have HIV := Lib.hid (show Con.validB t = false → fl = [] ∧ fe = 1 ∧ u = Con.none0 ∧ uc = 1 from fun h => by
    have h1 : (fl, fe) = (([] : List Int), (1 : Int)) := by rw [hfo]; unfold freeOut; rw [h]; rfl
    have h2 : (u, uc) = (Con.none0, (1 : Int)) := by rw [hso]; unfold shiftOut; rw [h]; rfl
    simp only [Prod.mk.injEq] at h1 h2
    exact ⟨h1.1, h1.2, h2.1, h2.2⟩)
  have HOV := Lib.hid (show Con.validB t = true → fl = freeList t ∧ fe = 0 ∧ (f < 0 ∨ b < -20000 ∨ 20000 < b ∨ fallsB t b f = true → u = Con.none0 ∧ uc = 2) ∧ (0 ≤ f → -20000 ≤ b → b ≤ 20000 → fallsB t b f = false → answerB u uc (Con.shift b t f) = true) from fun h => by
    have h1 : (fl, fe) = (freeList t, (0 : Int)) := by rw [hfo]; unfold freeOut; rw [if_pos h]
    simp only [Prod.mk.injEq] at h1
    refine ⟨h1.1, h1.2, fun h3 => ?_, fun h3 h4 h5 h6 => ?_⟩
    · have h2 := hso.trans (shiftOut_eq t b f)
      rw [if_pos h, if_pos h3] at h2
      simp only [Prod.mk.injEq] at h2
      exact h2
    · have h2 : (u, uc) = outB (Con.shift b t f) := by
        rw [hso]; unfold shiftOut
        rw [if_pos h, if_neg]
        rintro (h7 | h7 | h7 | ⟨h7, h8⟩)
        · omega
        · omega
        · omega
        · have := (falls_gap t b f h3).2 ⟨h7, h8⟩
          rw [h6] at this
          cases this
      have h7 := answer_out (Con.shift b t f)
      rw [← h2] at h7
      exact h7)
  have HNO := Lib.hid (fun W (hW : Below w.heap.size w W) (hu : u = Con.none0) x (hx : ConV W (· < W.heap.size) u x) => (show Calls Tryz.prog 13 #[x] W (fun e w' => e = .returned (.bool true) ∧ Below W.heap.size W w') from by
    have h := none9_any (· < W.heap.size) u W x (fun _ h => h) hx
    rw [hu, sameB_self] at h
    exact h))
  obtain ⟨p5, hp5⟩ : ∃ p : Int → Bool, p = fun i => decide (f ≤ i) && decide (i - f < -b) := ⟨_, rfl⟩
  have HP5 := Lib.hid hp5
  clear hp5
  have HAN := Lib.hid (fun W yv (zv : Value) (hz : ConV W (· < W.heap.size) u zv) (hy : ConV W (· < W.heap.size) (Con.shift b t f) yv) => answer9_any (· < W.heap.size) (· < W.heap.size) u (Con.shift b t f) uc W zv yv (fun _ h => h) (fun _ h => h) hz hy)
  clear hfo hso HTP
  obtain ⟨ka, kn, kc, na, nn, nc, la, ln, lc, rfl, -, -, -⟩ := ht.shape
  obtain ⟨hbx, hbx4, hb9⟩ := twoN_new w 28 3 #[.int .i64 t.op, .int .i64 t.n, .string t.s, .slice ka kn kc, .slice na nn nc, .slice la ln lc] #[.int .i64 b]
  obtain ⟨hbx5, hb8⟩ := boxN_new ((w.alloc (.cells #[.int .i64 t.op, .int .i64 t.n, .string t.s, .slice ka kn kc, .slice na nn nc, .slice la ln lc] 28)).alloc (.cells #[.int .i64 b] 3)) 3 #[.int .i64 f]
  rw [size_alloc, size_alloc] at hbx5
  have HB := Lib.hid (belowStep hb8 hb9)
  have HBX := Lib.hid (hbx.alloc (.cells #[.int .i64 f] 3))
  have H4 := Lib.hid (hbx4.alloc (.cells #[.int .i64 f] 3))
  have H5 := Lib.hid hbx5
  clear hbx hbx4 hbx5 hb9 hb8 ht
  go_enter Tryz.func3, Tryz.ntmps3
  go_upto_region 1 with fail
  generalize ((w.alloc (.cells #[.int .i64 t.op, .int .i64 t.n, .string t.s, .slice ka kn kc, .slice na nn nc, .slice la ln lc] 28)).alloc (.cells #[.int .i64 b] 3)).alloc (.cells #[.int .i64 f] 3) = w2 at *
  go_wp2_with fail
  refine (HA.out _).mono ?_
  rintro e w3 ⟨rfl, hb⟩
  replace HBX := Lib.hid (HBX.out.of_eq (hb.block _ HBX.out.lt))
  replace H4 := Lib.hid (H4.out.of_eq (hb.block _ H4.out.lt))
  replace H5 := Lib.hid (H5.out.of_eq (hb.block _ H5.out.lt))
  replace HB := Lib.hid (belowStep hb HB.out)
  clear hb
  have c0 := HBX.out.cell 0 (.int .i64 t.op) rfl
  have c1 := HBX.out.cell 1 (.int .i64 t.n) rfl
  have c2 := HBX.out.cell 2 (.string t.s) rfl
  have c3 := HBX.out.cell 3 (.slice ka kn kc) rfl
  have c4 := HBX.out.cell 4 (.slice na nn nc) rfl
  have c5 := HBX.out.cell 5 (.slice la ln lc) rfl
  go_wp2_with fail
  clear c0 c1 c2 c3 c4 c5
  obtain ⟨hbx, hb⟩ := boxN_new w3 28 #[.int .i64 t.op, .int .i64 t.n, .string t.s, .slice ka kn kc, .slice na nn nc, .slice la ln lc]
  have HONE := Lib.hid (cons_one (P := (· < (w3.alloc (.cells #[.int .i64 t.op, .int .i64 t.n, .string t.s, .slice ka kn kc, .slice na nn nc, .slice la ln lc] 28)).heap.size)) hbx hbx.lt (HT.out _ (belowStep hb HB.out)))
  replace HBX := Lib.hid (HBX.out.of_eq (hb.block _ HBX.out.lt))
  replace H4 := Lib.hid (H4.out.of_eq (hb.block _ H4.out.lt))
  replace H5 := Lib.hid (H5.out.of_eq (hb.block _ H5.out.lt))
  replace HB := Lib.hid (belowStep hb HB.out)
  clear hbx hb
  generalize w3.alloc (.cells #[.int .i64 t.op, .int .i64 t.n, .string t.s, .slice ka kn kc, .slice na nn nc, .slice la ln lc] 28) = w4 at *
  refine (HSM.out _ _ HONE.out).mono ?_
  rintro e w5 ⟨⟨r, rfl, -⟩, hb⟩
  replace HBX := Lib.hid (HBX.out.of_eq (hb.block _ HBX.out.lt))
  replace H4 := Lib.hid (H4.out.of_eq (hb.block _ H4.out.lt))
  replace H5 := Lib.hid (H5.out.of_eq (hb.block _ H5.out.lt))
  replace HB := Lib.hid (belowStep hb HB.out)
  clear hb HONE HSM
  cases r
  · go_wp2_with fail
    refine (HA.out _).mono ?_
    rintro e wx ⟨rfl, hbx⟩
    have HB6 := Lib.hid (belowStep hbx HB.out)
    clear hbx
    go_wp2
    go_ret
    exact ⟨rfl, HB6.out⟩
  clear HA
  have c0 := HBX.out.cell 0 (.int .i64 t.op) rfl
  have c1 := HBX.out.cell 1 (.int .i64 t.n) rfl
  have c2 := HBX.out.cell 2 (.string t.s) rfl
  have c3 := HBX.out.cell 3 (.slice ka kn kc) rfl
  have c4 := HBX.out.cell 4 (.slice na nn nc) rfl
  have c5 := HBX.out.cell 5 (.slice la ln lc) rfl
  go_wp2_with fail
  clear c0 c1 c2 c3 c4 c5
  refine (HFR.out _ HB.out).mono ?_
  rintro e w6 ⟨⟨y, rfl, hy⟩, hb⟩
  replace HBX := Lib.hid (HBX.out.of_eq (hb.block _ HBX.out.lt))
  replace H4 := Lib.hid (H4.out.of_eq (hb.block _ H4.out.lt))
  replace H5 := Lib.hid (H5.out.of_eq (hb.block _ H5.out.lt))
  replace HB := Lib.hid (belowStep hb HB.out)
  clear hb HFR
  obtain ⟨ya, yc, rfl, -⟩ := hy.at
  have HNR := Lib.hid hy
  clear hy
  obtain ⟨fn, hfn⟩ : ∃ n, n = fl.length := ⟨_, rfl⟩
  have HFN := Lib.hid hfn
  rw [← hfn] at HNR ⊢
  clear hfn
  have c0 := HBX.out.cell 0 (.int .i64 t.op) rfl
  have c1 := HBX.out.cell 1 (.int .i64 t.n) rfl
  have c2 := HBX.out.cell 2 (.string t.s) rfl
  have c3 := HBX.out.cell 3 (.slice ka kn kc) rfl
  have c4 := HBX.out.cell 4 (.slice na nn nc) rfl
  have c5 := HBX.out.cell 5 (.slice la ln lc) rfl
  have d4 := H4.out.cell 0 (.int .i64 b) rfl
  have d5 := H5.out.cell 0 (.int .i64 f) rfl
  go_wp2_with fail
  clear c0 c1 c2 c3 c4 c5
  clear d4 d5
  refine (HSH.out _ HB.out).mono ?_
  rintro e w7 ⟨⟨z, rfl, hz⟩, hb⟩
  obtain ⟨zka, zkn, zkc, zna, znn, znc, zla, zln, zlc, rfl, -, -, -⟩ := hz.shape
  replace HNR := Lib.hid (HNR.out.below hb)
  replace HBX := Lib.hid (HBX.out.of_eq (hb.block _ HBX.out.lt))
  replace H4 := Lib.hid (H4.out.of_eq (hb.block _ H4.out.lt))
  replace H5 := Lib.hid (H5.out.of_eq (hb.block _ H5.out.lt))
  replace HB := Lib.hid (belowStep hb HB.out)
  have HZV := Lib.hid hz
  clear hb hz HSH
  obtain ⟨hbx, hb⟩ := boxN_new w7 28 #[.int .i64 u.op, .int .i64 u.n, .string u.s, .slice zka zkn zkc, .slice zna znn znc, .slice zla zln zlc]
  replace HNR := Lib.hid (HNR.out.below hb)
  replace HBX := Lib.hid (HBX.out.of_eq (hb.block _ HBX.out.lt))
  replace H4 := Lib.hid (H4.out.of_eq (hb.block _ H4.out.lt))
  replace H5 := Lib.hid (H5.out.of_eq (hb.block _ H5.out.lt))
  replace HZV := Lib.hid (HZV.out.grow hb)
  replace HB := Lib.hid (belowStep hb HB.out)
  have HBZ := Lib.hid hbx
  clear hbx hb
  have c0 := HBX.out.cell 0 (.int .i64 t.op) rfl
  have c1 := HBX.out.cell 1 (.int .i64 t.n) rfl
  have c2 := HBX.out.cell 2 (.string t.s) rfl
  have c3 := HBX.out.cell 3 (.slice ka kn kc) rfl
  have c4 := HBX.out.cell 4 (.slice na nn nc) rfl
  have c5 := HBX.out.cell 5 (.slice la ln lc) rfl
  go_wp2_with fail
  generalize w7.alloc (.cells #[.int .i64 u.op, .int .i64 u.n, .string u.s, .slice zka zkn zkc, .slice zna znn znc, .slice zla zln zlc] 28) = w8 at *
  clear c0 c1 c2 c3 c4 c5
  refine (HRV.out _ HB.out).mono ?_
  rintro e w9 ⟨rfl, hb⟩
  replace HNR := Lib.hid (HNR.out.below hb)
  replace HBX := Lib.hid (HBX.out.of_eq (hb.block _ HBX.out.lt))
  replace H4 := Lib.hid (H4.out.of_eq (hb.block _ H4.out.lt))
  replace H5 := Lib.hid (H5.out.of_eq (hb.block _ H5.out.lt))
  replace HBZ := Lib.hid (HBZ.out.of_eq (hb.block _ HBZ.out.lt))
  replace HZV := Lib.hid (HZV.out.grow hb)
  replace HB := Lib.hid (belowStep hb HB.out)
  clear hb HRV
  cases hv : Con.validB t
  · have HE := Lib.hid (HIV.out hv)
    have q1 : ((fn : Int) == 0) = true := by rw [HFN.out, HE.out.1]; rfl
    have q2 : (fe == 1) = true := by rw [HE.out.2.1]; rfl
    have q3 : (uc == 1) = true := by rw [HE.out.2.2.2]; rfl
    have HSB := Lib.hid (show u = Con.none0 from HE.out.2.2.1)
    have c0 := HBZ.out.cell 0 (.int .i64 u.op) rfl
    have c1 := HBZ.out.cell 1 (.int .i64 u.n) rfl
    have c2 := HBZ.out.cell 2 (.string u.s) rfl
    have c3 := HBZ.out.cell 3 (.slice zka zkn zkc) rfl
    have c4 := HBZ.out.cell 4 (.slice zna znn znc) rfl
    have c5 := HBZ.out.cell 5 (.slice zla zln zlc) rfl
    clear HE hv HIV HOV
    go_wp2_with fail
    clear c0 c1 c2 c3 c4 c5
    refine (HNO.out _ HB.out HSB.out _ HZV.out).mono ?_
    rintro e wx ⟨rfl, hbx⟩
    have HBE := Lib.hid (belowStep hbx HB.out)
    clear hbx
    go_wp2
    go_ret
    exact ⟨rfl, HBE.out⟩
  have HVT := Lib.hid hv
  clear hv HIV
  have HO := Lib.hid (HOV.out HVT.out)
  clear HOV
  have c0 := HBX.out.cell 0 (.int .i64 t.op) rfl
  have c1 := HBX.out.cell 1 (.int .i64 t.n) rfl
  have c2 := HBX.out.cell 2 (.string t.s) rfl
  have c3 := HBX.out.cell 3 (.slice ka kn kc) rfl
  have c4 := HBX.out.cell 4 (.slice na nn nc) rfl
  have c5 := HBX.out.cell 5 (.slice la ln lc) rfl
  go_wp2_with fail
  clear c0 c1 c2 c3 c4 c5
  refine (HRF.out _ HB.out HVT.out).mono ?_
  rintro e w10 ⟨⟨x, rfl, hx⟩, hb⟩
  replace HNR := Lib.hid (HNR.out.below hb)
  replace HBX := Lib.hid (HBX.out.of_eq (hb.block _ HBX.out.lt))
  replace H4 := Lib.hid (H4.out.of_eq (hb.block _ H4.out.lt))
  replace H5 := Lib.hid (H5.out.of_eq (hb.block _ H5.out.lt))
  replace HBZ := Lib.hid (HBZ.out.of_eq (hb.block _ HBZ.out.lt))
  replace HZV := Lib.hid (HZV.out.grow hb)
  replace HB := Lib.hid (belowStep hb HB.out)
  clear hb HRF
  rw [← HO.out.1] at hx
  obtain ⟨xa, xc, rfl, -⟩ := hx.at
  rw [← HFN.out] at hx ⊢
  have HXR := Lib.hid hx
  clear hx
  go_wp2_with fail
  refine (numEq_any fl _ _ _ _ _ HNR.out HXR.out).mono ?_
  rintro e w11 ⟨rfl, hb⟩
  replace HXR := Lib.hid (HXR.out.below hb)
  replace HNR := Lib.hid (HNR.out.below hb)
  replace HBX := Lib.hid (HBX.out.of_eq (hb.block _ HBX.out.lt))
  replace H4 := Lib.hid (H4.out.of_eq (hb.block _ H4.out.lt))
  replace H5 := Lib.hid (H5.out.of_eq (hb.block _ H5.out.lt))
  replace HBZ := Lib.hid (HBZ.out.of_eq (hb.block _ HBZ.out.lt))
  replace HZV := Lib.hid (HZV.out.grow hb)
  replace HB := Lib.hid (belowStep hb HB.out)
  clear hb HNR
  have q0 : (fe != 0) = false := by rw [HO.out.2.1]; rfl
  have HFB := Lib.hid (freeList_bound t (valid_all t HVT.out))
  rw [← HO.out.1] at HFB
  have d4 := H4.out.cell 0 (.int .i64 b) rfl
  have d5 := H5.out.cell 0 (.int .i64 f) rfl
  cases q1 : decide (f < 0)
  rotate_left
  · have hq := of_decide_eq_true q1
    have HE := Lib.hid (HO.out.2.2.1 (.inl hq))
    have q9 : (uc == 2) = true := by rw [HE.out.2]; rfl
    have HSB := Lib.hid HE.out.1
    have c0 := HBZ.out.cell 0 (.int .i64 u.op) rfl
    have c1 := HBZ.out.cell 1 (.int .i64 u.n) rfl
    have c2 := HBZ.out.cell 2 (.string u.s) rfl
    have c3 := HBZ.out.cell 3 (.slice zka zkn zkc) rfl
    have c4 := HBZ.out.cell 4 (.slice zna znn znc) rfl
    have c5 := HBZ.out.cell 5 (.slice zla zln zlc) rfl
    clear HE
    go_wp2_with fail
    clear c0 c1 c2 c3 c4 c5
    clear d4 d5
    refine (HNO.out _ HB.out HSB.out _ HZV.out).mono ?_
    rintro e wx ⟨rfl, hbx⟩
    have HBE := Lib.hid (belowStep hbx HB.out)
    clear hbx
    go_wp2
    go_ret
    exact ⟨rfl, HBE.out⟩
  have hf0 : 0 ≤ f := by have := of_decide_eq_false q1; omega
  cases q2 : decide (b < -20000)
  rotate_left
  · have hq := of_decide_eq_true q2
    have HE := Lib.hid (HO.out.2.2.1 (.inr (.inl hq)))
    have q9 : (uc == 2) = true := by rw [HE.out.2]; rfl
    have HSB := Lib.hid HE.out.1
    have c0 := HBZ.out.cell 0 (.int .i64 u.op) rfl
    have c1 := HBZ.out.cell 1 (.int .i64 u.n) rfl
    have c2 := HBZ.out.cell 2 (.string u.s) rfl
    have c3 := HBZ.out.cell 3 (.slice zka zkn zkc) rfl
    have c4 := HBZ.out.cell 4 (.slice zna znn znc) rfl
    have c5 := HBZ.out.cell 5 (.slice zla zln zlc) rfl
    clear HE
    go_wp2_with fail
    clear c0 c1 c2 c3 c4 c5
    clear d4 d5
    refine (HNO.out _ HB.out HSB.out _ HZV.out).mono ?_
    rintro e wx ⟨rfl, hbx⟩
    have HBE := Lib.hid (belowStep hbx HB.out)
    clear hbx
    go_wp2
    go_ret
    exact ⟨rfl, HBE.out⟩
  have hb0 : -20000 ≤ b := by have := of_decide_eq_false q2; omega
  cases q3 : decide (20000 < b)
  rotate_left
  · have hq := of_decide_eq_true q3
    have HE := Lib.hid (HO.out.2.2.1 (.inr (.inr (.inl hq))))
    have q9 : (uc == 2) = true := by rw [HE.out.2]; rfl
    have HSB := Lib.hid HE.out.1
    have c0 := HBZ.out.cell 0 (.int .i64 u.op) rfl
    have c1 := HBZ.out.cell 1 (.int .i64 u.n) rfl
    have c2 := HBZ.out.cell 2 (.string u.s) rfl
    have c3 := HBZ.out.cell 3 (.slice zka zkn zkc) rfl
    have c4 := HBZ.out.cell 4 (.slice zna znn znc) rfl
    have c5 := HBZ.out.cell 5 (.slice zla zln zlc) rfl
    clear HE
    go_wp2_with fail
    clear c0 c1 c2 c3 c4 c5
    clear d4 d5
    refine (HNO.out _ HB.out HSB.out _ HZV.out).mono ?_
    rintro e wx ⟨rfl, hbx⟩
    have HBE := Lib.hid (belowStep hbx HB.out)
    clear hbx
    go_wp2
    go_ret
    exact ⟨rfl, HBE.out⟩
  have hb1 : b ≤ 20000 := by have := of_decide_eq_false q3; omega
  cases q4 : decide (b < 0)
  · have hfb : fallsB t b f = false := by
      have hq := of_decide_eq_false q4
      cases hh : fallsB t b f
      · rfl
      · have := (falls_gap t b f hf0).1 hh
        omega
    have HE := Lib.hid (HO.out.2.2.2 hf0 hb0 hb1 hfb)
    have GSH := Lib.hid (fun W (hW : Below w11.heap.size w11 W) => HRS.out W (belowStep hW HB.out) HVT.out hf0 hb0 hb1)
    have GAN := Lib.hid (fun W yv (hW : Below w11.heap.size w11 W) (hy : ConV W (· < W.heap.size) (Con.shift b t f) yv) => HAN.out W yv _ (HZV.out.grow hW) hy)
    rw [HE.out] at GAN
    have HSS := Lib.hid (fun W (hW : Below w11.heap.size w11 W) => (show Below w11.heap.size w11 W ∧ W.cell? ⟨w.heap.size, 0, none⟩ = some (.int .i64 t.op) ∧ W.cell? ⟨w.heap.size, 1, none⟩ = some (.int .i64 t.n) ∧ W.cell? ⟨w.heap.size, 2, none⟩ = some (.string t.s) ∧ W.cell? ⟨w.heap.size, 3, none⟩ = some (.slice ka kn kc) ∧ W.cell? ⟨w.heap.size, 4, none⟩ = some (.slice na nn nc) ∧ W.cell? ⟨w.heap.size, 5, none⟩ = some (.slice la ln lc) ∧ W.cell? ⟨w7.heap.size, 0, none⟩ = some (.int .i64 u.op) ∧ W.cell? ⟨w7.heap.size, 1, none⟩ = some (.int .i64 u.n) ∧ W.cell? ⟨w7.heap.size, 2, none⟩ = some (.string u.s) ∧ W.cell? ⟨w7.heap.size, 3, none⟩ = some (.slice zka zkn zkc) ∧ W.cell? ⟨w7.heap.size, 4, none⟩ = some (.slice zna znn znc) ∧ W.cell? ⟨w7.heap.size, 5, none⟩ = some (.slice zla zln zlc) ∧ W.cell? ⟨w.heap.size + 1, 0, none⟩ = some (.int .i64 b) ∧ W.cell? ⟨w.heap.size + 1 + 1, 0, none⟩ = some (.int .i64 f) from ⟨hW, (HBX.out.of_eq (hW.block _ HBX.out.lt)).cell 0 _ rfl, (HBX.out.of_eq (hW.block _ HBX.out.lt)).cell 1 _ rfl, (HBX.out.of_eq (hW.block _ HBX.out.lt)).cell 2 _ rfl, (HBX.out.of_eq (hW.block _ HBX.out.lt)).cell 3 _ rfl, (HBX.out.of_eq (hW.block _ HBX.out.lt)).cell 4 _ rfl, (HBX.out.of_eq (hW.block _ HBX.out.lt)).cell 5 _ rfl, (HBZ.out.of_eq (hW.block _ HBZ.out.lt)).cell 0 _ rfl, (HBZ.out.of_eq (hW.block _ HBZ.out.lt)).cell 1 _ rfl, (HBZ.out.of_eq (hW.block _ HBZ.out.lt)).cell 2 _ rfl, (HBZ.out.of_eq (hW.block _ HBZ.out.lt)).cell 3 _ rfl, (HBZ.out.of_eq (hW.block _ HBZ.out.lt)).cell 4 _ rfl, (HBZ.out.of_eq (hW.block _ HBZ.out.lt)).cell 5 _ rfl, (H4.out.of_eq (hW.block _ H4.out.lt)).cell 0 _ rfl, (H5.out.of_eq (hW.block _ H5.out.lt)).cell 0 _ rfl⟩))
    have HD0 := Lib.hid (Below.refl w11.heap.size w11).drew
    obtain ⟨sx, hsx⟩ : ∃ x, x = Con.shift b t f := ⟨_, rfl⟩
    rw [← hsx] at GSH GAN
    clear hsx HE HO HRS HAN hfb HFB HXR HNO d4 d5
    have c0 := HBX.out.cell 0 (.int .i64 t.op) rfl
    have c1 := HBX.out.cell 1 (.int .i64 t.n) rfl
    have c2 := HBX.out.cell 2 (.string t.s) rfl
    have c3 := HBX.out.cell 3 (.slice ka kn kc) rfl
    have c4 := HBX.out.cell 4 (.slice na nn nc) rfl
    have c5 := HBX.out.cell 5 (.slice la ln lc) rfl
    have e0 := HBZ.out.cell 0 (.int .i64 u.op) rfl
    have e1 := HBZ.out.cell 1 (.int .i64 u.n) rfl
    have e2 := HBZ.out.cell 2 (.string u.s) rfl
    have e3 := HBZ.out.cell 3 (.slice zka zkn zkc) rfl
    have e4 := HBZ.out.cell 4 (.slice zna znn znc) rfl
    have e5 := HBZ.out.cell 5 (.slice zla zln zlc) rfl
    have d4 := H4.out.cell 0 (.int .i64 b) rfl
    have d5 := H5.out.cell 0 (.int .i64 f) rfl
    go_wp2_with fail
    go_region_held3 (fun W => Below w11.heap.size w11 W ∧ W.cell? ⟨w.heap.size, 0, none⟩ = some (.int .i64 t.op) ∧ W.cell? ⟨w.heap.size, 1, none⟩ = some (.int .i64 t.n) ∧ W.cell? ⟨w.heap.size, 2, none⟩ = some (.string t.s) ∧ W.cell? ⟨w.heap.size, 3, none⟩ = some (.slice ka kn kc) ∧ W.cell? ⟨w.heap.size, 4, none⟩ = some (.slice na nn nc) ∧ W.cell? ⟨w.heap.size, 5, none⟩ = some (.slice la ln lc) ∧ W.cell? ⟨w7.heap.size, 0, none⟩ = some (.int .i64 u.op) ∧ W.cell? ⟨w7.heap.size, 1, none⟩ = some (.int .i64 u.n) ∧ W.cell? ⟨w7.heap.size, 2, none⟩ = some (.string u.s) ∧ W.cell? ⟨w7.heap.size, 3, none⟩ = some (.slice zka zkn zkc) ∧ W.cell? ⟨w7.heap.size, 4, none⟩ = some (.slice zna znn znc) ∧ W.cell? ⟨w7.heap.size, 5, none⟩ = some (.slice zla zln zlc) ∧ W.cell? ⟨w.heap.size + 1, 0, none⟩ = some (.int .i64 b) ∧ W.cell? ⟨w.heap.size + 1 + 1, 0, none⟩ = some (.int .i64 f))
        (exact HSS.out _ (by with_reducible (repeat (first | exact Below.refl _ _ | exact HD0.out | refine Below.drew ?_ | refine below_new ?_ | refine belowStep (by assumption) ?_ | exact Nat.le_refl _))))
        (first
        | (go_at_call 19; (with_reducible refine Calls.mono (GSH.out _ ?_) ?_); (focus with_reducible (repeat (first | exact Below.refl _ _ | exact HD0.out | refine Below.drew ?_ | refine below_new ?_ | refine belowStep (by assumption) ?_ | exact Nat.le_refl _))); rintro e k1 ⟨⟨yv, rfl, hy⟩, hbk1⟩; have hbk := belowStep (a := w11) hbk1 (by with_reducible (repeat (first | exact Below.refl _ _ | exact HD0.out | refine Below.drew ?_ | refine below_new ?_ | refine belowStep (by assumption) ?_ | exact Nat.le_refl _))); have hyk := hy; obtain ⟨ua, un, uk, va, vn, vk, xa2, xn2, xk2, hyv, -, -, -⟩ := hy.shape; subst hyv)
        | (go_at_call 18; (with_reducible refine Calls.mono (GAN.out _ _ (by assumption) (by assumption)) ?_); rintro e k2 ⟨rfl, hbk2⟩)
        | fail)
    rename_i hHeld
    have HBE := Lib.hid (belowStep hHeld.1 HB.out)
    go_wp2
    go_ret
    exact ⟨rfl, HBE.out⟩
  have HCT := Lib.hid (containsN_any 17 #[.pointer (some ⟨w.heap.size + 1 + 1, 0, none⟩), .pointer (some ⟨w.heap.size + 1, 0, none⟩)] (fun _ _ => rfl) p5 fl _ w11 (fun i hi W hW => by
    rw [HP5.out]
    exact shiftsF_any (w.heap.size + 1) (w.heap.size + 1 + 1) b f i W (H4.out.of_eq (hW.block _ H4.out.lt)) (H5.out.of_eq (hW.block _ H5.out.lt)) ⟨hb0, hb1⟩ ⟨hf0, hf.2⟩ (HFB.out i hi)) _ HXR.out)
  have HR5 := Lib.hid (show fl.any p5 = fallsB t b f from by rw [HP5.out, HO.out.1]; exact falls_list t b f)
  obtain ⟨r5, hr5⟩ : ∃ r, r = fl.any p5 := ⟨_, rfl⟩
  rw [← hr5] at HCT HR5
  clear hr5
  go_wp2_with fail
  refine HCT.out.mono ?_
  rintro e w12 ⟨rfl, hb⟩
  replace HBX := Lib.hid (HBX.out.of_eq (hb.block _ HBX.out.lt))
  replace H4 := Lib.hid (H4.out.of_eq (hb.block _ H4.out.lt))
  replace H5 := Lib.hid (H5.out.of_eq (hb.block _ H5.out.lt))
  replace HBZ := Lib.hid (HBZ.out.of_eq (hb.block _ HBZ.out.lt))
  replace HZV := Lib.hid (HZV.out.grow hb)
  replace HB := Lib.hid (belowStep hb HB.out)
  clear hb HCT d4 d5
  have d4 := H4.out.cell 0 (.int .i64 b) rfl
  have d5 := H5.out.cell 0 (.int .i64 f) rfl
  cases r5
  rotate_left
  · have hq := HR5.out.symm
    have HE := Lib.hid (HO.out.2.2.1 (.inr (.inr (.inr hq))))
    have q9 : (uc == 2) = true := by rw [HE.out.2]; rfl
    have HSB := Lib.hid HE.out.1
    have c0 := HBZ.out.cell 0 (.int .i64 u.op) rfl
    have c1 := HBZ.out.cell 1 (.int .i64 u.n) rfl
    have c2 := HBZ.out.cell 2 (.string u.s) rfl
    have c3 := HBZ.out.cell 3 (.slice zka zkn zkc) rfl
    have c4 := HBZ.out.cell 4 (.slice zna znn znc) rfl
    have c5 := HBZ.out.cell 5 (.slice zla zln zlc) rfl
    clear HE
    go_wp2_with fail
    clear c0 c1 c2 c3 c4 c5
    clear d4 d5
    refine (HNO.out _ HB.out HSB.out _ HZV.out).mono ?_
    rintro e wx ⟨rfl, hbx⟩
    have HBE := Lib.hid (belowStep hbx HB.out)
    clear hbx
    go_wp2
    go_ret
    exact ⟨rfl, HBE.out⟩
  have hfb : fallsB t b f = false := HR5.out.symm
  clear HR5
  have HE := Lib.hid (HO.out.2.2.2 hf0 hb0 hb1 hfb)
  have GSH := Lib.hid (fun W (hW : Below w12.heap.size w12 W) => HRS.out W (belowStep hW HB.out) HVT.out hf0 hb0 hb1)
  have GAN := Lib.hid (fun W yv (hW : Below w12.heap.size w12 W) (hy : ConV W (· < W.heap.size) (Con.shift b t f) yv) => HAN.out W yv _ (HZV.out.grow hW) hy)
  rw [HE.out] at GAN
  have HSS := Lib.hid (fun W (hW : Below w12.heap.size w12 W) => (show Below w12.heap.size w12 W ∧ W.cell? ⟨w.heap.size, 0, none⟩ = some (.int .i64 t.op) ∧ W.cell? ⟨w.heap.size, 1, none⟩ = some (.int .i64 t.n) ∧ W.cell? ⟨w.heap.size, 2, none⟩ = some (.string t.s) ∧ W.cell? ⟨w.heap.size, 3, none⟩ = some (.slice ka kn kc) ∧ W.cell? ⟨w.heap.size, 4, none⟩ = some (.slice na nn nc) ∧ W.cell? ⟨w.heap.size, 5, none⟩ = some (.slice la ln lc) ∧ W.cell? ⟨w7.heap.size, 0, none⟩ = some (.int .i64 u.op) ∧ W.cell? ⟨w7.heap.size, 1, none⟩ = some (.int .i64 u.n) ∧ W.cell? ⟨w7.heap.size, 2, none⟩ = some (.string u.s) ∧ W.cell? ⟨w7.heap.size, 3, none⟩ = some (.slice zka zkn zkc) ∧ W.cell? ⟨w7.heap.size, 4, none⟩ = some (.slice zna znn znc) ∧ W.cell? ⟨w7.heap.size, 5, none⟩ = some (.slice zla zln zlc) ∧ W.cell? ⟨w.heap.size + 1, 0, none⟩ = some (.int .i64 b) ∧ W.cell? ⟨w.heap.size + 1 + 1, 0, none⟩ = some (.int .i64 f) from ⟨hW, (HBX.out.of_eq (hW.block _ HBX.out.lt)).cell 0 _ rfl, (HBX.out.of_eq (hW.block _ HBX.out.lt)).cell 1 _ rfl, (HBX.out.of_eq (hW.block _ HBX.out.lt)).cell 2 _ rfl, (HBX.out.of_eq (hW.block _ HBX.out.lt)).cell 3 _ rfl, (HBX.out.of_eq (hW.block _ HBX.out.lt)).cell 4 _ rfl, (HBX.out.of_eq (hW.block _ HBX.out.lt)).cell 5 _ rfl, (HBZ.out.of_eq (hW.block _ HBZ.out.lt)).cell 0 _ rfl, (HBZ.out.of_eq (hW.block _ HBZ.out.lt)).cell 1 _ rfl, (HBZ.out.of_eq (hW.block _ HBZ.out.lt)).cell 2 _ rfl, (HBZ.out.of_eq (hW.block _ HBZ.out.lt)).cell 3 _ rfl, (HBZ.out.of_eq (hW.block _ HBZ.out.lt)).cell 4 _ rfl, (HBZ.out.of_eq (hW.block _ HBZ.out.lt)).cell 5 _ rfl, (H4.out.of_eq (hW.block _ H4.out.lt)).cell 0 _ rfl, (H5.out.of_eq (hW.block _ H5.out.lt)).cell 0 _ rfl⟩))
  have HD0 := Lib.hid (Below.refl w12.heap.size w12).drew
  obtain ⟨sx, hsx⟩ : ∃ x, x = Con.shift b t f := ⟨_, rfl⟩
  rw [← hsx] at GSH GAN
  clear hsx HE HO HRS HAN hfb HFB HXR HNO d4 d5
  have c0 := HBX.out.cell 0 (.int .i64 t.op) rfl
  have c1 := HBX.out.cell 1 (.int .i64 t.n) rfl
  have c2 := HBX.out.cell 2 (.string t.s) rfl
  have c3 := HBX.out.cell 3 (.slice ka kn kc) rfl
  have c4 := HBX.out.cell 4 (.slice na nn nc) rfl
  have c5 := HBX.out.cell 5 (.slice la ln lc) rfl
  have e0 := HBZ.out.cell 0 (.int .i64 u.op) rfl
  have e1 := HBZ.out.cell 1 (.int .i64 u.n) rfl
  have e2 := HBZ.out.cell 2 (.string u.s) rfl
  have e3 := HBZ.out.cell 3 (.slice zka zkn zkc) rfl
  have e4 := HBZ.out.cell 4 (.slice zna znn znc) rfl
  have e5 := HBZ.out.cell 5 (.slice zla zln zlc) rfl
  have d4 := H4.out.cell 0 (.int .i64 b) rfl
  have d5 := H5.out.cell 0 (.int .i64 f) rfl
  go_wp2_with fail
  go_region_held3 (fun W => Below w12.heap.size w12 W ∧ W.cell? ⟨w.heap.size, 0, none⟩ = some (.int .i64 t.op) ∧ W.cell? ⟨w.heap.size, 1, none⟩ = some (.int .i64 t.n) ∧ W.cell? ⟨w.heap.size, 2, none⟩ = some (.string t.s) ∧ W.cell? ⟨w.heap.size, 3, none⟩ = some (.slice ka kn kc) ∧ W.cell? ⟨w.heap.size, 4, none⟩ = some (.slice na nn nc) ∧ W.cell? ⟨w.heap.size, 5, none⟩ = some (.slice la ln lc) ∧ W.cell? ⟨w7.heap.size, 0, none⟩ = some (.int .i64 u.op) ∧ W.cell? ⟨w7.heap.size, 1, none⟩ = some (.int .i64 u.n) ∧ W.cell? ⟨w7.heap.size, 2, none⟩ = some (.string u.s) ∧ W.cell? ⟨w7.heap.size, 3, none⟩ = some (.slice zka zkn zkc) ∧ W.cell? ⟨w7.heap.size, 4, none⟩ = some (.slice zna znn znc) ∧ W.cell? ⟨w7.heap.size, 5, none⟩ = some (.slice zla zln zlc) ∧ W.cell? ⟨w.heap.size + 1, 0, none⟩ = some (.int .i64 b) ∧ W.cell? ⟨w.heap.size + 1 + 1, 0, none⟩ = some (.int .i64 f))
      (exact HSS.out _ (by with_reducible (repeat (first | exact Below.refl _ _ | exact HD0.out | refine Below.drew ?_ | refine below_new ?_ | refine belowStep (by assumption) ?_ | exact Nat.le_refl _))))
      (first
      | (go_at_call 19; (with_reducible refine Calls.mono (GSH.out _ ?_) ?_); (focus with_reducible (repeat (first | exact Below.refl _ _ | exact HD0.out | refine Below.drew ?_ | refine below_new ?_ | refine belowStep (by assumption) ?_ | exact Nat.le_refl _))); rintro e k1 ⟨⟨yv, rfl, hy⟩, hbk1⟩; have hbk := belowStep (a := w12) hbk1 (by with_reducible (repeat (first | exact Below.refl _ _ | exact HD0.out | refine Below.drew ?_ | refine below_new ?_ | refine belowStep (by assumption) ?_ | exact Nat.le_refl _))); have hyk := hy; obtain ⟨ua, un, uk, va, vn, vk, xa2, xn2, xk2, hyv, -, -, -⟩ := hy.shape; subst hyv)
      | (go_at_call 18; (with_reducible refine Calls.mono (GAN.out _ _ (by assumption) (by assumption)) ?_); rintro e k2 ⟨rfl, hbk2⟩)
      | fail)
  rename_i hHeld
  have HBE := Lib.hid (belowStep hHeld.1 HB.out)
  go_wp2
  go_ret
  exact ⟨rfl, HBE.out⟩
theorem shifts_done (t : Con) (b f : Int) (w : World) (v : Value) (ht : ConV w (· < w.heap.size) t v) (hb : (Lit.int .i64 b).wf = true) (hf : (Lit.int .i64 f).wf = true) :
    Calls Tryz.prog 3 #[v, .int .i64 b, .int .i64 f] w fun e w' => e = .returned (.bool true) ∧ Below w.heap.size w w' :=
  shifts_walk t b f w v ht (bounds_i64 hb) (bounds_i64 hf)
end Go.Proofs.YtkjaicmfegpjdaaGreat
