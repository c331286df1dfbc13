/-
  Walks and plain mathematics, several texts in one (Sd Tp Tq Fe Fd).
-/
import Derived.Test.YtjedahcpkcgpeaaGreatDoorH26
import Derived.Test.YtjedahcpkcgpeaaGreatDoorH21
/-
  Plain mathematics of layer 3: a form is a form. No program.
-/
namespace Go.Proofs.YtjedahcpkcgpeaaGreatDoor.Pl
open Go
set_option linter.unusedSimpArgs false
theorem p1 (l : List Syn) : parts l [1] = exact l [1] := parts_exact _ _ (by decide)
theorem p3 (l : List Syn) : parts l [3] = exact l [3] := parts_exact _ _ (by decide)
theorem p6 (l : List Syn) : parts l [6] = exact l [6] := parts_exact _ _ (by decide)
theorem p7 (l : List Syn) : parts l [7] = exact l [7] := parts_exact _ _ (by decide)
theorem p11 (l : List Syn) : parts l [1, 1] = exact l [1, 1] := parts_exact _ _ (by decide)
theorem p33 (l : List Syn) : parts l [3, 3] = exact l [3, 3] := parts_exact _ _ (by decide)
theorem p333 (l : List Syn) : parts l [3, 3, 3] = exact l [3, 3, 3] := parts_exact _ _ (by decide)
theorem p23 (l : List Syn) : parts l [2, 3] = exact l [2, 3] := parts_exact _ _ (by decide)
theorem p31 (l : List Syn) : parts l [3, 1] = exact l [3, 1] := parts_exact _ _ (by decide)
theorem p66 (l : List Syn) : parts l [6, 6] = exact l [6, 6] := parts_exact _ _ (by decide)
theorem p67 (l : List Syn) : parts l [6, 7] = exact l [6, 7] := parts_exact _ _ (by decide)
theorem p77 (l : List Syn) : parts l [7, 7] = exact l [7, 7] := parts_exact _ _ (by decide)
theorem p76 (l : List Syn) : parts l [7, 6] = exact l [7, 6] := parts_exact _ _ (by decide)
theorem o1 (l : List Syn) : (parts l [] || parts l [1]) = (decide (l.length ≤ 1) && rall l 1) := parts_opt l 1 (by decide)
theorem o2 (l : List Syn) : (parts l [] || parts l [2]) = (decide (l.length ≤ 1) && rall l 2) := parts_opt l 2 (by decide)
theorem t2 (l : List Syn) : (parts l [] || tuple l 2) = (decide (l.length ≠ 1) && decide (l.length ≤ 9) && rall l 2) := parts_tuple l 2 (by decide)
theorem t3 (l : List Syn) : (parts l [] || tuple l 3) = (decide (l.length ≠ 1) && decide (l.length ≤ 9) && rall l 3) := parts_tuple l 3 (by decide)
theorem t1 (l : List Syn) : tuple l 1 = (decide (2 ≤ l.length) && decide (l.length ≤ 9) && rall l 1) := tuple_eq l 1 (by decide)
theorem a1 (l : List Syn) : allOf l 1 = rall l 1 := allOf_eq l 1 (by decide)
theorem a4 (l : List Syn) : allOf l 4 = rall l 4 := allOf_eq l 4 (by decide)
theorem a5 (l : List Syn) : allOf l 5 = rall l 5 := allOf_eq l 5 (by decide)
theorem mlet2 (l : List Syn) : (decide (1 ≤ l.length) && rall (l.take (l.length - 1)) 4 && parts (l.drop (l.length - 1)) [7]) = (decide (1 ≤ l.length) && rall (l.take (l.length - 1)) 4 && rall (l.drop (l.length - 1)) 7) := by
  rw [← a4, mlet_eq, a4]
theorem op_eq (n : Int) (l : List Syn) (s m : Bool) : (decide (1 ≤ n) && decide (n ≤ 12) && s && m && (if n = 12 then parts l [3] else parts l [3, 3])) = (if n = 12 then s && m && exact l [3] else s && m && decide (1 ≤ n) && decide (n ≤ 11) && exact l [3, 3]) := by
  by_cases h : n = 12
  · rw [if_pos h, if_pos h, p3, h]; simp
  · rw [if_neg h, if_neg h, p33, show decide (n ≤ 12) = decide (n ≤ 11) from by rw [Bool.eq_iff_iff, decide_eq_true_eq, decide_eq_true_eq]; omega]; ac_rfl
theorem form_low (op n around : Int) (s : ByteArray) (m : List ByteArray) (l : List Syn) (anon : Bool) (h : op ≤ 40) : form ⟨op, n, s, m, l⟩ around = rform ⟨op, n, s, m, l⟩ anon := by
  unfold form
  rw [show (core op n l || modl op l) = core op n l from core_or op n l h]
  have hc : op = 1 ∨ op = 2 ∨ op = 3 ∨ op = 4 ∨ op = 5 ∨ op = 11 ∨ op = 12 ∨ op = 13 ∨ op = 14 ∨ op = 15 ∨ op = 21 ∨ op = 22 ∨ op = 23 ∨ op = 24 ∨ op = 25 ∨ op = 26 ∨ op = 27 ∨ op = 28 ∨ op = 29 ∨ op = 30 ∨ op = 31 ∨ op = 32 ∨ op = 33 ∨ op = 34 ∨
      (op ≠ 1 ∧ op ≠ 2 ∧ op ≠ 3 ∧ op ≠ 4 ∧ op ≠ 5 ∧ op ≠ 11 ∧ op ≠ 12 ∧ op ≠ 13 ∧ op ≠ 14 ∧ op ≠ 15 ∧ ¬ (21 ≤ op ∧ op ≤ 34)) := by omega
  rcases hc with rfl | rfl | rfl | rfl | rfl | rfl | rfl | rfl | rfl | rfl | rfl | rfl | rfl | rfl | rfl | rfl | rfl | rfl | rfl | rfl | rfl | rfl | rfl | rfl | h0
  iterate 24
    · (try simp (config := { decide := true }) only [num, stxt, nam, core, rform, cat, typeF, patF, exprF, bare, hasPath, lowEnd, if_true, if_false, or_false, false_or, or_true, true_or, and_true, and_false, false_and, true_and, decide_true, decide_false, Bool.true_or, Bool.false_or, Bool.true_and, Bool.and_true, Bool.or_false, o2, t2, t3, t1, a1, exact_zero, case_eq, let_eq, Bool.decide_and, op_eq])
      (try simp only [parts_nil, p1, p3, p11, p33, p333, p23, p31])
      first | done | ac_rfl
  · have h1 : core op n l = false := by
      unfold core
      repeat' rw [if_neg (by omega)]
    have h2 : cat op = 0 := by
      unfold cat
      repeat' split
      all_goals omega
    have h3 : rform ⟨op, n, s, m, l⟩ anon = false := by
      unfold rform
      rw [if_neg (by show ¬ (op = 43 ∧ _); omega)]
      show (if cat op = 1 then _ else if cat op = 2 then _ else if cat op = 3 ∨ op = 30 then _ else if cat op = 4 ∨ op = 45 then _ else if cat op = 5 ∨ cat op = 6 then _ else decide (cat op = 7) && _) = false
      rw [h2]
      rw [if_neg (by decide), if_neg (by decide), if_neg (by omega), if_neg (by omega), if_neg (by decide)]
      rfl
    rw [h1, h3, Bool.and_false]
theorem form_high (op n around : Int) (s : ByteArray) (m : List ByteArray) (l : List Syn) (anon : Bool) (h : 40 ≤ op) (h43 : op ≠ 43) (h74 : op ≠ 74) : form ⟨op, n, s, m, l⟩ around = rform ⟨op, n, s, m, l⟩ anon := by
  unfold form
  rw [show (core op n l || modl op l) = modl op l from modl_or op n l h]
  have hc : op = 41 ∨ op = 42 ∨ op = 44 ∨ op = 45 ∨ op = 46 ∨ op = 47 ∨ op = 48 ∨ op = 49 ∨ op = 50 ∨ op = 61 ∨ op = 62 ∨ op = 63 ∨ op = 64 ∨ op = 65 ∨ op = 66 ∨ op = 71 ∨ op = 72 ∨ op = 73 ∨ op = 81 ∨ op = 82 ∨ op = 83 ∨ op = 84 ∨ op = 85 ∨ op = 86 ∨ op = 87 ∨ op = 88 ∨
      (¬ (41 ≤ op ∧ op ≤ 50) ∧ ¬ (61 ≤ op ∧ op ≤ 66) ∧ ¬ (71 ≤ op ∧ op ≤ 74) ∧ ¬ (81 ≤ op ∧ op ≤ 88)) := by omega
  rcases hc with rfl | rfl | rfl | rfl | rfl | rfl | rfl | rfl | rfl | rfl | rfl | rfl | rfl | rfl | rfl | rfl | rfl | rfl | rfl | rfl | rfl | rfl | rfl | rfl | rfl | rfl | h0
  iterate 26
    · (try simp (config := { decide := true }) only [num, stxt, nam, modl, rform, cat, declF, specF, modF, bare, hasPath, lowEnd, if_true, if_false, or_false, false_or, or_true, true_or, and_true, and_false, false_and, true_and, decide_true, decide_false, Bool.true_or, Bool.false_or, Bool.true_and, Bool.and_true, Bool.or_false, o1, a4, a5, exact_two, share_eq, mlet2, Bool.decide_and, params])
      (try simp only [parts_nil, p1, p3, p6, p7, p66, p67, p77, p76])
      first | done | ac_rfl
  · have h1 : modl op l = false := by
      unfold modl
      repeat' rw [if_neg (by omega)]
    have h2 : cat op = 0 := by
      unfold cat
      repeat' split
      all_goals omega
    have h3 : rform ⟨op, n, s, m, l⟩ anon = false := by
      unfold rform
      rw [if_neg (by show ¬ (op = 43 ∧ _); omega)]
      show (if cat op = 1 then _ else if cat op = 2 then _ else if cat op = 3 ∨ op = 30 then _ else if cat op = 4 ∨ op = 45 then _ else if cat op = 5 ∨ cat op = 6 then _ else decide (cat op = 7) && _) = false
      rw [h2]
      rw [if_neg (by decide), if_neg (by decide), if_neg (by omega), if_neg (by omega), if_neg (by decide)]
      rfl
    rw [h1, h3, Bool.and_false]
theorem form_with (n around : Int) (s : ByteArray) (m : List ByteArray) (l : List Syn) (anon : Bool) : rform ⟨74, n, s, m, l⟩ anon = (form ⟨74, n, s, m, l⟩ around && emptyS (l.getD 1 none0).s) := by
  unfold form
  rw [show (core 74 n l || modl 74 l) = modl 74 l from modl_or 74 n l (by decide)]
  simp (config := { decide := true }) only [num, stxt, nam, modl, rform, cat, specF, bare, hasPath, lowEnd, if_true, if_false, or_false, false_or, or_true, true_or, and_true, and_false, false_and, true_and, decide_true, decide_false, Bool.true_or, Bool.false_or, Bool.true_and, Bool.and_true, Bool.or_false, with_eq]
  ac_rfl
theorem form_type (n around : Int) (s : ByteArray) (m : List ByteArray) (l : List Syn) (anon : Bool) (h : around = 74 ↔ anon = true) : form ⟨43, n, s, m, l⟩ around = rform ⟨43, n, s, m, l⟩ anon := by
  unfold form
  rw [show (core 43 n l || modl 43 l) = modl 43 l from modl_or 43 n l (by decide)]
  simp (config := { decide := true }) only [num, stxt, nam, modl, rform, cat, declF, bare, hasPath, lowEnd, if_true, if_false, or_false, false_or, or_true, true_or, and_true, and_false, false_and, true_and, decide_true, decide_false, Bool.true_or, Bool.false_or, Bool.true_and, Bool.and_true, Bool.or_false, p1]
  cases anon
  · have h0 : ¬ around = 74 := fun e => by have := h.1 e; cases this
    rw [if_neg h0]
    cases hs : emptyS s
    · simp
    · have : lowS s = false := by
        cases hl : lowS s
        · rfl
        · rw [low_not_empty s hl] at hs; cases hs
      simp [this]
  · rw [if_pos (h.2 rfl)]
    cases hs : emptyS s
    · simp
    · simp
theorem form_eq (t : Syn) (around : Int) (anon : Bool) (h43 : t.op = 43 → (around = 74 ↔ anon = true)) (h74 : t.op ≠ 74) : form t around = rform t anon := by
  obtain ⟨op, n, s, m, l⟩ := t
  by_cases h : op ≤ 40
  · exact form_low op n around s m l anon h
  · by_cases h1 : op = 43
    · subst h1; exact form_type n around s m l anon (h43 rfl)
    · exact form_high op n around s m l anon (by omega) h1 h74
mutual
def Syn.ok : Syn → Int → Bool
  | ⟨op, n, s, m, l⟩, around => form ⟨op, n, s, m, l⟩ around && oks l op
def oks : List Syn → Int → Bool
  | [], _ => true
  | t :: r, around => t.ok around && oks r around
end
theorem ok_eq (t : Syn) (around : Int) : t.ok around = (form t around && oks t.l t.op) := by obtain ⟨op, n, s, m, l⟩ := t; rw [Syn.ok]
def anonAt (op : Int) (j : Nat) : Bool := decide (op = 74 ∧ j = 1)
mutual
def Syn.nodes : Syn → Bool → Bool
  | ⟨op, n, s, m, l⟩, anon => rform ⟨op, n, s, m, l⟩ anon && nodess l op 0
def nodess : List Syn → Int → Nat → Bool
  | [], _, _ => true
  | t :: r, op, j => t.nodes (anonAt op j) && nodess r op (j + 1)
end
theorem nodes_eq (t : Syn) (anon : Bool) : t.nodes anon = (rform t anon && nodess t.l t.op 0) := by obtain ⟨op, n, s, m, l⟩ := t; rw [Syn.nodes]
theorem nodess_nil (op : Int) (j : Nat) : nodess [] op j = true := by rw [nodess]
theorem nodess_cons (t : Syn) (r : List Syn) (op : Int) (j : Nat) : nodess (t :: r) op j = (t.nodes (anonAt op j) && nodess r op (j + 1)) := by rw [nodess]
theorem oks_nil (op : Int) : oks [] op = true := by rw [oks]
theorem oks_cons (t : Syn) (r : List Syn) (op : Int) : oks (t :: r) op = (t.ok op && oks r op) := by rw [oks]
theorem with_parts (t : Syn) (around : Int) (h : t.op = 74) (hf : form t around = true) : ∃ a b, t.l = [a, b] ∧ a.op ≠ 43 ∧ b.op = 43 := by
  obtain ⟨op, n, s, m, l⟩ := t
  have h' : op = 74 := h
  subst h'
  unfold form at hf
  rw [show (core 74 n l || modl 74 l) = modl 74 l from modl_or 74 n l (by decide)] at hf
  have hm : modl 74 l = true := by
    rw [Bool.and_eq_true] at hf; exact hf.2
  have hm2 : (parts l [6, 4] && decide (opAt l 1 = 43)) = true := hm
  match l, hm2 with
  | [a, b], hm2 =>
    refine ⟨a, b, rfl, fun ha => ?_, ?_⟩
    · simp [parts, ha, bel] at hm2
    · simp [opAt] at hm2; exact hm2.2
  | [], hm2 => simp [parts] at hm2
  | [a], hm2 => simp [parts] at hm2
  | a :: b :: c :: r, hm2 => simp [parts] at hm2
theorem type_empty (t : Syn) (h : t.op = 43) (hf : t.ok 74 = true) : emptyS t.s = true := by
  obtain ⟨op, n, s, m, l⟩ := t
  have h' : op = 43 := h
  subst h'
  rw [ok_eq] at hf
  unfold form at hf
  simp only [Bool.and_eq_true] at hf
  have := hf.1.1.1.2
  simpa [stxt] using this
theorem nodes_ok (t : Syn) : ∀ (around : Int) (anon : Bool), (t.op = 43 → (around = 74 ↔ anon = true)) → t.ok around = t.nodes anon := by
  induction t using Syn.ind with
  | h t ih =>
    intro around anon h43
    rw [ok_eq, nodes_eq]
    by_cases h74 : t.op = 74
    · have hw : rform t anon = (form t around && emptyS (t.l.getD 1 none0).s) := by
        obtain ⟨op, n, s, m, l⟩ := t
        have h' : op = 74 := h74
        subst h'
        exact form_with n around s m l anon
      rw [hw]
      cases hf : form t around
      · simp
      · obtain ⟨a, b, hl, ha, hb⟩ := with_parts t around h74 hf
        have iha := ih a (by rw [hl]; simp) 74 (anonAt 74 0) (fun h => absurd h ha)
        have ihb := ih b (by rw [hl]; simp) 74 (anonAt 74 1) (fun _ => by simp [anonAt])
        rw [hl, h74, oks_cons, oks_cons, oks_nil, nodess_cons, nodess_cons, nodess_nil, ← iha, ← ihb]
        have hg : ([a, b].getD 1 none0).s = b.s := rfl
        rw [hg]
        cases hbo : b.ok 74
        · simp
        · rw [type_empty b hb hbo]; simp
    · rw [form_eq t around anon h43 h74]
      have hls : ∀ (l : List Syn) (j : Nat), (∀ x ∈ l, ∀ (around : Int) (anon : Bool), (x.op = 43 → (around = 74 ↔ anon = true)) → x.ok around = x.nodes anon) → oks l t.op = nodess l t.op j := by
        intro l
        induction l with
        | nil => intro j _; rw [oks_nil, nodess_nil]
        | cons x r ihr =>
          intro j hx
          rw [oks_cons, nodess_cons, ihr (j + 1) (fun y hy => hx y (List.mem_cons_of_mem _ hy)), hx x List.mem_cons_self t.op (anonAt t.op j) (fun _ => by simp [anonAt, h74])]
      rw [hls t.l 0 ih]
def formed (t : Syn) : Bool := decide (t.size ≤ 20000) && decide (t.depth ≤ 400) && t.nodes false
theorem formed_ok (t : Syn) : formed t = (decide (t.size ≤ 20000) && decide (t.depth ≤ 400) && t.ok 0) := by
  unfold formed
  rw [nodes_ok t 0 false (fun _ => by simp)]
end Go.Proofs.YtjedahcpkcgpeaaGreatDoor.Pl

/-
  Walks of layer 3: the form of a node, and a well-formed tree.
-/
namespace Go.Proofs.YtjedahcpkcgpeaaGreatDoor
open Go Go.RowKit
open Pl (Syn)
set_option linter.unusedSimpArgs false
set_option maxRecDepth 100000 in
set_option maxHeartbeats 4000000 in
theorem hasForm_any (P : Nat → Prop) (t : Syn) (v : Value) (around : Int) (w : World) (hP : ∀ b, P b → b < w.heap.size) (h : SynV w P t v) (hbig : t.big ≤ 1073741824) :
    Calls Tryz.prog 59 #[v, .int .i64 around] w fun e w' => e = .returned (.bool (Pl.form t around)) ∧ Below w.heap.size w w' := by
  have hlb := Pl.len_big t
  rw [synV_iff] at h
  obtain ⟨hs, nv, lv, rfl, hn, hl⟩ := h
  have HN := Lib.hid (fun W (hW : Below w.heap.size w W) => hn.keep (Same.of_below hW hP))
  have HL := Lib.hid (fun W (hW : Below w.heap.size w W) => hl.keep (Same.of_below hW hP))
  have HPW := Lib.hid (fun W (hW : Below w.heap.size w W) b (hb : P b) => Nat.lt_of_lt_of_le (hP b hb) hW.size)
  have hb : Below w.heap.size w (w.alloc (.cells #[.int .i64 t.op, .int .i64 t.n, .string t.s, nv, lv] 27)) := (Below.refl _ _).alloc (Nat.le_refl _) _
  have bx := blk_new w #[.int .i64 t.op, .int .i64 t.n, .string t.s, nv, lv] 27
  have HBX := Lib.hid bx
  have HB := Lib.hid hb
  have HSZ := Lib.hid (size_alloc w (.cells #[.int .i64 t.op, .int .i64 t.n, .string t.s, nv, lv] 27))
  have x0 := bx.cell 0 _ rfl
  have x1 := bx.cell 1 _ rfl
  have x2 := bx.cell 2 _ rfl
  have x3 := bx.cell 3 _ rfl
  have x4 := bx.cell 4 _ rfl
  have H1 := Lib.hid (fun W => numberFits_any t.op t.n t.s nv lv W)
  have H2 := Lib.hid (fun W => textFits_any t.op t.n around t.s nv lv W hs)
  have H3 := Lib.hid (fun W h1 h2 => namesFit_any P t.op t.n t.s t.names nv lv W h1 h2)
  have H4 := Lib.hid (fun W h1 h2 => core_any P t.op t.n t.s nv lv t.l W h1 h2)
  have H5 := Lib.hid (fun W h1 h2 => modl_any P t.op t.n t.s nv lv t.l W h1 h2 (by omega))
  have HF := Lib.hid (show Pl.form t around = (Pl.num t.op t.n && Pl.stxt t.op around t.s && Pl.nam t.op t.names && (Pl.core t.op t.n t.l || Pl.modl t.op t.l)) from rfl)
  generalize Pl.form t around = rr at *
  generalize Pl.num t.op t.n = r1 at *
  generalize Pl.stxt t.op around t.s = r2 at *
  generalize Pl.nam t.op t.names = r3 at *
  generalize Pl.core t.op t.n t.l = r4 at *
  generalize Pl.modl t.op t.l = r5 at *
  generalize t.op = xo at *
  generalize t.n = xn at *
  generalize t.s = xs at *
  clear hs hn hl hP hb bx hlb
  go_enter Tryz.func59, Tryz.ntmps59
  go_wp2_with fail
  refine (H1.out _).mono ?_
  rintro e w1 ⟨rfl, hb1⟩
  have HB1 := Lib.hid (HB.out.trans (hb1.mono HB.out.size))
  have HX1 := Lib.hid (HBX.out.of_eq (hb1.block _ HBX.out.lt))
  have x0 := HX1.out.cell 0 _ rfl
  have x1 := HX1.out.cell 1 _ rfl
  have x2 := HX1.out.cell 2 _ rfl
  have x3 := HX1.out.cell 3 _ rfl
  have x4 := HX1.out.cell 4 _ rfl
  clear hb1
  cases r1
  · go_wp2
    go_ret
    exact ⟨ret_bool (by rw [HF.out]; rfl), HB1.out⟩
  go_wp2_with fail
  refine (H2.out _).mono ?_
  rintro e w2 ⟨rfl, hb2⟩
  have HB2 := Lib.hid (HB1.out.trans (hb2.mono HB1.out.size))
  have HX2 := Lib.hid (HX1.out.of_eq (hb2.block _ HX1.out.lt))
  have x0 := HX2.out.cell 0 _ rfl
  have x1 := HX2.out.cell 1 _ rfl
  have x2 := HX2.out.cell 2 _ rfl
  have x3 := HX2.out.cell 3 _ rfl
  have x4 := HX2.out.cell 4 _ rfl
  clear hb2
  cases r2
  · go_wp2
    go_ret
    exact ⟨ret_bool (by rw [HF.out]; rfl), HB2.out⟩
  go_wp2_with fail
  refine (H3.out _ (HPW.out _ HB2.out) (HN.out _ HB2.out)).mono ?_
  rintro e w3 ⟨rfl, hb3⟩
  have HB3 := Lib.hid (HB2.out.trans (hb3.mono HB2.out.size))
  have HX3 := Lib.hid (HX2.out.of_eq (hb3.block _ HX2.out.lt))
  have x0 := HX3.out.cell 0 _ rfl
  have x1 := HX3.out.cell 1 _ rfl
  have x2 := HX3.out.cell 2 _ rfl
  have x3 := HX3.out.cell 3 _ rfl
  have x4 := HX3.out.cell 4 _ rfl
  clear hb3
  cases r3
  · go_wp2
    go_ret
    exact ⟨ret_bool (by rw [HF.out]; rfl), HB3.out⟩
  go_wp2_with fail
  refine (H4.out _ (HPW.out _ HB3.out) (HL.out _ HB3.out)).mono ?_
  rintro e w4 ⟨rfl, hb4⟩
  have HB4 := Lib.hid (HB3.out.trans (hb4.mono HB3.out.size))
  have HX4 := Lib.hid (HX3.out.of_eq (hb4.block _ HX3.out.lt))
  have x0 := HX4.out.cell 0 _ rfl
  have x1 := HX4.out.cell 1 _ rfl
  have x2 := HX4.out.cell 2 _ rfl
  have x3 := HX4.out.cell 3 _ rfl
  have x4 := HX4.out.cell 4 _ rfl
  clear hb4
  cases r4
  · go_wp2_with fail
    refine (H5.out _ (HPW.out _ HB4.out) (HL.out _ HB4.out)).mono ?_
    rintro e w5 ⟨rfl, hb5⟩
    have HB5 := Lib.hid (HB4.out.trans (hb5.mono HB4.out.size))
    clear hb5
    go_wp2
    go_ret
    exact ⟨ret_bool (by rw [HF.out]; rfl), HB5.out⟩
  · go_wp2
    go_ret
    exact ⟨ret_bool (by rw [HF.out]; rfl), HB4.out⟩
abbrev wfV (g : Nat) : Visitor where
  St := Int
  fid := 58
  g := g
  G := Unit
  Inv n _ w := Cell1 g n w ∧ n ≤ 20000
  own _ i := i = g
  cnt n := (20000 - n).toNat
  next n t around d := (n - 1, decide ((t.l.length : Int) ≤ n - 1) && decide (d ≤ 400) && Pl.form t around)
set_option maxRecDepth 100000 in
set_option maxHeartbeats 4000000 in
theorem wf1_any (g : Nat) (n : Int) (w : World) (t : Syn) (v : Value) (P : Nat → Prop) (around depth : Int) (hi : Cell1 g n w) (ht : SynV w P t v) (hP : ∀ b, P b → b < w.heap.size ∧ b ≠ g) (hbig : t.big ≤ 1073741824) (hn : n ≤ 20000) (hn2 : -1073741824 ≤ n) :
    Calls Tryz.prog 58 #[v, .int .i64 around, .int .i64 depth, .pointer (some ⟨g, 0, none⟩)] w fun e w' => e = .returned (.bool (decide ((t.l.length : Int) ≤ n - 1) && decide (depth ≤ 400) && Pl.form t around)) ∧ Cell1 g (n - 1) w' ∧ Fr (· = g) (· = g) w w' := by
  have HT := Lib.hid ht
  obtain ⟨na, nn, nc, la, ln, lc, rfl⟩ := ht.form
  have hlen := synV_len ht
  have hb : Below w.heap.size w (w.alloc (.cells #[.int .i64 t.op, .int .i64 t.n, .string t.s, .slice na nn nc, .slice la ln lc] 27)) := (Below.refl _ _).alloc (Nat.le_refl _) _
  have hi1 := hi.below hb
  have c0 := Blk.cell hi1 0 _ rfl
  have f0 := Blk.thaw hi1 0
  have hgl := Blk.lt hi
  have hw2 := cell1_set hi (show n - 1 = n - 1 from rfl) (.cells #[.int .i64 t.op, .int .i64 t.n, .string t.s, .slice na nn nc, .slice la ln lc] 27)
  have hf2 := (fr_set (g := g) (.int .i64 (n - 1)) 0 (Below.refl w.heap.size w)).alloc (.cells #[.int .i64 t.op, .int .i64 t.n, .string t.s, .slice na nn nc, .slice la ln lc] 27)
  have HW2 := Lib.hid hw2
  have HF2 := Lib.hid hf2
  have bx := blk_new (w.setCell ⟨g, 0, none⟩ (.int .i64 (n - 1))) #[.int .i64 t.op, .int .i64 t.n, .string t.s, .slice na nn nc, .slice la ln lc] 27
  rw [size_setCell] at bx
  have x0 := bx.cell 0 _ rfl
  have x1 := bx.cell 1 _ rfl
  have x2 := bx.cell 2 _ rfl
  have x3 := bx.cell 3 _ rfl
  have x4 := bx.cell 4 _ rfl
  have y0 := Blk.cell hw2 0 _ rfl
  have HC := Lib.hid (hasForm_any P t _ around _ (fun b hb' => (hf2.still hP b hb').1) (HT.out.keep (hf2.same hP)) hbig)
  have hll : ln ≤ maxLen := hlen.2
  unfold maxLen at hll
  have HLN := Lib.hid hlen.1
  have HNB := Lib.hid (show ∀ w', Below (((w.setCell ⟨g, 0, none⟩ (.int .i64 (n - 1))).alloc (.cells #[.int .i64 t.op, .int .i64 t.n, .string t.s, .slice na nn nc, .slice la ln lc] 27))).heap.size ((w.setCell ⟨g, 0, none⟩ (.int .i64 (n - 1))).alloc (.cells #[.int .i64 t.op, .int .i64 t.n, .string t.s, .slice na nn nc, .slice la ln lc] 27)) w' → Cell1 g (n - 1) w' ∧ Fr (· = g) (· = g) w w' from fun w' hb' => ⟨hw2.below hb', hf2.trans (Fr.of_below hb')⟩)
  rw [hlen.1]
  generalize Pl.form t around = rf at *
  generalize t.op = xo at *
  generalize t.n = xn at *
  generalize t.s = xs at *
  clear hb hi hi1 ht hP hlen hw2 hf2 bx
  by_cases h1 : (ln : Int) ≤ n - 1
  · have q1 : decide ((ln : Int) ≤ n - 1) = true := decide_eq_true h1
    by_cases h2 : depth ≤ 400
    · have q2 : decide (depth ≤ 400) = true := decide_eq_true h2
      go_enter Tryz.func58, Tryz.ntmps58
      go_wp2_with fail
      refine HC.out.mono ?_
      rintro e w2 ⟨rfl, hb2⟩
      have HB2 := Lib.hid (HNB.out _ hb2)
      clear hb2
      go_wp2
      go_ret
      exact ⟨ret_bool (by first | rfl | (simp [h1, h2]; done) | simp), HB2.out⟩
    · have q2 : decide (depth ≤ 400) = false := decide_eq_false h2
      go_enter Tryz.func58, Tryz.ntmps58
      go_wp2
      go_ret
      exact ⟨ret_bool (by first | rfl | (rw [show decide (depth ≤ 400) = false from decide_eq_false (by omega)]; simp)), HW2.out, HF2.out⟩
  · have q1 : decide ((ln : Int) ≤ n - 1) = false := decide_eq_false h1
    go_enter Tryz.func58, Tryz.ntmps58
    go_wp2
    go_ret
    exact ⟨ret_bool (by first | rfl | (rw [show decide ((ln : Int) ≤ n - 1) = false from decide_eq_false (by omega)]; simp)), HW2.out, HF2.out⟩
theorem wf_low (n : Int) (h : (20000 - n).toNat < 1073741824) : -1073741824 ≤ n := by omega
theorem wf_up (n : Int) (h : n ≤ 20000) : n - 1 ≤ 20000 := by omega
theorem wf_cnt (n : Int) : (20000 - (n - 1)).toNat ≤ (20000 - n).toNat + 1 := by omega
theorem wf_good (g : Nat) : (wfV g).Good where
  enter := by
    intro args w
    show Sem.run Tryz.prog (callFunc 58 args) w = .ok (.enter 58 args) w
    kernel_rfl
  calls := fun σ γ w P t v around depth hi ht hP hb hc h0 h1 => (wf1_any g σ w t v P around depth hi.1 ht hP hb hi.2 (wf_low σ hc)).mono fun e w' h => ⟨h.1, (), ⟨h.2.1, wf_up σ hi.2⟩, h.2.2⟩
  keep := fun σ γ w w' hi hb => ⟨Cell1.below hi.1 hb, hi.2⟩
  lt := fun σ γ w i hi ho => by
    have h : i = g := ho
    subst h; exact Blk.lt hi.1
  cnt_le := fun σ t around depth => wf_cnt σ
theorem wf_runs (g : Nat) (l : List Syn) (hl : ∀ x ∈ l, ∀ (n : Int) (around d : Int), (((wfV g).run n x around d).2 = true ↔ (x.size : Int) ≤ n ∧ d + x.depth - 1 ≤ 400 ∧ x.ok around = true) ∧ (((wfV g).run n x around d).2 = true → ((wfV g).run n x around d).1 = n - x.size)) :
    ∀ (n : Int) (around d : Int), 0 ≤ n → ((((wfV g).runs n l around d).2 = true ↔ (Pl.sizes l : Int) ≤ n ∧ (l = [] ∨ d + Pl.depths l - 1 ≤ 400) ∧ Pl.oks l around = true) ∧ (((wfV g).runs n l around d).2 = true → ((wfV g).runs n l around d).1 = n - Pl.sizes l)) := by
  induction l with
  | nil =>
    intro n around d hn
    rw [Visitor.runs_nil, Pl.sizes_nil, Pl.oks_nil]
    exact ⟨⟨fun _ => ⟨by omega, .inl rfl, rfl⟩, fun _ => rfl⟩, fun _ => by show n = n - ((0 : Nat) : Int); omega⟩
  | cons x r ih =>
    intro n around d hn
    obtain ⟨h1, h2⟩ := hl x List.mem_cons_self n around d
    have ih' := ih (fun y hy => hl y (List.mem_cons_of_mem _ hy))
    rw [Visitor.runs_cons, Pl.sizes_cons, Pl.oks_cons, Pl.depths_cons]
    generalize (wfV g).run n x around d = rx at *
    obtain ⟨n1, b⟩ := rx
    cases b
    · simp only [Bool.false_eq_true, if_false, false_iff, not_and, Bool.and_eq_true, false_implies, and_true] at h1 ⊢
      intro g1 g2 g3
      rcases g2 with g2 | g2
      · cases g2
      · exact absurd g3 (h1 (by omega) (by omega))
    · simp only [if_true, true_iff, true_implies] at h1 h2 ⊢
      subst h2
      obtain ⟨h1, h3, h4⟩ := h1
      obtain ⟨k1, k2⟩ := ih' (n - x.size) around d (by omega)
      rw [k1]
      refine ⟨⟨fun ⟨a1, a2, a3⟩ => ⟨by omega, .inr ?_, by rw [h4, a3]; rfl⟩, fun ⟨a1, a2, a3⟩ => ⟨by omega, ?_, by rw [h4] at a3; simpa using a3⟩⟩, fun a => ?_⟩
      · rcases a2 with a2 | a2
        · subst a2; rw [Pl.depths_nil]; omega
        · omega
      · rcases a2 with a2 | a2
        · cases a2
        · cases r with
          | nil => exact .inl rfl
          | cons y q => exact .inr (by omega)
      · rw [k2 (k1.2 a)]; show n - (x.size : Int) - _ = _; omega
theorem wf_run (g : Nat) (t : Syn) : ∀ (n : Int) (around d : Int), (((wfV g).run n t around d).2 = true ↔ (t.size : Int) ≤ n ∧ d + t.depth - 1 ≤ 400 ∧ t.ok around = true) ∧ (((wfV g).run n t around d).2 = true → ((wfV g).run n t around d).1 = n - t.size) := by
  induction t using Syn.ind with
  | h t ih =>
    intro n around d
    rw [Visitor.run_eq, Pl.size_eq, Pl.depth_eq, Pl.ok_eq]
    have hls := Pl.len_sizes t.l
    have hq := wf_runs g t.l ih (n - 1) t.op (d + 1)
    show ((if (decide ((t.l.length : Int) ≤ n - 1) && decide (d ≤ 400) && Pl.form t around) = true then (wfV g).runs (n - 1) t.l t.op (d + 1) else (n - 1, false)).2 = true ↔ _) ∧ ((if (decide ((t.l.length : Int) ≤ n - 1) && decide (d ≤ 400) && Pl.form t around) = true then (wfV g).runs (n - 1) t.l t.op (d + 1) else (n - 1, false)).2 = true → (if (decide ((t.l.length : Int) ≤ n - 1) && decide (d ≤ 400) && Pl.form t around) = true then (wfV g).runs (n - 1) t.l t.op (d + 1) else (n - 1, false)).1 = _)
    have hdp : t.l = [] → Pl.depths t.l = 0 := fun h => by rw [h, Pl.depths_nil]
    have hdn : t.l ≠ [] → 1 ≤ Pl.depths t.l := fun h => by
      cases hl : t.l with
      | nil => exact absurd hl h
      | cons x r => rw [Pl.depths_cons]; have := Pl.depth_pos x; omega
    by_cases hc : (decide ((t.l.length : Int) ≤ n - 1) && decide (d ≤ 400) && Pl.form t around) = true
    · rw [if_pos hc]
      simp only [Bool.and_eq_true, decide_eq_true_eq] at hc
      obtain ⟨⟨c1, c2⟩, c3⟩ := hc
      obtain ⟨q1, q2⟩ := hq (by omega)
      rw [q1]
      refine ⟨⟨fun ⟨a1, a2, a3⟩ => ⟨by omega, ?_, by rw [c3, a3]; rfl⟩, fun ⟨a1, a2, a3⟩ => ⟨by omega, ?_, by rw [c3] at a3; simpa using a3⟩⟩, fun a => ?_⟩
      · rcases a2 with a2 | a2
        · have := hdp a2; omega
        · omega
      · by_cases hl : t.l = []
        · exact .inl hl
        · exact .inr (by omega)
      · rw [q2 (q1.2 a)]
        show n - 1 - (Pl.sizes t.l : Int) = n - ((1 + Pl.sizes t.l : Nat) : Int)
        omega
    · rw [if_neg hc]
      simp only [Bool.false_eq_true, false_iff, false_implies, and_true]
      rintro ⟨a1, a2, a3⟩
      rw [Bool.and_eq_true] at a3
      refine hc ?_
      rw [a3.1, decide_eq_true (show (t.l.length : Int) ≤ n - 1 from by omega), decide_eq_true (show d ≤ 400 from by omega)]
      rfl
theorem wf_formed (g : Nat) (t : Syn) : ((wfV g).run (20000 : Int) t 0 1).2 = Pl.formed t := by
  rw [Bool.eq_iff_iff, (wf_run g t 20000 0 1).1, Pl.formed_ok]
  simp only [Bool.and_eq_true, decide_eq_true_eq, and_assoc]
  constructor
  · rintro ⟨a, b, c⟩; exact ⟨by omega, by omega, c⟩
  · rintro ⟨a, b, c⟩; exact ⟨by omega, by omega, c⟩
set_option maxRecDepth 100000 in
set_option maxHeartbeats 4000000 in
theorem isWellFormed_any (P : Nat → Prop) (t : Syn) (w : World) (v : Value) (hP : ∀ b, P b → b < w.heap.size) (ht : SynV w P t v) (hbig : t.big ≤ 536870912) :
    Calls Tryz.prog 35 #[v] w fun e w' => e = .returned (.bool (Pl.formed t)) ∧ Below w.heap.size w w' := by
  have hsb := Pl.size_big t
  have HT := Lib.hid ht
  obtain ⟨na, nn, nc, la, ln, lc, rfl⟩ := ht.form
  have hb : Below w.heap.size w ((w.alloc (.cells #[.int .i64 t.op, .int .i64 t.n, .string t.s, .slice na nn nc, .slice la ln lc] 27)).alloc (.cells #[.int .i64 20000] 3)) := (((Below.refl _ _).alloc (Nat.le_refl _) _).alloc (by simp) _)
  have hi : Cell1 (w.heap.size + 1) (20000 : Int) ((w.alloc (.cells #[.int .i64 t.op, .int .i64 t.n, .string t.s, .slice na nn nc, .slice la ln lc] 27)).alloc (.cells #[.int .i64 20000] 3)) := by
    have := blk_new (w.alloc (.cells #[.int .i64 t.op, .int .i64 t.n, .string t.s, .slice na nn nc, .slice la ln lc] 27)) #[.int .i64 20000] 3
    rw [size_alloc] at this
    exact this
  have HC := Lib.hid (visit_any (wfV (w.heap.size + 1)) (wf_good _) P t (20000 : Int) () _ (.agg #[.int .i64 t.op, .int .i64 t.n, .string t.s, .slice na nn nc, .slice la ln lc]) ⟨hi, by omega⟩ (fun b hbp => ⟨by rw [size_alloc, size_alloc]; have := hP b hbp; omega, fun ho => by have h1 : b = w.heap.size + 1 := ho; have := hP b hbp; omega⟩) (HT.out.keep (Same.of_below hb hP)) (by omega) (by show ((20000 : Int) - 20000).toNat + t.size ≤ 1073741824; omega))
  unfold Visitor.Post at HC
  rw [wf_formed] at HC
  have HB := Lib.hid hb
  clear ht hb hi hP
  go_enter Tryz.func35, Tryz.ntmps35
  go_wp2_with fail
  refine HC.out.mono ?_
  rintro e w1 ⟨rfl, _, hi1, hf1⟩
  have HF1 := Lib.hid (fr_above HB.out hf1 HB.out.size (fun i hi => by have h1 : i = w.heap.size + 1 := hi; omega))
  clear hi1 hf1
  go_wp2
  go_ret
  exact ⟨rfl, HF1.out⟩
end Go.Proofs.YtjedahcpkcgpeaaGreatDoor

/-
  Walks of layer 3: Valid, isTree, common categories.
-/
namespace Go.Proofs.YtjedahcpkcgpeaaGreatDoor
open Go Go.RowKit
open Pl (Syn)
set_option linter.unusedSimpArgs false
def validP (c : Int) (t : Syn) : Bool := Pl.bel t.op c && Pl.formed t
def common (op o : Int) : Bool := [1, 2, 3, 4, 5, 6, 7].any fun c => Pl.bel op c && Pl.bel o c
set_option maxRecDepth 100000 in
set_option maxHeartbeats 4000000 in
theorem valid_any (P : Nat → Prop) (t : Syn) (c : Int) (w : World) (v : Value) (hP : ∀ b, P b → b < w.heap.size) (ht : SynV w P t v) (hbig : t.big ≤ 536870912) :
    Calls Tryz.prog 14 #[.int .i64 c, v] w fun e w' => e = .returned (.bool (validP c t)) ∧ Below w.heap.size w w' := by
  have HT := Lib.hid ht
  obtain ⟨na, nn, nc, la, ln, lc, rfl⟩ := ht.form
  have hb : Below w.heap.size w (w.alloc (.cells #[.int .i64 t.op, .int .i64 t.n, .string t.s, .slice na nn nc, .slice la ln lc] 27)) := (Below.refl _ _).alloc (Nat.le_refl _) _
  have HB := Lib.hid hb
  have HC := Lib.hid (isWellFormed_any P t _ _ (fun b hb' => Nat.lt_of_lt_of_le (hP b hb') hb.size) (HT.out.keep (Same.of_below hb hP)) hbig)
  have HF := Lib.hid (show validP c t = (Pl.bel t.op c && Pl.formed t) from rfl)
  have HBE := Lib.hid (fun W => belongs_any t.op c W)
  generalize validP c t = rr at *
  generalize Pl.formed t = r2 at *
  generalize Pl.bel t.op c = r1 at *
  clear ht hb hP
  cases r1
  · go_enter Tryz.func14, Tryz.ntmps14
    go_wp2_with fail
    refine (HBE.out _).mono ?_
    rintro e w1 ⟨rfl, rfl⟩
    go_wp2
    go_ret
    exact ⟨ret_bool (by rw [HF.out]; rfl), HB.out⟩
  · go_enter Tryz.func14, Tryz.ntmps14
    go_wp2_with fail
    refine (HBE.out _).mono ?_
    rintro e w1 ⟨rfl, rfl⟩
    go_wp2_with fail
    refine HC.out.mono ?_
    rintro e w1 ⟨rfl, hb1⟩
    have HB1 := Lib.hid (HB.out.trans (hb1.mono HB.out.size))
    clear hb1
    go_wp2
    go_ret
    exact ⟨ret_bool (by rw [HF.out]; rfl), HB1.out⟩
end Go.Proofs.YtjedahcpkcgpeaaGreatDoor

/-
  Walks of layer 4: a tree and the end behind it.
-/
namespace Go.Proofs.YtjedahcpkcgpeaaGreatDoor
open Go Go.RowKit
set_option linter.unusedSimpArgs false
theorem NeedOut.endsplit {s : Src} {g i : Nat} {W W' : World} {e : Ending} (h : NeedOut s g (if (Pl.tkAt s.ts i).kind = 8 then .ok () i else .bad i) W e W') :
    ((Pl.tkAt s.ts i).kind ≠ 8 ∧ e = faultAt s i ∧ Fr (· = g) (· = g) W W') ∨ ((Pl.tkAt s.ts i).kind = 8 ∧ ∃ v, e = .returned v ∧ PAt W' g s i ∧ Fr (· = g) (· = g) W W') := by
  obtain ⟨h, hf⟩ := h
  by_cases hk : (Pl.tkAt s.ts i).kind = 8
  · rw [if_pos hk] at h
    obtain ⟨⟨v, rfl⟩, hp⟩ := h
    exact .inr ⟨hk, v, rfl, hp, hf⟩
  · rw [if_neg hk] at h
    exact .inl ⟨hk, h, hf⟩
def wholeR (ts : List Pl.Tok) (r : Pl.PR Pl.Syn) : Pl.PR Pl.Syn := r.then fun t j => if (Pl.tkAt ts j).kind = 8 then .ok t j else .bad j
theorem one_cell0 {w : World} {g : Nat} {T : TypeId} {a : Value} (h : Blk w g T #[a]) : w.cell? ⟨g, 0, none⟩ = some a := h.cell 0 _ rfl
set_option maxRecDepth 100000 in
set_option maxHeartbeats 8000000 in
theorem pwhole_any (s : Src) (g i k cb : Nat) (read : Pl.PR Pl.Syn) (w : World) (h : PAt w g s i) (hc : Blk w cb 75 #[.func (.func k) #[] #[]]) (hcg : cb ≠ g)
    (hread : ∀ W, PAt W g s i → Calls Tryz.prog k #[.pointer (some ⟨g, 0, none⟩)] W (TreeOut s g read W)) (hen : ∀ W, Sem.run Tryz.prog (callFunc k #[.pointer (some ⟨g, 0, none⟩)]) W = .ok (.enter k #[.pointer (some ⟨g, 0, none⟩)]) W) :
    Calls Tryz.prog 62 #[.pointer (some ⟨g, 0, none⟩), .pointer (some ⟨cb, 0, none⟩)] w (TreeOut s g (wholeR s.ts read) w) := by
  have HP := Lib.hid h
  have HG := Lib.hid h.blk.lt
  have HRD := Lib.hid hread
  obtain ⟨r, hr⟩ : ∃ r, r = wholeR s.ts read := ⟨_, rfl⟩
  rw [← hr]
  have HR := Lib.hid hr
  rw [wholeR] at HR
  have HF := Lib.hid (Fr.refl (· = g) w)
  obtain ⟨B, hB⟩ : ∃ B, B = w.heap.size + 1 := ⟨_, rfl⟩
  have HGB := Lib.hid (show g < B from by have := HG.out; omega)
  have HXB := Lib.hid (show w.heap.size < B from by omega)
  have HX := Lib.hid (blk_new w #[.int .i64 0, .int .i64 0, .string ⟨#[]⟩, .slice none 0 0, .slice none 0 0] 27)
  have HXL := Lib.hid (Nat.le_refl w.heap.size)
  have HC := Lib.hid (blk_fr hc hcg (fr_new g w (.cells #[.int .i64 0, .int .i64 0, .string ⟨#[]⟩, .slice none 0 0, .slice none 0 0] 27)))
  have hn := fr_new g w (.cells #[.int .i64 0, .int .i64 0, .string ⟨#[]⟩, .slice none 0 0, .slice none 0 0] 27)
  replace HF := Lib.hid (HF.out.trans hn)
  have HW := Lib.hid (show B ≤ (World.heap (w.alloc (.cells #[.int .i64 0, .int .i64 0, .string ⟨#[]⟩, .slice none 0 0, .slice none 0 0] 27))).size from by rw [hB]; simp)
  replace HP := Lib.hid (HP.out.below ((Below.refl _ _).alloc (Nat.le_refl _) (.cells #[.int .i64 0, .int .i64 0, .string ⟨#[]⟩, .slice none 0 0, .slice none 0 0] 27)))
  have cc := one_cell0 HC.out
  clear h hr hn hB hread hc hcg
  go_enter Tryz.func62, Tryz.ntmps62
  go_wp2_with fail
  generalize w.alloc (.cells #[.int .i64 0, .int .i64 0, .string ⟨#[]⟩, .slice none 0 0, .slice none 0 0] 27) = w1 at *
  refine (HRD.out _ HP.out).mono ?_
  rintro e w2 ho
  rcases TreeOut.split ho with ⟨q1, hri1, rfl, hf⟩ | ⟨tx, q1, x0, x1, x2, xa, xl, xc, xd, xe, xf, hri1, rfl, ht, hp, hf⟩
  · exact ⟨rfl, tree_bad (HR.out.trans (by rw [hri1, Pl.PR.then_bad])) (HF.out.trans hf)⟩
  rw [hri1, Pl.PR.then_ok] at HR
  have HTx := Lib.hid (ht.mono (own_low HW.out))
  replace HF := Lib.hid (HF.out.trans hf)
  replace HW := Lib.hid (Nat.le_trans HW.out (Fr.size hf))
  replace HX := Lib.hid (blk_fr HX.out (by have := HXL.out; have := HG.out; omega) hf)
  replace HP := Lib.hid (hp)
  clear ho hp hf ht hri1
  clear cc HC
  have HZL := Lib.hid (show w.heap.size ≤ w2.heap.size from HF.out.size)
  have HZB := Lib.hid (show w.heap.size < w2.heap.size from Nat.lt_of_lt_of_le HXB.out HW.out)
  have hz := blk_new w2 #[.int .i64 x0, .int .i64 x1, .string x2, .slice xa xl xc, .slice xd xe xf] 27
  have hn := fr_new g w2 (.cells #[.int .i64 x0, .int .i64 x1, .string x2, .slice xa xl xc, .slice xd xe xf] 27)
  replace HF := Lib.hid (HF.out.trans hn)
  replace HW := Lib.hid (Nat.le_trans HW.out (Fr.size hn))
  replace HX := Lib.hid (blk_fr HX.out (by have := HXL.out; have := HG.out; omega) hn)
  replace HTx := Lib.hid (tree_fr HTx.out HGB.out hn)
  replace HP := Lib.hid (HP.out.below ((Below.refl _ _).alloc (Nat.le_refl _) (.cells #[.int .i64 x0, .int .i64 x1, .string x2, .slice xa xl xc, .slice xd xe xf] 27)))
  clear hn
  have HZ := Lib.hid hz
  clear hz
  go_wp2_with fail
  generalize (w2.alloc (.cells #[.int .i64 x0, .int .i64 x1, .string x2, .slice xa xl xc, .slice xd xe xf] 27)) = w3 at *
  refine (pend_any s g q1 _ HP.out).mono ?_
  rintro e wz ho
  rcases NeedOut.endsplit ho with ⟨hk, rfl, hf⟩ | ⟨hk, v, rfl, hp, hf⟩
  · exact ⟨rfl, tree_bad (HR.out.trans (if_neg hk)) (HF.out.trans hf)⟩
  rw [if_pos hk] at HR
  replace HF := Lib.hid (HF.out.trans hf)
  replace HW := Lib.hid (Nat.le_trans HW.out (Fr.size hf))
  replace HX := Lib.hid (blk_fr HX.out (by have := HXL.out; have := HG.out; omega) hf)
  replace HZ := Lib.hid (blk_fr HZ.out (by have := HZL.out; have := HG.out; omega) hf)
  replace HTx := Lib.hid (tree_fr HTx.out HGB.out hf)
  replace HP := Lib.hid (hp)
  clear ho hp hf hk
  obtain ⟨hzc0, hzc1, hzc2, hzc3, hzc4⟩ := five_cells HZ.out
  obtain ⟨hxc0, hxc1, hxc2, hxc3, hxc4⟩ := five_cells HX.out
  have hxf0 := HX.out.thaw 0
  have hxf1 := HX.out.thaw 1
  have hxf2 := HX.out.thaw 2
  have hxf3 := HX.out.thaw 3
  have hxf4 := HX.out.thaw 4
  go_wp2_with fail
  have HEN := putFive_blk HX.out (.int .i64 x0) (.int .i64 x1) (.string x2) (.slice xa xl xc) (.slice xd xe xf)
  have HFI := tree_fin HG.out HF.out HTx.out HXB.out HP.out (.int .i64 x0) (.int .i64 x1) (.string x2) (.slice xa xl xc) (.slice xd xe xf)
  unfold putFive at HEN HFI
  obtain ⟨k0, k1, k2, k3, k4⟩ := five_cells HEN
  refine bodyPost_ret (v := .agg #[.int .i64 x0, .int .i64 x1, .string x2, .slice xa xl xc, .slice xd xe xf]) (by simp [results, Tryz.results62, go_sem, k0, k1, k2, k3, k4]) rfl ?_
  exact tree_ok HR.out HFI
end Go.Proofs.YtjedahcpkcgpeaaGreatDoor

/-
  Walks of layer 4: a tree of a category, from an index on.
-/
namespace Go.Proofs.YtjedahcpkcgpeaaGreatDoor
open Go Go.RowKit
set_option linter.unusedSimpArgs false
def ParseOut (s : Src) (cat : Int) (r : Pl.PR Pl.Syn) (w : World) (e : Ending) (w' : World) : Prop :=
  (match r with
    | .ok t j => if validP cat t = true then ∃ v, e = .returned (.tuple #[v, .int .i64 j, .int .i64 0]) ∧ SynV w' (fun b => w.heap.size ≤ b ∧ b < w'.heap.size) t v
      else e = .returned (.tuple #[.agg #[.int .i64 0, .int .i64 0, .string ⟨#[]⟩, .slice none 0 0, .slice none 0 0], .int .i64 0, .int .i64 5])
    | .bad j => e = .returned (.tuple #[.agg #[.int .i64 0, .int .i64 0, .string ⟨#[]⟩, .slice none 0 0, .slice none 0 0], .int .i64 j, .int .i64 (if (Pl.tkAt s.ts j).kind = 8 then 4 else 3)])) ∧ Below w.heap.size w w'
theorem parse_boxes (w : World) (a b : Value) (cs : Array Value) (T0 T1 T2 T3 : TypeId) (x : Array Value) :
    Blk ((((w.alloc (.cells x T0)).alloc (.cells #[a] T1)).alloc (.cells #[b] T2)).alloc (.cells cs T3)) w.heap.size T0 x ∧
    Blk ((((w.alloc (.cells x T0)).alloc (.cells #[a] T1)).alloc (.cells #[b] T2)).alloc (.cells cs T3)) (w.heap.size + 1) T1 #[a] ∧
    Blk ((((w.alloc (.cells x T0)).alloc (.cells #[a] T1)).alloc (.cells #[b] T2)).alloc (.cells cs T3)) (w.heap.size + 1 + 1) T2 #[b] ∧
    Blk ((((w.alloc (.cells x T0)).alloc (.cells #[a] T1)).alloc (.cells #[b] T2)).alloc (.cells cs T3)) (w.heap.size + 1 + 1 + 1) T3 cs ∧
    Below w.heap.size w ((((w.alloc (.cells x T0)).alloc (.cells #[a] T1)).alloc (.cells #[b] T2)).alloc (.cells cs T3)) := by
  have e1 : (w.alloc (.cells x T0)).heap.size = w.heap.size + 1 := by simp
  have e2 : ((w.alloc (.cells x T0)).alloc (.cells #[a] T1)).heap.size = w.heap.size + 1 + 1 := by simp
  have e3 : (((w.alloc (.cells x T0)).alloc (.cells #[a] T1)).alloc (.cells #[b] T2)).heap.size = w.heap.size + 1 + 1 + 1 := by simp
  have h0 := blk_new w x T0
  have h1 := blk_new (w.alloc (.cells x T0)) #[a] T1
  have h2 := blk_new ((w.alloc (.cells x T0)).alloc (.cells #[a] T1)) #[b] T2
  have h3 := blk_new (((w.alloc (.cells x T0)).alloc (.cells #[a] T1)).alloc (.cells #[b] T2)) cs T3
  rw [e1] at h1
  rw [e2] at h2
  rw [e3] at h3
  refine ⟨((h0.alloc _).alloc _).alloc _, (h1.alloc _).alloc _, h2.alloc _, h3, ?_⟩
  exact ((((Below.refl _ _).alloc (Nat.le_refl _) _).alloc (by omega) _).alloc (by omega) _).alloc (by omega) _
theorem below_fr {B o : Nat} {w w1 w2 : World} (h : Below B w w1) (hB : B ≤ w1.heap.size) (ho : B ≤ o) (hf : Fr (· = o) (· = o) w1 w2) : Below B w w2 :=
  ⟨hf.1.trans h.os, hf.2.1.trans h.tape, hf.2.2.1.trans h.output, Nat.le_trans h.size hf.size, fun i hi => (hf.block (Nat.lt_of_lt_of_le hi hB) (fun e => by have e : i = o := e; omega)).trans (h.block i hi)⟩
theorem synV_drew {W : World} {B : Nat} {t : Pl.Syn} {v : Value} (h : SynV W (Own B W) t v) : SynV W.drew (Own B W.drew) t v := SynV.keep (w := W) (w' := W.drew) (P := Own B W) (fun _ _ => rfl) h
theorem three_put {w3 : World} {b0 b1 b2 : Nat} {T0 T1 T2 : TypeId} {a b c d e p q : Value} (h01 : b0 < b1) (h12 : b1 < b2) (m0 : Blk w3 b0 T0 #[a, b, c, d, e]) (m1 : Blk w3 b1 T1 #[p]) (m2 : Blk w3 b2 T2 #[q]) (x0 x1 x2 x3 x4 y z : Value) :
    Blk (((putFive w3 b0 x0 x1 x2 x3 x4).setCell ⟨b1, 0, none⟩ y).setCell ⟨b2, 0, none⟩ z) b0 T0 #[x0, x1, x2, x3, x4] ∧ Blk (((putFive w3 b0 x0 x1 x2 x3 x4).setCell ⟨b1, 0, none⟩ y).setCell ⟨b2, 0, none⟩ z) b1 T1 #[y] ∧ Blk (((putFive w3 b0 x0 x1 x2 x3 x4).setCell ⟨b1, 0, none⟩ y).setCell ⟨b2, 0, none⟩ z) b2 T2 #[z] ∧ (∀ B, B ≤ b0 → Below B w3 (((putFive w3 b0 x0 x1 x2 x3 x4).setCell ⟨b1, 0, none⟩ y).setCell ⟨b2, 0, none⟩ z)) ∧ (∀ g, g ≠ b0 → g ≠ b1 → g ≠ b2 → (((putFive w3 b0 x0 x1 x2 x3 x4).setCell ⟨b1, 0, none⟩ y).setCell ⟨b2, 0, none⟩ z).heap[g]? = w3.heap[g]?) := by
  refine ⟨blk_fr (blk_fr (putFive_blk m0 x0 x1 x2 x3 x4) (show b0 ≠ b1 by omega) (fr_put _ b1 0 y)) (show b0 ≠ b2 by omega) (fr_put _ b2 0 z), blk_fr (set_one (blk_fr m1 (show b1 ≠ b0 by omega) (fr_putFive w3 b0 x0 x1 x2 x3 x4)) y) (show b1 ≠ b2 by omega) (fr_put _ b2 0 z), set_one (blk_fr (blk_fr m2 (show b2 ≠ b0 by omega) (fr_putFive w3 b0 x0 x1 x2 x3 x4)) (show b2 ≠ b1 by omega) (fr_put _ b1 0 y)) z, fun B hB => ?_, fun g h0 h1 h2 => ?_⟩
  · exact ((putFive_below (Below.refl B w3) hB x0 x1 x2 x3 x4).setCell (p := ⟨b1, 0, none⟩) (show B ≤ b1 by omega) y).setCell (p := ⟨b2, 0, none⟩) (show B ≤ b2 by omega) z
  · rw [Below.heap_setCell _ _ _ g h2, Below.heap_setCell _ _ _ g h1]
    exact putFive_other w3 b0 g h0 x0 x1 x2 x3 x4
end Go.Proofs.YtjedahcpkcgpeaaGreatDoor
