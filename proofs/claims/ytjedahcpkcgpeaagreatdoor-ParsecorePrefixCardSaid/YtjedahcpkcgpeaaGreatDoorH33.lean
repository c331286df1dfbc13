/-
  Walks and plain mathematics, several texts in one (Mh Mi Mm Mn Mq Mr Ms).
-/
import Derived.Test.YtjedahcpkcgpeaaGreatDoorH32
/-
  Walks of layer 2: isRight, and the reference's Right.
-/
namespace Go.Proofs.YtjedahcpkcgpeaaGreatDoor
open Go.RowKit
def rightB (t : Pl.Tok) : Bool :=
  if t.kind = 5 then decide (t.text.length ≤ 16384) && Pl.isText t.text
  else if 1 ≤ t.kind ∧ t.kind ≤ 7 then Pl.cls7 t.kind t.text else endB t
def refB (t : Pl.Tok) : Bool :=
  if t.kind = 5 then decide (t.text.length ≤ 16384) && Pl.isText t.text
  else if t.text.isEmpty || decide (t.kind = 8) || Pl.headIs (fun c => decide (c = 34)) t.text then false else Pl.okT t.kind t.text
theorem cls7_empty (k : Int) : Pl.cls7 k [] = false := by
  unfold Pl.cls7; repeat' split
  all_goals rfl
theorem cls7_head (k : Int) (l : Pl.Bytes) (h : Pl.headIs (fun c => decide (c = 34)) l = true) : Pl.cls7 k l = false := by
  obtain ⟨b, r, rfl⟩ : ∃ b r, l = b :: r := by cases l with
    | nil => cases h
    | cons b r => exact ⟨b, r, rfl⟩
  have hb : b = 34 := (Pl.u8_eq _ _).2 (of_decide_eq_true h)
  subst hb
  have h1 : Pl.isLower (34 :: r) = false := by
    show (Pl.isWord (34 :: r) && Pl.small (34 : Nat) && _) = false
    rw [show Pl.small (34 : Nat) = false from rfl, Bool.and_false, Bool.false_and]
  have h2 : Pl.isUpper (34 :: r) = false := by
    show (Pl.isWord (34 :: r) && Pl.capital (34 : Nat)) = false
    rw [show Pl.capital (34 : Nat) = false from rfl, Bool.and_false]
  have h3 : Pl.isVar (34 :: r) = false := rfl
  have h4 : ¬ (Pl.number (34 :: r)).2 = 0 := fun h => by
    have := (Pl.number_zero _ h).2
    unfold Pl.digits at this
    rw [List.all_cons, Bool.and_eq_true] at this
    exact absurd this.1 (by decide)
  have h6 : Pl.isKey (34 :: r) = false := by
    rw [Bool.eq_false_iff]; intro h; exact absurd (Pl.key_head _ h).1 (show ¬ Pl.small (34 : Nat) = true by decide)
  have h7 : Pl.isSym (34 :: r) = false := by
    rw [Bool.eq_false_iff]; intro h; exact absurd (Pl.sym_head _ h).2.2.2.2.2.1 (by simp [Pl.headIs])
  unfold Pl.cls7
  rw [h1, h2, h3, h6, h7, decide_eq_false h4]
  simp
theorem cls7_other (k : Int) (l : Pl.Bytes) (h : ¬ (1 ≤ k ∧ k ≤ 7)) : Pl.cls7 k l = false := by
  unfold Pl.cls7
  rw [if_neg (by omega), if_neg (by omega), if_neg (by omega), if_neg (by omega), if_neg (by omega), if_neg (by omega)]
theorem refB_eq (t : Pl.Tok) : refB t = (rightB t && !endB t) := by
  unfold refB rightB
  by_cases h5 : t.kind = 5
  · rw [if_pos h5, if_pos h5]
    have : endB t = false := by unfold endB; rw [h5]; rfl
    rw [this]; simp
  · rw [if_neg h5, if_neg h5]
    cases he : t.text.isEmpty
    · have hend : endB t = false := by unfold endB; rw [he, Bool.and_false]
      have hne : t.text ≠ [] := by rintro h; rw [h] at he; cases he
      rw [hend]
      cases h34 : Pl.headIs (fun c => decide (c = 34)) t.text
      · by_cases h8 : t.kind = 8
        · rw [decide_eq_true h8, if_pos (by simp), if_neg (by omega)]; rfl
        · rw [decide_eq_false h8, if_neg (by simp), Pl.okT_cls _ _ hne h34]
          split
          · simp
          · next h => rw [cls7_other _ _ h]; rfl
      · rw [if_pos (by simp), cls7_head _ _ h34]
        split <;> rfl
    · have hnil : t.text = [] := by simpa using he
      rw [if_pos (by simp)]
      by_cases h : 1 ≤ t.kind ∧ t.kind ≤ 7
      · rw [if_pos h, hnil, cls7_empty]; rfl
      · rw [if_neg h]; simp
set_option maxRecDepth 100000 in
theorem isRight_1 (tx : ByteArray) (li co : Int) (w : World) (hs : tx.size ≤ maxLen) :
    Calls Tryz.prog 27 #[.agg (tkc 1 tx li co)] w fun e w' => e = .returned (.bool (Pl.isLower tx.toList)) ∧ Below w.heap.size w w' := by
  have HC := Lib.hid (fun W => isLower_any tx W hs)
  obtain ⟨hk, hb⟩ := tok_block w 1 tx li co
  obtain ⟨d0, d1, d2, d3, -, -, -, -⟩ := hk
  have HB := Lib.hid hb
  clear hb
  unfold tkc
  go_enter Tryz.func27, Tryz.ntmps27
  go_wp2_with fail
  refine (HC.out _).mono ?_
  rintro e w2 ⟨rfl, rfl⟩
  go_wp2
  go_ret
  exact ⟨rfl, HB.out⟩
set_option maxRecDepth 100000 in
theorem isRight_2 (tx : ByteArray) (li co : Int) (w : World) (hs : tx.size ≤ maxLen) :
    Calls Tryz.prog 27 #[.agg (tkc 2 tx li co)] w fun e w' => e = .returned (.bool (Pl.isUpper tx.toList)) ∧ Below w.heap.size w w' := by
  have HC := Lib.hid (fun W => isUpper_any tx W hs)
  obtain ⟨hk, hb⟩ := tok_block w 2 tx li co
  obtain ⟨d0, d1, d2, d3, -, -, -, -⟩ := hk
  have HB := Lib.hid hb
  clear hb
  unfold tkc
  go_enter Tryz.func27, Tryz.ntmps27
  go_wp2_with fail
  refine (HC.out _).mono ?_
  rintro e w2 ⟨rfl, rfl⟩
  go_wp2
  go_ret
  exact ⟨rfl, HB.out⟩
set_option maxRecDepth 100000 in
theorem isRight_3 (tx : ByteArray) (li co : Int) (w : World) (hs : tx.size ≤ maxLen) :
    Calls Tryz.prog 27 #[.agg (tkc 3 tx li co)] w fun e w' => e = .returned (.bool (Pl.isVar tx.toList)) ∧ Below w.heap.size w w' := by
  have HC := Lib.hid (fun W => isVar_any tx W hs)
  obtain ⟨hk, hb⟩ := tok_block w 3 tx li co
  obtain ⟨d0, d1, d2, d3, -, -, -, -⟩ := hk
  have HB := Lib.hid hb
  clear hb
  unfold tkc
  go_enter Tryz.func27, Tryz.ntmps27
  go_wp2_with fail
  refine (HC.out _).mono ?_
  rintro e w2 ⟨rfl, rfl⟩
  go_wp2
  go_ret
  exact ⟨rfl, HB.out⟩
set_option maxRecDepth 100000 in
theorem isRight_6 (tx : ByteArray) (li co : Int) (w : World) :
    Calls Tryz.prog 27 #[.agg (tkc 6 tx li co)] w fun e w' => e = .returned (.bool (Pl.isKey tx.toList)) ∧ Below w.heap.size w w' := by
  have HC := Lib.hid (fun W => keyword_any tx W)
  obtain ⟨hk, hb⟩ := tok_block w 6 tx li co
  obtain ⟨d0, d1, d2, d3, -, -, -, -⟩ := hk
  have HB := Lib.hid hb
  clear hb
  unfold tkc
  go_enter Tryz.func27, Tryz.ntmps27
  go_wp2_with fail
  refine (HC.out _).mono ?_
  rintro e w2 ⟨rfl, rfl⟩
  go_wp2
  go_ret
  exact ⟨rfl, HB.out⟩
set_option maxRecDepth 100000 in
theorem isRight_7 (tx : ByteArray) (li co : Int) (w : World) :
    Calls Tryz.prog 27 #[.agg (tkc 7 tx li co)] w fun e w' => e = .returned (.bool (Pl.isSym tx.toList)) ∧ Below w.heap.size w w' := by
  have HC := Lib.hid (fun W => isSymbol_any tx W)
  obtain ⟨hk, hb⟩ := tok_block w 7 tx li co
  obtain ⟨d0, d1, d2, d3, -, -, -, -⟩ := hk
  have HB := Lib.hid hb
  clear hb
  unfold tkc
  go_enter Tryz.func27, Tryz.ntmps27
  go_wp2_with fail
  refine (HC.out _).mono ?_
  rintro e w2 ⟨rfl, rfl⟩
  go_wp2
  go_ret
  exact ⟨rfl, HB.out⟩
set_option maxRecDepth 100000 in
theorem isRight_4 (tx : ByteArray) (li co : Int) (w : World) (hs : tx.size ≤ maxLen) :
    Calls Tryz.prog 27 #[.agg (tkc 4 tx li co)] w fun e w' => e = .returned (.bool (decide ((Pl.number tx.toList).2 = 0))) ∧ Below w.heap.size w w' := by
  have hc := fun W => number_any tx W hs
  generalize (Pl.number tx.toList).2 = er at hc ⊢
  generalize (Pl.number tx.toList).1 = nv at hc
  have HC := Lib.hid hc
  clear hc
  by_cases he : er = 0
  · have q1 : (er == 0) = true := beq_iff_eq.2 he
    rw [decide_eq_true he]
    clear he
    obtain ⟨hk, hb⟩ := tok_block w 4 tx li co
    obtain ⟨d0, d1, d2, d3, -, -, -, -⟩ := hk
    have HB := Lib.hid hb
    clear hb
    unfold tkc
    go_enter Tryz.func27, Tryz.ntmps27
    go_wp2_with fail
    refine (HC.out _).mono ?_
    rintro e w2 ⟨rfl, rfl⟩
    go_wp2
    go_ret
    exact ⟨rfl, HB.out⟩
  · have q1 : (er == 0) = false := beq_eq_false_iff_ne.2 he
    rw [decide_eq_false he]
    clear he
    obtain ⟨hk, hb⟩ := tok_block w 4 tx li co
    obtain ⟨d0, d1, d2, d3, -, -, -, -⟩ := hk
    have HB := Lib.hid hb
    clear hb
    unfold tkc
    go_enter Tryz.func27, Tryz.ntmps27
    go_wp2_with fail
    refine (HC.out _).mono ?_
    rintro e w2 ⟨rfl, rfl⟩
    go_wp2
    go_ret
    exact ⟨rfl, HB.out⟩
set_option maxRecDepth 100000 in
theorem isRight_5 (tx : ByteArray) (li co : Int) (w : World) (hs : tx.size ≤ maxLen) :
    Calls Tryz.prog 27 #[.agg (tkc 5 tx li co)] w fun e w' => e = .returned (.bool (decide (tx.size ≤ 16384) && Pl.isText tx.toList)) ∧ Below w.heap.size w w' := by
  have HC := Lib.hid (fun W => isText_any tx W hs)
  generalize Pl.isText tx.toList = r at HC ⊢
  by_cases hl : tx.size ≤ 16384
  · have q1 : decide ((tx.size : Int) ≤ 16384) = true := by simp; omega
    rw [decide_eq_true hl, Bool.true_and]
    clear hl
    obtain ⟨hk, hb⟩ := tok_block w 5 tx li co
    obtain ⟨d0, d1, d2, d3, -, -, -, -⟩ := hk
    have HB := Lib.hid hb
    clear hb
    unfold tkc
    go_enter Tryz.func27, Tryz.ntmps27
    go_wp2_with fail
    refine (HC.out _).mono ?_
    rintro e w2 ⟨rfl, rfl⟩
    go_wp2
    go_ret
    exact ⟨rfl, HB.out⟩
  · have q1 : decide ((tx.size : Int) ≤ 16384) = false := by simp; omega
    rw [decide_eq_false hl, Bool.false_and]
    clear hl
    obtain ⟨hk, hb⟩ := tok_block w 5 tx li co
    obtain ⟨d0, d1, d2, d3, -, -, -, -⟩ := hk
    have HB := Lib.hid hb
    clear hb
    unfold tkc
    go_enter Tryz.func27, Tryz.ntmps27
    go_wp2
    go_ret
    exact ⟨rfl, HB.out⟩
set_option maxRecDepth 100000 in
theorem isRight_0 (kd : Int) (tx : ByteArray) (li co : Int) (w : World) (hk : ¬ (1 ≤ kd ∧ kd ≤ 7)) :
    Calls Tryz.prog 27 #[.agg (tkc kd tx li co)] w fun e w' => e = .returned (.bool (decide (kd = 8) && tx.toList.isEmpty)) ∧ Below w.heap.size w w' := by
  have p1 : (kd == 1) = false := beq_eq_false_iff_ne.2 (by omega)
  have p2 : (kd == 2) = false := beq_eq_false_iff_ne.2 (by omega)
  have p3 : (kd == 3) = false := beq_eq_false_iff_ne.2 (by omega)
  have p4 : (kd == 4) = false := beq_eq_false_iff_ne.2 (by omega)
  have p5 : (kd == 5) = false := beq_eq_false_iff_ne.2 (by omega)
  have p6 : (kd == 6) = false := beq_eq_false_iff_ne.2 (by omega)
  have p7 : (kd == 7) = false := beq_eq_false_iff_ne.2 (by omega)
  clear hk
  have HC := Lib.hid (fun W => isEnd_any ⟨kd, tx.toList, li, co⟩ W)
  unfold tokVal endB tkc at HC
  simp only [Pl.mk_of] at HC
  generalize (decide (kd = 8) && tx.toList.isEmpty) = r at HC ⊢
  obtain ⟨hk, hb⟩ := tok_block w kd tx li co
  obtain ⟨d0, d1, d2, d3, -, -, -, -⟩ := hk
  have HB := Lib.hid hb
  clear hb
  unfold tkc
  go_enter Tryz.func27, Tryz.ntmps27
  go_wp2_with fail
  refine (HC.out _).mono ?_
  rintro e w2 ⟨rfl, hb2⟩
  have HB2 := Lib.hid (HB.out.trans (hb2.mono HB.out.size))
  clear hb2
  go_wp2
  go_ret
  exact ⟨rfl, HB2.out⟩
theorem isRight_any (t : Pl.Tok) (w : World) (hs : t.text.length ≤ 17000) :
    Calls Tryz.prog 27 #[tokVal t] w fun e w' => e = .returned (.bool (rightB t)) ∧ Below w.heap.size w w' := by
  have hsz : (Pl.mk t.text).size = t.text.length := Pl.mk_size _
  have hm : (Pl.mk t.text).size ≤ maxLen := by unfold maxLen; omega
  have ht : (Pl.mk t.text).toList = t.text := Pl.mk_toList _
  unfold tokVal rightB
  by_cases hr : 1 ≤ t.kind ∧ t.kind ≤ 7
  · obtain h | h | h | h | h | h | h : t.kind = 1 ∨ t.kind = 2 ∨ t.kind = 3 ∨ t.kind = 4 ∨ t.kind = 5 ∨ t.kind = 6 ∨ t.kind = 7 := by omega
    all_goals rw [h]
    · have := isRight_1 (Pl.mk t.text) t.line t.col w hm
      rw [ht] at this; exact this
    · have := isRight_2 (Pl.mk t.text) t.line t.col w hm
      rw [ht] at this; exact this
    · have := isRight_3 (Pl.mk t.text) t.line t.col w hm
      rw [ht] at this; exact this
    · have := isRight_4 (Pl.mk t.text) t.line t.col w hm
      rw [ht] at this; exact this
    · have := isRight_5 (Pl.mk t.text) t.line t.col w hm
      rw [ht, hsz] at this; exact this
    · have := isRight_6 (Pl.mk t.text) t.line t.col w
      rw [ht] at this; exact this
    · have := isRight_7 (Pl.mk t.text) t.line t.col w
      rw [ht] at this; exact this
  · rw [if_neg (by omega), if_neg hr]
    have := isRight_0 t.kind (Pl.mk t.text) t.line t.col w hr
    rw [ht] at this; exact this
end Go.Proofs.YtjedahcpkcgpeaaGreatDoor

/-
  Walks of layer 2: tokens as they are written.
-/
namespace Go.Proofs.YtjedahcpkcgpeaaGreatDoor
open Go.RowKit
theorem Bld.below {B b : Nat} {l : List UInt8} {w w' : World} (h : Bld B b l w) (hb : Below w.heap.size w w') : Bld B b l w' := by
  have hlt := h.lt
  have key : ∀ q, Lib.BuilderAtF 62 5 B b q (Lib.byteCells l) w → Lib.BuilderAtF 62 5 B b q (Lib.byteCells l) w' := by
    rintro q ⟨hB, u, hbk, hown, hne⟩
    refine ⟨hB, u, (hb.block b hlt).trans hbk, ?_, hne⟩
    refine hown.kept (row := some w.heap.size) ⟨hb.os, hb.tape, hb.output, hb.size, fun k hk _ => hb.block k hk⟩ (.inr ?_)
    intro e
    have := (hown.lt _ e).2
    omega
  rcases h with h | h
  · exact .inl (key _ h)
  · exact .inr (key _ h)
def wrT (t : Pl.Tok) : Pl.Bytes := if t.kind = 5 then Pl.lit t.text else t.text
def jnStep (a : Option Pl.Bytes) (t : Pl.Tok) : Option Pl.Bytes := match a with
  | none => some (wrT t)
  | some x => some (x ++ 32 :: wrT t)
def jn (l : List Pl.Tok) : Pl.Bytes := (l.foldl jnStep none).getD []
theorem jn_nil : jn [] = [] := rfl
theorem jn_some (l : List Pl.Tok) (h : l ≠ []) : ∃ x, l.foldl jnStep none = some x := by
  have : ∀ (l : List Pl.Tok) (a : Option Pl.Bytes), l ≠ [] → ∃ x, l.foldl jnStep a = some x := by
    intro l
    induction l with
    | nil => intro a h; exact absurd rfl h
    | cons t r ih =>
      intro a _
      rw [List.foldl_cons]
      have hs : ∃ y, jnStep a t = some y := by cases a <;> exact ⟨_, rfl⟩
      obtain ⟨y, hy⟩ := hs
      cases r with
      | nil => exact ⟨y, hy⟩
      | cons t' r' => exact ih _ (by simp)
  exact this l none h
theorem jn_snoc (l : List Pl.Tok) (t : Pl.Tok) : jn (l ++ [t]) = if l = [] then wrT t else jn l ++ 32 :: wrT t := by
  unfold jn
  rw [List.foldl_append]
  by_cases h : l = []
  · subst h; rfl
  · obtain ⟨x, hx⟩ := jn_some l h
    rw [hx, if_neg h]; rfl
theorem jn_take (l : List Pl.Tok) (k : Nat) (h : k < l.length) : jn (l.take (k + 1)) = if k = 0 then wrT l[k] else jn (l.take k) ++ 32 :: wrT l[k] := by
  rw [List.take_succ_eq_append_getElem h, jn_snoc]
  by_cases h0 : k = 0
  · subst h0; rfl
  · rw [if_neg h0, if_neg]
    intro hx
    have := congrArg List.length hx
    rw [List.length_take, List.length_nil] at this
    omega
theorem jn_mono (l : List Pl.Tok) : ∀ n k, k + n ≤ l.length → (jn (l.take k)).length ≤ (jn (l.take (k + n))).length := by
  intro n
  induction n with
  | zero => intro k _; exact Nat.le_refl _
  | succ n ih =>
    intro k hk
    refine Nat.le_trans (ih k (by omega)) ?_
    rw [show k + (n + 1) = k + n + 1 from rfl, jn_take l (k + n) (by omega)]
    by_cases h0 : k + n = 0
    · rw [if_pos h0, show l.take (k + n) = [] from by rw [h0]; rfl]
      exact Nat.zero_le _
    · rw [if_neg h0, List.length_append]
      exact Nat.le_add_right _ _
theorem jn_le (l : List Pl.Tok) (k : Nat) (hk : k ≤ l.length) : (jn (l.take k)).length ≤ (jn l).length := by
  have := jn_mono l (l.length - k) k (by omega)
  rw [show k + (l.length - k) = l.length from by omega, List.take_length] at this
  exact this
def jv (l : List Pl.Tok) : Pl.Bytes × Int :=
  if 20000 < l.length then ([], 5) else if l.all refB then (if 16384 < (jn l).length then ([], 5) else (jn l, 0)) else ([], 3)
def unend (l : List Pl.Tok) : List Pl.Tok := match l.getLast? with
  | some t => if endB t then l.dropLast else l
  | none => l
theorem body_len (l : Pl.Bytes) : (Pl.body l).length ≤ 2 * l.length := by
  have := Pl.body_take_len (Pl.mk l) (Pl.mk l).size
  rw [Pl.take_all _ _ (Nat.le_refl _), Pl.mk_toList, Pl.mk_size] at this
  omega
theorem wrT_len (t : Pl.Tok) (h : t.text.length ≤ 17000) : (wrT t).length ≤ 34002 := by
  unfold wrT
  split
  · have := Pl.lit_len t.text
    have := body_len t.text
    omega
  · omega
set_option maxRecDepth 100000 in
theorem written_text (tx : ByteArray) (li co : Int) (w : World) (hs : tx.size ≤ 17000) :
    Calls Tryz.prog 30 #[.agg (tkc 5 tx li co)] w fun e w' => e = .returned (.string (Pl.mk (Pl.lit tx.toList))) ∧ Below w.heap.size w w' := by
  obtain ⟨hk, hb⟩ := tok_block w 5 tx li co
  obtain ⟨d0, d1, d2, d3, -, -, -, -⟩ := hk
  have HB := Lib.hid hb
  clear hb
  unfold tkc
  go_enter Tryz.func30, Tryz.ntmps30
  go_wp2_with fail
  refine (literal_any tx _ (by omega)).mono ?_
  rintro e w2 ⟨rfl, hb2⟩
  have HB2 := Lib.hid (HB.out.trans (hb2.mono HB.out.size))
  clear hb2
  go_wp2
  go_ret
  exact ⟨rfl, HB2.out⟩
set_option maxRecDepth 100000 in
theorem written_plain (kd : Int) (tx : ByteArray) (li co : Int) (w : World) (h5 : kd ≠ 5) :
    Calls Tryz.prog 30 #[.agg (tkc kd tx li co)] w fun e w' => e = .returned (.string tx) ∧ Below w.heap.size w w' := by
  have p5 : (kd == 5) = false := beq_eq_false_iff_ne.2 h5
  obtain ⟨hk, hb⟩ := tok_block w kd tx li co
  obtain ⟨d0, d1, d2, d3, -, -, -, -⟩ := hk
  have HB := Lib.hid hb
  clear hb h5
  unfold tkc
  go_enter Tryz.func30, Tryz.ntmps30
  go_wp2
  go_ret
  exact ⟨rfl, HB.out⟩
theorem written_any (t : Pl.Tok) (w : World) (hs : t.text.length ≤ 17000) :
    Calls Tryz.prog 30 #[tokVal t] w fun e w' => e = .returned (.string (Pl.mk (wrT t))) ∧ Below w.heap.size w w' := by
  unfold tokVal wrT
  by_cases h5 : t.kind = 5
  · rw [if_pos h5, h5]
    have := written_text (Pl.mk t.text) t.line t.col w (by rw [Pl.mk_size]; exact hs)
    rw [Pl.mk_toList] at this; exact this
  · rw [if_neg h5]
    exact written_plain t.kind (Pl.mk t.text) t.line t.col w h5
end Go.Proofs.YtjedahcpkcgpeaaGreatDoor

/-
  Plain mathematics of layer 2: joined tokens are found again. No program.
-/
namespace Go.Proofs.YtjedahcpkcgpeaaGreatDoor
open Go Go.RowKit
namespace Pl
def Sep (q : Bytes) : Prop := q = [] ∨ ∃ r, q = 32 :: r
theorem run_sep (p : UInt8 → Bool) (hp : p 32 = false) (l q : Bytes) (hq : Sep q) (h : l.all p = true) : run p (l ++ q) = l.length := by
  induction l with
  | nil =>
    rcases hq with rfl | ⟨r, rfl⟩
    · rfl
    · rw [List.nil_append, run_cons, hp]; rfl
  | cons b r ih =>
    rw [List.all_cons, Bool.and_eq_true] at h
    rw [List.cons_append, run_cons, h.1, if_pos rfl, ih h.2, List.length_cons]
theorem take_len (l q : Bytes) : (l ++ q).take l.length = l := by simp
theorem sep_sym : ∀ l, isSym l = true → ∀ q, Sep q → opens (l ++ q) = false ∧ symLen (l ++ q) = l.length := by
  intro l h q hq
  have hm : l ∈ sym2 ++ sym1 := by simpa [isSym] using h
  simp only [sym2, sym1, List.cons_append, List.nil_append, List.mem_cons, List.mem_nil_iff, or_false] at hm
  rcases hq with rfl | ⟨r, rfl⟩
  · rcases hm with rfl | rfl | rfl | rfl | rfl | rfl | rfl | rfl | rfl | rfl | rfl | rfl | rfl | rfl | rfl | rfl | rfl | rfl | rfl <;> exact ⟨rfl, rfl⟩
  · rcases hm with rfl | rfl | rfl | rfl | rfl | rfl | rfl | rfl | rfl | rfl | rfl | rfl | rfl | rfl | rfl | rfl | rfl | rfl | rfl <;> exact ⟨rfl, rfl⟩
theorem tok_sep (k : Int) (l q : Bytes) (hq : Sep q) (hne : l ≠ []) (h34 : headIs (fun c => decide (c = 34)) l = false) (h : okT k l = true) : tok (l ++ q) = good k l l.length := by
  obtain ⟨b, r, rfl⟩ : ∃ b r, l = b :: r := by cases l with
    | nil => exact absurd rfl hne
    | cons b r => exact ⟨b, r, rfl⟩
  have hhd : ∀ p : Int → Bool, headIs p (b :: r ++ q) = headIs p (b :: r) := fun p => rfl
  unfold tok
  rw [hhd, hhd, hhd, hhd, hhd, h34]
  cases hl : letters (b :: r)
  · have hlf : (headIs small (b :: r) || headIs capital (b :: r)) = false := hl
    rw [hlf, if_neg (by simp)]
    cases h39 : headIs (fun c => decide (c = 39)) (b :: r)
    · rw [if_neg (by simp)]
      cases hd : headIs digit (b :: r)
      · rw [if_neg (by simp), if_neg (by simp)]
        rw [okT_sym k _ hne hl h39 hd h34, Bool.and_eq_true, decide_eq_true_eq] at h
        obtain ⟨hs, rfl⟩ := h
        obtain ⟨_, h7⟩ := sep_sym _ hs q hq
        unfold symTok
        rw [h7, if_neg (by simp), take_len]
      · rw [if_pos rfl]
        rw [okT_num k _ hl h39 hd, Bool.and_eq_true, decide_eq_true_eq, decide_eq_true_eq] at h
        obtain ⟨hn, rfl⟩ := h
        have hr := run_sep digitB (by decide) (b :: r) q hq (number_zero _ hn).2
        unfold numTok
        rw [hr, take_len, if_pos hn]
    · rw [if_pos rfl]
      have hb : b = 39 := (u8_eq _ _).2 (of_decide_eq_true h39)
      rw [okT_var k b r hl hb, Bool.and_eq_true, decide_eq_true_eq] at h
      obtain ⟨hv, rfl⟩ := h
      rw [show isVar (b :: r) = (decide (b = 39) && decide ((b :: r).length ≤ 24) && word1 1 r) from rfl] at hv
      simp only [Bool.and_eq_true, decide_eq_true_eq] at hv
      obtain ⟨⟨_, h24⟩, hw⟩ := hv
      cases r with
      | nil => cases hw
      | cons c z =>
        simp only [word1, innerL, Bool.and_eq_true, decide_eq_true_eq, cls_small] at hw
        have hall : (c :: z).all innerB = true := by
          rw [List.all_cons, Bool.and_eq_true]; exact ⟨small_inner _ hw.1, hw.2⟩
        have hr := run_sep innerB (by decide) (c :: z) q hq hall
        have hdr : (b :: c :: z ++ q).drop 1 = c :: z ++ q := rfl
        unfold varTok
        rw [hdr, hr, show headIs small (c :: z ++ q) = small c.toNat from rfl, hw.1, if_pos rfl, if_neg (by simpa using h24)]
        have := take_len (b :: c :: z) q
        rw [show (b :: c :: z).length = (c :: z).length + 1 from rfl] at this ⊢
        rw [this]
  · have hlt : (headIs small (b :: r) || headIs capital (b :: r)) = true := hl
    rw [hlt, if_pos rfl]
    rw [okT_letters k _ hl, Bool.and_eq_true, decide_eq_true_eq] at h
    obtain ⟨hw, hk⟩ := h
    unfold isWord at hw
    simp only [Bool.and_eq_true, decide_eq_true_eq] at hw
    obtain ⟨⟨_, h24⟩, hi⟩ := hw
    have hr := run_sep innerB (by decide) (b :: r) q hq hi
    unfold nameTok
    rw [hr, take_len, if_neg (by omega), hhd, hk]
end Pl
theorem okT_head (t : Pl.Tok) (h5 : t.kind ≠ 5) (h : refB t = true) : t.text ≠ [] ∧ Pl.headIs (fun c => decide (c = 34)) t.text = false ∧ Pl.okT t.kind t.text = true ∧ t.kind ≠ 8 := by
  unfold refB at h
  rw [if_neg h5] at h
  split at h
  · cases h
  · next hx =>
    simp only [Bool.or_eq_true, decide_eq_true_eq, not_or, List.isEmpty_iff, Bool.not_eq_true] at hx
    exact ⟨hx.1.1, hx.2, h, hx.1.2⟩
theorem tok_wr (t : Pl.Tok) (q : Pl.Bytes) (hq : Pl.Sep q) (h : refB t = true) : Pl.tok (wrT t ++ q) = Pl.good t.kind t.text (wrT t).length := by
  unfold wrT
  by_cases h5 : t.kind = 5
  · rw [if_pos h5, h5]
    unfold refB at h
    rw [if_pos h5, Bool.and_eq_true] at h
    have := Pl.txt_body t.text q [] 1 h.2
    rw [List.nil_append] at this
    show Pl.txt (Pl.body t.text ++ [34] ++ q) false [] 1 = _
    rw [List.append_assoc, List.singleton_append, this, Pl.lit_len]; congr 1; omega
  · rw [if_neg h5]
    obtain ⟨h1, h2, h3, _⟩ := okT_head t h5 h
    exact Pl.tok_sep _ _ q hq h1 h2 h3
end Go.Proofs.YtjedahcpkcgpeaaGreatDoor

/-
  Plain mathematics of layer 2: the tokens of what was joined. No program.
-/
namespace Go.Proofs.YtjedahcpkcgpeaaGreatDoor
open Go Go.RowKit
namespace Pl
theorem tok_opens (l : Bytes) (h : opens l = true) : (tok l).err = 3 := by
  match l, h with
  | [], h => cases h
  | [b], h =>
    have : opens [b] = false := by unfold opens; simp [List.isPrefixOf]
    rw [this] at h; cases h
  | b :: c :: r, h =>
    have hb : b = 40 ∧ c = 42 := by
      unfold opens at h
      simp only [List.isPrefixOf, Bool.and_eq_true, beq_iff_eq] at h
      exact ⟨h.1.symm, h.2.1.symm⟩
    obtain ⟨rfl, rfl⟩ := hb
    rfl
theorem tok_blank (l : Bytes) (h : headIs blank l = true) : (tok l).err = 3 := by
  match l, h with
  | [], h => cases h
  | b :: r, h =>
    have hb : b = 32 ∨ b = 9 ∨ b = 10 := by
      have h' : blank (b.toNat : Int) = true := h
      unfold blank at h'
      simp only [Bool.or_eq_true, decide_eq_true_eq] at h'
      rcases h' with (h' | h') | h'
      · exact .inl ((u8_eq _ _).2 h')
      · exact .inr (.inl ((u8_eq _ _).2 h'))
      · exact .inr (.inr ((u8_eq _ _).2 h'))
    rcases hb with rfl | rfl | rfl <;> cases r <;> rfl
theorem gap_tok (l : Bytes) (h : (tok l).err = 0) : gap l = (0, false) := by
  refine gap_none l ?_ ?_
  · rw [Bool.eq_false_iff]; intro hx; rw [tok_opens l hx] at h; exact absurd h (by decide)
  · rw [Bool.eq_false_iff]; intro hx; rw [tok_blank l hx] at h; exact absurd h (by decide)
theorem gap_space (l : Bytes) (h : (tok l).err = 0) : gap (32 :: l) = (1, false) := by
  rw [gap_blank (32 :: l) rfl rfl]
  show (1 + (gap l).1, (gap l).2) = _
  rw [gap_tok l h]; rfl
end Pl
def sp (r : List Pl.Tok) : Pl.Bytes := r.flatMap fun t => 32 :: wrT t
theorem sp_sep (r : List Pl.Tok) : Pl.Sep (sp r) := by
  cases r with
  | nil => exact .inl rfl
  | cons t r => exact .inr ⟨wrT t ++ sp r, by unfold sp; rw [List.flatMap_cons]; rfl⟩
theorem jn_sp (t : Pl.Tok) (r : List Pl.Tok) : jn (t :: r) = wrT t ++ sp r := by
  have : ∀ (r : List Pl.Tok) (x : Pl.Bytes), r.foldl jnStep (some x) = some (x ++ sp r) := by
    intro r
    induction r with
    | nil => intro x; show some x = some (x ++ []); rw [List.append_nil]
    | cons t r ih =>
      intro x
      rw [List.foldl_cons]
      show r.foldl jnStep (some (x ++ 32 :: wrT t)) = _
      rw [ih]
      unfold sp
      rw [List.flatMap_cons, List.append_assoc]
  unfold jn
  rw [List.foldl_cons]
  show (r.foldl jnStep (some (wrT t))).getD [] = _
  rw [this]; rfl
theorem wr_pos (t : Pl.Tok) (h : refB t = true) : 1 ≤ (wrT t).length := by
  unfold wrT
  by_cases h5 : t.kind = 5
  · rw [if_pos h5, Pl.lit_len]; omega
  · rw [if_neg h5]
    exact List.length_pos_iff.2 (okT_head t h5 h).1
theorem toks_step (f : Nat) (l q : Pl.Bytes) (i g : Nat) (acc : List Pl.Tok) (t : Pl.Tok) (h : refB t = true) (hq : Pl.Sep q) (hg : Pl.gap (l.drop i) = (g, false)) (hd : l.drop (i + g) = wrT t ++ q) (ha : acc.length < 20000) :
    (∃ li co, Pl.toksF (f + 1) l i acc = Pl.toksF f l (i + g + (wrT t).length) (acc ++ [⟨t.kind, t.text, li, co⟩])) ∧ l.drop (i + g + (wrT t).length) = q ∧ i + g + (wrT t).length ≤ l.length := by
  have hw := wr_pos t h
  have ht := tok_wr t q hq h
  have hl : (wrT t).length + q.length = l.length - (i + g) := by
    rw [← List.length_append, ← hd, List.length_drop]
  refine ⟨⟨Pl.lineAt l (i + g), Pl.colAt l (i + g), ?_⟩, ?_, by omega⟩
  · rw [Pl.toksF, hg]
    simp only [Bool.false_eq_true, if_false]
    rw [if_neg (by omega), if_neg (by omega), hd, ht, if_pos (by rfl)]
    rfl
  · rw [← List.drop_drop, hd]; simp
theorem toks_sp : ∀ (r : List Pl.Tok) (f : Nat) (l : Pl.Bytes) (i : Nat) (acc : List Pl.Tok), (∀ t ∈ r, refB t = true) → l.drop i = sp r → i ≤ l.length → l.length + 1 ≤ i + f → acc.length + r.length ≤ 20000 →
    ∃ (ls : List Pl.Tok) (e : Pl.Tok), Pl.toksF f l i acc = ⟨acc ++ (ls ++ [e]), 0, 0, 0⟩ ∧ e.kind = 8 ∧ e.text = [] ∧ ls.map (fun t => (t.kind, t.text)) = r.map (fun t => (t.kind, t.text)) := by
  intro r
  induction r with
  | nil =>
    intro f l i acc _ hd hi hf _
    have hd' : l.drop i = [] := hd
    have hil : i = l.length := by
      have := congrArg List.length hd'
      rw [List.length_drop, List.length_nil] at this
      omega
    obtain ⟨f, rfl⟩ : ∃ g, f = g + 1 := ⟨f - 1, by omega⟩
    refine ⟨[], ⟨8, [], Pl.lineAt l i, Pl.colAt l i⟩, ?_, rfl, rfl, rfl⟩
    rw [Pl.toksF, hd', Pl.gap_nil]
    simp only [Nat.add_zero, Bool.false_eq_true, if_false]
    rw [if_pos hil]; rfl
  | cons t r ih =>
    intro f l i acc hr hd hi hf hn
    have ht := hr t List.mem_cons_self
    have hd' : l.drop i = 32 :: (wrT t ++ sp r) := by rw [hd]; unfold sp; rw [List.flatMap_cons]; rfl
    have herr : (Pl.tok (wrT t ++ sp r)).err = 0 := by rw [tok_wr t _ (sp_sep r) ht]; rfl
    have hg : Pl.gap (l.drop i) = (1, false) := by rw [hd']; exact Pl.gap_space _ herr
    have hd1 : l.drop (i + 1) = wrT t ++ sp r := by rw [← List.drop_drop, hd']; rfl
    obtain ⟨f, rfl⟩ : ∃ g, f = g + 1 := ⟨f - 1, by omega⟩
    rw [List.length_cons] at hn
    have hw := wr_pos t ht
    obtain ⟨⟨li, co, h1⟩, h2, h3⟩ := toks_step f l (sp r) i 1 acc t ht (sp_sep r) hg hd1 (by omega)
    obtain ⟨ls, e, h4, h5, h6, h7⟩ := ih f l (i + 1 + (wrT t).length) (acc ++ [⟨t.kind, t.text, li, co⟩]) (fun u hu => hr u (List.mem_cons_of_mem _ hu)) h2 h3 (by omega) (by rw [List.length_append]; simp; omega)
    refine ⟨⟨t.kind, t.text, li, co⟩ :: ls, e, ?_, h5, h6, ?_⟩
    · rw [h1, h4]; simp
    · rw [List.map_cons, List.map_cons, h7]
theorem tokens_jn (us : List Pl.Tok) (h : us.all refB = true) (hn : us.length ≤ 20000) (hl : (jn us).length ≤ 16384) :
    ∃ (ls : List Pl.Tok) (e : Pl.Tok), Pl.tokens (jn us) = ⟨ls ++ [e], 0, 0, 0⟩ ∧ e.kind = 8 ∧ e.text = [] ∧ ls.map (fun t => (t.kind, t.text)) = us.map (fun t => (t.kind, t.text)) := by
  have hall : ∀ t ∈ us, refB t = true := List.all_eq_true.1 h
  unfold Pl.tokens
  rw [if_neg (by omega)]
  cases us with
  | nil =>
    obtain ⟨ls, e, h1, h2⟩ := toks_sp [] ((jn []).length + 1) (jn []) 0 [] hall rfl (Nat.zero_le _) (by omega) (by simp)
    exact ⟨ls, e, by rw [h1]; rfl, h2⟩
  | cons t r =>
    have ht := hall t List.mem_cons_self
    have hj := jn_sp t r
    have herr : (Pl.tok (wrT t ++ sp r)).err = 0 := by rw [tok_wr t _ (sp_sep r) ht]; rfl
    have hg : Pl.gap ((jn (t :: r)).drop 0) = (0, false) := by rw [List.drop_zero, hj]; exact Pl.gap_tok _ herr
    have hw := wr_pos t ht
    obtain ⟨⟨li, co, h1⟩, h2, h3⟩ := toks_step (jn (t :: r)).length (jn (t :: r)) (sp r) 0 0 [] t ht (sp_sep r) hg (by rw [List.drop_zero, hj]) (by simp)
    rw [List.length_cons] at hn
    obtain ⟨ls, e, h4, h5, h6, h7⟩ := toks_sp r (jn (t :: r)).length (jn (t :: r)) (0 + 0 + (wrT t).length) [⟨t.kind, t.text, li, co⟩] (fun u hu => hall u (List.mem_cons_of_mem _ hu)) h2 h3 (by omega) (by simp; omega)
    refine ⟨⟨t.kind, t.text, li, co⟩ :: ls, e, ?_, h5, h6, ?_⟩
    · rw [h1]; exact h4
    · rw [List.map_cons, List.map_cons, h7]
end Go.Proofs.YtjedahcpkcgpeaaGreatDoor

/-
  Plain mathematics of layer 2: the kinds and texts of a source's tokens, without places. No program.
-/
namespace Go.Proofs.YtjedahcpkcgpeaaGreatDoor
open Go Go.RowKit
namespace Pl
abbrev Kt := Int × Bytes
def kt (t : Tok) : Kt := (t.kind, t.text)
def Brk (q : Bytes) : Prop := ∃ c r, q = c :: r ∧ (c = 32 ∨ c = 9 ∨ c = 10 ∨ c = 40)
theorem run_brk (p : UInt8 → Bool) (h1 : p 32 = false) (h2 : p 9 = false) (h3 : p 10 = false) (h4 : p 40 = false) (l q : Bytes) (hq : Brk q) : run p (l ++ q) = run p l := by
  obtain ⟨c, r, rfl, hc⟩ := hq
  induction l with
  | nil =>
    rw [List.nil_append, run_cons]
    rcases hc with rfl | rfl | rfl | rfl
    · rw [h1]; rfl
    · rw [h2]; rfl
    · rw [h3]; rfl
    · rw [h4]; rfl
  | cons b z ih => rw [List.cons_append, run_cons, run_cons, ih]
end Pl
end Go.Proofs.YtjedahcpkcgpeaaGreatDoor

/-
  Plain mathematics of layer 2: a source with something behind it that ends a token. No program.
-/
namespace Go.Proofs.YtjedahcpkcgpeaaGreatDoor
open Go Go.RowKit
namespace Pl
theorem opens_brk (a : UInt8) (r q : Bytes) (hq : Brk q) : opens (a :: r ++ q) = opens (a :: r) := by
  cases r with
  | cons b z => rfl
  | nil =>
    obtain ⟨c, z, rfl, hc⟩ := hq
    have h1 : opens [a] = false := by unfold opens; simp [List.isPrefixOf]
    have h2 : opens ([a] ++ c :: z) = ((40 : UInt8) == a && ((42 : UInt8) == c && true)) := rfl
    rw [h1, h2]
    rcases hc with rfl | rfl | rfl | rfl <;> simp
theorem closes_brk (a : UInt8) (r q : Bytes) (hq : Brk q) : closes (a :: r ++ q) = closes (a :: r) := by
  cases r with
  | cons b z => rfl
  | nil =>
    obtain ⟨c, z, rfl, hc⟩ := hq
    have h1 : closes [a] = false := by unfold closes; simp [List.isPrefixOf]
    have h2 : closes ([a] ++ c :: z) = ((42 : UInt8) == a && ((41 : UInt8) == c && true)) := rfl
    rw [h1, h2]
    rcases hc with rfl | rfl | rfl | rfl <;> simp
theorem com_brk (q : Bytes) (hq : Brk q) : ∀ (l : Bytes) (half : Bool) (d k : Nat), com l half d k ≠ 0 → com (l ++ q) half d k = com l half d k := by
  intro l
  induction l with
  | nil => intro half d k h; exact absurd rfl h
  | cons a r ih =>
    intro half d k h
    cases half
    · rw [com] at h
      rw [List.cons_append, com, com, ← List.cons_append, opens_brk a r q hq, closes_brk a r q hq]
      by_cases h1 : opens (a :: r) = true
      · rw [if_pos h1] at h; rw [if_pos h1, if_pos h1]; exact ih _ _ _ h
      · rw [if_neg h1] at h; rw [if_neg h1, if_neg h1]
        by_cases h2 : closes (a :: r) = true
        · rw [if_pos h2] at h; rw [if_pos h2, if_pos h2]; exact ih _ _ _ h
        · rw [if_neg h2] at h; rw [if_neg h2, if_neg h2]; exact ih _ _ _ h
    · rw [com] at h
      rw [List.cons_append, com, com]
      by_cases h1 : d = 0
      · rw [if_pos h1, if_pos h1]
      · rw [if_neg h1] at h; rw [if_neg h1, if_neg h1]; exact ih _ _ _ h
theorem gap_brk (q : Bytes) (hq : Brk q) : ∀ (n : Nat) (l : Bytes), l.length ≤ n → (gap l).2 = false →
    (l.drop (gap l).1 ≠ [] → gap (l ++ q) = gap l) ∧ (l.drop (gap l).1 = [] → gap (l ++ q) = (l.length + (gap q).1, (gap q).2)) := by
  intro n
  induction n with
  | zero =>
    intro l hl hg
    obtain rfl : l = [] := List.eq_nil_of_length_eq_zero (by omega)
    exact ⟨fun h => absurd rfl h, fun _ => by simp⟩
  | succ n ih =>
    intro l hl hg
    cases l with
    | nil => exact ⟨fun h => absurd rfl h, fun _ => by simp⟩
    | cons a r =>
      have ho := opens_brk a r q hq
      cases h1 : opens (a :: r)
      · rw [h1] at ho
        cases h2 : headIs blank (a :: r)
        · have e := gap_none _ h1 h2
          have e' : gap (a :: r ++ q) = (0, false) := gap_none _ ho h2
          rw [e, e']
          exact ⟨fun _ => rfl, fun h => by cases h⟩
        · have e := gap_blank _ h1 h2
          have e' : gap (a :: r ++ q) = (1 + (gap (r ++ q)).1, (gap (r ++ q)).2) := gap_blank _ ho h2
          rw [show (a :: r).drop 1 = r from rfl] at e
          rw [e] at hg ⊢
          rw [e']
          obtain ⟨k1, k2⟩ := ih r (by simpa using hl) hg
          have hd : (a :: r).drop (1 + (gap r).1) = r.drop (gap r).1 := by rw [← List.drop_drop]; rfl
          show ((a :: r).drop (1 + (gap r).1) ≠ [] → _) ∧ ((a :: r).drop (1 + (gap r).1) = [] → _)
          rw [hd]
          refine ⟨fun h => by rw [k1 h], fun h => ?_⟩
          rw [k2 h, List.length_cons]
          show (1 + (r.length + (gap q).1), (gap q).2) = (r.length + 1 + (gap q).1, (gap q).2)
          congr 1; omega
      · rw [h1] at ho
        by_cases hc : com (a :: r) false 0 0 = 0
        · rw [gap_bad _ h1 hc] at hg; cases hg
        · have hcl : com (a :: r) false 0 0 ≤ (a :: r).length := by have := (com_le (a :: r) false 0 0 hc).2; omega
          have hcp : 1 ≤ com (a :: r) false 0 0 := Nat.pos_of_ne_zero hc
          have ec := com_brk q hq _ _ _ _ hc
          have e := gap_com _ h1 hc
          have e' : gap (a :: r ++ q) = (com (a :: r) false 0 0 + (gap ((a :: r).drop (com (a :: r) false 0 0) ++ q)).1, (gap ((a :: r).drop (com (a :: r) false 0 0) ++ q)).2) := by
            have := gap_com (a :: r ++ q) ho (by rw [ec]; exact hc)
            rw [ec, List.drop_append_of_le_length hcl] at this
            exact this
          rw [e] at hg ⊢
          rw [e']
          obtain ⟨k1, k2⟩ := ih ((a :: r).drop (com (a :: r) false 0 0)) (by rw [List.length_drop]; omega) hg
          generalize com (a :: r) false 0 0 = m at hcl hcp k1 k2 ⊢
          have hd : (a :: r).drop (m + (gap ((a :: r).drop m)).1) = ((a :: r).drop m).drop (gap ((a :: r).drop m)).1 := by rw [List.drop_drop]
          show ((a :: r).drop (m + (gap ((a :: r).drop m)).1) ≠ [] → _) ∧ ((a :: r).drop (m + (gap ((a :: r).drop m)).1) = [] → _)
          rw [hd]
          refine ⟨fun h => by rw [k1 h], fun h => ?_⟩
          rw [k2 h, List.length_drop]
          show (m + ((a :: r).length - m + (gap q).1), (gap q).2) = ((a :: r).length + (gap q).1, (gap q).2)
          congr 1; omega
theorem tok_brk (r q : Bytes) (hq : Brk q) (hne : r ≠ []) (h : (tok r).err = 0) : tok (r ++ q) = tok r := by
  obtain ⟨b, z, rfl⟩ : ∃ b z, r = b :: z := by cases r with
    | nil => exact absurd rfl hne
    | cons b z => exact ⟨b, z, rfl⟩
  have hhd : ∀ p : Int → Bool, headIs p (b :: z ++ q) = headIs p (b :: z) := fun p => rfl
  have hri := run_brk innerB (by decide) (by decide) (by decide) (by decide)
  have hrd := run_brk digitB (by decide) (by decide) (by decide) (by decide)
  unfold tok at h ⊢
  rw [hhd, hhd, hhd, hhd, hhd]
  split
  · have hle := run_le innerB (b :: z)
    unfold nameTok
    rw [hri _ q hq, List.take_append_of_le_length hle, hhd]
  · next hl =>
    rw [if_neg hl] at h
    split
    · have hle := run_le innerB z
      have hd : (b :: z ++ q).drop 1 = z ++ q := rfl
      have hd2 : (b :: z).drop 1 = z := rfl
      have hhz : headIs small (z ++ q) = headIs small z := by
        cases z with
        | cons c y => rfl
        | nil =>
          obtain ⟨c, y, rfl, hc⟩ := hq
          rcases hc with rfl | rfl | rfl | rfl <;> rfl
      unfold varTok
      rw [hd, hd2, hhz, hri _ q hq, List.take_append_of_le_length (by rw [List.length_cons]; omega)]
    · next h39 =>
      rw [if_neg h39] at h
      split
      · have hle := run_le digitB (b :: z)
        unfold numTok
        rw [hrd _ q hq, List.take_append_of_le_length hle]
      · next hd =>
        rw [if_neg hd] at h
        split
        · next h34 =>
          rw [if_pos h34] at h
          have hd1 : (b :: z ++ q).drop 1 = z ++ q := rfl
          have hd2 : (b :: z).drop 1 = z := rfl
          rw [hd2] at h
          obtain ⟨u, rest, hz, ht, hu⟩ := (txt_sound z).1 [] 1 h
          rw [hd1, hd2, ht, hz, List.append_assoc, List.cons_append, txt_body u (rest ++ q) [] 1 hu]
        · next h34 =>
          rw [if_neg h34] at h
          have hs : symLen (b :: z ++ q) = symLen (b :: z) := by
            unfold symTok at h
            split at h
            · exact absurd h (show ¬ (3 : Int) = 0 by decide)
            · unfold symLen
              rw [opens_brk b z q hq]
              have h1 : (b :: z ++ q).take 1 = (b :: z).take 1 := rfl
              have h2 : sym2.contains ((b :: z ++ q).take 2) = sym2.contains ((b :: z).take 2) := by
                cases z with
                | cons c y => rfl
                | nil =>
                  obtain ⟨c, y, rfl, hc⟩ := hq
                  have e1 : ([b] ++ c :: y).take 2 = [b, c] := rfl
                  have e2 : ([b] : Bytes).take 2 = [b] := rfl
                  rw [e1, e2]
                  rcases hc with rfl | rfl | rfl | rfl <;> simp [sym2]
              rw [h1, h2]
          have hle := symLen_len (b :: z)
          unfold symTok
          rw [hs, List.take_append_of_le_length hle]
end Pl
end Go.Proofs.YtjedahcpkcgpeaaGreatDoor

/-
  Plain mathematics of layer 2: two sources with blanks or a comment between them. No program.
-/
namespace Go.Proofs.YtjedahcpkcgpeaaGreatDoor
open Go Go.RowKit
namespace Pl
def between : Nat → Bytes
  | 0 => [32]
  | 1 => [10]
  | 2 => [9, 10, 32]
  | 3 => [32, 40, 42, 42, 41, 32]
  | 4 => [40, 42, 32, 97, 32, 40, 42, 32, 34, 98, 32, 42, 41, 32, 39, 32, 42, 41]
  | _ => [40, 42, 42, 42, 41]
end Pl
end Go.Proofs.YtjedahcpkcgpeaaGreatDoor
