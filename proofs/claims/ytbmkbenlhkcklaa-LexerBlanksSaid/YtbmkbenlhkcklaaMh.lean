/-
  Walks of layer 2: isRight, and the reference's Right.
-/
import Derived.Test.YtbmkbenlhkcklaaMf
import Derived.Test.YtbmkbenlhkcklaaMg
namespace Go.Proofs.Ytbmkbenlhkcklaa
open Go.RowKit

/-- what isRight answers -/
def rightB (t : Pl.Tok) : Bool :=
  if t.kind = 5 then decide (t.text.length ≤ 16384) && Pl.isText t.text
  else if 1 ≤ t.kind ∧ t.kind ≤ 7 then Pl.cls7 t.kind t.text else endB t
/-- what the reference's Right answers -/
def refB (t : Pl.Tok) : Bool :=
  if t.kind = 5 then decide (t.text.length ≤ 16384) && Pl.isText t.text
  else if t.text.isEmpty || decide (t.kind = 8) || Pl.headIs (fun c => decide (c = 34)) t.text then false else Pl.okT t.kind t.text
theorem cls7_empty (k : Int) : Pl.cls7 k [] = false := by
  unfold Pl.cls7; repeat' split
  all_goals rfl
theorem cls7_head (k : Int) (l : Pl.Bytes) (h : Pl.headIs (fun c => decide (c = 34)) l = true) : Pl.cls7 k l = false := by
  obtain ⟨b, r, rfl⟩ : ∃ b r, l = b :: r := by cases l with
    | nil => cases h
    | cons b r => exact ⟨b, r, rfl⟩
  have hb : b = 34 := (Pl.u8_eq _ _).2 (of_decide_eq_true h)
  subst hb
  have h1 : Pl.isLower (34 :: r) = false := by
    show (Pl.isWord (34 :: r) && Pl.small (34 : Nat) && _) = false
    rw [show Pl.small (34 : Nat) = false from rfl, Bool.and_false, Bool.false_and]
  have h2 : Pl.isUpper (34 :: r) = false := by
    show (Pl.isWord (34 :: r) && Pl.capital (34 : Nat)) = false
    rw [show Pl.capital (34 : Nat) = false from rfl, Bool.and_false]
  have h3 : Pl.isVar (34 :: r) = false := rfl
  have h4 : ¬ (Pl.number (34 :: r)).2 = 0 := fun h => by
    have := (Pl.number_zero _ h).2
    unfold Pl.digits at this
    rw [List.all_cons, Bool.and_eq_true] at this
    exact absurd this.1 (by decide)
  have h6 : Pl.isKey (34 :: r) = false := by
    rw [Bool.eq_false_iff]; intro h; exact absurd (Pl.key_head _ h).1 (show ¬ Pl.small (34 : Nat) = true by decide)
  have h7 : Pl.isSym (34 :: r) = false := by
    rw [Bool.eq_false_iff]; intro h; exact absurd (Pl.sym_head _ h).2.2.2.2.2.1 (by simp [Pl.headIs])
  unfold Pl.cls7
  rw [h1, h2, h3, h6, h7, decide_eq_false h4]
  simp
theorem cls7_other (k : Int) (l : Pl.Bytes) (h : ¬ (1 ≤ k ∧ k ≤ 7)) : Pl.cls7 k l = false := by
  unfold Pl.cls7
  rw [if_neg (by omega), if_neg (by omega), if_neg (by omega), if_neg (by omega), if_neg (by omega), if_neg (by omega)]
theorem refB_eq (t : Pl.Tok) : refB t = (rightB t && !endB t) := by
  unfold refB rightB
  by_cases h5 : t.kind = 5
  · rw [if_pos h5, if_pos h5]
    have : endB t = false := by unfold endB; rw [h5]; rfl
    rw [this]; simp
  · rw [if_neg h5, if_neg h5]
    cases he : t.text.isEmpty
    · have hend : endB t = false := by unfold endB; rw [he, Bool.and_false]
      have hne : t.text ≠ [] := by rintro h; rw [h] at he; cases he
      rw [hend]
      cases h34 : Pl.headIs (fun c => decide (c = 34)) t.text
      · by_cases h8 : t.kind = 8
        · rw [decide_eq_true h8, if_pos (by simp), if_neg (by omega)]; rfl
        · rw [decide_eq_false h8, if_neg (by simp), Pl.okT_cls _ _ hne h34]
          split
          · simp
          · next h => rw [cls7_other _ _ h]; rfl
      · rw [if_pos (by simp), cls7_head _ _ h34]
        split <;> rfl
    · have hnil : t.text = [] := by simpa using he
      rw [if_pos (by simp)]
      by_cases h : 1 ≤ t.kind ∧ t.kind ≤ 7
      · rw [if_pos h, hnil, cls7_empty]; rfl
      · rw [if_neg h]; simp
set_option maxRecDepth 100000 in
theorem isRight_1 (tx : ByteArray) (li co : Int) (w : World) (hs : tx.size ≤ maxLen) :
    Calls Try.prog 44 #[.agg (tkc 1 tx li co)] w fun e w' => e = .returned (.bool (Pl.isLower tx.toList)) ∧ Below w.heap.size w w' := by
  have HC := Lib.hid (fun W => isLower_any tx W hs)
  obtain ⟨hk, hb⟩ := tok_block w 1 tx li co
  obtain ⟨d0, d1, d2, d3, -, -, -, -⟩ := hk
  have HB := Lib.hid hb
  clear hb
  unfold tkc
  go_enter Try.func44, Try.ntmps44
  go_wp2_with fail
  refine (HC.out _).mono ?_
  rintro e w2 ⟨rfl, rfl⟩
  go_wp2
  go_ret
  exact ⟨rfl, HB.out⟩
set_option maxRecDepth 100000 in
theorem isRight_2 (tx : ByteArray) (li co : Int) (w : World) (hs : tx.size ≤ maxLen) :
    Calls Try.prog 44 #[.agg (tkc 2 tx li co)] w fun e w' => e = .returned (.bool (Pl.isUpper tx.toList)) ∧ Below w.heap.size w w' := by
  have HC := Lib.hid (fun W => isUpper_any tx W hs)
  obtain ⟨hk, hb⟩ := tok_block w 2 tx li co
  obtain ⟨d0, d1, d2, d3, -, -, -, -⟩ := hk
  have HB := Lib.hid hb
  clear hb
  unfold tkc
  go_enter Try.func44, Try.ntmps44
  go_wp2_with fail
  refine (HC.out _).mono ?_
  rintro e w2 ⟨rfl, rfl⟩
  go_wp2
  go_ret
  exact ⟨rfl, HB.out⟩
set_option maxRecDepth 100000 in
theorem isRight_3 (tx : ByteArray) (li co : Int) (w : World) (hs : tx.size ≤ maxLen) :
    Calls Try.prog 44 #[.agg (tkc 3 tx li co)] w fun e w' => e = .returned (.bool (Pl.isVar tx.toList)) ∧ Below w.heap.size w w' := by
  have HC := Lib.hid (fun W => isVar_any tx W hs)
  obtain ⟨hk, hb⟩ := tok_block w 3 tx li co
  obtain ⟨d0, d1, d2, d3, -, -, -, -⟩ := hk
  have HB := Lib.hid hb
  clear hb
  unfold tkc
  go_enter Try.func44, Try.ntmps44
  go_wp2_with fail
  refine (HC.out _).mono ?_
  rintro e w2 ⟨rfl, rfl⟩
  go_wp2
  go_ret
  exact ⟨rfl, HB.out⟩
set_option maxRecDepth 100000 in
theorem isRight_6 (tx : ByteArray) (li co : Int) (w : World) :
    Calls Try.prog 44 #[.agg (tkc 6 tx li co)] w fun e w' => e = .returned (.bool (Pl.isKey tx.toList)) ∧ Below w.heap.size w w' := by
  have HC := Lib.hid (fun W => keyword_any tx W)
  obtain ⟨hk, hb⟩ := tok_block w 6 tx li co
  obtain ⟨d0, d1, d2, d3, -, -, -, -⟩ := hk
  have HB := Lib.hid hb
  clear hb
  unfold tkc
  go_enter Try.func44, Try.ntmps44
  go_wp2_with fail
  refine (HC.out _).mono ?_
  rintro e w2 ⟨rfl, rfl⟩
  go_wp2
  go_ret
  exact ⟨rfl, HB.out⟩
set_option maxRecDepth 100000 in
theorem isRight_7 (tx : ByteArray) (li co : Int) (w : World) :
    Calls Try.prog 44 #[.agg (tkc 7 tx li co)] w fun e w' => e = .returned (.bool (Pl.isSym tx.toList)) ∧ Below w.heap.size w w' := by
  have HC := Lib.hid (fun W => isSymbol_any tx W)
  obtain ⟨hk, hb⟩ := tok_block w 7 tx li co
  obtain ⟨d0, d1, d2, d3, -, -, -, -⟩ := hk
  have HB := Lib.hid hb
  clear hb
  unfold tkc
  go_enter Try.func44, Try.ntmps44
  go_wp2_with fail
  refine (HC.out _).mono ?_
  rintro e w2 ⟨rfl, rfl⟩
  go_wp2
  go_ret
  exact ⟨rfl, HB.out⟩
set_option maxRecDepth 100000 in
theorem isRight_4 (tx : ByteArray) (li co : Int) (w : World) (hs : tx.size ≤ maxLen) :
    Calls Try.prog 44 #[.agg (tkc 4 tx li co)] w fun e w' => e = .returned (.bool (decide ((Pl.number tx.toList).2 = 0))) ∧ Below w.heap.size w w' := by
  have hc := fun W => number_any tx W hs
  generalize (Pl.number tx.toList).2 = er at hc ⊢
  generalize (Pl.number tx.toList).1 = nv at hc
  have HC := Lib.hid hc
  clear hc
  by_cases he : er = 0
  · have q1 : (er == 0) = true := beq_iff_eq.2 he
    rw [decide_eq_true he]
    clear he
    obtain ⟨hk, hb⟩ := tok_block w 4 tx li co
    obtain ⟨d0, d1, d2, d3, -, -, -, -⟩ := hk
    have HB := Lib.hid hb
    clear hb
    unfold tkc
    go_enter Try.func44, Try.ntmps44
    go_wp2_with fail
    refine (HC.out _).mono ?_
    rintro e w2 ⟨rfl, rfl⟩
    go_wp2
    go_ret
    exact ⟨rfl, HB.out⟩
  · have q1 : (er == 0) = false := beq_eq_false_iff_ne.2 he
    rw [decide_eq_false he]
    clear he
    obtain ⟨hk, hb⟩ := tok_block w 4 tx li co
    obtain ⟨d0, d1, d2, d3, -, -, -, -⟩ := hk
    have HB := Lib.hid hb
    clear hb
    unfold tkc
    go_enter Try.func44, Try.ntmps44
    go_wp2_with fail
    refine (HC.out _).mono ?_
    rintro e w2 ⟨rfl, rfl⟩
    go_wp2
    go_ret
    exact ⟨rfl, HB.out⟩
set_option maxRecDepth 100000 in
theorem isRight_5 (tx : ByteArray) (li co : Int) (w : World) (hs : tx.size ≤ maxLen) :
    Calls Try.prog 44 #[.agg (tkc 5 tx li co)] w fun e w' => e = .returned (.bool (decide (tx.size ≤ 16384) && Pl.isText tx.toList)) ∧ Below w.heap.size w w' := by
  have HC := Lib.hid (fun W => isText_any tx W hs)
  generalize Pl.isText tx.toList = r at HC ⊢
  by_cases hl : tx.size ≤ 16384
  · have q1 : decide ((tx.size : Int) ≤ 16384) = true := by simp; omega
    rw [decide_eq_true hl, Bool.true_and]
    clear hl
    obtain ⟨hk, hb⟩ := tok_block w 5 tx li co
    obtain ⟨d0, d1, d2, d3, -, -, -, -⟩ := hk
    have HB := Lib.hid hb
    clear hb
    unfold tkc
    go_enter Try.func44, Try.ntmps44
    go_wp2_with fail
    refine (HC.out _).mono ?_
    rintro e w2 ⟨rfl, rfl⟩
    go_wp2
    go_ret
    exact ⟨rfl, HB.out⟩
  · have q1 : decide ((tx.size : Int) ≤ 16384) = false := by simp; omega
    rw [decide_eq_false hl, Bool.false_and]
    clear hl
    obtain ⟨hk, hb⟩ := tok_block w 5 tx li co
    obtain ⟨d0, d1, d2, d3, -, -, -, -⟩ := hk
    have HB := Lib.hid hb
    clear hb
    unfold tkc
    go_enter Try.func44, Try.ntmps44
    go_wp2
    go_ret
    exact ⟨rfl, HB.out⟩
set_option maxRecDepth 100000 in
theorem isRight_0 (kd : Int) (tx : ByteArray) (li co : Int) (w : World) (hk : ¬ (1 ≤ kd ∧ kd ≤ 7)) :
    Calls Try.prog 44 #[.agg (tkc kd tx li co)] w fun e w' => e = .returned (.bool (decide (kd = 8) && tx.toList.isEmpty)) ∧ Below w.heap.size w w' := by
  have p1 : (kd == 1) = false := beq_eq_false_iff_ne.2 (by omega)
  have p2 : (kd == 2) = false := beq_eq_false_iff_ne.2 (by omega)
  have p3 : (kd == 3) = false := beq_eq_false_iff_ne.2 (by omega)
  have p4 : (kd == 4) = false := beq_eq_false_iff_ne.2 (by omega)
  have p5 : (kd == 5) = false := beq_eq_false_iff_ne.2 (by omega)
  have p6 : (kd == 6) = false := beq_eq_false_iff_ne.2 (by omega)
  have p7 : (kd == 7) = false := beq_eq_false_iff_ne.2 (by omega)
  clear hk
  have HC := Lib.hid (fun W => isEnd_any ⟨kd, tx.toList, li, co⟩ W)
  unfold tokVal endB tkc at HC
  simp only [Pl.mk_of] at HC
  generalize (decide (kd = 8) && tx.toList.isEmpty) = r at HC ⊢
  obtain ⟨hk, hb⟩ := tok_block w kd tx li co
  obtain ⟨d0, d1, d2, d3, -, -, -, -⟩ := hk
  have HB := Lib.hid hb
  clear hb
  unfold tkc
  go_enter Try.func44, Try.ntmps44
  go_wp2_with fail
  refine (HC.out _).mono ?_
  rintro e w2 ⟨rfl, hb2⟩
  have HB2 := Lib.hid (HB.out.trans (hb2.mono HB.out.size))
  clear hb2
  go_wp2
  go_ret
  exact ⟨rfl, HB2.out⟩
theorem isRight_any (t : Pl.Tok) (w : World) (hs : t.text.length ≤ 17000) :
    Calls Try.prog 44 #[tokVal t] w fun e w' => e = .returned (.bool (rightB t)) ∧ Below w.heap.size w w' := by
  have hsz : (Pl.mk t.text).size = t.text.length := Pl.mk_size _
  have hm : (Pl.mk t.text).size ≤ maxLen := by unfold maxLen; omega
  have ht : (Pl.mk t.text).toList = t.text := Pl.mk_toList _
  unfold tokVal rightB
  by_cases hr : 1 ≤ t.kind ∧ t.kind ≤ 7
  · obtain h | h | h | h | h | h | h : t.kind = 1 ∨ t.kind = 2 ∨ t.kind = 3 ∨ t.kind = 4 ∨ t.kind = 5 ∨ t.kind = 6 ∨ t.kind = 7 := by omega
    all_goals rw [h]
    · have := isRight_1 (Pl.mk t.text) t.line t.col w hm
      rw [ht] at this; exact this
    · have := isRight_2 (Pl.mk t.text) t.line t.col w hm
      rw [ht] at this; exact this
    · have := isRight_3 (Pl.mk t.text) t.line t.col w hm
      rw [ht] at this; exact this
    · have := isRight_4 (Pl.mk t.text) t.line t.col w hm
      rw [ht] at this; exact this
    · have := isRight_5 (Pl.mk t.text) t.line t.col w hm
      rw [ht, hsz] at this; exact this
    · have := isRight_6 (Pl.mk t.text) t.line t.col w
      rw [ht] at this; exact this
    · have := isRight_7 (Pl.mk t.text) t.line t.col w
      rw [ht] at this; exact this
  · rw [if_neg (by omega), if_neg hr]
    have := isRight_0 t.kind (Pl.mk t.text) t.line t.col w hr
    rw [ht] at this; exact this
set_option maxRecDepth 100000 in
theorem right_5 (tx : ByteArray) (li co : Int) (w : World) (hs : tx.size ≤ maxLen) :
    Calls Try.prog 50 #[.agg (tkc 5 tx li co)] w fun e w' => e = .returned (.bool (decide (tx.size ≤ 16384) && Pl.isText tx.toList)) ∧ Below w.heap.size w w' := by
  have HC := Lib.hid (fun W => rPlain_any tx W hs)
  generalize Pl.isText tx.toList = r at HC ⊢
  by_cases hl : tx.size ≤ 16384
  · have q1 : decide ((tx.size : Int) ≤ 16384) = true := by simp; omega
    rw [decide_eq_true hl, Bool.true_and]
    clear hl
    obtain ⟨hk, hb⟩ := tok_block w 5 tx li co
    obtain ⟨d0, d1, d2, d3, -, -, -, -⟩ := hk
    have HB := Lib.hid hb
    clear hb
    unfold tkc
    go_enter Try.func50, Try.ntmps50
    go_wp2_with fail
    refine (HC.out _).mono ?_
    rintro e w2 ⟨rfl, rfl⟩
    go_wp2
    go_ret
    exact ⟨rfl, HB.out⟩
  · have q1 : decide ((tx.size : Int) ≤ 16384) = false := by simp; omega
    rw [decide_eq_false hl, Bool.false_and]
    clear hl
    obtain ⟨hk, hb⟩ := tok_block w 5 tx li co
    obtain ⟨d0, d1, d2, d3, -, -, -, -⟩ := hk
    have HB := Lib.hid hb
    clear hb
    unfold tkc
    go_enter Try.func50, Try.ntmps50
    go_wp2
    go_ret
    exact ⟨rfl, HB.out⟩
set_option maxRecDepth 100000 in
theorem right_empty (kd : Int) (tx : ByteArray) (li co : Int) (w : World) (h5 : kd ≠ 5) (he : tx.toList = []) :
    Calls Try.prog 50 #[.agg (tkc kd tx li co)] w fun e w' => e = .returned (.bool (false)) ∧ Below w.heap.size w w' := by
  have p5 : (kd == 5) = false := beq_eq_false_iff_ne.2 h5
  have he2 : tx.toList.isEmpty = true := by rw [he]; rfl
  clear h5
  obtain ⟨hk, hb⟩ := tok_block w kd tx li co
  obtain ⟨d0, d1, d2, d3, -, -, -, -⟩ := hk
  have HB := Lib.hid hb
  clear hb
  unfold tkc
  go_enter Try.func50, Try.ntmps50
  go_wp2
  go_ret
  exact ⟨rfl, HB.out⟩
set_option maxRecDepth 100000 in
theorem right_end (tx : ByteArray) (li co : Int) (w : World) (he : ¬ tx.toList = []) :
    Calls Try.prog 50 #[.agg (tkc 8 tx li co)] w fun e w' => e = .returned (.bool (false)) ∧ Below w.heap.size w w' := by
  have he2 : tx.toList.isEmpty = false := by simpa using he
  obtain ⟨hk, hb⟩ := tok_block w 8 tx li co
  obtain ⟨d0, d1, d2, d3, -, -, -, -⟩ := hk
  have HB := Lib.hid hb
  clear hb
  unfold tkc
  go_enter Try.func50, Try.ntmps50
  go_wp2
  go_ret
  exact ⟨rfl, HB.out⟩
set_option maxRecDepth 100000 in
theorem right_quote (kd : Int) (tx : ByteArray) (li co : Int) (w : World) (h5 : kd ≠ 5) (h8 : kd ≠ 8) (he : ¬ tx.toList = []) (h0 : 0 < tx.size) (hq : ((tx[0].toNat : Int) == 34) = true) :
    Calls Try.prog 50 #[.agg (tkc kd tx li co)] w fun e w' => e = .returned (.bool (false)) ∧ Below w.heap.size w w' := by
  have p5 : (kd == 5) = false := beq_eq_false_iff_ne.2 h5
  have p8 : (kd == 8) = false := beq_eq_false_iff_ne.2 h8
  have he2 : tx.toList.isEmpty = false := by simpa using he
  clear h5 h8
  obtain ⟨hk, hb⟩ := tok_block w kd tx li co
  obtain ⟨d0, d1, d2, d3, -, -, -, -⟩ := hk
  have HB := Lib.hid hb
  clear hb
  unfold tkc
  go_enter Try.func50, Try.ntmps50
  go_wp2
  go_ret
  exact ⟨rfl, HB.out⟩
set_option maxRecDepth 100000 in
theorem right_next (T : Pl.Tk) (kd : Int) (tx : ByteArray) (li co : Int) (w : World) (h5 : kd ≠ 5) (h8 : kd ≠ 8) (he : ¬ tx.toList = []) (h0 : 0 < tx.size) (hq : ((tx[0].toNat : Int) == 34) = false) (hnx : ∀ W, Calls Try.prog 32 #[.string tx] W (RNext W T)) :
    Calls Try.prog 50 #[.agg (tkc kd tx li co)] w fun e w' => e = .returned (.bool (decide (T.err = 0) && decide (T.len = tx.size) && decide (T.kind = kd))) ∧ Below w.heap.size w w' := by
  have p5 : (kd == 5) = false := beq_eq_false_iff_ne.2 h5
  have p8 : (kd == 8) = false := beq_eq_false_iff_ne.2 h8
  have he2 : tx.toList.isEmpty = false := by simpa using he
  have HNX := Lib.hid hnx
  generalize hr : (decide (T.err = 0) && decide (T.len = tx.size) && decide (T.kind = kd)) = r
  have HR0 := Lib.hid hr
  clear h5 h8 hnx hr
  by_cases hte : T.err = 0
  · have t1 : (T.err == 0) = true := beq_iff_eq.2 hte
    by_cases hn : T.len = tx.size
    · have u1 : ((T.len : Int) == (tx.size : Int)) = true := beq_iff_eq.2 (by omega)
      by_cases hk : T.kind = kd
      · have v1 : (T.kind == kd) = true := beq_iff_eq.2 hk
        have HR := Lib.hid (show r = true from by rw [← HR0.out, decide_eq_true hte, decide_eq_true hn, decide_eq_true hk]; rfl)
        have HTE := Lib.hid hte
        clear hte hn hk
        obtain ⟨hk, hb⟩ := tok_block w kd tx li co
        obtain ⟨d0, d1, d2, d3, -, -, -, -⟩ := hk
        have HB := Lib.hid hb
        clear hb
        unfold tkc
        go_enter Try.func50, Try.ntmps50
        go_wp2_with fail
        refine (HNX.out _).mono ?_
        rintro e w2 ⟨k2, t2, n2, hT, rfl, hb2⟩
        obtain ⟨rfl, rfl, rfl⟩ := hT HTE.out
        generalize T.kind = k2 at v1 ⊢
        generalize Pl.mk T.text = t2 at ⊢
        have HB2 := Lib.hid (HB.out.trans (hb2.mono HB.out.size))
        have d0' := (hb2.cell (p := ⟨w.heap.size, 0, none⟩) (by simp)).trans d0
        have d1' := (hb2.cell (p := ⟨w.heap.size, 1, none⟩) (by simp)).trans d1
        obtain ⟨hk3, hb3⟩ := tok_block w2 k2 t2 0 0
        obtain ⟨g0, -, -, -, -, -, -, -⟩ := hk3
        have hz2 : w.heap.size < w2.heap.size := Nat.lt_of_lt_of_le (by simp) hb2.size
        have HB3 := Lib.hid (HB2.out.trans (hb3.mono HB2.out.size))
        have g1 := (hb3.cell (p := ⟨w.heap.size, 0, none⟩) hz2).trans d0'
        have g2 := (hb3.cell (p := ⟨w.heap.size, 1, none⟩) hz2).trans d1'
        clear hb2 hb3 d0 d1 d2 d3 d0' d1' hT
        unfold tkc
        go_wp2
        go_ret
        exact ⟨by rw [HR.out]; rfl, HB3.out⟩
      · have v1 : (T.kind == kd) = false := beq_eq_false_iff_ne.2 hk
        have HR := Lib.hid (show r = false from by rw [← HR0.out, decide_eq_false hk, Bool.and_false])
        have HTE := Lib.hid hte
        clear hte hn hk
        obtain ⟨hk, hb⟩ := tok_block w kd tx li co
        obtain ⟨d0, d1, d2, d3, -, -, -, -⟩ := hk
        have HB := Lib.hid hb
        clear hb
        unfold tkc
        go_enter Try.func50, Try.ntmps50
        go_wp2_with fail
        refine (HNX.out _).mono ?_
        rintro e w2 ⟨k2, t2, n2, hT, rfl, hb2⟩
        obtain ⟨rfl, rfl, rfl⟩ := hT HTE.out
        generalize T.kind = k2 at v1 ⊢
        generalize Pl.mk T.text = t2 at ⊢
        have HB2 := Lib.hid (HB.out.trans (hb2.mono HB.out.size))
        have d0' := (hb2.cell (p := ⟨w.heap.size, 0, none⟩) (by simp)).trans d0
        have d1' := (hb2.cell (p := ⟨w.heap.size, 1, none⟩) (by simp)).trans d1
        obtain ⟨hk3, hb3⟩ := tok_block w2 k2 t2 0 0
        obtain ⟨g0, -, -, -, -, -, -, -⟩ := hk3
        have hz2 : w.heap.size < w2.heap.size := Nat.lt_of_lt_of_le (by simp) hb2.size
        have HB3 := Lib.hid (HB2.out.trans (hb3.mono HB2.out.size))
        have g1 := (hb3.cell (p := ⟨w.heap.size, 0, none⟩) hz2).trans d0'
        have g2 := (hb3.cell (p := ⟨w.heap.size, 1, none⟩) hz2).trans d1'
        clear hb2 hb3 d0 d1 d2 d3 d0' d1' hT
        unfold tkc
        go_wp2
        go_ret
        exact ⟨by rw [HR.out]; rfl, HB3.out⟩
    · have u1 : ((T.len : Int) == (tx.size : Int)) = false := beq_eq_false_iff_ne.2 (by omega)
      have HR := Lib.hid (show r = false from by rw [← HR0.out, decide_eq_false hn, Bool.and_false, Bool.false_and])
      have HTE := Lib.hid hte
      clear hte hn
      obtain ⟨hk, hb⟩ := tok_block w kd tx li co
      obtain ⟨d0, d1, d2, d3, -, -, -, -⟩ := hk
      have HB := Lib.hid hb
      clear hb
      unfold tkc
      go_enter Try.func50, Try.ntmps50
      go_wp2_with fail
      refine (HNX.out _).mono ?_
      rintro e w2 ⟨k2, t2, n2, hT, rfl, hb2⟩
      obtain ⟨rfl, rfl, rfl⟩ := hT HTE.out
      generalize T.kind = k2 at ⊢
      generalize Pl.mk T.text = t2 at ⊢
      have HB2 := Lib.hid (HB.out.trans (hb2.mono HB.out.size))
      have d0' := (hb2.cell (p := ⟨w.heap.size, 0, none⟩) (by simp)).trans d0
      have d1' := (hb2.cell (p := ⟨w.heap.size, 1, none⟩) (by simp)).trans d1
      obtain ⟨hk3, hb3⟩ := tok_block w2 k2 t2 0 0
      obtain ⟨g0, -, -, -, -, -, -, -⟩ := hk3
      have hz2 : w.heap.size < w2.heap.size := Nat.lt_of_lt_of_le (by simp) hb2.size
      have HB3 := Lib.hid (HB2.out.trans (hb3.mono HB2.out.size))
      have g1 := (hb3.cell (p := ⟨w.heap.size, 0, none⟩) hz2).trans d0'
      have g2 := (hb3.cell (p := ⟨w.heap.size, 1, none⟩) hz2).trans d1'
      clear hb2 hb3 d0 d1 d2 d3 d0' d1' hT
      unfold tkc
      go_wp2
      go_ret
      exact ⟨by rw [HR.out]; rfl, HB3.out⟩
  · have t1 : (T.err == 0) = false := beq_eq_false_iff_ne.2 hte
    have HR := Lib.hid (show r = false from by rw [← HR0.out, decide_eq_false hte, Bool.false_and, Bool.false_and])
    clear hte
    obtain ⟨hk, hb⟩ := tok_block w kd tx li co
    obtain ⟨d0, d1, d2, d3, -, -, -, -⟩ := hk
    have HB := Lib.hid hb
    clear hb
    unfold tkc
    go_enter Try.func50, Try.ntmps50
    go_wp2_with fail
    refine (HNX.out _).mono ?_
    rintro e w2 ⟨k2, t2, n2, hT, rfl, hb2⟩
    have HB2 := Lib.hid (HB.out.trans (hb2.mono HB.out.size))
    have d0' := (hb2.cell (p := ⟨w.heap.size, 0, none⟩) (by simp)).trans d0
    have d1' := (hb2.cell (p := ⟨w.heap.size, 1, none⟩) (by simp)).trans d1
    obtain ⟨hk3, hb3⟩ := tok_block w2 k2 t2 0 0
    obtain ⟨g0, -, -, -, -, -, -, -⟩ := hk3
    have hz2 : w.heap.size < w2.heap.size := Nat.lt_of_lt_of_le (by simp) hb2.size
    have HB3 := Lib.hid (HB2.out.trans (hb3.mono HB2.out.size))
    have g1 := (hb3.cell (p := ⟨w.heap.size, 0, none⟩) hz2).trans d0'
    have g2 := (hb3.cell (p := ⟨w.heap.size, 1, none⟩) hz2).trans d1'
    clear hb2 hb3 d0 d1 d2 d3 d0' d1' hT
    unfold tkc
    go_wp2
    go_ret
    exact ⟨by rw [HR.out]; rfl, HB3.out⟩
theorem right_any (t : Pl.Tok) (w : World) (hs : t.text.length ≤ 17000) :
    Calls Try.prog 50 #[tokVal t] w fun e w' => e = .returned (.bool (refB t)) ∧ Below w.heap.size w w' := by
  have hsz : (Pl.mk t.text).size = t.text.length := Pl.mk_size _
  have hm : (Pl.mk t.text).size ≤ maxLen := by unfold maxLen; omega
  have ht : (Pl.mk t.text).toList = t.text := Pl.mk_toList _
  unfold tokVal refB
  by_cases h5 : t.kind = 5
  · rw [h5]
    have := right_5 (Pl.mk t.text) t.line t.col w hm
    rw [ht, hsz] at this; exact this
  · rw [if_neg h5]
    by_cases he : t.text = []
    · rw [if_pos (by rw [he]; rfl)]
      exact right_empty t.kind (Pl.mk t.text) t.line t.col w h5 (ht.trans he)
    · have hie : t.text.isEmpty = false := by simpa using he
      have hne : ¬ (Pl.mk t.text).toList = [] := by rw [ht]; exact he
      have h0 : 0 < (Pl.mk t.text).size := by
        rw [hsz]; exact List.length_pos_iff.2 he
      rw [hie]
      by_cases h8 : t.kind = 8
      · rw [decide_eq_true h8, if_pos (by simp), h8]
        exact right_end (Pl.mk t.text) t.line t.col w hne
      · rw [decide_eq_false h8]
        have hq : Pl.headIs (fun c => decide (c = 34)) t.text = decide (((Pl.mk t.text)[0].toNat : Int) = 34) := by
          have := Pl.head_pos (fun c => decide (c = 34)) (Pl.mk t.text) h0
          rw [ht] at this; exact this
        by_cases h34 : ((Pl.mk t.text)[0].toNat : Int) = 34
        · rw [hq, decide_eq_true h34, if_pos (by simp)]
          exact right_quote t.kind (Pl.mk t.text) t.line t.col w h5 h8 hne h0 (beq_iff_eq.2 h34)
        · rw [hq, decide_eq_false h34, if_neg (by simp)]
          have := right_next (Pl.tok t.text) t.kind (Pl.mk t.text) t.line t.col w h5 h8 hne h0 (beq_eq_false_iff_ne.2 h34) (fun W => by
            have := next_any (Pl.mk t.text) W h0 (by omega)
            rw [ht] at this; exact this)
          rw [hsz] at this
          exact this
end Go.Proofs.Ytbmkbenlhkcklaa
