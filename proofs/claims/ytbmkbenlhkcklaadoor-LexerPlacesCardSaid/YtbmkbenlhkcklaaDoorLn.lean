/-
  Walks of layer 2: all tokens of a source.
-/
import Derived.Test.YtbmkbenlhkcklaaDoorLl
namespace Go.Proofs.YtbmkbenlhkcklaaDoor
open Go.RowKit

/-- the cells of tokens -/
def tokCells (t : Pl.Tok) : List Value := [.int .i64 t.kind, .string (Pl.mk t.text), .int .i64 t.line, .int .i64 t.col]
def cells (l : List Pl.Tok) : List Value := l.flatMap tokCells
theorem cells_length (l : List Pl.Tok) : (cells l).length = l.length * 4 := by
  unfold cells
  induction l with
  | nil => rfl
  | cons t r ih => rw [List.flatMap_cons, List.length_append, ih]; simp [tokCells]; omega
theorem cells_snoc (l : List Pl.Tok) (t : Pl.Tok) : cells (l ++ [t]) = cells l ++ tokCells t := by unfold cells; simp
theorem tokCells_one (t : Pl.Tok) : ∀ u ∈ tokCells t, u.oneCell' = true := by
  intro u hu
  simp only [tokCells, List.mem_cons, List.mem_nil_iff, or_false] at hu
  rcases hu with rfl | rfl | rfl | rfl <;> rfl
theorem tokenInfo : (Tryd.prog.info? 34).map (fun i => (i.zero, i.size, i.bytes)) = some (some (.agg #[.int .i64 0, .string ⟨#[]⟩, .int .i64 0, .int .i64 0]), 4, 40) := by kernel_rfl
/-- the state at the head of a round -/
structure TS (b : Nat) (s : ByteArray) (w wr : World) (i : Nat) (v : Value) (acc : List Pl.Tok) : Prop where
  lt : b < w.heap.size
  rd : RdAt wr b s i 20000
  res : Blk wr w.heap.size 25 #[.int .i64 0, .int .i64 0]
  own : wr.ownsRow (w.heap.size + 1) 34 4 v acc.length (cells acc)
  only : Only b w wr
  size : w.heap.size + 1 ≤ wr.heap.size
theorem TS.step {b : Nat} {s : ByteArray} {w wr w2 : World} {i i2 : Nat} {v : Value} {acc : List Pl.Tok} (h : TS b s w wr i v acc) (ho : Only b wr w2) (hr : RdAt w2 b s i2 20000) : TS b s w w2 i2 v acc :=
  ⟨h.lt, hr, ho.blk h.res (Ne.symm (Nat.ne_of_lt h.lt)), h.own.kept ho (by
    cases hv : v.ownBlock with
    | none => exact .inl rfl
    | some k => exact .inr (fun e => by injection e with e; have := (h.own.lt k hv).1; have := h.lt; omega)), h.only.trans ho, Nat.le_trans h.size ho.size⟩
theorem TS.form {b : Nat} {s : ByteArray} {w wr : World} {i : Nat} {v : Value} {acc : List Pl.Tok} (h : TS b s w wr i v acc) : ∃ A c, v = .slice A acc.length c := by
  rcases h.own.2 with ⟨hv, h0⟩ | ⟨g, cap, cur, hv, _⟩
  · exact ⟨none, 0, by rw [hv, h0]⟩
  · exact ⟨_, _, hv⟩
/-- behind an append of a token -/
theorem TS.grow {b : Nat} {s : ByteArray} {w wr w1 w2 : World} {i i2 : Nat} {v v' : Value} {acc : List Pl.Tok} {t : Pl.Tok} (h : TS b s w wr i v acc) (ho : Only b wr w1) (hr : RdAt w1 b s i2 20000)
    (hown : w2.ownsRow (w.heap.size + 1) 34 4 v' (acc.length + 1) (cells acc ++ tokCells t)) (hg : w1.grownBy w2 v.ownBlock) : TS b s w w2 i2 v' (acc ++ [t]) := by
  have h1 := h.step ho hr
  have hk : ∀ k, v.ownBlock = some k → w.heap.size + 1 ≤ k := fun k hk => (h1.own.lt k hk).1
  have hlt := h.lt
  have hbl : ∀ {g : Nat} {t : TypeId} {cs : Array Value}, Blk w1 g t cs → g ≤ w.heap.size → Blk w2 g t cs := fun {g t cs} hb hle =>
    (World.grownBy.block hg g hb.lt (fun e => by have := hk g e.symm; omega)).trans hb
  refine ⟨h.lt, hbl hr (by omega), hbl h1.res (Nat.le_refl _), ?_, ?_, Nat.le_trans h1.size (World.grownBy.size hg)⟩
  · rw [List.length_append, cells_snoc]; exact hown
  · obtain ⟨o1, o2, o3, o4, o5⟩ := (show w.grownBy w1 (some b) from h1.only)
    exact ⟨(World.grownBy.os hg).trans o1, (World.grownBy.tape hg).trans o2, (World.grownBy.output hg).trans o3, Nat.le_trans o4 (World.grownBy.size hg), fun k hk1 hne =>
      (World.grownBy.block hg k (Nat.lt_of_lt_of_le hk1 o4) (fun e => by have := hk k e.symm; omega)).trans (o5 k hk1 hne)⟩
/-- what tokens answers -/
def OutPost (b : Nat) (w : World) (O : Pl.Out) (e : Ending) (w' : World) : Prop :=
  (O.err = 0 ∧ (∃ v, e = .returned (.tuple #[v, .agg #[.int .i64 0, .int .i64 0], .int .i64 0]) ∧ w'.ownsRow (w.heap.size + 1) 34 4 v O.toks.length (cells O.toks)) ∧ Only b w w') ∨
  (O.err ≠ 0 ∧ O.toks = [] ∧ e = .returned (.tuple #[.slice none 0 0, .agg #[.int .i64 O.line, .int .i64 O.col], .int .i64 O.err]) ∧ Only b w w')
namespace Pl
/-- one round of Tokens -/
def Ok (f : Nat) (l : Bytes) (i : Nat) (acc : List Tok) (O : Out) : Prop := l.length + 1 ≤ i + f ∧ i ≤ l.length ∧ acc.length ≤ i ∧ toksF f l i acc = O
theorem gap_bound (s : ByteArray) (i : Nat) (h : i ≤ s.size) : i + (gap (s.toList.drop i)).1 ≤ s.size := by
  have := gap_le _ (s.toList.drop i) (Nat.le_refl _)
  rw [List.length_drop, len_size] at this; omega
theorem ok_open (f : Nat) (l : Bytes) (i : Nat) (acc : List Tok) (O : Out) (h : Ok f l i acc O) (hg : (gap (l.drop i)).2 = true) :
    O = ⟨[], lineAt l (i + (gap (l.drop i)).1), colAt l (i + (gap (l.drop i)).1), 4⟩ := by
  obtain ⟨h1, h2, h3, h4⟩ := h
  obtain ⟨f, rfl⟩ : ∃ g, f = g + 1 := ⟨f - 1, by omega⟩
  rw [toksF, if_pos hg] at h4; exact h4.symm
theorem ok_end (f : Nat) (l : Bytes) (i : Nat) (acc : List Tok) (O : Out) (h : Ok f l i acc O) (hg : (gap (l.drop i)).2 = false) (he : i + (gap (l.drop i)).1 = l.length) :
    O = ⟨acc ++ [⟨8, [], lineAt l (i + (gap (l.drop i)).1), colAt l (i + (gap (l.drop i)).1)⟩], 0, 0, 0⟩ := by
  obtain ⟨h1, h2, h3, h4⟩ := h
  obtain ⟨f, rfl⟩ : ∃ g, f = g + 1 := ⟨f - 1, by omega⟩
  rw [toksF, if_neg (by rw [hg]; simp), if_pos he] at h4; exact h4.symm
theorem ok_bad (f : Nat) (l : Bytes) (i : Nat) (acc : List Tok) (O : Out) (h : Ok f l i acc O) (hl : l.length < 20000) (hg : (gap (l.drop i)).2 = false) (he : i + (gap (l.drop i)).1 ≠ l.length) (ht : (tok (l.drop (i + (gap (l.drop i)).1))).err ≠ 0) :
    O = ⟨[], lineAt l (i + (gap (l.drop i)).1 + (tok (l.drop (i + (gap (l.drop i)).1))).pos), colAt l (i + (gap (l.drop i)).1 + (tok (l.drop (i + (gap (l.drop i)).1))).pos), (tok (l.drop (i + (gap (l.drop i)).1))).err⟩ := by
  obtain ⟨h1, h2, h3, h4⟩ := h
  obtain ⟨f, rfl⟩ : ∃ g, f = g + 1 := ⟨f - 1, by omega⟩
  rw [toksF, if_neg (by rw [hg]; simp), if_neg he, if_neg (by omega), if_neg ht] at h4; exact h4.symm
theorem ok_next (f : Nat) (l : Bytes) (i : Nat) (acc : List Tok) (O : Out) (h : Ok f l i acc O) (hl : l.length < 20000) (hg : (gap (l.drop i)).2 = false) (he : i + (gap (l.drop i)).1 ≠ l.length) (ht : (tok (l.drop (i + (gap (l.drop i)).1))).err = 0)
    (hp : 1 ≤ (tok (l.drop (i + (gap (l.drop i)).1))).len) (hb : i + (gap (l.drop i)).1 + (tok (l.drop (i + (gap (l.drop i)).1))).len ≤ l.length) :
    Ok (f - 1) l (i + (gap (l.drop i)).1 + (tok (l.drop (i + (gap (l.drop i)).1))).len) (acc ++ [⟨(tok (l.drop (i + (gap (l.drop i)).1))).kind, (tok (l.drop (i + (gap (l.drop i)).1))).text, lineAt l (i + (gap (l.drop i)).1), colAt l (i + (gap (l.drop i)).1)⟩]) O := by
  obtain ⟨h1, h2, h3, h4⟩ := h
  obtain ⟨f, rfl⟩ : ∃ g, f = g + 1 := ⟨f - 1, by omega⟩
  rw [toksF, if_neg (by rw [hg]; simp), if_neg he, if_neg (by omega), if_pos ht] at h4
  refine ⟨by omega, hb, by rw [List.length_append]; simp; omega, h4⟩

/-- what a right token is made of: one byte or more, and no newline -/
theorem run_none (p : UInt8 → Bool) (l : Bytes) (h : p 10 = false) : 10 ∉ l.take (run p l) := fun hm => by
  have := run_all p l 10 hm
  rw [h] at this; cases this
theorem run_headIs (p : UInt8 → Bool) (q : Int → Bool) (l : Bytes) (hq : ∀ b : UInt8, q b.toNat = true → p b = true) (h : headIs q l = true) : 1 ≤ run p l := by
  cases l with
  | nil => cases h
  | cons b r => rw [run_cons, if_pos (hq b h)]; omega
theorem run_one (p : UInt8 → Bool) (b : UInt8) (r : Bytes) (h : p b = true) : run p (b :: r) = run p r + 1 := by rw [run_cons, if_pos h]
/-- a right token: its length, and no newline in it; a wrong one: no newline before the byte that is wrong -/
def Fine (l : Bytes) (t : Tk) : Prop := (t.err = 0 → 1 ≤ t.len ∧ t.len ≤ l.length ∧ 10 ∉ l.take t.len) ∧ (t.err ≠ 0 → t.pos ≤ l.length ∧ 10 ∉ l.take t.pos)
theorem fine_bad (l : Bytes) (e : Int) (he : e ≠ 0) : Fine l (bad e 0) := ⟨fun h => absurd h he, fun _ => ⟨Nat.zero_le _, by simp [bad]⟩⟩
theorem fine_good (l : Bytes) (k : Int) (t : Bytes) (n : Nat) (h1 : 1 ≤ n) (h2 : n ≤ l.length) (h3 : 10 ∉ l.take n) : Fine l (good k t n) := ⟨fun _ => ⟨h1, h2, h3⟩, fun h => absurd rfl h⟩
theorem fine_name (l : Bytes) (h : headIs inner l = true) : Fine l (nameTok l) := by
  unfold nameTok
  split
  · exact fine_bad _ _ (by decide)
  · exact fine_good _ _ _ _ (run_headIs _ inner _ (fun _ h => h) h) (run_le _ _) (run_none _ _ (by decide))
theorem fine_var (l : Bytes) (h : headIs (fun c => decide (c = 39)) l = true) : Fine l (varTok l) := by
  cases l with
  | nil => cases h
  | cons b r =>
    have hb : b ≠ 10 := by rintro rfl; simp [headIs] at h
    unfold varTok
    split
    · split
      · exact fine_bad _ _ (by decide)
      · refine fine_good _ _ _ _ (by omega) ?_ ?_
        · show run innerB r + 1 ≤ r.length + 1
          have := run_le innerB r; omega
        · show 10 ∉ (b :: r).take (run innerB r + 1)
          rw [List.take_succ_cons, List.mem_cons, not_or]
          exact ⟨fun e => hb e.symm, run_none _ _ (by decide)⟩
    · exact fine_bad _ _ (by decide)
theorem fine_num (l : Bytes) (h : headIs digit l = true) : Fine l (numTok l) := by
  unfold numTok
  split
  · exact fine_good _ _ _ _ (run_headIs _ digit _ (fun _ h => h) h) (run_le _ _) (run_none _ _ (by decide))
  · next hn => exact fine_bad _ _ hn
theorem sym_fine : ∀ l, isSym l = true → 10 ∉ l := by
  intro l h
  have hm : l ∈ sym2 ++ sym1 := by simpa [isSym] using h
  have : (sym2 ++ sym1).all (fun l => !l.contains 10) = true := by decide
  have := List.all_eq_true.1 this l hm
  simpa using this
theorem fine_sym (l : Bytes) : Fine l (symTok l) := by
  unfold symTok
  split
  · exact fine_bad _ _ (by decide)
  · next h0 =>
    refine fine_good _ _ _ _ (Nat.pos_of_ne_zero h0) (symLen_len l) ?_
    unfold symLen at h0 ⊢
    split at h0
    · exact absurd rfl h0
    · next ho =>
      rw [if_neg ho]
      split at h0
      · next h2 => rw [if_pos h2]; exact sym_fine _ (by unfold isSym; rw [h2]; rfl)
      · next h2 =>
        rw [if_neg h2]
        split at h0
        · next h1 => rw [if_pos h1]; exact sym_fine _ (by unfold isSym; rw [h1]; simp)
        · exact absurd rfl h0
theorem fine_txt : ∀ (r pre : Bytes) (esc : Bool) (acc : Bytes), 1 ≤ pre.length → 10 ∉ pre → (esc = true → pre.getLast? = some 92) → Fine (pre ++ r) (txt r esc acc pre.length) := by
  intro r
  induction r with
  | nil => intro pre esc acc _ _ _; cases esc <;> exact fine_bad _ _ (by decide)
  | cons c r ih =>
    intro pre esc acc h1 h10 hesc
    have hcat : pre ++ c :: r = (pre ++ [c]) ++ r := by simp
    have hlen : (pre ++ [c]).length = pre.length + 1 := by simp
    have hstep : ∀ (e : Bool) (a : Bytes), c ≠ 10 → (e = true → c = 92) → Fine (pre ++ c :: r) (txt r e a (pre.length + 1)) := fun e a hc he => by
      rw [hcat, ← hlen]
      exact ih (pre ++ [c]) e a (by omega) (by simp only [List.mem_append, List.mem_singleton, not_or]; exact ⟨h10, fun x => hc x.symm⟩) (fun h => by rw [List.getLast?_append]; simp [he h])
    cases esc
    · rw [txt]
      by_cases hq : c = 34
      · rw [if_pos hq]
        refine fine_good _ _ _ _ (by omega) (by simp) ?_
        rw [hcat, ← hlen, List.take_left']
        · simp only [List.mem_append, List.mem_singleton, not_or]; exact ⟨h10, by rw [hq]; decide⟩
        · rfl
      · rw [if_neg hq]
        by_cases hb : c = 92
        · rw [if_pos hb]; exact hstep true acc (by rw [hb]; decide) (fun _ => hb)
        · rw [if_neg hb]
          by_cases hp : printB c = true
          · rw [if_pos hp]; exact hstep false _ (by rintro rfl; exact absurd hp (by decide)) (fun h => by cases h)
          · rw [if_neg hp]
            refine ⟨fun h => absurd h (show ¬ (3 : Int) = 0 by decide), fun _ => ⟨by simp [bad], ?_⟩⟩
            show 10 ∉ (pre ++ c :: r).take pre.length
            rw [List.take_left']
            · exact h10
            · rfl
    · rw [txt]
      cases hm : meaning c with
      | some m =>
        refine hstep false _ ?_ (fun h => by cases h)
        rintro rfl
        have : meaning 10 = none := by decide
        rw [this] at hm; cases hm
      | none =>
        refine ⟨fun h => absurd h (show ¬ (3 : Int) = 0 by decide), fun _ => ⟨by simp [bad]; omega, ?_⟩⟩
        show 10 ∉ (pre ++ c :: r).take (pre.length - 1)
        intro hx
        rw [List.take_append_of_le_length (by omega)] at hx
        exact h10 (List.mem_of_mem_take hx)
theorem fine_tok (l : Bytes) (h : l ≠ []) : Fine l (tok l) := by
  unfold tok
  split
  · next h1 =>
    refine fine_name l ?_
    cases l with
    | nil => exact absurd rfl h
    | cons b r =>
      simp only [Bool.or_eq_true] at h1
      rcases h1 with h1 | h1
      · exact small_inner _ h1
      · exact capital_inner _ h1
  · split
    · next h1 => exact fine_var l h1
    · split
      · next h1 => exact fine_num l h1
      · split
        · next h1 =>
          cases l with
          | nil => exact absurd rfl h
          | cons b r =>
            have hb : b ≠ 10 := by rintro rfl; simp [headIs] at h1
            exact fine_txt r [b] false [] (by simp) (by simpa using fun e : 10 = b => hb e.symm) (fun h => by cases h)
        · exact fine_sym l
end Pl
end Go.Proofs.YtbmkbenlhkcklaaDoor
