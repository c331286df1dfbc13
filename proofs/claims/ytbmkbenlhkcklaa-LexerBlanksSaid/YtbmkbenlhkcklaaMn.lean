/-
  Plain mathematics of layer 2: the tokens of what was joined. No program.
-/
import Derived.Test.YtbmkbenlhkcklaaMm
namespace Go.Proofs.Ytbmkbenlhkcklaa
open Go Go.RowKit
namespace Pl
theorem tok_opens (l : Bytes) (h : opens l = true) : (tok l).err = 3 := by
  match l, h with
  | [], h => cases h
  | [b], h =>
    have : opens [b] = false := by unfold opens; simp [List.isPrefixOf]
    rw [this] at h; cases h
  | b :: c :: r, h =>
    have hb : b = 40 ∧ c = 42 := by
      unfold opens at h
      simp only [List.isPrefixOf, Bool.and_eq_true, beq_iff_eq] at h
      exact ⟨h.1.symm, h.2.1.symm⟩
    obtain ⟨rfl, rfl⟩ := hb
    rfl
theorem tok_blank (l : Bytes) (h : headIs blank l = true) : (tok l).err = 3 := by
  match l, h with
  | [], h => cases h
  | b :: r, h =>
    have hb : b = 32 ∨ b = 9 ∨ b = 10 := by
      have h' : blank (b.toNat : Int) = true := h
      unfold blank at h'
      simp only [Bool.or_eq_true, decide_eq_true_eq] at h'
      rcases h' with (h' | h') | h'
      · exact .inl ((u8_eq _ _).2 h')
      · exact .inr (.inl ((u8_eq _ _).2 h'))
      · exact .inr (.inr ((u8_eq _ _).2 h'))
    rcases hb with rfl | rfl | rfl <;> cases r <;> rfl
theorem gap_tok (l : Bytes) (h : (tok l).err = 0) : gap l = (0, false) := by
  refine gap_none l ?_ ?_
  · rw [Bool.eq_false_iff]; intro hx; rw [tok_opens l hx] at h; exact absurd h (by decide)
  · rw [Bool.eq_false_iff]; intro hx; rw [tok_blank l hx] at h; exact absurd h (by decide)
theorem gap_space (l : Bytes) (h : (tok l).err = 0) : gap (32 :: l) = (1, false) := by
  rw [gap_blank (32 :: l) rfl rfl]
  show (1 + (gap l).1, (gap l).2) = _
  rw [gap_tok l h]; rfl
end Pl
/-- the tokens of a list, each behind a blank -/
def sp (r : List Pl.Tok) : Pl.Bytes := r.flatMap fun t => 32 :: wrT t
theorem sp_sep (r : List Pl.Tok) : Pl.Sep (sp r) := by
  cases r with
  | nil => exact .inl rfl
  | cons t r => exact .inr ⟨wrT t ++ sp r, by unfold sp; rw [List.flatMap_cons]; rfl⟩
theorem jn_sp (t : Pl.Tok) (r : List Pl.Tok) : jn (t :: r) = wrT t ++ sp r := by
  have : ∀ (r : List Pl.Tok) (x : Pl.Bytes), r.foldl jnStep (some x) = some (x ++ sp r) := by
    intro r
    induction r with
    | nil => intro x; show some x = some (x ++ []); rw [List.append_nil]
    | cons t r ih =>
      intro x
      rw [List.foldl_cons]
      show r.foldl jnStep (some (x ++ 32 :: wrT t)) = _
      rw [ih]
      unfold sp
      rw [List.flatMap_cons, List.append_assoc]
  unfold jn
  rw [List.foldl_cons]
  show (r.foldl jnStep (some (wrT t))).getD [] = _
  rw [this]; rfl
theorem wr_pos (t : Pl.Tok) (h : refB t = true) : 1 ≤ (wrT t).length := by
  unfold wrT
  by_cases h5 : t.kind = 5
  · rw [if_pos h5, Pl.lit_len]; omega
  · rw [if_neg h5]
    exact List.length_pos_iff.2 (okT_head t h5 h).1
/-- one token is taken, behind a gap -/
theorem toks_step (f : Nat) (l q : Pl.Bytes) (i g : Nat) (acc : List Pl.Tok) (t : Pl.Tok) (h : refB t = true) (hq : Pl.Sep q) (hg : Pl.gap (l.drop i) = (g, false)) (hd : l.drop (i + g) = wrT t ++ q) (ha : acc.length < 20000) :
    (∃ li co, Pl.toksF (f + 1) l i acc = Pl.toksF f l (i + g + (wrT t).length) (acc ++ [⟨t.kind, t.text, li, co⟩])) ∧ l.drop (i + g + (wrT t).length) = q ∧ i + g + (wrT t).length ≤ l.length := by
  have hw := wr_pos t h
  have ht := tok_wr t q hq h
  have hl : (wrT t).length + q.length = l.length - (i + g) := by
    rw [← List.length_append, ← hd, List.length_drop]
  refine ⟨⟨Pl.lineAt l (i + g), Pl.colAt l (i + g), ?_⟩, ?_, by omega⟩
  · rw [Pl.toksF, hg]
    simp only [Bool.false_eq_true, if_false]
    rw [if_neg (by omega), if_neg (by omega), hd, ht, if_pos (by rfl)]
    rfl
  · rw [← List.drop_drop, hd]; simp
theorem toks_sp : ∀ (r : List Pl.Tok) (f : Nat) (l : Pl.Bytes) (i : Nat) (acc : List Pl.Tok), (∀ t ∈ r, refB t = true) → l.drop i = sp r → i ≤ l.length → l.length + 1 ≤ i + f → acc.length + r.length ≤ 20000 →
    ∃ (ls : List Pl.Tok) (e : Pl.Tok), Pl.toksF f l i acc = ⟨acc ++ (ls ++ [e]), 0, 0, 0⟩ ∧ e.kind = 8 ∧ e.text = [] ∧ ls.map (fun t => (t.kind, t.text)) = r.map (fun t => (t.kind, t.text)) := by
  intro r
  induction r with
  | nil =>
    intro f l i acc _ hd hi hf _
    have hd' : l.drop i = [] := hd
    have hil : i = l.length := by
      have := congrArg List.length hd'
      rw [List.length_drop, List.length_nil] at this
      omega
    obtain ⟨f, rfl⟩ : ∃ g, f = g + 1 := ⟨f - 1, by omega⟩
    refine ⟨[], ⟨8, [], Pl.lineAt l i, Pl.colAt l i⟩, ?_, rfl, rfl, rfl⟩
    rw [Pl.toksF, hd', Pl.gap_nil]
    simp only [Nat.add_zero, Bool.false_eq_true, if_false]
    rw [if_pos hil]; rfl
  | cons t r ih =>
    intro f l i acc hr hd hi hf hn
    have ht := hr t List.mem_cons_self
    have hd' : l.drop i = 32 :: (wrT t ++ sp r) := by rw [hd]; unfold sp; rw [List.flatMap_cons]; rfl
    have herr : (Pl.tok (wrT t ++ sp r)).err = 0 := by rw [tok_wr t _ (sp_sep r) ht]; rfl
    have hg : Pl.gap (l.drop i) = (1, false) := by rw [hd']; exact Pl.gap_space _ herr
    have hd1 : l.drop (i + 1) = wrT t ++ sp r := by rw [← List.drop_drop, hd']; rfl
    obtain ⟨f, rfl⟩ : ∃ g, f = g + 1 := ⟨f - 1, by omega⟩
    rw [List.length_cons] at hn
    have hw := wr_pos t ht
    obtain ⟨⟨li, co, h1⟩, h2, h3⟩ := toks_step f l (sp r) i 1 acc t ht (sp_sep r) hg hd1 (by omega)
    obtain ⟨ls, e, h4, h5, h6, h7⟩ := ih f l (i + 1 + (wrT t).length) (acc ++ [⟨t.kind, t.text, li, co⟩]) (fun u hu => hr u (List.mem_cons_of_mem _ hu)) h2 h3 (by omega) (by rw [List.length_append]; simp; omega)
    refine ⟨⟨t.kind, t.text, li, co⟩ :: ls, e, ?_, h5, h6, ?_⟩
    · rw [h1, h4]; simp
    · rw [List.map_cons, List.map_cons, h7]
/-- joined tokens are found again -/
theorem tokens_jn (us : List Pl.Tok) (h : us.all refB = true) (hn : us.length ≤ 20000) (hl : (jn us).length ≤ 16384) :
    ∃ (ls : List Pl.Tok) (e : Pl.Tok), Pl.tokens (jn us) = ⟨ls ++ [e], 0, 0, 0⟩ ∧ e.kind = 8 ∧ e.text = [] ∧ ls.map (fun t => (t.kind, t.text)) = us.map (fun t => (t.kind, t.text)) := by
  have hall : ∀ t ∈ us, refB t = true := List.all_eq_true.1 h
  unfold Pl.tokens
  rw [if_neg (by omega)]
  cases us with
  | nil =>
    obtain ⟨ls, e, h1, h2⟩ := toks_sp [] ((jn []).length + 1) (jn []) 0 [] hall rfl (Nat.zero_le _) (by omega) (by simp)
    exact ⟨ls, e, by rw [h1]; rfl, h2⟩
  | cons t r =>
    have ht := hall t List.mem_cons_self
    have hj := jn_sp t r
    have herr : (Pl.tok (wrT t ++ sp r)).err = 0 := by rw [tok_wr t _ (sp_sep r) ht]; rfl
    have hg : Pl.gap ((jn (t :: r)).drop 0) = (0, false) := by rw [List.drop_zero, hj]; exact Pl.gap_tok _ herr
    have hw := wr_pos t ht
    obtain ⟨⟨li, co, h1⟩, h2, h3⟩ := toks_step (jn (t :: r)).length (jn (t :: r)) (sp r) 0 0 [] t ht (sp_sep r) hg (by rw [List.drop_zero, hj]) (by simp)
    rw [List.length_cons] at hn
    obtain ⟨ls, e, h4, h5, h6, h7⟩ := toks_sp r (jn (t :: r)).length (jn (t :: r)) (0 + 0 + (wrT t).length) [⟨t.kind, t.text, li, co⟩] (fun u hu => hall u (List.mem_cons_of_mem _ hu)) h2 h3 (by omega) (by simp; omega)
    refine ⟨⟨t.kind, t.text, li, co⟩ :: ls, e, ?_, h5, h6, ?_⟩
    · rw [h1]; exact h4
    · rw [List.map_cons, List.map_cons, h7]
end Go.Proofs.Ytbmkbenlhkcklaa
