/-
  Walks and plain mathematics, several texts in one (Ha Hb Fn Ga Gb Gc Gd Hc).
-/
import Derived.Test.YtjedahcpkcgpeaaGreatDoorH33
import Derived.Test.YtjedahcpkcgpeaaGreatDoorH28
import Derived.Test.YtjedahcpkcgpeaaGreatDoorH8
import Derived.Test.YtjedahcpkcgpeaaGreatDoorH27
import Derived.Test.YtjedahcpkcgpeaaGreatDoorH30
import Derived.Test.YtjedahcpkcgpeaaGreatDoorH32
/-
  Plain mathematics of layer 4: the tokens of a source are right, stand at rising places, and are as long as they are written. No program.
-/
namespace Go.Proofs.YtjedahcpkcgpeaaGreatDoor
open Go Go.RowKit
set_option linter.unusedSimpArgs false
namespace Pl
theorem run_whole (p : UInt8 → Bool) : ∀ m : Bytes, (∀ b ∈ m, p b = true) → run p m = m.length := by
  intro m
  induction m with
  | nil => intro _; rfl
  | cons b r ih =>
    intro h
    rw [run_cons, if_pos (h b List.mem_cons_self), ih (fun c hc => h c (List.mem_cons_of_mem _ hc)), List.length_cons]
theorem run_take_self (p : UInt8 → Bool) (l : Bytes) : run p (l.take (run p l)) = run p l := by
  rw [run_whole p _ (run_all p l), List.length_take, Nat.min_eq_left (run_le p l)]
theorem headIs_take (q : Int → Bool) (l : Bytes) (n : Nat) (h : 1 ≤ n) : headIs q (l.take n) = headIs q l := by
  cases l with
  | nil => simp
  | cons b r =>
    obtain ⟨k, rfl⟩ : ∃ k, n = k + 1 := ⟨n - 1, by omega⟩
    rfl
theorem tok_take (l : Bytes) (hl : l ≠ []) (h : (tok l).err = 0) (h5 : (tok l).kind ≠ 5) : tok (l.take (tok l).len) = tok l ∧ (tok l).text = l.take (tok l).len ∧ headIs (fun c => decide (c = 34)) l = false := by
  have h1 := ((fine_tok l hl).1 h).1
  have hh := fun q => headIs_take q l _ h1
  generalize hn : (tok l).len = n at *
  by_cases c1 : (headIs small l || headIs capital l) = true
  · have e : tok l = nameTok l := by unfold tok; rw [if_pos c1]
    have e2 : tok (l.take n) = nameTok (l.take n) := by unfold tok; rw [hh, hh, if_pos c1]
    rw [e] at h hn ⊢
    rw [e2]
    unfold nameTok at h hn ⊢
    by_cases c2 : 24 < run innerB l
    · rw [if_pos c2] at h; exact absurd h (show ¬ (5 : Int) = 0 by decide)
    · rw [if_neg c2] at h hn
      obtain rfl : run innerB l = n := hn
      rw [run_take_self, if_neg c2, if_neg c2, List.take_take, Nat.min_self, hh]
      refine ⟨rfl, rfl, ?_⟩
      cases l with
      | nil => rfl
      | cons b r =>
        have hb : (small (b.toNat : Int) || capital (b.toNat : Int)) = true := c1
        show decide ((b.toNat : Int) = 34) = false
        rw [decide_eq_false_iff_not]
        intro h34
        rw [h34] at hb
        exact absurd hb (by decide)
  · rw [Bool.not_eq_true] at c1
    have c1' := c1
    have t1 : ∀ m : Bytes, (headIs small m || headIs capital m) = false → tok m = if headIs (fun c => decide (c = 39)) m then varTok m else if headIs digit m then numTok m else if headIs (fun c => decide (c = 34)) m then txt (m.drop 1) false [] 1 else symTok m := by
      intro m hm
      unfold tok
      rw [hm]
      rfl
    have e := t1 l c1
    have e2 := t1 (l.take n) (by rw [hh, hh]; exact c1)
    rw [hh, hh, hh] at e2
    by_cases c2 : headIs (fun c => decide (c = 39)) l = true
    · rw [if_pos c2] at e e2
      rw [e] at h hn ⊢
      rw [e2]
      obtain ⟨b, z, rfl⟩ : ∃ b z, l = b :: z := by
        cases l with
        | nil => exact absurd rfl hl
        | cons b z => exact ⟨b, z, rfl⟩
      have h34 : headIs (fun c => decide (c = 34)) (b :: z) = false := by
        have hb : decide ((b.toNat : Int) = 39) = true := c2
        have hb := of_decide_eq_true hb
        show decide ((b.toNat : Int) = 34) = false
        rw [decide_eq_false_iff_not]
        omega
      refine ⟨?_, ?_, h34⟩
      · unfold varTok at h hn ⊢
        have d1 : (b :: z).drop 1 = z := rfl
        rw [d1] at h hn ⊢
        by_cases c3 : headIs small z = true
        · rw [if_pos c3] at h hn
          by_cases c4 : 24 < run innerB z + 1
          · rw [if_pos c4] at h; exact absurd h (show ¬ (5 : Int) = 0 by decide)
          · rw [if_neg c4] at hn
            obtain rfl : run innerB z + 1 = n := hn
            have hz : 1 ≤ run innerB z := run_headIs innerB small z (fun b hb => by show inner (b.toNat : Int) = true; unfold inner; simp [hb]) c3
            have d2 : ((b :: z).take (run innerB z + 1)).drop 1 = z.take (run innerB z) := rfl
            have d3 : (b :: z).take (run innerB z + 1) = b :: z.take (run innerB z) := rfl
            rw [d2, headIs_take _ _ _ hz, if_pos c3, run_take_self, if_neg c4, if_pos c3, if_neg c4, List.take_take, Nat.min_self]
        · rw [if_neg c3] at h; exact absurd h (show ¬ (3 : Int) = 0 by decide)
      · unfold varTok at h hn ⊢
        have d1 : (b :: z).drop 1 = z := rfl
        rw [d1] at h hn ⊢
        by_cases c3 : headIs small z = true
        · rw [if_pos c3] at h hn ⊢
          by_cases c4 : 24 < run innerB z + 1
          · rw [if_pos c4] at h; exact absurd h (show ¬ (5 : Int) = 0 by decide)
          · rw [if_neg c4] at hn ⊢
            obtain rfl : run innerB z + 1 = n := hn
            rfl
        · rw [if_neg c3] at h; exact absurd h (show ¬ (3 : Int) = 0 by decide)
    · rw [if_neg c2] at e e2
      by_cases c3 : headIs digit l = true
      · rw [if_pos c3] at e e2
        rw [e] at h hn ⊢
        rw [e2]
        unfold numTok at h hn ⊢
        by_cases c4 : (number (l.take (run digitB l))).2 = 0
        · rw [if_pos c4] at h hn
          obtain rfl : run digitB l = n := hn
          rw [run_take_self, List.take_take, Nat.min_self, if_pos c4]
          refine ⟨rfl, rfl, ?_⟩
          cases l with
          | nil => rfl
          | cons b r =>
            have hb : digit (b.toNat : Int) = true := c3
            show decide ((b.toNat : Int) = 34) = false
            rw [decide_eq_false_iff_not]
            intro h34
            rw [h34] at hb
            exact absurd hb (by decide)
        · rw [if_neg c4] at h
          have hne : (number (l.take (run digitB l))).2 ≠ 0 := c4
          exact absurd h hne
      · rw [if_neg c3] at e e2
        by_cases c4 : headIs (fun c => decide (c = 34)) l = true
        · rw [if_pos c4] at e
          rw [e] at h h5
          obtain ⟨u, rest, -, ht, -⟩ := (txt_sound (l.drop 1)).1 [] 1 h
          rw [ht] at h5
          exact absurd rfl h5
        · rw [if_neg c4] at e e2
          rw [e] at h hn ⊢
          rw [e2]
          unfold symTok at h hn
          by_cases c5 : symLen l = 0
          · rw [if_pos c5] at h; exact absurd h (show ¬ (3 : Int) = 0 by decide)
          · rw [if_neg c5] at hn
            obtain rfl : symLen l = n := hn
            have hs : isSym (l.take (symLen l)) = true := by
              unfold symLen at c5 ⊢
              by_cases o : opens l = true
              · rw [if_pos o] at c5; exact absurd rfl c5
              · rw [if_neg o] at c5 ⊢
                by_cases s2 : sym2.contains (l.take 2) = true
                · rw [if_pos s2]; unfold isSym; rw [s2]; rfl
                · rw [if_neg s2] at c5 ⊢
                  by_cases s1 : sym1.contains (l.take 1) = true
                  · rw [if_pos s1]; unfold isSym; rw [s1, Bool.or_true]
                  · rw [if_neg s1] at c5; exact absurd rfl c5
            have hk := (sym_head _ hs).2.2.2.2.2.2
            have hlen : (l.take (symLen l)).length = symLen l := by rw [List.length_take, Nat.min_eq_left (symLen_len l)]
            rw [hlen] at hk
            unfold symTok
            rw [hk, if_neg c5, if_neg c5, List.take_take, Nat.min_self]
            exact ⟨rfl, rfl, by simpa using c4⟩
theorem name_kind (l : Bytes) : (nameTok l).kind ≠ 5 := by
  unfold nameTok
  split
  · exact show ¬ (0 : Int) = 5 by decide
  · show (if isKey _ then (6 : Int) else if headIs capital l then 2 else 1) ≠ 5
    split
    · decide
    · split <;> decide
theorem var_kind (l : Bytes) : (varTok l).kind ≠ 5 := by
  unfold varTok
  split
  · split
    · exact show ¬ (0 : Int) = 5 by decide
    · exact show ¬ (3 : Int) = 5 by decide
  · exact show ¬ (0 : Int) = 5 by decide
theorem num_kind (l : Bytes) : (numTok l).kind ≠ 5 := by
  unfold numTok
  split
  · exact show ¬ (4 : Int) = 5 by decide
  · exact show ¬ (0 : Int) = 5 by decide
theorem sym_kind (l : Bytes) : (symTok l).kind ≠ 5 := by
  unfold symTok
  split
  · exact show ¬ (0 : Int) = 5 by decide
  · exact show ¬ (7 : Int) = 5 by decide
theorem tok_right2 (l : Bytes) (hl : l ≠ []) (hn : l.length ≤ 16384) (h : (tok l).err = 0) (li co : Int) : refB ⟨(tok l).kind, (tok l).text, li, co⟩ = true ∧ l.take (tok l).len = wrT ⟨(tok l).kind, (tok l).text, li, co⟩ := by
  by_cases h5 : (tok l).kind = 5
  · have c4 : tok l = txt (l.drop 1) false [] 1 ∧ headIs (fun c => decide (c = 34)) l = true := by
      have hno : ∀ T : Tk, tok l = T → T.kind ≠ 5 → False := fun T e h => h (e ▸ h5)
      unfold tok
      split
      · next c => exact (hno (nameTok l) (by unfold tok; rw [if_pos c]) (name_kind l)).elim
      · next c =>
        split
        · next c2 => exact (hno (varTok l) (by unfold tok; rw [if_neg c, if_pos c2]) (var_kind l)).elim
        · next c2 =>
          split
          · next c3 => exact (hno (numTok l) (by unfold tok; rw [if_neg c, if_neg c2, if_pos c3]) (num_kind l)).elim
          · next c3 =>
            split
            · next c4 => exact ⟨rfl, c4⟩
            · next c4 => exact (hno (symTok l) (by unfold tok; rw [if_neg c, if_neg c2, if_neg c3, if_neg c4]) (sym_kind l)).elim
    have ht2 := (tok_right l).2.1
    rw [c4.1] at h ht2 ⊢
    obtain ⟨u, rest, hz, ht, hu⟩ := (txt_sound (l.drop 1)).1 [] 1 h
    rw [ht] at ht2 ⊢
    obtain ⟨b, z, rfl⟩ : ∃ b z, l = b :: z := by
      cases l with
      | nil => exact absurd rfl hl
      | cons b z => exact ⟨b, z, rfl⟩
    have hb : b = 34 := by
      have hb : decide ((b.toNat : Int) = 34) = true := c4.2
      have hb := of_decide_eq_true hb
      apply UInt8.toNat_inj.1
      show b.toNat = 34
      omega
    have hz' : z = body u ++ 34 :: rest := hz
    subst hb hz'
    refine ⟨?_, ?_⟩
    · unfold refB
      rw [if_pos (show (good 5 ([] ++ u) (1 + (body u).length + 1)).kind = 5 from rfl)]
      show (decide (([] ++ u : Bytes).length ≤ 16384) && isText ([] ++ u)) = true
      have : ([] ++ u : Bytes).length ≤ 16384 := Nat.le_trans ht2 hn
      rw [decide_eq_true this, List.nil_append, hu]
      rfl
    · show (34 :: (body u ++ 34 :: rest) : Bytes).take (1 + (body u).length + 1) = wrT ⟨5, [] ++ u, li, co⟩
      unfold wrT
      rw [if_pos rfl]
      unfold lit
      rw [List.nil_append, show 1 + (body u).length + 1 = ((body u).length + 1) + 1 by omega, List.take_succ_cons, List.take_append, List.take_of_length_le (Nat.le_succ _), Nat.add_sub_cancel_left]
      rfl
  · obtain ⟨h1, h2, h3⟩ := tok_take l hl h h5
    obtain ⟨f1, f2, -⟩ := (fine_tok l hl).1 h
    have hlen : (l.take (tok l).len).length = (tok l).len := by rw [List.length_take, Nat.min_eq_left f2]
    refine ⟨?_, ?_⟩
    · have he : (tok l).text.isEmpty = false := by
        rw [h2]
        cases hc : l.take (tok l).len with
        | nil => rw [hc] at hlen; simp at hlen; omega
        | cons b r => rfl
      unfold refB
      rw [if_neg h5]
      show (if ((tok l).text.isEmpty || decide ((tok l).kind = 8) || headIs (fun c => decide (c = 34)) (tok l).text) = true then false else okT (tok l).kind (tok l).text) = true
      rw [he, decide_eq_false (tok_right l).1, h2, headIs_take _ _ _ f1, h3]
      show okT (tok l).kind (l.take (tok l).len) = true
      unfold okT
      rw [h1, h, hlen]
      simp
    · unfold wrT
      rw [if_neg h5, ← h2]
end Pl
end Go.Proofs.YtjedahcpkcgpeaaGreatDoor

/-
  Plain mathematics of layer 4: the tokens of a source in a row, their places, joined, and with more behind them. No program.
-/
namespace Go.Proofs.YtjedahcpkcgpeaaGreatDoor
open Go Go.RowKit
set_option linter.unusedSimpArgs false
namespace Pl
theorem place_step (l : Bytes) (p : Nat) (h : p < l.length) : lineAt l p < lineAt l (p + 1) ∨ (lineAt l p = lineAt l (p + 1) ∧ colAt l p < colAt l (p + 1)) := by
  unfold lineAt colAt
  rw [List.take_succ_eq_append_getElem h, place_snoc]
  unfold plStep
  split
  · exact .inl (show _ < _ + 1 by omega)
  · exact .inr ⟨rfl, show _ < _ + 1 by omega⟩
theorem place_lt (l : Bytes) (p : Nat) : ∀ d, p + d + 1 ≤ l.length → lineAt l p < lineAt l (p + d + 1) ∨ (lineAt l p = lineAt l (p + d + 1) ∧ colAt l p < colAt l (p + d + 1)) := by
  intro d
  induction d with
  | zero => intro h; exact place_step l p h
  | succ d ih =>
    intro h
    have h1 := ih (by omega)
    have h2 := place_step l (p + d + 1) (by omega)
    rw [show p + (d + 1) + 1 = p + d + 1 + 1 by omega]
    omega
theorem place_ne (l : Bytes) (p q : Nat) (h : p < q) (hq : q ≤ l.length) : ¬ (lineAt l p = lineAt l q ∧ colAt l p = colAt l q) := by
  have := place_lt l p (q - p - 1) (by omega)
  rw [show p + (q - p - 1) + 1 = q by omega] at this
  omega
def Row (l : Bytes) : Nat → List Tok → Prop
  | i, [] => i ≤ l.length
  | i, t :: X => ∃ p, i ≤ p ∧ t.line = lineAt l p ∧ t.col = colAt l p ∧ refB t = true ∧ 10 ∉ wrT t ∧ 1 ≤ (wrT t).length ∧ Row l (p + (wrT t).length) X
def tot (X : List Tok) : Nat := (X.map fun t => (wrT t).length).sum
theorem row_tot (l : Bytes) : ∀ (X : List Tok) (i : Nat), Row l i X → i + tot X ≤ l.length := by
  intro X
  induction X with
  | nil => intro i h; exact h
  | cons t X ih =>
    intro i ⟨p, h1, _, _, _, _, _, h2⟩
    have := ih _ h2
    have e : tot (t :: X) = (wrT t).length + tot X := by simp [tot]
    omega
theorem row_all (l : Bytes) : ∀ (X : List Tok) (i : Nat), Row l i X → ∀ t ∈ X, refB t = true ∧ 10 ∉ wrT t ∧ 1 ≤ (wrT t).length := by
  intro X
  induction X with
  | nil => intro i _ t h; cases h
  | cons u X ih =>
    intro i ⟨p, _, _, _, h1, h2, h3, h4⟩ t ht
    rcases List.mem_cons.1 ht with rfl | ht
    · exact ⟨h1, h2, h3⟩
    · exact ih _ h4 t ht
theorem row_take (l : Bytes) : ∀ (X : List Tok) (i n : Nat), Row l i X → Row l i (X.take n) := by
  intro X
  induction X with
  | nil => intro i n h; rw [List.take_nil]; exact h
  | cons t X ih =>
    intro i n h
    cases n with
    | zero =>
      have := row_tot l _ _ h
      show i ≤ l.length
      omega
    | succ n =>
      obtain ⟨p, h1, h2, h3, h4, h5, h6, h7⟩ := h
      exact ⟨p, h1, h2, h3, h4, h5, h6, ih _ n h7⟩
theorem row_new (l : Bytes) : ∀ (X : List Tok) (i q : Nat), Row l i X → q < i → ∀ t ∈ X ++ [⟨8, [], lineAt l l.length, colAt l l.length⟩], ¬ (lineAt l q = t.line ∧ colAt l q = t.col) := by
  intro X
  induction X with
  | nil =>
    intro i q h hq t ht
    simp only [List.nil_append, List.mem_singleton] at ht
    subst ht
    have h : i ≤ l.length := h
    exact place_ne l q l.length (by omega) (Nat.le_refl _)
  | cons u X ih =>
    intro i q h hq t ht
    obtain ⟨p, h1, h2, h3, h4, h5, h6, h7⟩ := h
    have hb := row_tot l _ _ h7
    rcases List.mem_cons.1 ht with rfl | ht
    · rw [h2, h3]
      exact place_ne l q p (by omega) (by omega)
    · exact ih _ q h7 (by omega) t ht
theorem row_apart (l : Bytes) : ∀ (X : List Tok) (i a b : Nat), Row l i X → a < b → b < X.length + 1 → ¬ (((X ++ [(⟨8, [], lineAt l l.length, colAt l l.length⟩ : Tok)]).getD a ⟨8, [], 0, 0⟩).line = ((X ++ [(⟨8, [], lineAt l l.length, colAt l l.length⟩ : Tok)]).getD b ⟨8, [], 0, 0⟩).line ∧ ((X ++ [(⟨8, [], lineAt l l.length, colAt l l.length⟩ : Tok)]).getD a ⟨8, [], 0, 0⟩).col = ((X ++ [(⟨8, [], lineAt l l.length, colAt l l.length⟩ : Tok)]).getD b ⟨8, [], 0, 0⟩).col) := by
  intro X
  induction X with
  | nil => intro i a b _ h1 h2; simp at h2; omega
  | cons u X ih =>
    intro i a b h hab hb
    obtain ⟨p, h1, h2, h3, h4, h5, h6, h7⟩ := h
    rw [List.length_cons] at hb
    obtain ⟨b, rfl⟩ : ∃ k, b = k + 1 := ⟨b - 1, by omega⟩
    rw [List.cons_append, List.getD_cons_succ]
    cases a with
    | zero =>
      rw [List.getD_cons_zero, h2, h3]
      have hl : b < (X ++ [(⟨8, [], lineAt l l.length, colAt l l.length⟩ : Tok)]).length := by simp; omega
      have hm : (X ++ [(⟨8, [], lineAt l l.length, colAt l l.length⟩ : Tok)]).getD b ⟨8, [], 0, 0⟩ ∈ X ++ [(⟨8, [], lineAt l l.length, colAt l l.length⟩ : Tok)] := by
        rw [List.getD_eq_getElem?_getD, List.getElem?_eq_getElem hl]
        exact List.getElem_mem hl
      exact row_new l X _ p h7 (by omega) _ hm
    | succ a =>
      rw [List.getD_cons_succ]
      exact ih _ a b h7 (by omega) (by omega)
theorem toks_row : ∀ (f : Nat) (l : Bytes) (i : Nat) (acc : List Tok) (O : Out), l.length ≤ 16384 → Ok f l i acc O → O.err = 0 → ∃ X, O.toks = acc ++ X ++ [⟨8, [], lineAt l l.length, colAt l l.length⟩] ∧ Row l i X := by
  intro f
  induction f with
  | zero => intro l i acc O _ h _; obtain ⟨h1, h2, _⟩ := h; omega
  | succ f ih =>
    intro l i acc O hl hok hO
    have hgl := gap_le _ (l.drop i) (Nat.le_refl _)
    rw [List.length_drop] at hgl
    have hi := hok.2.1
    cases hg : (gap (l.drop i)).2
    · by_cases he : i + (gap (l.drop i)).1 = l.length
      · rw [ok_end _ _ _ _ _ hok hg he, he]
        exact ⟨[], by simp, hi⟩
      · have hne : l.drop (i + (gap (l.drop i)).1) ≠ [] := by
          intro h
          have := congrArg List.length h
          rw [List.length_drop, List.length_nil] at this
          omega
        by_cases ht : (tok (l.drop (i + (gap (l.drop i)).1))).err = 0
        · obtain ⟨h1, h2, h3⟩ := (fine_tok _ hne).1 ht
          rw [List.length_drop] at h2
          have hok2 := ok_next _ _ _ _ _ hok (by omega) hg he ht h1 (by omega)
          obtain ⟨X, hX, hr⟩ := ih l _ _ O hl hok2 hO
          obtain ⟨k1, k2⟩ := tok_right2 _ hne (by rw [List.length_drop]; omega) ht (lineAt l (i + (gap (l.drop i)).1)) (colAt l (i + (gap (l.drop i)).1))
          have hlen : (wrT ⟨(tok (l.drop (i + (gap (l.drop i)).1))).kind, (tok (l.drop (i + (gap (l.drop i)).1))).text, lineAt l (i + (gap (l.drop i)).1), colAt l (i + (gap (l.drop i)).1)⟩).length = (tok (l.drop (i + (gap (l.drop i)).1))).len := by
            rw [← k2, List.length_take, List.length_drop, Nat.min_eq_left h2]
          refine ⟨_ :: X, by rw [hX]; simp, i + (gap (l.drop i)).1, by omega, rfl, rfl, k1, by rw [← k2]; exact h3, by rw [hlen]; exact h1, ?_⟩
          rw [hlen]
          exact hr
        · rw [ok_bad _ _ _ _ _ hok (by omega) hg he ht] at hO
          exact absurd hO ht
    · rw [ok_open _ _ _ _ _ hok hg] at hO
      exact absurd hO (show ¬ (4 : Int) = 0 by decide)
theorem tokens_ok (l : Bytes) (hl : l.length ≤ 16384) : Ok (l.length + 1) l 0 [] (tokens l) := ⟨by omega, Nat.zero_le _, Nat.zero_le _, by unfold tokens; rw [if_neg (by omega)]⟩
theorem tokens_row (l : Bytes) (hl : l.length ≤ 16384) (h : (tokens l).err = 0) : ∃ X, (tokens l).toks = X ++ [⟨8, [], lineAt l l.length, colAt l l.length⟩] ∧ Row l 0 X := by
  obtain ⟨X, h1, h2⟩ := toks_row _ l 0 [] (tokens l) hl (tokens_ok l hl) h
  exact ⟨X, by simpa using h1, h2⟩
theorem toks_more (q : Bytes) (hq : Brk q) : ∀ (f : Nat) (l : Bytes) (i : Nat) (acc : List Tok) (O : Out) (g : Nat) (O2 : Out), (l ++ q).length ≤ 16384 → Ok f l i acc O → Ok g (l ++ q) i acc O2 → O.err = 0 → O2.err = 0 → ∃ X Y e, O.toks = acc ++ X ++ [e] ∧ O2.toks = acc ++ X ++ Y := by
  intro f
  induction f with
  | zero => intro l i acc O g O2 _ h _ _ _; obtain ⟨h1, h2, _⟩ := h; omega
  | succ f ih =>
    intro l i acc O g O2 hl hok hok2 hO hO2
    have hll : (l ++ q).length = l.length + q.length := List.length_append
    have hgl := gap_le _ (l.drop i) (Nat.le_refl _)
    rw [List.length_drop] at hgl
    have hi := hok.2.1
    cases hg : (gap (l.drop i)).2
    · by_cases he : i + (gap (l.drop i)).1 = l.length
      · obtain ⟨Y, hY, -⟩ := toks_row g (l ++ q) i acc O2 hl hok2 hO2
        rw [ok_end _ _ _ _ _ hok hg he, hY]
        refine ⟨[], Y ++ [⟨8, [], lineAt (l ++ q) (l ++ q).length, colAt (l ++ q) (l ++ q).length⟩], ⟨8, [], lineAt l (i + (gap (l.drop i)).1), colAt l (i + (gap (l.drop i)).1)⟩, ?_, ?_⟩
        · simp
        · simp
      · have hne : l.drop (i + (gap (l.drop i)).1) ≠ [] := by
          intro h
          have := congrArg List.length h
          rw [List.length_drop, List.length_nil] at this
          omega
        by_cases ht : (tok (l.drop (i + (gap (l.drop i)).1))).err = 0
        · obtain ⟨h1, h2, h3⟩ := (fine_tok _ hne).1 ht
          rw [List.length_drop] at h2
          have hd : (l ++ q).drop i = l.drop i ++ q := List.drop_append_of_le_length hi
          have hd2 : (l ++ q).drop (i + (gap (l.drop i)).1) = l.drop (i + (gap (l.drop i)).1) ++ q := List.drop_append_of_le_length (by omega)
          have hgq : gap ((l ++ q).drop i) = gap (l.drop i) := by
            rw [hd]
            exact (gap_brk q hq _ _ (Nat.le_refl _) hg).1 (by rw [List.drop_drop]; exact hne)
          have htq : tok ((l ++ q).drop (i + (gap ((l ++ q).drop i)).1)) = tok (l.drop (i + (gap (l.drop i)).1)) := by
            rw [hgq, hd2]
            exact tok_brk _ q hq hne ht
          have hok3 := ok_next _ _ _ _ _ hok (by omega) hg he ht h1 (by omega)
          have hok4 := ok_next _ _ _ _ _ hok2 (by omega) (by rw [hgq]; exact hg) (by rw [hgq]; omega) (by rw [htq]; exact ht) (by rw [htq]; exact h1) (by rw [htq, hgq]; omega)
          have hp : (l ++ q).take (i + (gap (l.drop i)).1) = l.take (i + (gap (l.drop i)).1) := List.take_append_of_le_length (by omega)
          rw [htq, hgq] at hok4
          unfold lineAt colAt at hok3 hok4
          rw [hp] at hok4
          obtain ⟨X, Y, e, k1, k2⟩ := ih l _ _ O _ O2 hl hok3 hok4 hO hO2
          exact ⟨[_] ++ X, Y, e, by rw [k1, List.append_assoc acc], by rw [k2, List.append_assoc acc]⟩
        · rw [ok_bad _ _ _ _ _ hok (by omega) hg he ht] at hO
          exact absurd hO ht
    · rw [ok_open _ _ _ _ _ hok hg] at hO
      exact absurd hO (show ¬ (4 : Int) = 0 by decide)
theorem tokens_more (l q : Bytes) (hq : Brk q) (hl : (l ++ q).length ≤ 16384) (h : (tokens l).err = 0) (h2 : (tokens (l ++ q)).err = 0) : ∃ X Y e, (tokens l).toks = X ++ [e] ∧ (tokens (l ++ q)).toks = X ++ Y := by
  have hll : (l ++ q).length = l.length + q.length := List.length_append
  obtain ⟨X, Y, e, k1, k2⟩ := toks_more q hq _ l 0 [] (tokens l) _ (tokens (l ++ q)) hl (tokens_ok l (by omega)) (tokens_ok (l ++ q) hl) h h2
  exact ⟨X, Y, e, by simpa using k1, by simpa using k2⟩
theorem sp_len (r : List Tok) (h : ∀ t ∈ r, 1 ≤ (wrT t).length) : (sp r).length ≤ 2 * tot r := by
  induction r with
  | nil => exact Nat.le_refl _
  | cons t r ih =>
    have e : sp (t :: r) = 32 :: (wrT t ++ sp r) := rfl
    have e2 : tot (t :: r) = (wrT t).length + tot r := by simp [tot]
    have := ih (fun u hu => h u (List.mem_cons_of_mem _ hu))
    have := h t List.mem_cons_self
    rw [e, List.length_cons, List.length_append]
    omega
theorem jn_len (X : List Tok) (h : ∀ t ∈ X, 1 ≤ (wrT t).length) : (jn X).length ≤ 2 * tot X := by
  cases X with
  | nil => exact Nat.le_refl _
  | cons t r =>
    have e2 : tot (t :: r) = (wrT t).length + tot r := by simp [tot]
    have := sp_len r (fun u hu => h u (List.mem_cons_of_mem _ hu))
    rw [jn_sp, List.length_append]
    omega
theorem sp_nl (r : List Tok) (h : ∀ t ∈ r, 10 ∉ wrT t) : 10 ∉ sp r := by
  induction r with
  | nil => intro h; cases h
  | cons t r ih =>
    have e : sp (t :: r) = 32 :: (wrT t ++ sp r) := rfl
    rw [e]
    intro hm
    rcases List.mem_cons.1 hm with hm | hm
    · exact absurd hm (by decide)
    rcases List.mem_append.1 hm with hm | hm
    · exact h t List.mem_cons_self hm
    · exact ih (fun u hu => h u (List.mem_cons_of_mem _ hu)) hm
theorem jn_nl (X : List Tok) (h : ∀ t ∈ X, 10 ∉ wrT t) : 10 ∉ jn X := by
  cases X with
  | nil => intro h; cases h
  | cons t r =>
    rw [jn_sp]
    intro hm
    rcases List.mem_append.1 hm with hm | hm
    · exact h t List.mem_cons_self hm
    · exact sp_nl r (fun u hu => h u (List.mem_cons_of_mem _ hu)) hm
theorem all_len (X : List Tok) (h : ∀ t ∈ X, 1 ≤ (wrT t).length) : X.length ≤ tot X := by
  induction X with
  | nil => exact Nat.le_refl _
  | cons t X ih =>
    have e2 : tot (t :: X) = (wrT t).length + tot X := by simp [tot]
    have h1 := ih (fun u hu => h u (List.mem_cons_of_mem _ hu))
    have h2 := h t List.mem_cons_self
    rw [List.length_cons]
    omega
theorem row_len (l : Bytes) (X : List Tok) (i : Nat) (h : Row l i X) : X.length ≤ tot X := all_len X (fun t m => (row_all l X i h t m).2.2)
theorem joined_toks (l : Bytes) (us : List Tok) (hl : l.length ≤ 2000) (h : Row l 0 us) : jv us = (jn us, 0) ∧ (jn us).length ≤ 4000 ∧ ∃ ls, tokens (jn us) = ⟨ls ++ [⟨8, [], lineAt (jn us) (jn us).length, ((jn us).length : Int) + 1⟩], 0, 0, 0⟩ ∧ ls.map kt = us.map kt := by
  have ha := row_all l us 0 h
  have ht := row_tot l us 0 h
  have hn := row_len l us 0 h
  have hj := jn_len us (fun t m => (ha t m).2.2)
  have hr : us.all refB = true := List.all_eq_true.2 (fun t m => (ha t m).1)
  refine ⟨?_, by omega, ?_⟩
  · unfold jv
    rw [if_neg (by omega), hr, if_pos rfl, if_neg (by omega)]
  · obtain ⟨ls, e, h1, h2, h3, h4⟩ := tokens_jn us hr (by omega) (by omega)
    obtain ⟨X, k1, k2⟩ := tokens_row (jn us) (by omega) (by rw [h1])
    rw [h1] at k1
    obtain ⟨e1, e2⟩ := List.append_inj' k1 rfl
    have hc : colAt (jn us) (jn us).length = ((jn us).length : Int) + 1 := by
      have hp := place_run [] (jn us) (jn_nl us (fun t m => (ha t m).2.1))
      unfold colAt
      rw [List.take_length]
      rw [List.nil_append] at hp
      rw [hp, place_nil]
      show (1 : Int) + _ = _
      omega
    rw [hc] at e2
    exact ⟨ls, by rw [h1, (List.cons.inj e2).1], h4⟩
end Pl
end Go.Proofs.YtjedahcpkcgpeaaGreatDoor

/-
  Plain mathematics of layer 4: what is read to the end of a list is read the same where the list stands ahead of a closing parenthesis. No program.
-/
namespace Go.Proofs.YtjedahcpkcgpeaaGreatDoor.Pl
open Go
set_option linter.unusedSimpArgs false
def Imp {α : Type} (l : List Tok) (d : Nat) (r r' : PR α) : Prop := ∀ v j, r = .ok v j → j ≤ l.length ∧ r' = .ok v (j + d)
section
variable {l : List Tok} {d : Nat} {α β : Type}
end
structure Stands (l l' : List Tok) (d : Nat) : Prop where
  kind : ∀ i, i < l.length → (tkAt l' (i + d)).kind = (tkAt l i).kind
  text : ∀ i, i < l.length → (tkAt l' (i + d)).text = (tkAt l i).text
  len : l.length + d ≤ l'.length
  stopK : (tkAt l' (l.length + d)).kind = 6 ∨ (tkAt l' (l.length + d)).kind = 7 ∨ (tkAt l' (l.length + d)).kind = 8
  stopF : fixedT (tkAt l' (l.length + d)) = [41] ∨ fixedT (tkAt l' (l.length + d)) = []
section
variable {l l' : List Tok} {d : Nat} (A : Stands l l' d)
include A
end
structure Imps (l : List Tok) (d : Nat) (F F' : Fs) : Prop where
  typ : ∀ i i', i ≤ l.length → i' = i + d → Imp l d (F.typ i) (F'.typ i')
  prod : ∀ i i', i ≤ l.length → i' = i + d → Imp l d (F.prod i) (F'.prod i')
  post : ∀ i i', i ≤ l.length → i' = i + d → Imp l d (F.post i) (F'.post i')
  simp : ∀ i i', i ≤ l.length → i' = i + d → Imp l d (F.simp i) (F'.simp i')
  brack : ∀ i i', i ≤ l.length → i' = i + d → Imp l d (F.brack i) (F'.brack i')
  pat : ∀ i i', i ≤ l.length → i' = i + d → Imp l d (F.pat i) (F'.pat i')
  arg : ∀ i i', i ≤ l.length → i' = i + d → Imp l d (F.arg i) (F'.arg i')
  comps : ∀ i i', i ≤ l.length → i' = i + d → Imp l d (F.comps i) (F'.comps i')
  expr : ∀ i i', i ≤ l.length → i' = i + d → Imp l d (F.expr i) (F'.expr i')
  neg : ∀ i i', i ≤ l.length → i' = i + d → Imp l d (F.neg i) (F'.neg i')
  app : ∀ i i', i ≤ l.length → i' = i + d → Imp l d (F.app i) (F'.app i')
  atom : ∀ i i', i ≤ l.length → i' = i + d → Imp l d (F.atom i) (F'.atom i')
  encl : ∀ i i', i ≤ l.length → i' = i + d → Imp l d (F.encl i) (F'.encl i')
  cont : ∀ i i', i ≤ l.length → i' = i + d → Imp l d (F.cont i) (F'.cont i')
  letE : ∀ i i', i ≤ l.length → i' = i + d → Imp l d (F.letE i) (F'.letE i')
  matchE : ∀ i i', i ≤ l.length → i' = i + d → Imp l d (F.matchE i) (F'.matchE i')
  rule : ∀ i i', i ≤ l.length → i' = i + d → Imp l d (F.rule i) (F'.rule i')
  decl : ∀ i i', i ≤ l.length → i' = i + d → Imp l d (F.decl i) (F'.decl i')
  named : ∀ i i', i ≤ l.length → i' = i + d → Imp l d (F.named i) (F'.named i')
  unpk : ∀ i i', i ≤ l.length → i' = i + d → Imp l d (F.unpk i) (F'.unpk i')
  oper : ∀ q i i', i ≤ l.length → i' = i + d → Imp l d (F.oper q i) (F'.oper q i')
structure ImpCtx (l l' : List Tok) (d : Nat) (F F' : Fs) : Prop where
  A : Stands l l' d
  H : Imps l d F F'
  hG : Goes F
  hE : Ends l F
section
variable {l l' : List Tok} {d : Nat} {num : Bytes → Int} {F F' : Fs} (K : ImpCtx l l' d F F')
include K
end
end Go.Proofs.YtjedahcpkcgpeaaGreatDoor.Pl

/-
  Plain mathematics of layer 4: the trees of five families of sources, by their tokens. No program.
-/
namespace Go.Proofs.YtjedahcpkcgpeaaGreatDoor.Pl
open Go
set_option linter.unusedSimpArgs false
section
variable {l : List Tok} {num : Bytes → Int}
theorem fixed_kind {t : Tok} (h : t.kind ≠ 6 ∧ t.kind ≠ 7) : fixedT t = [] := by unfold fixedT; rw [if_neg (by omega)]
theorem pass_kind {i : Nat} {b : Bytes} (h : (tkAt l i).kind ≠ 6 ∧ (tkAt l i).kind ≠ 7) (hb : b ≠ []) : passes l i b = false := by
  unfold passes
  rw [fixed_kind h]
  exact beq_eq_false_iff_ne.2 (Ne.symm hb)
end
end Go.Proofs.YtjedahcpkcgpeaaGreatDoor.Pl

/-
  Plain mathematics of layer 4: the tokens of a source with a closing parenthesis right behind it, and of five families of sources. No program.
-/
namespace Go.Proofs.YtjedahcpkcgpeaaGreatDoor
open Go Go.RowKit
namespace Pl
set_option linter.unusedSimpArgs false
end Pl
end Go.Proofs.YtjedahcpkcgpeaaGreatDoor

/-
  Plain mathematics of layer 4: an expression in parentheses, and two operators between three of them. No program.
-/
namespace Go.Proofs.YtjedahcpkcgpeaaGreatDoor.Pl
open Go
set_option linter.unusedSimpArgs false
section
variable {l l' : List Tok} {num : Bytes → Int}
end
section
variable {l : List Tok} {num : Bytes → Int}
end
end Go.Proofs.YtjedahcpkcgpeaaGreatDoor.Pl

/-
  Plain mathematics of layer 4: what a source's parsing answers, by its tokens; five families of sources. No program.
-/
namespace Go.Proofs.YtjedahcpkcgpeaaGreatDoor
open Go Go.RowKit
set_option linter.unusedSimpArgs false
theorem kt_at {K ts : List Pl.Tok} (h : ts.map Pl.kt = K.map Pl.kt) (i : Nat) : Pl.kt (Pl.tkAt ts i) = Pl.kt (Pl.tkAt K i) := by
  have e : ∀ l : List Pl.Tok, Pl.kt (Pl.tkAt l i) = ((l.map Pl.kt)[i]?).getD (8, []) := by
    intro l
    unfold Pl.tkAt
    rw [List.getD_eq_getElem?_getD, List.getElem?_map]
    cases l[i]? <;> rfl
  rw [e, e, h]
end Go.Proofs.YtjedahcpkcgpeaaGreatDoor

/-
  Plain mathematics of layer 4: the first wrong token decides. No program.
-/
namespace Go.Proofs.YtjedahcpkcgpeaaGreatDoor
open Go Go.RowKit
set_option linter.unusedSimpArgs false
namespace Pl
theorem locs_depth {l l' : List Tok} {d e : Nat} (A : Agree l l' d e) (num : Bytes → Int) : ∀ n, LocAll d e (depthFs l num n) (depthFs l' num n) := by
  intro n
  induction n with
  | zero =>
    constructor
    all_goals (intros; exact Loc.bad (Nat.le_refl _) rfl)
  | succ n ih => exact LocAll.deeper ⟨A, ih, lows_depth l num n, goes_depth l num n⟩
theorem deep_same (l : List Tok) (num : Bytes → Int) (N : Nat) (h : 16 * l.length + 16 ≤ N) : (depthFs l num N).typ 0 = (full l num).typ 0 ∧ (depthFs l num N).pat 0 = (full l num).pat 0 ∧ (depthFs l num N).expr 0 = (full l num).expr 0 := by
  have := depth_same l num (16 * l.length + 16) N (16 * l.length + 16) h (Nat.le_refl _)
  exact ⟨this.typ 0 (by omega), this.pat 0 (by omega), this.expr 0 (by omega)⟩
def Local (rd : List Tok → PR Syn) : Prop := ∀ l l' e, Agree l l' 0 e → Loc 0 e 0 (rd l) (rd l')
theorem local_typ (num : Bytes → Int) : Local (fun ts => (full ts num).typ 0) := fun l l' e A => by
  have h := (locs_depth A num (16 * l.length + 16 + (16 * l'.length + 16))).typ 0
  rw [(deep_same l num _ (by omega)).1, Nat.zero_add, (deep_same l' num _ (by omega)).1] at h
  exact h
theorem local_pat (num : Bytes → Int) : Local (fun ts => (full ts num).pat 0) := fun l l' e A => by
  have h := (locs_depth A num (16 * l.length + 16 + (16 * l'.length + 16))).pat 0
  rw [(deep_same l num _ (by omega)).2.1, Nat.zero_add, (deep_same l' num _ (by omega)).2.1] at h
  exact h
theorem local_expr (num : Bytes → Int) : Local (fun ts => (full ts num).expr 0) := fun l l' e A => by
  have h := (locs_depth A num (16 * l.length + 16 + (16 * l'.length + 16))).expr 0
  rw [(deep_same l num _ (by omega)).2.2, Nat.zero_add, (deep_same l' num _ (by omega)).2.2] at h
  exact h
theorem agree_of {l l' : List Tok} {e : Nat} (h : ∀ i, i < e → kt (tkAt l' i) = kt (tkAt l i)) (h1 : e ≤ l.length + 1) (h2 : e ≤ l'.length + 1) : Agree l l' 0 e :=
  ⟨fun i hi => congrArg Prod.fst (h i hi), fun i hi => congrArg Prod.snd (h i hi), h1, h2⟩
theorem tkAt_take (l : List Tok) (n i : Nat) (h : i < n) : tkAt (l.take n) i = tkAt l i := by
  unfold tkAt
  rw [List.getD_eq_getElem?_getD, List.getD_eq_getElem?_getD, List.getElem?_take, if_pos h]
theorem tkAt_left (l q : List Tok) (i : Nat) (h : i < l.length) : tkAt (l ++ q) i = tkAt l i := by
  unfold tkAt
  rw [List.getD_eq_getElem?_getD, List.getD_eq_getElem?_getD, List.getElem?_append_left h]
end Pl
open Pl (Tok Syn PR tkAt kt Agree Local)
theorem whole_loc {rd : List Tok → PR Syn} (hL : Local rd) {ts ts' : List Tok} {e j : Nat} (A : Agree ts ts' 0 e) (h : wholeR ts (rd ts) = .bad j) (hj : j < e) : wholeR ts' (rd ts') = .bad j := by
  have hl := hL ts ts' e A
  unfold wholeR at h ⊢
  cases hr : rd ts with
  | bad m =>
    rw [hr] at h hl
    rw [PR.then_bad] at h
    injection h with h
    subst h
    rw [hl.2 hj]
    rfl
  | ok t m =>
    rw [hr] at h hl
    rw [PR.then_ok] at h
    split at h
    · cases h
    · next hk =>
      injection h with h
      subst h
      rw [hl.2 hj, Nat.add_zero, PR.then_ok]
      have := A.kind m hj
      rw [Nat.add_zero] at this
      rw [this, if_neg hk]
theorem src_bad {cat : Int} {rd : List Tok → PR Syn} {b : Pl.Bytes} {ts : List Tok} {en : Tok} {j : Nat} (h1 : (Pl.tokens b).err = 0) (h2 : (Pl.tokens b).toks = ts ++ [en]) (h : wholeR ts (rd ts) = .bad j) :
    sourceP cat rd (Pl.tokens b) = ⟨Pl.none0, (placeT (ts ++ [en]) j).line, (placeT (ts ++ [en]) j).col, if (placeT (ts ++ [en]) j).kind = 8 then 4 else 3⟩ := by
  unfold sourceP
  rw [if_pos h1, h2, List.dropLast_concat, h]
  rfl
theorem place_tk (ts : List Tok) (en : Tok) (j : Nat) (h : j < ts.length) : placeT (ts ++ [en]) j = tkAt ts j := by
  unfold placeT tkAt
  rw [List.getD_eq_getElem?_getD, List.getD_eq_getElem?_getD, List.getElem?_append_left h]
theorem place_end (ts : List Tok) (en : Tok) : placeT (ts ++ [en]) ts.length = en := by
  unfold placeT
  rw [List.getD_eq_getElem?_getD, List.getElem?_append_right (Nat.le_refl _), Nat.sub_self]
  rfl
structure Refused (cat : Int) (rd : List Tok → PR Syn) (b : Pl.Bytes) (X : List Tok) (j : Nat) : Prop where
  le : j ≤ X.length
  line : (sourceP cat rd (Pl.tokens b)).line = (placeT (X ++ [⟨8, [], Pl.lineAt b b.length, Pl.colAt b b.length⟩]) j).line
  col : (sourceP cat rd (Pl.tokens b)).col = (placeT (X ++ [⟨8, [], Pl.lineAt b b.length, Pl.colAt b b.length⟩]) j).col
  err : (sourceP cat rd (Pl.tokens b)).err = if j = X.length then 4 else 3
  whole : wholeR X (rd X) = .bad j
  row : Pl.Row b 0 X
  kinds : ∀ t ∈ X, t.kind ≠ 8
theorem refused_of {cat : Int} {rd : List Tok → PR Syn} {b : Pl.Bytes} (hin : ∀ ts, Pl.InB ts (rd ts)) (hb : b.length ≤ 1000) (h1 : (Pl.tokens b).err = 0) (h : (sourceP cat rd (Pl.tokens b)).err = 3 ∨ (sourceP cat rd (Pl.tokens b)).err = 4) :
    ∃ X j, (Pl.tokens b).toks = X ++ [⟨8, [], Pl.lineAt b b.length, Pl.colAt b b.length⟩] ∧ Refused cat rd b X j := by
  obtain ⟨X, hX, hr⟩ := Pl.tokens_row b (by omega) h1
  obtain ⟨ts, e, e1, e2, e3, e4, e5⟩ := Pl.tokens_ends b h1
  have hk : ∀ t ∈ X, t.kind ≠ 8 := by
    rw [hX] at e1
    obtain ⟨a, -⟩ := List.append_inj' e1 rfl
    intro t ht
    exact (e4 t (a ▸ ht)).1
  cases hw : wholeR X (rd X) with
  | ok t m =>
    exfalso
    have he : sourceP cat rd (Pl.tokens b) = wholeP cat (Pl.tokens b).toks (.ok t m) := by unfold sourceP; rw [if_pos h1, hX, List.dropLast_concat, hw]
    by_cases hv : validP cat t = true
    · have : wholeP cat (Pl.tokens b).toks (.ok t m) = ⟨t, 0, 0, 0⟩ := if_pos hv
      rw [he, this] at h
      rcases h with h | h
      · exact absurd h (show ¬ (0 : Int) = 3 by decide)
      · exact absurd h (show ¬ (0 : Int) = 4 by decide)
    · have : wholeP cat (Pl.tokens b).toks (.ok t m) = ⟨Pl.none0, 0, 0, 5⟩ := if_neg hv
      rw [he, this] at h
      rcases h with h | h <;> exact absurd h (by decide)
  | bad j =>
    have hs := src_bad (cat := cat) h1 hX hw
    have hj := (whole_in (hin X)).2 j hw
    refine ⟨X, j, hX, hj, by rw [hs], by rw [hs], ?_, hw, hr, hk⟩
    rw [hs]
    by_cases hjl : j = X.length
    · subst hjl
      rw [place_end]
      simp
    · have hlt : j < X.length := by omega
      rw [place_tk _ _ _ hlt, if_neg hjl, if_neg]
      have : tkAt X j = X[j] := by unfold tkAt; rw [List.getD_eq_getElem?_getD, List.getElem?_eq_getElem hlt]; rfl
      rw [this]
      exact hk _ (List.getElem_mem hlt)
theorem Refused.first {cat : Int} {rd : List Tok → PR Syn} {b : Pl.Bytes} {X : List Tok} {j : Nat} (h : Refused cat rd b X j) (m : Nat) (hm : m < j) : ¬ ((placeT (X ++ [⟨8, [], Pl.lineAt b b.length, Pl.colAt b b.length⟩]) m).line = (sourceP cat rd (Pl.tokens b)).line ∧ (placeT (X ++ [⟨8, [], Pl.lineAt b b.length, Pl.colAt b b.length⟩]) m).col = (sourceP cat rd (Pl.tokens b)).col) := by
  rw [h.line, h.col]
  exact Pl.row_apart b X 0 m j h.row hm (by have := h.le; omega)
theorem Refused.front {cat : Int} {rd : List Tok → PR Syn} {b : Pl.Bytes} {X : List Tok} {j : Nat} (hL : Local rd) (hin : ∀ ts, Pl.InB ts (rd ts)) (hb : b.length ≤ 1000) (h : Refused cat rd b X j) :
    jv (X.take j) = (jn (X.take j), 0) ∧ (jn (X.take j)).length ≤ 4000 ∧ ((sourceP cat rd (Pl.tokens (jn (X.take j)))).err = 0 ∨ ((sourceP cat rd (Pl.tokens (jn (X.take j)))).err = 4 ∧ (sourceP cat rd (Pl.tokens (jn (X.take j)))).col = ((jn (X.take j)).length : Int) + 1) ∨ (sourceP cat rd (Pl.tokens (jn (X.take j)))).err = 5) := by
  obtain ⟨k1, k2, ls, k3, k4⟩ := Pl.joined_toks b (X.take j) (by omega) (Pl.row_take b X 0 j h.row)
  refine ⟨k1, k2, ?_⟩
  have hll : ls.length = j := by
    have := congrArg List.length k4
    rw [List.length_map, List.length_map, List.length_take] at this
    have := h.le
    omega
  have h1 : (Pl.tokens (jn (X.take j))).err = 0 := by rw [k3]
  have h2 : (Pl.tokens (jn (X.take j))).toks = ls ++ [⟨8, [], Pl.lineAt (jn (X.take j)) (jn (X.take j)).length, ((jn (X.take j)).length : Int) + 1⟩] := by rw [k3]
  cases hw : wholeR ls (rd ls) with
  | ok t m =>
    have he : sourceP cat rd (Pl.tokens (jn (X.take j))) = wholeP cat (Pl.tokens (jn (X.take j))).toks (.ok t m) := by unfold sourceP; rw [if_pos h1, h2, List.dropLast_concat, hw]
    by_cases hv : validP cat t = true
    · have : wholeP cat (Pl.tokens (jn (X.take j))).toks (.ok t m) = ⟨t, 0, 0, 0⟩ := if_pos hv
      rw [he, this]
      exact .inl rfl
    · have : wholeP cat (Pl.tokens (jn (X.take j))).toks (.ok t m) = ⟨Pl.none0, 0, 0, 5⟩ := if_neg hv
      rw [he, this]
      exact .inr (.inr rfl)
  | bad m =>
    have hm := (whole_in (hin ls)).2 m hw
    have hA : Agree ls X 0 j := Pl.agree_of (fun i hi => by
      rw [← Pl.tkAt_take X j i hi, kt_at k4]) (by omega) (by have := h.le; omega)
    have hmj : m = j := by
      rcases Nat.lt_or_ge m j with hlt | hge
      · have := whole_loc hL hA hw hlt
        rw [h.whole] at this
        injection this with this
        exact this.symm
      · omega
    subst hmj
    rw [src_bad (cat := cat) h1 h2 hw]
    rw [show placeT (ls ++ [⟨8, [], Pl.lineAt (jn (X.take m)) (jn (X.take m)).length, ((jn (X.take m)).length : Int) + 1⟩]) m = ⟨8, [], Pl.lineAt (jn (X.take m)) (jn (X.take m)).length, ((jn (X.take m)).length : Int) + 1⟩ from by rw [← hll]; exact place_end _ _]
    exact .inr (.inl ⟨rfl, rfl⟩)
theorem Refused.back {cat : Int} {rd : List Tok → PR Syn} {b : Pl.Bytes} {X : List Tok} {j : Nat} (hL : Local rd) (hb : b.length ≤ 1000) (h : Refused cat rd b X j) (hj : j < X.length) (more : Pl.Bytes) (hm : more.length ≤ 1000) :
    jv (X.take (j + 1)) = (jn (X.take (j + 1)), 0) ∧ (jn (X.take (j + 1))).length ≤ 4000 ∧ (sourceP cat rd (Pl.tokens (jn (X.take (j + 1))))).err = 3 ∧
    ((Pl.tokens (jn (X.take (j + 1)) ++ 32 :: more)).err ≠ 0 → (sourceP cat rd (Pl.tokens (jn (X.take (j + 1)) ++ 32 :: more))).err = (Pl.tokens (jn (X.take (j + 1)) ++ 32 :: more)).err) ∧
    ((Pl.tokens (jn (X.take (j + 1)) ++ 32 :: more)).err = 0 → (sourceP cat rd (Pl.tokens (jn (X.take (j + 1)) ++ 32 :: more))).err = 3 ∧ (sourceP cat rd (Pl.tokens (jn (X.take (j + 1)) ++ 32 :: more))).line = (sourceP cat rd (Pl.tokens (jn (X.take (j + 1))))).line ∧ (sourceP cat rd (Pl.tokens (jn (X.take (j + 1)) ++ 32 :: more))).col = (sourceP cat rd (Pl.tokens (jn (X.take (j + 1))))).col) := by
  obtain ⟨k1, k2, ls, k3, k4⟩ := Pl.joined_toks b (X.take (j + 1)) (by omega) (Pl.row_take b X 0 (j + 1) h.row)
  have hll : ls.length = j + 1 := by
    have := congrArg List.length k4
    rw [List.length_map, List.length_map, List.length_take] at this
    omega
  generalize jn (X.take (j + 1)) = f at *
  have h1 : (Pl.tokens f).err = 0 := by rw [k3]
  have h2 : (Pl.tokens f).toks = ls ++ [⟨8, [], Pl.lineAt f f.length, (f.length : Int) + 1⟩] := by rw [k3]
  have hA : Agree X ls 0 (j + 1) := Pl.agree_of (fun i hi => by rw [← Pl.tkAt_take X (j + 1) i hi, kt_at k4]) (by omega) (by omega)
  have hw := whole_loc hL hA h.whole (Nat.lt_succ_self j)
  have hkj : (tkAt ls j).kind ≠ 8 := by
    have h3 : (tkAt ls j).kind = (tkAt X j).kind := by
      have := hA.kind j (Nat.lt_succ_self j)
      rwa [Nat.add_zero] at this
    have h4 : tkAt X j = X[j] := by unfold tkAt; rw [List.getD_eq_getElem?_getD, List.getElem?_eq_getElem hj]; rfl
    rw [h3, h4]
    exact h.kinds _ (List.getElem_mem hj)
  have hs1 := src_bad (cat := cat) h1 h2 hw
  rw [place_tk _ _ _ (by omega : j < ls.length), if_neg hkj] at hs1
  refine ⟨k1, k2, by rw [hs1], fun hne => ?_, fun h0 => ?_⟩
  · unfold sourceP
    rw [if_neg hne]
  · have hl2 : (f ++ 32 :: more).length ≤ 16384 := by rw [List.length_append, List.length_cons]; omega
    obtain ⟨X1, Y, e, m1, m2⟩ := Pl.tokens_more f (32 :: more) ⟨32, more, rfl, .inl rfl⟩ hl2 h1 h0
    rw [h2] at m1
    obtain ⟨rfl, -⟩ := List.append_inj' m1 rfl
    obtain ⟨ts, e2, n1, n2, n3, n4, n5⟩ := Pl.tokens_ends (f ++ 32 :: more) h0
    obtain ⟨Y', rfl⟩ : ∃ Y', Y = Y' ++ [e2] := by
      rcases List.eq_nil_or_concat Y with rfl | ⟨Y', y, rfl⟩
      · exfalso
        rw [List.append_nil] at m2
        rw [n1] at m2
        have : tkAt ls j = e2 := by
          rw [← m2]
          have : j = ts.length := by
            have := congrArg List.length m2
            rw [List.length_append, hll] at this
            simp at this
            omega
          rw [this]
          exact place_end ts e2
        exact hkj (this ▸ n2)
      · refine ⟨Y', ?_⟩
        rw [n1, List.concat_eq_append, ← List.append_assoc] at m2
        rw [List.concat_eq_append, (List.cons.inj (List.append_inj' m2 rfl).2).1]
    have h3 : (Pl.tokens (f ++ 32 :: more)).toks = (ls ++ Y') ++ [e2] := by rw [m2, List.append_assoc]
    have hA2 : Agree ls (ls ++ Y') 0 (j + 1) := Pl.agree_of (fun i hi => by rw [Pl.tkAt_left _ _ _ (by omega)]) (by omega) (by rw [List.length_append]; omega)
    have hw2 := whole_loc hL hA2 hw (Nat.lt_succ_self j)
    have hs2 := src_bad (cat := cat) h0 h3 hw2
    rw [place_tk _ _ _ (by rw [List.length_append]; omega : j < (ls ++ Y').length), Pl.tkAt_left _ _ _ (by omega), if_neg hkj] at hs2
    rw [hs1, hs2]
    exact ⟨rfl, rfl, rfl⟩
end Go.Proofs.YtjedahcpkcgpeaaGreatDoor
