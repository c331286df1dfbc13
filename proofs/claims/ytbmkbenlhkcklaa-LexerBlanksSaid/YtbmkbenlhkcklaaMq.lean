/-
  Plain mathematics of layer 2: the kinds and texts of a source's tokens, without places. No program.
-/
import Derived.Test.YtbmkbenlhkcklaaMn
namespace Go.Proofs.Ytbmkbenlhkcklaa
open Go Go.RowKit
namespace Pl
abbrev Kt := Int × Bytes
def kt (t : Tok) : Kt := (t.kind, t.text)
/-- the kinds and texts of the tokens, without the end -/
def scanF : Nat → Bytes → Option (List Kt)
  | 0, _ => none
  | f + 1, l =>
    if (gap l).2 then none
    else if l.drop (gap l).1 = [] then some []
    else if (tok (l.drop (gap l).1)).err = 0 then (scanF f ((l.drop (gap l).1).drop (tok (l.drop (gap l).1)).len)).map (List.cons ((tok (l.drop (gap l).1)).kind, (tok (l.drop (gap l).1)).text))
    else none
def scan (l : Bytes) : Option (List Kt) := scanF (l.length + 1) l
theorem scanF_fuel : ∀ (f g : Nat) (l : Bytes), l.length < f → l.length < g → scanF f l = scanF g l := by
  intro f
  induction f with
  | zero => intro g l h; exact absurd h (Nat.not_lt_zero _)
  | succ f ih =>
    intro g l hf hg
    obtain ⟨g, rfl⟩ : ∃ k, g = k + 1 := ⟨g - 1, by omega⟩
    rw [scanF, scanF]
    by_cases h1 : (gap l).2 = true
    · rw [if_pos h1, if_pos h1]
    · rw [if_neg h1, if_neg h1]
      by_cases h2 : l.drop (gap l).1 = []
      · rw [if_pos h2, if_pos h2]
      · rw [if_neg h2, if_neg h2]
        by_cases h3 : (tok (l.drop (gap l).1)).err = 0
        · rw [if_pos h3, if_pos h3]
          have hfi := (fine_tok _ h2).1 h3
          have hlen : ((l.drop (gap l).1).drop (tok (l.drop (gap l).1)).len).length < f ∧ ((l.drop (gap l).1).drop (tok (l.drop (gap l).1)).len).length < g := by
            have := hfi.1
            have := hfi.2.1
            rw [List.length_drop] at this ⊢
            rw [List.length_drop]
            omega
          rw [ih g _ hlen.1 hlen.2]
        · rw [if_neg h3, if_neg h3]
theorem scan_eq (l : Bytes) : scan l = if (gap l).2 then none
    else if l.drop (gap l).1 = [] then some []
    else if (tok (l.drop (gap l).1)).err = 0 then (scan ((l.drop (gap l).1).drop (tok (l.drop (gap l).1)).len)).map (List.cons ((tok (l.drop (gap l).1)).kind, (tok (l.drop (gap l).1)).text))
    else none := by
  unfold scan
  rw [scanF]
  by_cases h1 : (gap l).2 = true
  · rw [if_pos h1, if_pos h1]
  · rw [if_neg h1, if_neg h1]
    by_cases h2 : l.drop (gap l).1 = []
    · rw [if_pos h2, if_pos h2]
    · rw [if_neg h2, if_neg h2]
      by_cases h3 : (tok (l.drop (gap l).1)).err = 0
      · rw [if_pos h3, if_pos h3]
        have hfi := (fine_tok _ h2).1 h3
        have := hfi.1
        have := hfi.2.1
        rw [scanF_fuel l.length _ _ (by rw [List.length_drop, List.length_drop]; rw [List.length_drop] at this; omega) (Nat.lt_succ_self _)]
      · rw [if_neg h3, if_neg h3]
/-- the tokens by their kinds and texts -/
theorem toks_scan : ∀ (f : Nat) (l : Bytes) (i : Nat) (acc : List Tok) (O : Out), l.length < 20000 → Ok f l i acc O →
    (O.err = 0 → ∃ x, scan (l.drop i) = some x) ∧ (∀ x, scan (l.drop i) = some x → O.err = 0 ∧ O.toks.map kt = acc.map kt ++ (x ++ [(8, [])])) := by
  intro f
  induction f with
  | zero => intro l i acc O _ h; obtain ⟨h1, h2, _⟩ := h; omega
  | succ f ih =>
    intro l i acc O hl hok
    rw [scan_eq]
    cases hg : (gap (l.drop i)).2
    · rw [if_neg (by simp)]
      have hdd : (l.drop i).drop (gap (l.drop i)).1 = l.drop (i + (gap (l.drop i)).1) := by rw [List.drop_drop]
      have hgl := gap_le _ (l.drop i) (Nat.le_refl _)
      rw [List.length_drop] at hgl
      have hi := hok.2.1
      rw [hdd]
      by_cases he : i + (gap (l.drop i)).1 = l.length
      · rw [if_pos (by rw [he]; simp)]
        rw [ok_end _ _ _ _ _ hok hg he]
        refine ⟨fun _ => ⟨[], rfl⟩, fun x hx => ?_⟩
        obtain rfl := Option.some.inj hx
        exact ⟨rfl, by simp [kt]⟩
      · have hne : l.drop (i + (gap (l.drop i)).1) ≠ [] := by
          intro h
          have := congrArg List.length h
          rw [List.length_drop, List.length_nil] at this
          omega
        rw [if_neg hne]
        by_cases ht : (tok (l.drop (i + (gap (l.drop i)).1))).err = 0
        · rw [if_pos ht]
          have hfi := (fine_tok _ hne).1 ht
          have h1 := hfi.1
          have h2 := hfi.2.1
          rw [List.length_drop] at h2
          have hok2 := ok_next _ _ _ _ _ hok hl hg he ht h1 (by omega)
          obtain ⟨k1, k2⟩ := ih l _ _ O hl hok2
          rw [List.drop_drop]
          refine ⟨fun h => ?_, fun x hx => ?_⟩
          · obtain ⟨x, hx⟩ := k1 h
            exact ⟨_, by rw [hx]; rfl⟩
          · rw [Option.map_eq_some_iff] at hx
            obtain ⟨y, hy, rfl⟩ := hx
            obtain ⟨j1, j2⟩ := k2 y hy
            refine ⟨j1, ?_⟩
            rw [j2]; simp [kt]
        · rw [if_neg ht]
          rw [ok_bad _ _ _ _ _ hok hl hg he ht]
          exact ⟨fun h => absurd h ht, fun x hx => by cases hx⟩
    · rw [if_pos rfl]
      rw [ok_open _ _ _ _ _ hok hg]
      exact ⟨fun h => absurd h (show ¬ (4 : Int) = 0 by decide), fun x hx => by cases hx⟩
theorem tokens_scan (l : Bytes) (hl : l.length ≤ 16384) : ((tokens l).err = 0 → ∃ x, scan l = some x) ∧ (∀ x, scan l = some x → (tokens l).err = 0 ∧ (tokens l).toks.map kt = x ++ [(8, [])]) := by
  have := toks_scan (l.length + 1) l 0 [] (tokens l) (by omega) ⟨by omega, Nat.zero_le _, Nat.zero_le _, by unfold tokens; rw [if_neg (by omega)]⟩
  rw [List.drop_zero] at this
  simpa using this
/-- what may begin behind a token and end it -/
def Brk (q : Bytes) : Prop := ∃ c r, q = c :: r ∧ (c = 32 ∨ c = 9 ∨ c = 10 ∨ c = 40)
theorem run_brk (p : UInt8 → Bool) (h1 : p 32 = false) (h2 : p 9 = false) (h3 : p 10 = false) (h4 : p 40 = false) (l q : Bytes) (hq : Brk q) : run p (l ++ q) = run p l := by
  obtain ⟨c, r, rfl, hc⟩ := hq
  induction l with
  | nil =>
    rw [List.nil_append, run_cons]
    rcases hc with rfl | rfl | rfl | rfl
    · rw [h1]; rfl
    · rw [h2]; rfl
    · rw [h3]; rfl
    · rw [h4]; rfl
  | cons b z ih => rw [List.cons_append, run_cons, run_cons, ih]
end Pl
end Go.Proofs.Ytbmkbenlhkcklaa
