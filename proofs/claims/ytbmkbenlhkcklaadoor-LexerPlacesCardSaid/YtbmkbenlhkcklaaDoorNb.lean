/-
  Plain mathematics of layer 2: tokens stand at their places. No program.
-/
import Derived.Test.YtbmkbenlhkcklaaDoorNa
namespace Go.Proofs.YtbmkbenlhkcklaaDoor
open Go Go.RowKit
namespace Pl
/-- what the source has at a token's place -/
def shown (k : Int) (t : Bytes) : Bytes := if k = 5 then lit t else t
theorem tok_shape (l : Bytes) (h : (tok l).err = 0) : (tok l).kind ≠ 8 ∧ ((tok l).kind = 5 → isText (tok l).text = true) ∧ l.take (tok l).len = shown (tok l).kind (tok l).text := by
  unfold tok at h ⊢
  split
  · next h1 =>
    rw [if_pos h1] at h
    unfold nameTok at h ⊢
    split
    · next h2 => rw [if_pos h2] at h; exact absurd h (show ¬ (5 : Int) = 0 by decide)
    · next h2 =>
      have hk : ∀ a b : Bool, (if a then (6 : Int) else if b then 2 else 1) ≠ 8 ∧ (if a then (6 : Int) else if b then 2 else 1) ≠ 5 := by
        intro a b; cases a <;> cases b <;> exact ⟨by decide, by decide⟩
      obtain ⟨k1, k2⟩ := hk (isKey (l.take (run innerB l))) (headIs capital l)
      exact ⟨k1, fun h => absurd h k2, (if_neg k2).symm⟩
  · next h1 =>
    rw [if_neg h1] at h
    split
    · next h2 =>
      rw [if_pos h2] at h
      unfold varTok at h ⊢
      split
      · next h3 =>
        rw [if_pos h3] at h
        split
        · next h4 => rw [if_pos h4] at h; exact absurd h (show ¬ (5 : Int) = 0 by decide)
        · exact ⟨show ¬ (3 : Int) = 8 by decide, fun h => absurd h (show ¬ (3 : Int) = 5 by decide), (if_neg (show ¬ (3 : Int) = 5 by decide)).symm⟩
      · next h3 => rw [if_neg h3] at h; exact absurd h (show ¬ (3 : Int) = 0 by decide)
    · next h2 =>
      rw [if_neg h2] at h
      split
      · next h3 =>
        rw [if_pos h3] at h
        unfold numTok at h ⊢
        split
        · exact ⟨show ¬ (4 : Int) = 8 by decide, fun h => absurd h (show ¬ (4 : Int) = 5 by decide), (if_neg (show ¬ (4 : Int) = 5 by decide)).symm⟩
        · next h4 => rw [if_neg h4] at h; exact absurd h h4
      · next h3 =>
        rw [if_neg h3] at h
        split
        · next h4 =>
          rw [if_pos h4] at h
          cases l with
          | nil => cases h4
          | cons b z =>
            have hb : b = 34 := (u8_eq b 34).2 (by simpa [headIs] using h4)
            subst hb
            obtain ⟨u, rest, hz, ht, hu⟩ := (txt_sound z).1 [] 1 h
            have hd : ((34 : UInt8) :: z).drop 1 = z := rfl
            rw [hd, ht, List.nil_append]
            refine ⟨show ¬ (5 : Int) = 8 by decide, fun _ => hu, ?_⟩
            show _ = if (5 : Int) = 5 then lit u else u
            rw [if_pos rfl, hz]
            show ((34 : UInt8) :: (body u ++ 34 :: rest)).take (1 + (body u).length + 1) = 34 :: body u ++ [34]
            rw [show 1 + (body u).length + 1 = ((body u).length + 1) + 1 from by omega, List.take_succ_cons, List.take_append, List.take_of_length_le (Nat.le_succ _), Nat.add_sub_cancel_left]
            rfl
        · next h4 =>
          rw [if_neg h4] at h
          unfold symTok at h ⊢
          split
          · next h5 => rw [if_pos h5] at h; exact absurd h (show ¬ (3 : Int) = 0 by decide)
          · exact ⟨show ¬ (7 : Int) = 8 by decide, fun h => absurd h (show ¬ (7 : Int) = 5 by decide), (if_neg (show ¬ (7 : Int) = 5 by decide)).symm⟩
/-- a token stands at a byte -/
def Stands (l : Bytes) (t : Tok) (j : Nat) : Prop :=
  j ≤ l.length ∧ t.line = lineAt l j ∧ t.col = colAt l j ∧ (t.kind = 5 → isText t.text = true) ∧ 10 ∉ shown t.kind t.text ∧ ∃ r, l.drop j = shown t.kind t.text ++ r
def RisesT (t u : Tok) : Prop := Rises t.line t.col u.line u.col
def Laid (l : Bytes) (acc : List Tok) (i : Nat) : Prop := (∀ t ∈ acc, t.kind ≠ 8 ∧ ∃ j, j < i ∧ Stands l t j) ∧ acc.Pairwise RisesT
theorem laid_snoc (l : Bytes) (acc : List Tok) (i j : Nat) (t : Tok) (h : Laid l acc i) (hij : i ≤ j) (hj : Stands l t j) : (acc ++ [t]).Pairwise RisesT := by
  obtain ⟨h1, h2⟩ := h
  rw [List.pairwise_append]
  refine ⟨h2, List.pairwise_singleton _ _, fun a ha b hb => ?_⟩
  rw [List.mem_singleton] at hb
  subst hb
  obtain ⟨_, q, hq, hs⟩ := h1 a ha
  have := rises_any l q (j - q - 1) (by have := hj.1; omega)
  rw [show q + (j - q - 1) + 1 = j from by omega] at this
  unfold RisesT
  rw [hs.2.1, hs.2.2.1, hj.2.1, hj.2.2.1]
  exact this
def Good (l : Bytes) (O : Out) : Prop :=
  (O.err = 0 → ∃ ts e, O.toks = ts ++ [e] ∧ e.kind = 8 ∧ (∃ j, Stands l e j) ∧ (∀ t ∈ ts, t.kind ≠ 8 ∧ ∃ j, Stands l t j) ∧ (ts ++ [e]).Pairwise RisesT) ∧
  (O.err ≠ 0 → ∃ j, j ≤ l.length ∧ O.line = lineAt l j ∧ O.col = colAt l j)
theorem toks_places : ∀ (f : Nat) (l : Bytes) (i : Nat) (acc : List Tok) (O : Out), l.length < 20000 → Ok f l i acc O → Laid l acc i → Good l O := by
  intro f
  induction f with
  | zero => intro l i acc O _ h; obtain ⟨h1, h2, _⟩ := h; omega
  | succ f ih =>
    intro l i acc O hl hok hin
    have hgl := gap_le _ (l.drop i) (Nat.le_refl _)
    rw [List.length_drop] at hgl
    have hi := hok.2.1
    cases hg : (gap (l.drop i)).2
    · by_cases he : i + (gap (l.drop i)).1 = l.length
      · rw [ok_end _ _ _ _ _ hok hg he]
        have hst : Stands l ⟨8, [], lineAt l (i + (gap (l.drop i)).1), colAt l (i + (gap (l.drop i)).1)⟩ (i + (gap (l.drop i)).1) :=
          ⟨by omega, rfl, rfl, fun h => absurd h (show ¬ (8 : Int) = 5 by decide), by simp [shown], _, rfl⟩
        refine ⟨fun _ => ⟨acc, _, rfl, rfl, ⟨_, hst⟩, fun t ht => ?_, laid_snoc l acc i _ _ hin (by omega) hst⟩, fun h => absurd rfl h⟩
        obtain ⟨h1, j, _, h2⟩ := hin.1 t ht
        exact ⟨h1, j, h2⟩
      · have hne : l.drop (i + (gap (l.drop i)).1) ≠ [] := by
          intro h
          have := congrArg List.length h
          rw [List.length_drop, List.length_nil] at this
          omega
        have hfi := fine_tok _ hne
        by_cases ht : (tok (l.drop (i + (gap (l.drop i)).1))).err = 0
        · obtain ⟨h1, h2, h3⟩ := hfi.1 ht
          rw [List.length_drop] at h2
          obtain ⟨s1, s2, s3⟩ := tok_shape _ ht
          have hst : Stands l ⟨(tok (l.drop (i + (gap (l.drop i)).1))).kind, (tok (l.drop (i + (gap (l.drop i)).1))).text, lineAt l (i + (gap (l.drop i)).1), colAt l (i + (gap (l.drop i)).1)⟩ (i + (gap (l.drop i)).1) := by
            refine ⟨by omega, rfl, rfl, s2, ?_, (l.drop (i + (gap (l.drop i)).1)).drop (tok (l.drop (i + (gap (l.drop i)).1))).len, ?_⟩
            · show 10 ∉ shown (tok (l.drop (i + (gap (l.drop i)).1))).kind (tok (l.drop (i + (gap (l.drop i)).1))).text
              rw [← s3]; exact h3
            · show _ = shown (tok (l.drop (i + (gap (l.drop i)).1))).kind (tok (l.drop (i + (gap (l.drop i)).1))).text ++ _
              rw [← s3, List.take_append_drop]
          have hok2 := ok_next _ _ _ _ _ hok hl hg he ht h1 (by omega)
          refine ih l _ _ O hl hok2 ⟨fun t htm => ?_, laid_snoc l acc i _ _ hin (by omega) hst⟩
          rcases List.mem_append.1 htm with htm | htm
          · obtain ⟨k1, j, k2, k3⟩ := hin.1 t htm
            exact ⟨k1, j, by omega, k3⟩
          · rw [List.mem_singleton] at htm
            subst htm
            exact ⟨s1, _, by omega, hst⟩
        · obtain ⟨h1, _⟩ := hfi.2 ht
          rw [List.length_drop] at h1
          rw [ok_bad _ _ _ _ _ hok hl hg he ht]
          exact ⟨fun h => absurd h ht, fun _ => ⟨i + (gap (l.drop i)).1 + (tok (l.drop (i + (gap (l.drop i)).1))).pos, by omega, rfl, rfl⟩⟩
    · rw [ok_open _ _ _ _ _ hok hg]
      exact ⟨fun h => absurd h (show ¬ (4 : Int) = 0 by decide), fun _ => ⟨i + (gap (l.drop i)).1, by omega, rfl, rfl⟩⟩
theorem tokens_places (l : Bytes) (hl : l.length ≤ 1500) : Good l (tokens l) :=
  toks_places (l.length + 1) l 0 [] (tokens l) (by omega) ⟨by omega, Nat.zero_le _, Nat.zero_le _, by unfold tokens; rw [if_neg (by omega)]⟩ ⟨fun t h => (by cases h), List.Pairwise.nil⟩
/-- a place in the lines -/
def InLines (L : List Bytes) (a b : Int) (x : Bytes) (c : Nat) : Prop := ∃ k : Nat, a = (k : Int) + 1 ∧ b = (c : Int) + 1 ∧ L[k]? = some x ∧ c ≤ x.length
def FineT (l : Bytes) (t : Tok) : Prop := ∃ x c, InLines (lines l) t.line t.col x c ∧ (t.kind = 5 → isText t.text = true) ∧ t.text.length ≤ l.length ∧ shown t.kind t.text <+: x.drop c
theorem fine_of (l : Bytes) (t : Tok) (j : Nat) (h : Stands l t j) : FineT l t := by
  obtain ⟨h1, h2, h3, h4, h5, r, h6⟩ := h
  obtain ⟨k, c, x, ho⟩ := on_any l j h1
  have hp := on_run l j k c x _ r ho h5 h6
  obtain ⟨o1, o2, o3, o4, _⟩ := ho
  refine ⟨x, c, ⟨k, h2.trans o1, h3.trans o2, o3, o4⟩, h4, ?_, hp⟩
  have hlen := congrArg List.length h6
  rw [List.length_drop, List.length_append] at hlen
  have : t.text.length ≤ (shown t.kind t.text).length := by
    unfold shown
    split
    · have := (body_len t.text).1
      rw [lit_len]; omega
    · exact Nat.le_refl _
  omega
theorem places_ok (l : Bytes) (hl : l.length ≤ 1500) (h : (tokens l).err = 0) (T : List Tok) (hT : (tokens l).toks = T) : 1 ≤ T.length ∧ ∀ n (hn : n < T.length), FineT l T[n] ∧ (T[n].kind = 8 ↔ n + 1 = T.length) ∧ ∀ (m : Nat) (hm : m < n), RisesT T[m] T[n] := by
  obtain ⟨ts, e, h1, h2, ⟨je, h3⟩, h4, h5⟩ := (tokens_places l hl).1 h
  obtain rfl := hT.symm.trans h1
  refine ⟨by simp, fun n hn => ⟨?_, ?_, fun m hm => ?_⟩⟩
  · by_cases hlt : n < ts.length
    · rw [List.getElem_append_left hlt]
      obtain ⟨_, j, hj⟩ := h4 _ (List.getElem_mem hlt)
      exact fine_of _ _ _ hj
    · have : n = ts.length := by rw [List.length_append] at hn; simp at hn; omega
      subst this
      simp only [List.getElem_concat_length]
      exact fine_of _ _ _ h3
  · by_cases hlt : n < ts.length
    · rw [List.getElem_append_left hlt]
      refine ⟨fun h => absurd h (h4 _ (List.getElem_mem hlt)).1, fun h => ?_⟩
      simp at h; omega
    · have : n = ts.length := by rw [List.length_append] at hn; simp at hn; omega
      subst this
      simp only [List.getElem_concat_length]
      exact ⟨fun _ => by simp, fun _ => h2⟩
  · exact List.pairwise_iff_getElem.1 h5 m n (by omega) hn hm
theorem places_bad (l : Bytes) (hl : l.length ≤ 1500) (h : (tokens l).err ≠ 0) : ∃ x c, InLines (lines l) (tokens l).line (tokens l).col x c := by
  obtain ⟨j, h1, h2, h3⟩ := (tokens_places l hl).2 h
  obtain ⟨k, c, x, o1, o2, o3, o4, _⟩ := on_any l j h1
  exact ⟨x, c, k, h2.trans o1, h3.trans o2, o3, o4⟩
end Pl
end Go.Proofs.YtbmkbenlhkcklaaDoor
