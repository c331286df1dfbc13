/-
  Plain mathematics of layer 2: a source with something behind it that ends a token. No program.
-/
import Derived.Test.YtbmkbenlhkcklaaMq
namespace Go.Proofs.Ytbmkbenlhkcklaa
open Go Go.RowKit
namespace Pl
theorem opens_brk (a : UInt8) (r q : Bytes) (hq : Brk q) : opens (a :: r ++ q) = opens (a :: r) := by
  cases r with
  | cons b z => rfl
  | nil =>
    obtain ⟨c, z, rfl, hc⟩ := hq
    have h1 : opens [a] = false := by unfold opens; simp [List.isPrefixOf]
    have h2 : opens ([a] ++ c :: z) = ((40 : UInt8) == a && ((42 : UInt8) == c && true)) := rfl
    rw [h1, h2]
    rcases hc with rfl | rfl | rfl | rfl <;> simp
theorem closes_brk (a : UInt8) (r q : Bytes) (hq : Brk q) : closes (a :: r ++ q) = closes (a :: r) := by
  cases r with
  | cons b z => rfl
  | nil =>
    obtain ⟨c, z, rfl, hc⟩ := hq
    have h1 : closes [a] = false := by unfold closes; simp [List.isPrefixOf]
    have h2 : closes ([a] ++ c :: z) = ((42 : UInt8) == a && ((41 : UInt8) == c && true)) := rfl
    rw [h1, h2]
    rcases hc with rfl | rfl | rfl | rfl <;> simp
theorem com_brk (q : Bytes) (hq : Brk q) : ∀ (l : Bytes) (half : Bool) (d k : Nat), com l half d k ≠ 0 → com (l ++ q) half d k = com l half d k := by
  intro l
  induction l with
  | nil => intro half d k h; exact absurd rfl h
  | cons a r ih =>
    intro half d k h
    cases half
    · rw [com] at h
      rw [List.cons_append, com, com, ← List.cons_append, opens_brk a r q hq, closes_brk a r q hq]
      by_cases h1 : opens (a :: r) = true
      · rw [if_pos h1] at h; rw [if_pos h1, if_pos h1]; exact ih _ _ _ h
      · rw [if_neg h1] at h; rw [if_neg h1, if_neg h1]
        by_cases h2 : closes (a :: r) = true
        · rw [if_pos h2] at h; rw [if_pos h2, if_pos h2]; exact ih _ _ _ h
        · rw [if_neg h2] at h; rw [if_neg h2, if_neg h2]; exact ih _ _ _ h
    · rw [com] at h
      rw [List.cons_append, com, com]
      by_cases h1 : d = 0
      · rw [if_pos h1, if_pos h1]
      · rw [if_neg h1] at h; rw [if_neg h1, if_neg h1]; exact ih _ _ _ h
theorem gap_brk (q : Bytes) (hq : Brk q) : ∀ (n : Nat) (l : Bytes), l.length ≤ n → (gap l).2 = false →
    (l.drop (gap l).1 ≠ [] → gap (l ++ q) = gap l) ∧ (l.drop (gap l).1 = [] → gap (l ++ q) = (l.length + (gap q).1, (gap q).2)) := by
  intro n
  induction n with
  | zero =>
    intro l hl hg
    obtain rfl : l = [] := List.eq_nil_of_length_eq_zero (by omega)
    exact ⟨fun h => absurd rfl h, fun _ => by simp⟩
  | succ n ih =>
    intro l hl hg
    cases l with
    | nil => exact ⟨fun h => absurd rfl h, fun _ => by simp⟩
    | cons a r =>
      have ho := opens_brk a r q hq
      cases h1 : opens (a :: r)
      · rw [h1] at ho
        cases h2 : headIs blank (a :: r)
        · have e := gap_none _ h1 h2
          have e' : gap (a :: r ++ q) = (0, false) := gap_none _ ho h2
          rw [e, e']
          exact ⟨fun _ => rfl, fun h => by cases h⟩
        · have e := gap_blank _ h1 h2
          have e' : gap (a :: r ++ q) = (1 + (gap (r ++ q)).1, (gap (r ++ q)).2) := gap_blank _ ho h2
          rw [show (a :: r).drop 1 = r from rfl] at e
          rw [e] at hg ⊢
          rw [e']
          obtain ⟨k1, k2⟩ := ih r (by simpa using hl) hg
          have hd : (a :: r).drop (1 + (gap r).1) = r.drop (gap r).1 := by rw [← List.drop_drop]; rfl
          show ((a :: r).drop (1 + (gap r).1) ≠ [] → _) ∧ ((a :: r).drop (1 + (gap r).1) = [] → _)
          rw [hd]
          refine ⟨fun h => by rw [k1 h], fun h => ?_⟩
          rw [k2 h, List.length_cons]
          show (1 + (r.length + (gap q).1), (gap q).2) = (r.length + 1 + (gap q).1, (gap q).2)
          congr 1; omega
      · rw [h1] at ho
        by_cases hc : com (a :: r) false 0 0 = 0
        · rw [gap_bad _ h1 hc] at hg; cases hg
        · have hcl : com (a :: r) false 0 0 ≤ (a :: r).length := by have := (com_le (a :: r) false 0 0 hc).2; omega
          have hcp : 1 ≤ com (a :: r) false 0 0 := Nat.pos_of_ne_zero hc
          have ec := com_brk q hq _ _ _ _ hc
          have e := gap_com _ h1 hc
          have e' : gap (a :: r ++ q) = (com (a :: r) false 0 0 + (gap ((a :: r).drop (com (a :: r) false 0 0) ++ q)).1, (gap ((a :: r).drop (com (a :: r) false 0 0) ++ q)).2) := by
            have := gap_com (a :: r ++ q) ho (by rw [ec]; exact hc)
            rw [ec, List.drop_append_of_le_length hcl] at this
            exact this
          rw [e] at hg ⊢
          rw [e']
          obtain ⟨k1, k2⟩ := ih ((a :: r).drop (com (a :: r) false 0 0)) (by rw [List.length_drop]; omega) hg
          generalize com (a :: r) false 0 0 = m at hcl hcp k1 k2 ⊢
          have hd : (a :: r).drop (m + (gap ((a :: r).drop m)).1) = ((a :: r).drop m).drop (gap ((a :: r).drop m)).1 := by rw [List.drop_drop]
          show ((a :: r).drop (m + (gap ((a :: r).drop m)).1) ≠ [] → _) ∧ ((a :: r).drop (m + (gap ((a :: r).drop m)).1) = [] → _)
          rw [hd]
          refine ⟨fun h => by rw [k1 h], fun h => ?_⟩
          rw [k2 h, List.length_drop]
          show (m + ((a :: r).length - m + (gap q).1), (gap q).2) = ((a :: r).length + (gap q).1, (gap q).2)
          congr 1; omega
theorem tok_brk (r q : Bytes) (hq : Brk q) (hne : r ≠ []) (h : (tok r).err = 0) : tok (r ++ q) = tok r := by
  obtain ⟨b, z, rfl⟩ : ∃ b z, r = b :: z := by cases r with
    | nil => exact absurd rfl hne
    | cons b z => exact ⟨b, z, rfl⟩
  have hhd : ∀ p : Int → Bool, headIs p (b :: z ++ q) = headIs p (b :: z) := fun p => rfl
  have hri := run_brk innerB (by decide) (by decide) (by decide) (by decide)
  have hrd := run_brk digitB (by decide) (by decide) (by decide) (by decide)
  unfold tok at h ⊢
  rw [hhd, hhd, hhd, hhd, hhd]
  split
  · have hle := run_le innerB (b :: z)
    unfold nameTok
    rw [hri _ q hq, List.take_append_of_le_length hle, hhd]
  · next hl =>
    rw [if_neg hl] at h
    split
    · have hle := run_le innerB z
      have hd : (b :: z ++ q).drop 1 = z ++ q := rfl
      have hd2 : (b :: z).drop 1 = z := rfl
      have hhz : headIs small (z ++ q) = headIs small z := by
        cases z with
        | cons c y => rfl
        | nil =>
          obtain ⟨c, y, rfl, hc⟩ := hq
          rcases hc with rfl | rfl | rfl | rfl <;> rfl
      unfold varTok
      rw [hd, hd2, hhz, hri _ q hq, List.take_append_of_le_length (by rw [List.length_cons]; omega)]
    · next h39 =>
      rw [if_neg h39] at h
      split
      · have hle := run_le digitB (b :: z)
        unfold numTok
        rw [hrd _ q hq, List.take_append_of_le_length hle]
      · next hd =>
        rw [if_neg hd] at h
        split
        · next h34 =>
          rw [if_pos h34] at h
          have hd1 : (b :: z ++ q).drop 1 = z ++ q := rfl
          have hd2 : (b :: z).drop 1 = z := rfl
          rw [hd2] at h
          obtain ⟨u, rest, hz, ht, hu⟩ := (txt_sound z).1 [] 1 h
          rw [hd1, hd2, ht, hz, List.append_assoc, List.cons_append, txt_body u (rest ++ q) [] 1 hu]
        · next h34 =>
          rw [if_neg h34] at h
          have hs : symLen (b :: z ++ q) = symLen (b :: z) := by
            unfold symTok at h
            split at h
            · exact absurd h (show ¬ (3 : Int) = 0 by decide)
            · unfold symLen
              rw [opens_brk b z q hq]
              have h1 : (b :: z ++ q).take 1 = (b :: z).take 1 := rfl
              have h2 : sym2.contains ((b :: z ++ q).take 2) = sym2.contains ((b :: z).take 2) := by
                cases z with
                | cons c y => rfl
                | nil =>
                  obtain ⟨c, y, rfl, hc⟩ := hq
                  have e1 : ([b] ++ c :: y).take 2 = [b, c] := rfl
                  have e2 : ([b] : Bytes).take 2 = [b] := rfl
                  rw [e1, e2]
                  rcases hc with rfl | rfl | rfl | rfl <;> simp [sym2]
              rw [h1, h2]
          have hle := symLen_len (b :: z)
          unfold symTok
          rw [hs, List.take_append_of_le_length hle]
end Pl
end Go.Proofs.Ytbmkbenlhkcklaa
