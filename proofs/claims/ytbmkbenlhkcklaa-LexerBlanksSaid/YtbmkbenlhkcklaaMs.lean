/-
  Plain mathematics of layer 2: two sources with blanks or a comment between them. No program.
-/
import Derived.Test.YtbmkbenlhkcklaaMr
namespace Go.Proofs.Ytbmkbenlhkcklaa
open Go Go.RowKit
namespace Pl
/-- a gap before a source changes nothing -/
theorem scan_gap (u t : Bytes) (n : Nat) (hd : u.drop n = t) (hg : gap u = (n + (gap t).1, (gap t).2)) : scan u = scan t := by
  have hdd : u.drop (n + (gap t).1) = t.drop (gap t).1 := by rw [← List.drop_drop, hd]
  rw [scan_eq u, scan_eq t, hg]
  simp only [hdd]
theorem scan_brk (q : Bytes) (hq : Brk q) : ∀ (n : Nat) (s : Bytes) (x : List Kt), s.length ≤ n → scan s = some x → scan (s ++ q) = (scan q).map (x ++ ·) := by
  intro n
  induction n with
  | zero =>
    intro s x hs h
    obtain rfl : s = [] := List.eq_nil_of_length_eq_zero (by omega)
    obtain rfl : x = [] := by
      have : scan [] = some [] := rfl
      rw [this] at h; exact (Option.some.inj h).symm
    rw [List.nil_append]
    cases scan q <;> rfl
  | succ n ih =>
    intro s x hs h
    rw [scan_eq] at h
    cases hg : (gap s).2
    · rw [hg, if_neg (by simp)] at h
      obtain ⟨k1, k2⟩ := gap_brk q hq _ s (Nat.le_refl _) hg
      have hgl := gap_le _ s (Nat.le_refl _)
      by_cases h0 : s.drop (gap s).1 = []
      · rw [if_pos h0] at h
        obtain rfl := Option.some.inj h
        have := scan_gap (s ++ q) q s.length (by simp) (k2 h0)
        rw [this]
        cases scan q <;> rfl
      · rw [if_neg h0] at h
        by_cases ht : (tok (s.drop (gap s).1)).err = 0
        · rw [if_pos ht, Option.map_eq_some_iff] at h
          obtain ⟨y, hy, rfl⟩ := h
          have hfi := (fine_tok _ h0).1 ht
          have h1 := hfi.1
          have h2 := hfi.2.1
          have htb := tok_brk _ q hq h0 ht
          have hdr : (s ++ q).drop (gap s).1 = s.drop (gap s).1 ++ q := List.drop_append_of_le_length hgl
          rw [List.length_drop] at h2
          rw [scan_eq (s ++ q), k1 h0, hg, if_neg (by simp), hdr, htb, if_neg (by simp [h0]), if_pos ht, List.drop_append_of_le_length (by rw [List.length_drop]; exact h2),
            ih _ y (by rw [List.length_drop, List.length_drop]; omega) hy]
          cases scan q <;> rfl
        · rw [if_neg ht] at h; cases h
    · rw [hg, if_pos rfl] at h; cases h
def between : Nat → Bytes
  | 0 => [32]
  | 1 => [10]
  | 2 => [9, 10, 32]
  | 3 => [32, 40, 42, 42, 41, 32]
  | 4 => [40, 42, 32, 97, 32, 40, 42, 32, 34, 98, 32, 42, 41, 32, 39, 32, 42, 41]
  | _ => [40, 42, 42, 42, 41]
theorem brk_between (k : Nat) (t : Bytes) : Brk (between k ++ t) := by
  match k with
  | 0 => exact ⟨32, _, rfl, .inl rfl⟩
  | 1 => exact ⟨10, _, rfl, .inr (.inr (.inl rfl))⟩
  | 2 => exact ⟨9, _, rfl, .inr (.inl rfl)⟩
  | 3 => exact ⟨32, _, rfl, .inl rfl⟩
  | 4 => exact ⟨40, _, rfl, .inr (.inr (.inr rfl))⟩
  | _ + 5 => exact ⟨40, _, rfl, .inr (.inr (.inr rfl))⟩
theorem scan_blank (b : UInt8) (t : Bytes) (ho : opens (b :: t) = false) (hb : headIs blank (b :: t) = true) : scan (b :: t) = scan t :=
  scan_gap (b :: t) t 1 rfl (gap_blank _ ho hb)
theorem scan_com (u t : Bytes) (n : Nat) (hn : n ≠ 0) (ho : opens u = true) (hc : com u false 0 0 = n) (hd : u.drop n = t) : scan u = scan t := by
  refine scan_gap u t n hd ?_
  have := gap_com u ho (by rw [hc]; exact hn)
  rw [hc, hd] at this
  exact this
theorem scan_between (k : Nat) (t : Bytes) : scan (between k ++ t) = scan t := by
  match k with
  | 0 => exact scan_blank 32 t rfl rfl
  | 1 => exact scan_blank 10 t rfl rfl
  | 2 => exact (scan_blank 9 _ rfl rfl).trans ((scan_blank 10 _ rfl rfl).trans (scan_blank 32 _ rfl rfl))
  | 3 => exact (scan_blank 32 _ rfl rfl).trans ((scan_com (40 :: 42 :: 42 :: 41 :: 32 :: t) (32 :: t) 4 (by decide) rfl rfl rfl).trans (scan_blank 32 _ rfl rfl))
  | 4 => exact scan_com (between 4 ++ t) t 18 (by decide) rfl rfl rfl
  | _ + 5 => exact scan_com (40 :: 42 :: 42 :: 42 :: 41 :: t) t 5 (by decide) rfl rfl rfl
/-- blanks and comments change nothing but places -/
theorem tokens_between (s t : Bytes) (k : Nat) (A B : List Tok) (hs : s.length ≤ 600) (ht : t.length ≤ 600) (h1 : (tokens s).err = 0) (h2 : (tokens t).err = 0) (hA : (tokens s).toks = A) (hB : (tokens t).toks = B) :
    (tokens (s ++ between k ++ t)).err = 0 ∧ (tokens (s ++ between k ++ t)).toks.map kt = (A.dropLast ++ B).map kt := by
  have hb : (between k).length ≤ 18 := by
    match k with
    | 0 => decide
    | 1 => decide
    | 2 => decide
    | 3 => decide
    | 4 => decide
    | _ + 5 => exact (by decide : ([40, 42, 42, 42, 41] : Bytes).length ≤ 18)
  obtain ⟨a1, a2⟩ := tokens_scan s (by omega)
  obtain ⟨b1, b2⟩ := tokens_scan t (by omega)
  obtain ⟨x, hx⟩ := a1 h1
  obtain ⟨y, hy⟩ := b1 h2
  have hAx := (a2 x hx).2
  have hBy := (b2 y hy).2
  have hsc : scan (s ++ between k ++ t) = some (x ++ y) := by
    rw [List.append_assoc, scan_brk _ (brk_between k t) _ s x (Nat.le_refl _) hx, scan_between, hy]; rfl
  have := (tokens_scan (s ++ between k ++ t) (by rw [List.length_append, List.length_append]; omega)).2 _ hsc
  refine ⟨this.1, ?_⟩
  rw [this.2, List.map_append, ← hB, hBy, ← hA, List.map_dropLast, hAx]
  simp
end Pl
end Go.Proofs.Ytbmkbenlhkcklaa
