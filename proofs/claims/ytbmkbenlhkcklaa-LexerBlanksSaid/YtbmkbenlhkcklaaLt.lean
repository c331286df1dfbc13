/-
  The law LexerLiterals, as a walk: each call returns true, and nothing that lay in memory before it turns.
-/
import Derived.Test.YtbmkbenlhkcklaaLs
namespace Go.Proofs.Ytbmkbenlhkcklaa
open Go.RowKit

theorem pair_ok (s : ByteArray) : pair (s.toList, 0) = .tuple #[.string s, .int .i64 0] := by unfold pair; rw [Pl.mk_of]
theorem unq_back (s : ByteArray) (w : World) (ht : Pl.isText s.toList = true) (hl : s.size ≤ 1500) :
    Calls Try.prog 16 #[.string (Pl.mk (Pl.lit s.toList))] w fun e w' => e = .returned (.tuple #[.string s, .int .i64 0]) ∧ Below w.heap.size w w' := by
  have hb := Pl.body_len s.toList
  have h := unquote_any (Pl.mk (Pl.lit s.toList)) w (by rw [Pl.mk_size, Pl.lit_len]; rw [Pl.len_size] at hb; unfold maxLen; omega)
  rw [Pl.mk_toList, Pl.unquote_lit _ ht (by rw [Pl.len_size]; omega), pair_ok] at h
  exact h
theorem tok_back (s : ByteArray) (w : World) (ht : Pl.isText s.toList = true) (hl : s.size ≤ 1500) :
    Calls Try.prog 11 #[.string (Pl.mk (Pl.lit s.toList))] w fun e w' => (∃ b off c, e = .returned (.tuple #[.slice (some ⟨b, off, none⟩) 2 c, .agg #[.int .i64 0, .int .i64 0], .int .i64 0]) ∧ b < w'.heap.size ∧ w'.cell? ⟨b, off, none⟩ = some (.int .i64 5) ∧ w'.cell? ⟨b, off + 1, none⟩ = some (.string s)) ∧ Below w.heap.size w w' := by
  have hb := Pl.body_len s.toList
  rw [Pl.len_size] at hb
  have hll := Pl.lit_len s.toList
  obtain ⟨c, hc⟩ := Pl.tokens_lit s.toList ht (by omega)
  have h := lexTokens_any (Pl.mk (Pl.lit s.toList)) w (by rw [Pl.mk_size]; unfold maxLen; omega)
  rw [Pl.mk_toList, hc] at h
  refine h.mono ?_
  rintro e w' (⟨-, ⟨v, rfl, hts⟩, hb⟩ | ⟨he, -⟩)
  · rcases hts with ⟨h0, -⟩ | ⟨b, off, c, rfl, -, -, -, h5, h6⟩
    · cases h0
    · have h7 := h6 0 (Nat.zero_lt_succ _)
      obtain ⟨a0, a1, -, -⟩ := h7
      refine ⟨⟨b, off, c, rfl, h5, a0, ?_⟩, hb⟩
      rw [show (⟨b, off + 1, none⟩ : Addr) = ⟨b, off + 4 * 0 + 1, none⟩ from rfl, a1]
      show some (Value.string (Pl.mk s.toList)) = _
      rw [Pl.mk_of]
  · exact absurd rfl he
/-- the second half: what Unquote reads -/
def Second (s : ByteArray) (r : Pl.Bytes × Int) : Prop := (r.2 ≠ 0 ∧ r.1 = []) ∨ (r.2 = 0 ∧ s = Pl.mk (Pl.lit r.1) ∧ Pl.isText r.1 = true ∧ r.1.length ≤ 16384)
theorem second_any (s : ByteArray) : Second s (Pl.unquote s.toList) := by
  by_cases h : (Pl.unquote s.toList).2 = 0
  · right
    obtain ⟨h1, h2, h3⟩ := Pl.unquote_sound s.toList (Pl.unquote s.toList).1 (Prod.ext rfl h)
    exact ⟨h, by rw [← h1, Pl.mk_of], h2, h3⟩
  · exact .inl ⟨h, Pl.unquote_err _ h⟩
theorem lits_long (s : ByteArray) (w : World) (hs : s.size ≤ maxLen) (hl : 1500 < s.size) :
    Calls Try.prog 8 #[.string s] w fun e w' => e = .returned (.bool true) ∧ Below w.heap.size w w' := by
  unfold maxLen at hs
  have hl2 : decide ((1500 : Int) < (s.size : Int)) = true := by simp; omega
  go_enter Try.func8, Try.ntmps8
  go_wp2_with fail
  refine (awake_any _).mono ?_
  rintro e w1 ⟨rfl, hb1⟩
  have HB1 := Lib.hid hb1
  clear hb1
  go_wp2
  go_ret
  exact ⟨rfl, HB1.out⟩
set_option maxRecDepth 100000 in
set_option maxHeartbeats 2000000 in
theorem lexerLiterals_walk (s : ByteArray) (w : World) (hs : s.size ≤ maxLen) :
    Calls Try.prog 8 #[.string s] w fun e w' => e = .returned (.bool true) ∧ Below w.heap.size w w' := by
  by_cases hl : 1500 < s.size
  · exact lits_long s w hs hl
  have hs' := hs
  unfold maxLen at hs
  have hl2 : decide ((1500 : Int) < (s.size : Int)) = false := by simp; omega
  have hq := fun W => quote_any s W hs'
  have hu := fun W => unquote_any s W hs'
  have hsec := second_any s
  have hqe : ((Pl.quote s.toList).2 = 0 ∧ Pl.isText s.toList = true ∧ Pl.quote s.toList = (Pl.lit s.toList, 0)) ∨ (Pl.quote s.toList).2 ≠ 0 := by
    by_cases h : (Pl.quote s.toList).2 = 0
    · obtain ⟨h1, _, h3⟩ := Pl.quote_ok _ h; exact .inl ⟨h, h1, h3⟩
    · exact .inr h
  generalize Pl.unquote s.toList = R at hu hsec
  obtain ⟨u, er⟩ := R
  have hu2 : ∀ W, Calls Try.prog 16 #[.string s] W fun e w' => e = .returned (.tuple #[.string (Pl.mk u), .int .i64 er]) ∧ Below W.heap.size W w' := hu
  have HU := Lib.hid hu2
  clear hu hu2
  have hqe2 : (Pl.quote s.toList).2 = 0 ∧ Pl.isText s.toList = true ∧ Pl.quote s.toList = (Pl.lit s.toList, 0) ∨ ∃ x ee, ee ≠ 0 ∧ Pl.quote s.toList = (x, ee) := by
    rcases hqe with h | h
    · exact .inl h
    · exact .inr ⟨_, _, h, rfl⟩
  clear hqe
  rcases hqe2 with ⟨-, ht, hqq⟩ | ⟨x, ee, hee, hqq⟩
  · have hq2 : ∀ W, Calls Try.prog 15 #[.string s] W fun e w' => e = .returned (.tuple #[.string (Pl.mk (Pl.lit s.toList)), .int .i64 0]) ∧ Below W.heap.size W w' := by
      intro W; have := hq W; rw [hqq] at this; exact this
    have HQ := Lib.hid hq2
    have HUB := Lib.hid (fun W => unq_back s W ht (by omega))
    have HTB := Lib.hid (fun W => tok_back s W ht (by omega))
    generalize Pl.mk (Pl.lit s.toList) = q at HUB HTB HQ
    clear hq hq2 hqq ht
    rcases hsec with ⟨h1, h2⟩ | ⟨h1, h2, h3, h4⟩
    · have h2' : u = [] := h2
      subst h2'
      have t1 : (er != 0) = true := by simpa using h1
      have m0 := Pl.mk_toList []
      clear h1 h2
      go_enter Try.func8, Try.ntmps8
      go_wp2_with fail
      refine (awake_any _).mono ?_
      rintro e w1 ⟨rfl, hb1⟩
      have HB1 := Lib.hid hb1
      clear hb1
      go_wp2_with fail
      refine (HQ.out _).mono ?_
      rintro e w2 ⟨rfl, hb2⟩
      have HB2 := Lib.hid (HB1.out.trans (hb2.mono HB1.out.size))
      clear hb2 HB1
      go_wp2_with fail
      refine (HUB.out _).mono ?_
      rintro e w3 ⟨rfl, hb3⟩
      have HB3 := Lib.hid (HB2.out.trans (hb3.mono HB2.out.size))
      clear hb3 HB2
      go_wp2_with fail
      refine (HTB.out _).mono ?_
      rintro e w4 ⟨⟨b, off, c, rfl, hlt, a0, a1⟩, hb4⟩
      have HB := Lib.hid ((HB3.out.trans (hb4.mono HB3.out.size)).alloc (Nat.le_trans HB3.out.size hb4.size) (.cells #[.int .i64 0, .int .i64 0] 26))
      clear hb4 HB3
      go_wp2_with fail
      refine (HU.out _).mono ?_
      rintro e wu ⟨rfl, hbu⟩
      have HBU := Lib.hid (HB.out.trans (hbu.mono HB.out.size))
      clear hbu
      go_wp2
      go_ret
      exact ⟨rfl, HBU.out⟩
    · have h1' : er = 0 := h1
      subst h1'
      have hqu : ∀ W, Calls Try.prog 15 #[.string (Pl.mk u)] W fun e w' => e = .returned (.tuple #[.string s, .int .i64 0]) ∧ Below W.heap.size W w' := by
        intro W
        have := quote_any (Pl.mk u) W (by rw [Pl.mk_size]; have : u.length ≤ 16384 := h4; unfold maxLen; omega)
        rw [Pl.mk_toList, Pl.quote_text u h3 h4] at this
        unfold pair at this
        rw [← show s = Pl.mk (Pl.lit u) from h2] at this
        exact this
      have HQU := Lib.hid hqu
      generalize Pl.mk u = z at HU HQU
      clear h1 h2 h3 h4 hqu
      go_enter Try.func8, Try.ntmps8
      go_wp2_with fail
      refine (awake_any _).mono ?_
      rintro e w1 ⟨rfl, hb1⟩
      have HB1 := Lib.hid hb1
      clear hb1
      go_wp2_with fail
      refine (HQ.out _).mono ?_
      rintro e w2 ⟨rfl, hb2⟩
      have HB2 := Lib.hid (HB1.out.trans (hb2.mono HB1.out.size))
      clear hb2 HB1
      go_wp2_with fail
      refine (HUB.out _).mono ?_
      rintro e w3 ⟨rfl, hb3⟩
      have HB3 := Lib.hid (HB2.out.trans (hb3.mono HB2.out.size))
      clear hb3 HB2
      go_wp2_with fail
      refine (HTB.out _).mono ?_
      rintro e w4 ⟨⟨b, off, c, rfl, hlt, a0, a1⟩, hb4⟩
      have HB := Lib.hid ((HB3.out.trans (hb4.mono HB3.out.size)).alloc (Nat.le_trans HB3.out.size hb4.size) (.cells #[.int .i64 0, .int .i64 0] 26))
      clear hb4 HB3
      go_wp2_with fail
      refine (HU.out _).mono ?_
      rintro e wu ⟨rfl, hbu⟩
      have HBU := Lib.hid (HB.out.trans (hbu.mono HB.out.size))
      clear hbu
      go_wp2_with fail
      refine (HQU.out _).mono ?_
      rintro e wv ⟨rfl, hbv⟩
      have HBV := Lib.hid (HBU.out.trans (hbv.mono HBU.out.size))
      clear hbv
      go_wp2
      go_ret
      exact ⟨rfl, HBV.out⟩
  · have hq2 : ∀ W, Calls Try.prog 15 #[.string s] W fun e w' => e = .returned (.tuple #[.string (Pl.mk x), .int .i64 ee]) ∧ Below W.heap.size W w' := by
      intro W; have := hq W; rw [hqq] at this; exact this
    have HQ := Lib.hid hq2
    have t0 : (ee == 0) = false := beq_eq_false_iff_ne.2 hee
    generalize Pl.mk x = q at HQ
    clear hq hq2 hqq hee
    rcases hsec with ⟨h1, h2⟩ | ⟨h1, h2, h3, h4⟩
    · have h2' : u = [] := h2
      subst h2'
      have t1 : (er != 0) = true := by simpa using h1
      have m0 := Pl.mk_toList []
      clear h1 h2
      go_enter Try.func8, Try.ntmps8
      go_wp2_with fail
      refine (awake_any _).mono ?_
      rintro e w1 ⟨rfl, hb1⟩
      have HB1 := Lib.hid hb1
      clear hb1
      go_wp2_with fail
      refine (HQ.out _).mono ?_
      rintro e w2 ⟨rfl, hb2⟩
      have HB2 := Lib.hid (HB1.out.trans (hb2.mono HB1.out.size))
      clear hb2 HB1
      have HB := HB2
      clear HB2
      go_wp2_with fail
      refine (HU.out _).mono ?_
      rintro e wu ⟨rfl, hbu⟩
      have HBU := Lib.hid (HB.out.trans (hbu.mono HB.out.size))
      clear hbu
      go_wp2
      go_ret
      exact ⟨rfl, HBU.out⟩
    · have h1' : er = 0 := h1
      subst h1'
      have hqu : ∀ W, Calls Try.prog 15 #[.string (Pl.mk u)] W fun e w' => e = .returned (.tuple #[.string s, .int .i64 0]) ∧ Below W.heap.size W w' := by
        intro W
        have := quote_any (Pl.mk u) W (by rw [Pl.mk_size]; have : u.length ≤ 16384 := h4; unfold maxLen; omega)
        rw [Pl.mk_toList, Pl.quote_text u h3 h4] at this
        unfold pair at this
        rw [← show s = Pl.mk (Pl.lit u) from h2] at this
        exact this
      have HQU := Lib.hid hqu
      generalize Pl.mk u = z at HU HQU
      clear h1 h2 h3 h4 hqu
      go_enter Try.func8, Try.ntmps8
      go_wp2_with fail
      refine (awake_any _).mono ?_
      rintro e w1 ⟨rfl, hb1⟩
      have HB1 := Lib.hid hb1
      clear hb1
      go_wp2_with fail
      refine (HQ.out _).mono ?_
      rintro e w2 ⟨rfl, hb2⟩
      have HB2 := Lib.hid (HB1.out.trans (hb2.mono HB1.out.size))
      clear hb2 HB1
      have HB := HB2
      clear HB2
      go_wp2_with fail
      refine (HU.out _).mono ?_
      rintro e wu ⟨rfl, hbu⟩
      have HBU := Lib.hid (HB.out.trans (hbu.mono HB.out.size))
      clear hbu
      go_wp2_with fail
      refine (HQU.out _).mono ?_
      rintro e wv ⟨rfl, hbv⟩
      have HBV := Lib.hid (HBU.out.trans (hbv.mono HBU.out.size))
      clear hbv
      go_wp2
      go_ret
      exact ⟨rfl, HBV.out⟩
end Go.Proofs.Ytbmkbenlhkcklaa
