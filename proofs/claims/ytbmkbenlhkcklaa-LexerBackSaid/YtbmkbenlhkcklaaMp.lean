/-
  LexerBack: the law's walk.
-/
import Derived.Test.YtbmkbenlhkcklaaMo
import Derived.Test.YtbmkbenlhkcklaaLw
namespace Go.Proofs.Ytbmkbenlhkcklaa
open Go.RowKit
namespace Pl
theorem txt_text : ∀ (r : Bytes) (esc : Bool) (acc : Bytes) (k : Nat), (txt r esc acc k).text.length ≤ acc.length + r.length := by
  intro r
  induction r with
  | nil => intro esc acc k; cases esc <;> exact Nat.zero_le _
  | cons c r ih =>
    intro esc acc k
    rw [List.length_cons]
    cases esc
    · rw [txt]
      split
      · show acc.length ≤ _; omega
      · split
        · have := ih true acc (k + 1); omega
        · split
          · have := ih false (acc ++ [c]) (k + 1)
            rw [List.length_append] at this
            simp only [List.length_cons, List.length_nil] at this
            omega
          · exact Nat.zero_le _
    · rw [txt]
      cases meaning c with
      | some m =>
        have := ih false (acc ++ [m]) (k + 1)
        rw [List.length_append] at this
        simp only [List.length_cons, List.length_nil] at this
        show (txt r false (acc ++ [m]) (k + 1)).text.length ≤ _
        omega
      | none => exact Nat.zero_le _
theorem tok_text (l : Bytes) : (tok l).text.length ≤ l.length := by
  unfold tok
  split
  · unfold nameTok; split
    · exact Nat.zero_le _
    · exact List.length_take_le' _ _
  · split
    · unfold varTok; split
      · split
        · exact Nat.zero_le _
        · exact List.length_take_le' _ _
      · exact Nat.zero_le _
    · split
      · unfold numTok; split
        · exact List.length_take_le' _ _
        · exact Nat.zero_le _
      · split
        · have := txt_text (l.drop 1) false [] 1
          rw [List.length_drop, List.length_nil] at this
          omega
        · unfold symTok; split
          · exact Nat.zero_le _
          · exact List.length_take_le' _ _
theorem toksF_texts (N : Nat) : ∀ (f : Nat) (l : Bytes) (i : Nat) (acc : List Tok), l.length ≤ N → (∀ t ∈ acc, t.text.length ≤ N) → ∀ t ∈ (toksF f l i acc).toks, t.text.length ≤ N := by
  intro f
  induction f with
  | zero => intro l i acc _ h; exact h
  | succ f ih =>
    intro l i acc hl h
    rw [toksF]
    split
    · intro t ht; cases ht
    · split
      · intro t ht
        rcases List.mem_append.1 ht with ht | ht
        · exact h t ht
        · rw [List.mem_singleton] at ht; rw [ht]; exact Nat.zero_le _
      · split
        · intro t ht; cases ht
        · split
          · refine ih _ _ _ hl fun t ht => ?_
            rcases List.mem_append.1 ht with ht | ht
            · exact h t ht
            · rw [List.mem_singleton] at ht; rw [ht]
              have := tok_text (l.drop (i + (gap (l.drop i)).1))
              rw [List.length_drop] at this
              show (tok (l.drop (i + (gap (l.drop i)).1))).text.length ≤ N
              omega
          · intro t ht; cases ht
theorem tokens_texts (l : Bytes) : ∀ t ∈ (tokens l).toks, t.text.length ≤ 17000 := by
  unfold tokens
  split
  · intro t ht; cases ht
  · exact toksF_texts 17000 _ _ _ _ (by omega) (fun t ht => by cases ht)
end Pl
set_option maxRecDepth 100000 in
set_option maxHeartbeats 2000000 in
theorem lexerBack_walk (v : Value) (ts : List Pl.Tok) (s : ByteArray) (w : World) (h : TokSlice w v ts) (hs : s.size ≤ maxLen) :
    Calls Try.prog 6 #[v, .string s] w fun e w' => e = .returned (.bool true) ∧ Below w.heap.size w w' := by
  obtain ⟨a, c, hv, -⟩ := h.form
  have HTS := Lib.hid h
  have HV := Lib.hid hv
  have hlo := fun W => long_any s W hs
  have hlx := fun W => lexTokens_any s W hs
  have htx := Pl.tokens_texts s.toList
  generalize longB s.size = lb at hlo
  generalize Pl.tokens s.toList = O at hlx htx
  have HLO := Lib.hid hlo
  have HLX := Lib.hid hlx
  have HTX := Lib.hid htx
  clear h hv hlo hlx htx
  go_enter Try.func6, Try.ntmps6
  go_wp2_with fail
  refine (awake_any _).mono ?_
  rintro e w1 ⟨rfl, hb1⟩
  have HB1 := Lib.hid hb1
  clear hb1
  go_wp2_with fail
  refine (many_any v ts _ (HTS.out.below HB1.out)).mono ?_
  rintro e w2 ⟨⟨r, rfl, hr⟩, hb2⟩
  have HB2 := Lib.hid (HB1.out.trans (hb2.mono HB1.out.size))
  clear hb2
  cases r
  · have HBIG := Lib.hid (hr rfl)
    clear hr
    go_wp2_with fail
    refine (HLO.out _).mono ?_
    rintro e w' ⟨rfl, rfl⟩
    cases lb
    · go_wp2_with fail
      refine (again_any v ts _ (HTS.out.below HB2.out) HBIG.out).mono ?_
      rintro e w3 ⟨rfl, hb3⟩
      have HB3 := Lib.hid (HB2.out.trans (hb3.mono HB2.out.size))
      clear hb3
      go_wp2_with fail
      refine (HLX.out _).mono ?_
      rintro e w4 (⟨he, ⟨u, rfl, hus⟩, hb4⟩ | ⟨he, htk, rfl, hb4⟩)
      · obtain ⟨a2, c2, hu, -⟩ := hus.form
        have HU := Lib.hid hu
        have HUS := Lib.hid hus
        have HB4 := Lib.hid (HB3.out.trans (hb4.mono HB3.out.size))
        have hk4 : Below w4.heap.size w4 (w4.alloc (.cells #[.int .i64 0, .int .i64 0] 26)) := (Below.refl _ _).alloc (Nat.le_refl _) _
        have HK4 := Lib.hid hk4
        clear hb4 hk4 hus hu he
        go_wp2_with fail
        refine (again_any u O.toks _ (HUS.out.below HK4.out) HTX.out).mono ?_
        rintro e w5 ⟨rfl, hb5⟩
        have HB5 := Lib.hid (HB4.out.trans ((HK4.out.trans (hb5.mono HK4.out.size)).mono HB4.out.size))
        clear hb5
        go_wp2
        go_ret
        exact ⟨rfl, HB5.out⟩
      · have p0 : (O.err != 0) = true := by simpa using he
        have HB4 := Lib.hid (HB3.out.trans (hb4.mono HB3.out.size))
        have hk4 : Below w4.heap.size w4 (w4.alloc (.cells #[.int .i64 O.line, .int .i64 O.col] 26)) := (Below.refl _ _).alloc (Nat.le_refl _) _
        have HB5 := Lib.hid (HB4.out.trans (hk4.mono HB4.out.size))
        clear hb4 hk4 htk he
        go_wp2
        go_ret
        exact ⟨rfl, HB5.out⟩
    · go_wp2
      go_ret
      exact ⟨rfl, HB2.out⟩
  · clear hr
    go_wp2
    go_ret
    exact ⟨rfl, HB2.out⟩
end Go.Proofs.Ytbmkbenlhkcklaa
