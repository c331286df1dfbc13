/-
  LexerTokens: the law's walk.
-/
import Derived.Test.YtbmkbenlhkcklaaMc
namespace Go.Proofs.Ytbmkbenlhkcklaa
open Go.RowKit

theorem tokens_skip (s : ByteArray) (w : World) (hs : s.size ≤ maxLen) (hl : longB s.size = true) :
    Calls Try.prog 3 #[.string s] w fun e w' => e = .returned (.bool true) ∧ Below w.heap.size w w' := by
  have hlo := fun W => long_any s W hs
  rw [hl] at hlo
  have HLO := Lib.hid hlo
  clear hlo hl
  go_enter Try.func3, Try.ntmps3
  go_wp2_with fail
  refine (awake_any _).mono ?_
  rintro e v1 ⟨rfl, hb1⟩
  have HB1 := Lib.hid hb1
  clear hb1
  go_wp2_with fail
  refine (HLO.out _).mono ?_
  rintro e w' ⟨rfl, rfl⟩
  go_wp2
  go_ret
  exact ⟨rfl, HB1.out⟩
set_option maxRecDepth 100000 in
set_option maxHeartbeats 2000000 in
theorem lexerTokens_walk (s : ByteArray) (w : World) (hs : s.size ≤ maxLen) :
    Calls Try.prog 3 #[.string s] w fun e w' => e = .returned (.bool true) ∧ Below w.heap.size w w' := by
  cases hl : longB s.size
  · have hlo := fun W => long_any s W hs
    rw [hl] at hlo
    have hlx := fun W => lexTokens_any s W hs
    have hrt := fun W => rTokens_any s W hs
    generalize Pl.tokens s.toList = O at hlx hrt
    have HLO := Lib.hid hlo
    have HLX := Lib.hid hlx
    have HRT := Lib.hid hrt
    clear hlo hl hlx hrt
    go_enter Try.func3, Try.ntmps3
    go_wp2_with fail
    refine (awake_any _).mono ?_
    rintro e v1 ⟨rfl, hb1⟩
    have HB1 := Lib.hid hb1
    clear hb1
    go_wp2_with fail
    refine (HLO.out _).mono ?_
    rintro e w' ⟨rfl, rfl⟩
    go_wp2_with fail
    refine (HLX.out _).mono ?_
    rintro e w2 (⟨he, ⟨v, rfl, hts⟩, hb2⟩ | ⟨he, htk, rfl, hb2⟩)
    · have HB2 := Lib.hid (HB1.out.trans (hb2.mono HB1.out.size))
      have HE := Lib.hid he
      have HTS := Lib.hid hts
      clear hb2 he hts
      go_wp2_with fail
      have hk2 := blk_new w2 #[.int .i64 0, .int .i64 0] 26
      have hb3 : Below w2.heap.size w2 (w2.alloc (.cells #[.int .i64 0, .int .i64 0] 26)) := (Below.refl _ _).alloc (Nat.le_refl _) _
      generalize w2.alloc (.cells #[.int .i64 0, .int .i64 0] 26) = w3 at hk2 hb3 ⊢
      have HK2 := Lib.hid hk2
      have HB3 := Lib.hid hb3
      clear hk2 hb3
      refine (HRT.out _).mono ?_
      rintro e w4 (⟨-, ⟨u, rfl, hus⟩, hb4⟩ | ⟨he, -, -, -⟩)
      · have HUS := Lib.hid hus
        have HK4 := Lib.hid (HK2.out.below hb4 HK2.out.lt)
        have HB4 := Lib.hid (HB3.out.trans (hb4.mono HB3.out.size))
        clear hus hb4
        go_wp2_with fail
        have hk4 := blk_new w4 #[.int .i64 0, .int .i64 0] 26
        have hb5 : Below w4.heap.size w4 (w4.alloc (.cells #[.int .i64 0, .int .i64 0] 26)) := (Below.refl _ _).alloc (Nat.le_refl _) _
        generalize w4.alloc (.cells #[.int .i64 0, .int .i64 0] 26) = w5 at hk4 hb5 ⊢
        refine (same_any true v u _ _ _ ((HTS.out.below HB4.out).below hb5) (HUS.out.below hb5) rfl (fun _ _ _ => ⟨rfl, rfl, fun _ => ⟨rfl, rfl⟩⟩)).mono ?_
        rintro e w6 ⟨rfl, hb6⟩
        obtain ⟨d0, d1, -, -⟩ := psAt_of ((HK4.out.below hb5 HK4.out.lt).below hb6 (Nat.lt_of_lt_of_le HK4.out.lt hb5.size))
        obtain ⟨g0, g1, -, -⟩ := psAt_of (hk4.below hb6 hk4.lt)
        have HB6 := Lib.hid (HB2.out.trans ((HB4.out.trans ((hb5.trans (hb6.mono hb5.size)).mono HB4.out.size)).mono HB2.out.size))
        clear hk4 hb5 hb6
        go_wp2
        go_ret
        exact ⟨rfl, HB6.out⟩
      · exact absurd HE.out he
    · have HB2 := Lib.hid (HB1.out.trans (hb2.mono HB1.out.size))
      have HE := Lib.hid he
      clear hb2 he
      go_wp2_with fail
      have hk2 := blk_new w2 #[.int .i64 O.line, .int .i64 O.col] 26
      have hb3 : Below w2.heap.size w2 (w2.alloc (.cells #[.int .i64 O.line, .int .i64 O.col] 26)) := (Below.refl _ _).alloc (Nat.le_refl _) _
      generalize w2.alloc (.cells #[.int .i64 O.line, .int .i64 O.col] 26) = w3 at hk2 hb3 ⊢
      have HK2 := Lib.hid hk2
      have HB3 := Lib.hid hb3
      clear hk2 hb3
      refine (HRT.out _).mono ?_
      rintro e w4 (⟨he, -, -⟩ | ⟨-, -, rfl, hb4⟩)
      · exact absurd he HE.out
      · have HK4 := Lib.hid (HK2.out.below hb4 HK2.out.lt)
        have HB4 := Lib.hid (HB3.out.trans (hb4.mono HB3.out.size))
        clear hb4
        go_wp2_with fail
        have hk4 := blk_new w4 #[.int .i64 O.line, .int .i64 O.col] 26
        have hb5 : Below w4.heap.size w4 (w4.alloc (.cells #[.int .i64 O.line, .int .i64 O.col] 26)) := (Below.refl _ _).alloc (Nat.le_refl _) _
        generalize w4.alloc (.cells #[.int .i64 O.line, .int .i64 O.col] 26) = w5 at hk4 hb5 ⊢
        refine (same_none true none 0 none 0 _).mono ?_
        rintro e w6 ⟨rfl, hb6⟩
        obtain ⟨d0, d1, -, -⟩ := psAt_of ((HK4.out.below hb5 HK4.out.lt).below hb6 (Nat.lt_of_lt_of_le HK4.out.lt hb5.size))
        obtain ⟨g0, g1, -, -⟩ := psAt_of (hk4.below hb6 hk4.lt)
        have HB6 := Lib.hid (HB2.out.trans ((HB4.out.trans ((hb5.trans (hb6.mono hb5.size)).mono HB4.out.size)).mono HB2.out.size))
        clear hk4 hb5 hb6
        go_wp2
        go_ret
        exact ⟨rfl, HB6.out⟩
  · exact tokens_skip s w hs hl
end Go.Proofs.Ytbmkbenlhkcklaa
