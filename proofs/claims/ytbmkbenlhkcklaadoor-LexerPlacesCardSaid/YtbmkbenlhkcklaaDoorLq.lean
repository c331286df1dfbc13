/-
  Walks of layer 2: the examples that every law begins with.
-/
import Derived.Test.YtbmkbenlhkcklaaDoorLp
namespace Go.Proofs.YtbmkbenlhkcklaaDoor
open Go.RowKit

def ex1 : Pl.Bytes := [118, 97, 108, 32, 120, 32, 61, 32, 126, 32, 49, 32, 40, 42, 32, 111, 110, 101, 32, 42, 41]
def ex1T : List Pl.Tok := [⟨6, [118, 97, 108], 1, 1⟩, ⟨1, [120], 1, 5⟩, ⟨7, [61], 1, 7⟩, ⟨7, [126], 1, 9⟩, ⟨4, [49], 1, 11⟩, ⟨8, [], 1, 22⟩]
theorem ex1_tokens : Pl.tokens ex1 = ⟨ex1T, 0, 0, 0⟩ := by kernel_rfl
theorem ex2_tokens : Pl.tokens [97, 32, 33] = ⟨[], 1, 3, 3⟩ := by kernel_rfl
theorem ex3_tokens : Pl.tokens [48, 48, 55] = ⟨[], 1, 1, 3⟩ := by kernel_rfl
theorem lex_ex1 (w : World) : Calls Tryd.prog 5 #[.string ⟨#[118, 97, 108, 32, 120, 32, 61, 32, 126, 32, 49, 32, 40, 42, 32, 111, 110, 101, 32, 42, 41]⟩] w fun e w' => (∃ b off c, e = .returned (.tuple #[.slice (some ⟨b, off, none⟩) 6 c, .agg #[.int .i64 0, .int .i64 0], .int .i64 0]) ∧ b < w'.heap.size ∧ TokAt w' b off ⟨6, [118, 97, 108], 1, 1⟩ ∧ TokAt w' b (off + 20) ⟨8, [], 1, 22⟩) ∧ Below w.heap.size w w' := by
  have h := lexTokens_any (Pl.mk ex1) w (by rw [Pl.mk_size]; unfold maxLen; decide)
  rw [Pl.mk_toList, ex1_tokens] at h
  refine h.mono ?_
  rintro e w' (⟨-, ⟨v, rfl, hts⟩, hb⟩ | ⟨he, -⟩)
  · rcases hts with ⟨h0, -⟩ | ⟨b, off, c, rfl, -, -, -, h5, h6⟩
    · cases h0
    · exact ⟨⟨b, off, c, rfl, h5, h6 0 (by decide), h6 5 (by decide)⟩, hb⟩
  · exact absurd rfl he
theorem lex_ex2 (w : World) : Calls Tryd.prog 5 #[.string ⟨#[97, 32, 33]⟩] w fun e w' => e = .returned (.tuple #[.slice none 0 0, .agg #[.int .i64 1, .int .i64 3], .int .i64 3]) ∧ Below w.heap.size w w' := by
  have h := lexTokens_any (Pl.mk [97, 32, 33]) w (by rw [Pl.mk_size]; unfold maxLen; decide)
  rw [Pl.mk_toList, ex2_tokens] at h
  refine h.mono ?_
  rintro e w' (⟨he, -⟩ | ⟨-, -, rfl, hb⟩)
  · exact absurd he (by decide)
  · exact ⟨rfl, hb⟩
theorem lex_ex3 (w : World) : Calls Tryd.prog 5 #[.string ⟨#[48, 48, 55]⟩] w fun e w' => e = .returned (.tuple #[.slice none 0 0, .agg #[.int .i64 1, .int .i64 1], .int .i64 3]) ∧ Below w.heap.size w w' := by
  have h := lexTokens_any (Pl.mk [48, 48, 55]) w (by rw [Pl.mk_size]; unfold maxLen; decide)
  rw [Pl.mk_toList, ex3_tokens] at h
  refine h.mono ?_
  rintro e w' (⟨he, -⟩ | ⟨-, -, rfl, hb⟩)
  · exact absurd he (by decide)
  · exact ⟨rfl, hb⟩
set_option maxRecDepth 100000 in
set_option maxHeartbeats 1000000 in
theorem awake_any (w : World) :
    Calls Tryd.prog 4 #[] w fun e w' => e = .returned (.bool true) ∧ Below w.heap.size w w' := by
  go_enter Tryd.func4, Tryd.ntmps4
  go_wp2_with fail
  refine (lex_ex1 _).mono ?_
  rintro e w1 ⟨⟨b, off, c, rfl, hlt, ha, hz⟩, hb1⟩
  have hb1a := hb1.alloc hb1.size (.cells #[.int .i64 0, .int .i64 0] 25)
  have hba : Below w1.heap.size w1 (w1.alloc (.cells #[.int .i64 0, .int .i64 0] 25)) := (Below.refl _ _).alloc (Nat.le_refl _) _
  have ha2 := ha.below hba hlt
  have hz2 := hz.below hba hlt
  have HB1 := Lib.hid hb1a
  have HA1 := Lib.hid ha2
  have HZ1 := Lib.hid hz2
  have hlt2 : b < (w1.alloc (.cells #[.int .i64 0, .int .i64 0] 25)).heap.size := by simp; omega
  clear hb1a hba ha2 hz2 ha hz hb1
  go_wp2_with fail
  generalize w1.alloc (.cells #[.int .i64 0, .int .i64 0] 25) = wa at HB1 HA1 HZ1 hlt2 ⊢
  refine (lex_ex2 _).mono ?_
  rintro e w2 ⟨rfl, hb2⟩
  have hba : Below w2.heap.size w2 (w2.alloc (.cells #[.int .i64 1, .int .i64 3] 25)) := (Below.refl _ _).alloc (Nat.le_refl _) _
  have HA2 := Lib.hid ((HA1.out.below hb2 hlt2).below hba (Nat.lt_of_lt_of_le hlt2 hb2.size))
  have HZ2 := Lib.hid ((HZ1.out.below hb2 hlt2).below hba (Nat.lt_of_lt_of_le hlt2 hb2.size))
  have HK2 := Lib.hid (blk_new w2 #[.int .i64 1, .int .i64 3] 25)
  have HB2 := Lib.hid ((HB1.out.trans (hb2.mono HB1.out.size)).alloc (Nat.le_trans HB1.out.size hb2.size) (.cells #[.int .i64 1, .int .i64 3] 25))
  have hlt3 : b < (w2.alloc (.cells #[.int .i64 1, .int .i64 3] 25)).heap.size := by have := hb2.size; simp; omega
  clear hb2 hba
  go_wp2_with fail
  generalize w2.alloc (.cells #[.int .i64 1, .int .i64 3] 25) = wb at HB2 HA2 HZ2 HK2 hlt3 ⊢
  refine (lex_ex3 _).mono ?_
  rintro e w3 ⟨rfl, hb3⟩
  obtain ⟨a0, a1, a2, a3⟩ := HA2.out.below hb3 hlt3
  obtain ⟨z0, z1, z2, z3⟩ := HZ2.out.below hb3 hlt3
  obtain ⟨k0, k1, -, -⟩ := psAt_of (HK2.out.below hb3 HK2.out.lt)
  have HB3 := Lib.hid (HB2.out.trans (hb3.mono HB2.out.size))
  have hlt4 : b < w3.heap.size := Nat.lt_of_lt_of_le hlt3 hb3.size
  have hlt5 : w2.heap.size < w3.heap.size := Nat.lt_of_lt_of_le HK2.out.lt hb3.size
  have m1 := Pl.mk_toList [118, 97, 108]
  have m0 := Pl.mk_toList []
  clear hb3
  go_wp2
  go_ret
  exact ⟨rfl, HB3.out.alloc HB3.out.size _⟩
end Go.Proofs.YtbmkbenlhkcklaaDoor
