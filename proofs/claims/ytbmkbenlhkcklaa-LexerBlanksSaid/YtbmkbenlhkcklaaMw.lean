/-
  The law LexerBlanks, as a walk: two right sources.
-/
import Derived.Test.YtbmkbenlhkcklaaMv
namespace Go.Proofs.Ytbmkbenlhkcklaa
open Go.RowKit

theorem be_at (k : Nat) (hk : k < 6) (h : k < ([.string ⟨#[32]⟩, .string ⟨#[10]⟩, .string ⟨#[9, 10, 32]⟩, .string ⟨#[32, 40, 42, 42, 41, 32]⟩, .string ⟨#[40, 42, 32, 97, 32, 40, 42, 32, 34, 98, 32, 42, 41, 32, 39, 32, 42, 41]⟩, .string ⟨#[40, 42, 42, 42, 41]⟩] : List Value).length) :
    ([.string ⟨#[32]⟩, .string ⟨#[10]⟩, .string ⟨#[9, 10, 32]⟩, .string ⟨#[32, 40, 42, 42, 41, 32]⟩, .string ⟨#[40, 42, 32, 97, 32, 40, 42, 32, 34, 98, 32, 42, 41, 32, 39, 32, 42, 41]⟩, .string ⟨#[40, 42, 42, 42, 41]⟩] : List Value)[k]'h = .string (Pl.mk (Pl.between k)) := by
  obtain rfl | rfl | rfl | rfl | rfl | rfl : k = 0 ∨ k = 1 ∨ k = 2 ∨ k = 3 ∨ k = 4 ∨ k = 5 := by omega
  all_goals rfl
theorem add_list (a b : ByteArray) : (a ++ b).toList = a.toList ++ b.toList := by
  rw [Pl.toList_eq, Pl.toList_eq, Pl.toList_eq]; simp [ByteArray.data_append]
set_option maxRecDepth 100000 in
set_option maxHeartbeats 4000000 in
theorem blanks_ok (s t : ByteArray) (z : Int) (k : Nat) (w : World) (hs : s.size ≤ 600) (ht : t.size ≤ 600) (hk : k < 6) (hz : z.tmod 6 = (k : Int)) (h1 : (Pl.tokens s.toList).err = 0) (h2 : (Pl.tokens t.toList).err = 0) :
    Calls Try.prog 7 #[.string s, .string t, .int .u8 z] w fun e w' => e = .returned (.bool true) ∧ Below w.heap.size w w' := by
  have l1 : decide ((600 : Int) < (s.size : Int)) = false := by simp; omega
  have l2 : decide ((600 : Int) < (t.size : Int)) = false := by simp; omega
  have HLS := Lib.hid fun W => lexTokens_any s W (by unfold maxLen; omega)
  have HLT := Lib.hid fun W => lexTokens_any t W (by unfold maxLen; omega)
  go_enter Try.func7, Try.ntmps7
  go_wp2_with fail
  refine (awake_any _).mono ?_
  rintro e w1 ⟨rfl, hb1⟩
  have HB1 := Lib.hid hb1
  clear hb1
  go_wp2_with fail
  refine (HLS.out _).mono ?_
  rintro e w2 (⟨-, ⟨v, rfl, hts⟩, hb2⟩ | ⟨he, -⟩)
  rotate_left
  · exact absurd h1 he
  obtain ⟨ls, e1, hA, hA6⟩ := Pl.tokens_ended s.toList (by rw [Pl.len_size]; exact hs) h1
  rw [hA] at hts
  obtain ⟨b1, o1, c1, n1, hn1, rfl, hc1, hm1, hbl1, hte1, htl1⟩ := ended_slice hts
  have HB2 := Lib.hid (HB1.out.trans (hb2.mono HB1.out.size))
  have HTL1 := Lib.hid htl1
  have HA := Lib.hid hA
  have HA6 := Lib.hid hA6
  have HN1 := Lib.hid hn1
  have HW2 := Lib.hid (show Below w2.heap.size w2 (w2.alloc (.cells #[.int .i64 0, .int .i64 0] 26)) from (Below.refl _ _).alloc (Nat.le_refl _) _)
  unfold maxLen at hm1
  have q1 : ((n1 : Int) + 1 == 0) = false := by simp; omega
  clear hb2 hts hte1 htl1 hA hA6 hn1
  go_wp2_with fail
  generalize w2.alloc (.cells #[.int .i64 0, .int .i64 0] 26) = wa at HW2 ⊢
  refine (HLT.out _).mono ?_
  rintro e w3 (⟨-, ⟨v, rfl, hts⟩, hb3⟩ | ⟨he, -⟩)
  rotate_left
  · exact absurd h2 he
  obtain ⟨rs, e2, hB, hB6⟩ := Pl.tokens_ended t.toList (by rw [Pl.len_size]; exact ht) h2
  rw [hB] at hts
  obtain ⟨b2, o2, c2, n2, hn2, rfl, hc2, hm2, hbl2, hte2, htl2⟩ := ended_slice hts
  have HT2 := Lib.hid (HW2.out.trans (hb3.mono HW2.out.size))
  have HTL2 := Lib.hid htl2
  have HB := Lib.hid hB
  have HB6 := Lib.hid hB6
  have HN2 := Lib.hid hn2
  have HW3 := Lib.hid (show Below w3.heap.size w3 (w3.alloc (.cells #[.int .i64 0, .int .i64 0] 26)) from (Below.refl _ _).alloc (Nat.le_refl _) _)
  unfold maxLen at hm2
  have q2 : ((n2 : Int) + 1 == 0) = false := by simp; omega
  clear hb3 hts hte2 htl2 hB hB6 hn2
  go_wp2_with fail
  generalize w3.alloc (.cells #[.int .i64 0, .int .i64 0] 26) = wb at HW3 ⊢
  rw [be_at k hk]
  obtain ⟨hu1, hu2⟩ := Pl.tokens_between s.toList t.toList k _ _ (by rw [Pl.len_size]; exact hs) (by rw [Pl.len_size]; exact ht) h1 h2 rfl rfl
  have hbl : (Pl.mk (Pl.between k)).size ≤ 18 := by
    rw [Pl.mk_size]
    obtain rfl | rfl | rfl | rfl | rfl | rfl : k = 0 ∨ k = 1 ∨ k = 2 ∨ k = 3 ∨ k = 4 ∨ k = 5 := by omega
    all_goals decide
  have hcat : (s ++ Pl.mk (Pl.between k) ++ t).toList = s.toList ++ Pl.between k ++ t.toList := by rw [add_list, add_list, Pl.mk_toList]
  rw [← hcat, HA.out, HB.out, List.dropLast_concat] at hu2
  rw [← hcat] at hu1
  generalize Pl.mk (Pl.between k) = x at hu1 hu2 hbl ⊢
  have z1 : s.size + x.size ≤ 9223372036854775807 := by omega
  have hsz : (s ++ x).size = s.size + x.size := ByteArray.size_append
  have z2 : (s ++ x).size + t.size ≤ 9223372036854775807 := by omega
  have hsz2 : (s ++ x ++ t).size = (s ++ x).size + t.size := ByteArray.size_append
  have HLU := Lib.hid fun W => lexTokens_any (s ++ x ++ t) W (by unfold maxLen; omega)
  have HU1 := Lib.hid hu1
  have HU2 := Lib.hid hu2
  clear hu1 hu2 hcat hsz hsz2
  go_simp
  go_wp2_with fail
  have HW4 := Lib.hid (HW3.out.alloc HW3.out.size (.cells #[.string ⟨#[32]⟩, .string ⟨#[10]⟩, .string ⟨#[9, 10, 32]⟩, .string ⟨#[32, 40, 42, 42, 41, 32]⟩, .string ⟨#[40, 42, 32, 97, 32, 40, 42, 32, 34, 98, 32, 42, 41, 32, 39, 32, 42, 41]⟩, .string ⟨#[40, 42, 42, 42, 41]⟩] 9))
  generalize wb.alloc (.cells #[.string ⟨#[32]⟩, .string ⟨#[10]⟩, .string ⟨#[9, 10, 32]⟩, .string ⟨#[32, 40, 42, 42, 41, 32]⟩, .string ⟨#[40, 42, 32, 97, 32, 40, 42, 32, 34, 98, 32, 42, 41, 32, 39, 32, 42, 41]⟩, .string ⟨#[40, 42, 42, 42, 41]⟩] 9) = wc at HW4 ⊢
  refine (HLU.out _).mono ?_
  rintro e w4 (⟨-, ⟨v, rfl, hts⟩, hb4⟩ | ⟨he, -⟩)
  rotate_left
  · exact absurd HU1.out he
  obtain ⟨a3, c3, hv3, -⟩ := hts.form
  have HV3 := Lib.hid hv3
  have HT4 := Lib.hid (HW4.out.trans (hb4.mono HW4.out.size))
  have HTU := Lib.hid hts
  have HW5 := Lib.hid (show Below w4.heap.size w4 (w4.alloc (.cells #[.int .i64 0, .int .i64 0] 26)) from (Below.refl _ _).alloc (Nat.le_refl _) _)
  clear hb4 hts hv3
  go_wp2_with fail
  have hkg := blk_new (w4.alloc (.cells #[.int .i64 0, .int .i64 0] 26)) #[.slice (some ⟨b1, o1, none⟩) n1 c1, .slice (some ⟨b2, o2, none⟩) (n2 + 1) c2] 24
  have hsz4 : (w4.alloc (.cells #[.int .i64 0, .int .i64 0] 26)).heap.size = w4.heap.size + 1 := by simp
  rw [hsz4] at hkg
  have HW6 := Lib.hid (HW5.out.alloc HW5.out.size (.cells #[.slice (some ⟨b1, o1, none⟩) n1 c1, .slice (some ⟨b2, o2, none⟩) (n2 + 1) c2] 24))
  generalize (w4.alloc (.cells #[.int .i64 0, .int .i64 0] 26)).alloc (.cells #[.slice (some ⟨b1, o1, none⟩) n1 c1, .slice (some ⟨b2, o2, none⟩) (n2 + 1) c2] 24) = we at hkg HW6 ⊢
  have hbe3 : Below w3.heap.size w3 we := HT4.out.trans (HW6.out.mono HT4.out.size)
  have hbe2 : Below w2.heap.size w2 we := HT2.out.trans (hbe3.mono HT2.out.size)
  refine (concat_any (w4.heap.size + 1) b1 o1 c1 n1 b2 o2 c2 (n2 + 1) ls (rs ++ [e2]) we hkg.lt (hkg.cell 0 _ rfl) (hkg.cell 1 _ rfl) HN1.out (by rw [List.length_append, HN2.out]; rfl) (by omega) (by have := HA6.out; have := HN1.out; omega) (by have := HB6.out; have := HN2.out; omega)
    (Nat.lt_of_lt_of_le hbl1 hbe2.size) (Nat.lt_of_lt_of_le hbl2 hbe3.size) (fun j hj => ?a1) (fun j hj => (HTL2.out j hj).below hbe3 hbl2)).mono ?_
  case a1 =>
    have := HTL1.out j (by rw [List.length_append]; omega)
    rw [List.getElem_append_left hj] at this
    exact this.below hbe2 hbl1
  rintro e w5 ⟨⟨v5, rfl, hts5⟩, hb5⟩
  have HT5 := Lib.hid hts5
  have HW7 := Lib.hid (HW6.out.trans (hb5.mono HW6.out.size))
  clear hts5 hb5 hbe2 hbe3 hkg hsz4
  go_wp2_with fail
  obtain ⟨hl7, he7⟩ := same_kt _ _ HU2.out
  refine (same_any false _ _ _ _ _ (HTU.out.below HW7.out) HT5.out hl7 he7).mono ?_
  rintro e w6 ⟨rfl, hb6⟩
  have HW8 := Lib.hid (HW7.out.trans (hb6.mono HW7.out.size))
  have hall : Below w.heap.size w w6 := HB2.out.trans ((HT2.out.trans ((HT4.out.trans (HW8.out.mono HT4.out.size)).mono HT2.out.size)).mono HB2.out.size)
  have HALL := Lib.hid hall
  clear hb6 hl7 he7 hall
  have z3 : (⟨#[40, 42, 32]⟩ : ByteArray).size + s.size ≤ 9223372036854775807 := by show 3 + s.size ≤ _; omega
  have hsd : ((⟨#[40, 42, 32]⟩ : ByteArray) ++ s).size = (⟨#[40, 42, 32]⟩ : ByteArray).size + s.size := ByteArray.size_append
  have hs3 : (⟨#[40, 42, 32]⟩ : ByteArray).size = 3 := rfl
  have hs4 : (⟨#[32, 42, 41]⟩ : ByteArray).size = 3 := rfl
  have z4 : ((⟨#[40, 42, 32]⟩ : ByteArray) ++ s).size + (⟨#[32, 42, 41]⟩ : ByteArray).size ≤ 9223372036854775807 := by omega
  have hsd2 : ((⟨#[40, 42, 32]⟩ : ByteArray) ++ s ++ (⟨#[32, 42, 41]⟩ : ByteArray)).size = ((⟨#[40, 42, 32]⟩ : ByteArray) ++ s).size + (⟨#[32, 42, 41]⟩ : ByteArray).size := ByteArray.size_append
  have HLD := Lib.hid fun W => lexTokens_any ((⟨#[40, 42, 32]⟩ : ByteArray) ++ s ++ (⟨#[32, 42, 41]⟩ : ByteArray)) W (by unfold maxLen; omega)
  have HDC := Lib.hid fun h => Pl.tokens_comment s.toList (by rw [Pl.len_size]; exact hs) h
  have HDL := Lib.hid (show ((⟨#[40, 42, 32]⟩ : ByteArray) ++ s ++ (⟨#[32, 42, 41]⟩ : ByteArray)).toList = [40, 42, 32] ++ s.toList ++ [32, 42, 41] from by
    rw [add_list, add_list, Pl.toList_eq ⟨#[40, 42, 32]⟩, Pl.toList_eq ⟨#[32, 42, 41]⟩])
  clear hsd hsd2 hs3 hs4 z1 z2
  go_wp2_with fail
  refine (has_any s 40 _).mono ?_
  rintro e w' ⟨rfl, rfl⟩
  generalize hq1 : has s 40 = r1
  cases r1
  rotate_left
  · clear hq1
    go_wp2
    go_ret
    exact ⟨rfl, HALL.out⟩
  have HQ1 := Lib.hid hq1
  clear hq1
  go_wp2_with fail
  refine (has_any s 42 _).mono ?_
  rintro e w' ⟨rfl, rfl⟩
  generalize hq2 : has s 42 = r2
  cases r2
  rotate_left
  · clear hq2
    go_wp2
    go_ret
    exact ⟨rfl, HALL.out⟩
  have HQ2 := Lib.hid hq2
  clear hq2
  go_wp2_with fail
  refine (has_any s 41 _).mono ?_
  rintro e w' ⟨rfl, rfl⟩
  generalize hq3 : has s 41 = r3
  cases r3
  rotate_left
  · clear hq3
    go_wp2
    go_ret
    exact ⟨rfl, HALL.out⟩
  obtain ⟨hd1, hd2⟩ := HDC.out (noCom_all s HQ1.out HQ2.out hq3)
  rw [← HDL.out] at hd1 hd2
  have HD1 := Lib.hid hd1
  have HD2 := Lib.hid hd2
  clear hq3 hd1 hd2
  go_wp2_with fail
  refine (HLD.out _).mono ?_
  rintro e w7 (⟨-, ⟨v, rfl, hts⟩, hb7⟩ | ⟨he, -⟩)
  rotate_left
  · exact absurd HD1.out he
  have hd2 := HD2.out
  generalize (Pl.tokens ((⟨#[40, 42, 32]⟩ : ByteArray) ++ s ++ (⟨#[32, 42, 41]⟩ : ByteArray)).toList).toks = D at hts hd2
  obtain ⟨d, rfl⟩ : ∃ d, D = [d] := by
    cases D with
    | nil => cases hd2
    | cons d r => cases r with
      | nil => exact ⟨d, rfl⟩
      | cons _ _ => simp at hd2
  have hdk : d.kind = 8 := by
    simp only [List.map_cons, List.map_nil, List.cons.injEq, and_true, Pl.kt, Prod.mk.injEq] at hd2
    exact hd2.1
  have HALL2 := Lib.hid ((HALL.out.trans (hb7.mono HALL.out.size)).alloc (Nat.le_trans HALL.out.size hb7.size) (.cells #[.int .i64 0, .int .i64 0] 26))
  rcases hts with ⟨h0, _⟩ | ⟨b, off, c, rfl, k1, k2, k3, k4, k5⟩
  · cases h0
  obtain ⟨d0, -, -, -⟩ := k5 0 (Nat.zero_lt_one)
  have d0' : w7.cell? ⟨b, off, none⟩ = some (.int .i64 8) := by rw [← hdk]; exact d0
  have d1 : (w7.alloc (.cells #[.int .i64 0, .int .i64 0] 26)).cell? ⟨b, off, none⟩ = some (.int .i64 8) := by
    rw [((Below.refl w7.heap.size w7).alloc (Nat.le_refl _) (.cells #[.int .i64 0, .int .i64 0] 26)).cell (p := ⟨b, off, none⟩) k4]; exact d0'
  have hd1 : ([d] : List Pl.Tok).length = 1 := rfl
  rw [hd1]
  clear hb7 hd2 hdk k5 d0 d0' hd1 k1 k2 k3
  go_wp2
  go_ret
  exact ⟨rfl, HALL2.out⟩
theorem lexerBlanks_walk (s t : ByteArray) (z : Int) (w : World) (hs : s.size ≤ maxLen) (ht : t.size ≤ maxLen) (hz : (Lit.int .u8 z).wf = true) :
    Calls Try.prog 7 #[.string s, .string t, .int .u8 z] w fun e w' => e = .returned (.bool true) ∧ Below w.heap.size w w' := by
  by_cases h1 : 600 < s.size
  · exact blanks_long s t z w hs ht (.inl h1)
  by_cases h2 : 600 < t.size
  · exact blanks_long s t z w hs ht (.inr h2)
  by_cases h3 : (Pl.tokens s.toList).err = 0
  · by_cases h4 : (Pl.tokens t.toList).err = 0
    · have h0 : 0 ≤ z := by
        have h : (decide ((0 : Int) ≤ z) && decide (z ≤ 255)) = true := hz
        rw [Bool.and_eq_true] at h
        exact of_decide_eq_true h.1
      obtain ⟨q, rfl⟩ : ∃ q : Nat, z = q := ⟨z.toNat, by omega⟩
      exact blanks_ok s t q (q % 6) w (by omega) (by omega) (Nat.mod_lt _ (by decide)) (by rw [Int.tmod_eq_emod_of_nonneg h0]; rfl) h3 h4
    · exact blanks_second s t z w (by omega) (by omega) h3 h4
  · exact blanks_first s t z w (by omega) (by omega) h3
end Go.Proofs.Ytbmkbenlhkcklaa
