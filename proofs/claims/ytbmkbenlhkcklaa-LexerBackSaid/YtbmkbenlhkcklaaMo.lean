/-
  Walks of layer 2: what was joined has the same tokens.
-/
import Derived.Test.YtbmkbenlhkcklaaMk
import Derived.Test.YtbmkbenlhkcklaaMn
namespace Go.Proofs.Ytbmkbenlhkcklaa
open Go.RowKit

theorem jv_good (us : List Pl.Tok) (h : (jv us).2 = 0) : jv us = (jn us, 0) ∧ us.all refB = true ∧ us.length ≤ 20000 ∧ (jn us).length ≤ 16384 := by
  unfold jv at h ⊢
  split at h
  · exact absurd h (by decide)
  · next h1 =>
    split at h
    · next h2 =>
      split at h
      · exact absurd h (by decide)
      · next h3 => rw [if_neg h1, if_pos h2, if_neg h3]; exact ⟨rfl, h2, by omega, by omega⟩
    · exact absurd h (by decide)
theorem jv_bad (us : List Pl.Tok) (h : (jv us).2 ≠ 0) : (jv us).1 = [] := by
  unfold jv at h ⊢
  split
  · rfl
  · next h1 =>
    rw [if_neg h1] at h
    split
    · next h2 =>
      rw [if_pos h2] at h
      split
      · rfl
      · next h3 => rw [if_neg h3] at h; exact absurd rfl h
    · rfl
theorem tokSlice_mk {w : World} {b off n c : Nat} {ts : List Pl.Tok} (hn : ts.length = n) (hc : n ≤ c) (hm : c ≤ maxLen) (hb : b < w.heap.size) (h : ∀ j (hj : j < ts.length), TokAt w b (off + 4 * j) ts[j]) : TokSlice w (.slice (some ⟨b, off, none⟩) n c) ts := by
  rcases Nat.eq_zero_or_pos n with h0 | h0
  · subst h0
    exact .inl ⟨List.eq_nil_of_length_eq_zero hn, _, _, rfl⟩
  · subst hn
    exact .inr ⟨b, off, c, rfl, h0, hc, hm, hb, h⟩
/-- a joined text's tokens, as a slice with its end -/
theorem end_slice {w : World} {v : Value} {ls : List Pl.Tok} {e : Pl.Tok} (h : TokSlice w v (ls ++ [e])) : ∃ b off c n, ls.length = n ∧ v = .slice (some ⟨b, off, none⟩) (n + 1) c ∧ n + 1 ≤ c ∧ c ≤ maxLen ∧ b < w.heap.size ∧ TokAt w b (off + n * 4) e ∧ ∀ j (hj : j < ls.length), TokAt w b (off + 4 * j) ls[j] := by
  rcases h with ⟨h0, _⟩ | ⟨b, off, c, rfl, h1, h2, h3, h4, h5⟩
  · simp at h0
  · have hlen : (ls ++ [e]).length = ls.length + 1 := by simp
    refine ⟨b, off, c, ls.length, rfl, by rw [hlen], by rw [← hlen]; exact h2, h3, h4, ?_, fun j hj => ?_⟩
    · have := h5 ls.length (by omega)
      rw [List.getElem_append_right (Nat.le_refl _)] at this
      simpa [Nat.mul_comm] using this
    · have := h5 j (by omega)
      rw [List.getElem_append_left hj] at this
      exact this
theorem same_maps (ls us : List Pl.Tok) (h : ls.map (fun t => (t.kind, t.text)) = us.map (fun t => (t.kind, t.text))) : us.length = ls.length ∧ ∀ j (hj : j < us.length) (hj' : j < ls.length), TokEq false us[j] ls[j] := by
  have hl : us.length = ls.length := by
    have := congrArg List.length h
    rw [List.length_map, List.length_map] at this
    exact this.symm
  refine ⟨hl, fun j hj hj' => ?_⟩
  have : (ls.map (fun t => (t.kind, t.text)))[j]? = (us.map (fun t => (t.kind, t.text)))[j]? := by rw [h]
  rw [List.getElem?_map, List.getElem?_map, List.getElem?_eq_getElem hj, List.getElem?_eq_getElem hj'] at this
  simp only [Option.map_some, Option.some.injEq, Prod.mk.injEq] at this
  exact ⟨this.1.symm, this.2.symm, fun h => by cases h⟩
theorem kind_end (t : Pl.Tok) (h : refB t = true) : t.kind ≠ 8 := by
  by_cases h5 : t.kind = 5
  · rw [h5]; decide
  · exact (okT_head t h5 h).2.2.2
set_option maxRecDepth 100000 in
set_option maxHeartbeats 4000000 in
theorem again_drop (b off c p : Nat) (last : Pl.Tok) (us : List Pl.Tok) (w : World) (hlen : us.length = p) (hc : p + 1 ≤ c) (hm : c ≤ maxLen) (hb : b < w.heap.size) (hlast : TokAt w b (off + p * 4) last) (hk8 : last.kind = 8)
    (ha : ∀ j (hj : j < us.length), TokAt w b (off + 4 * j) us[j])
    (hj : Calls Try.prog 24 #[.slice (some ⟨b, off, none⟩) (p + 1) c] w (JoinPost w (jv us))) :
    Calls Try.prog 26 #[.slice (some ⟨b, off, none⟩) (p + 1) c] w fun e w' => e = .returned (.bool true) ∧ Below w.heap.size w w' := by
  have HM := Lib.hid hm
  unfold maxLen at hm
  have HA := Lib.hid ha
  obtain ⟨z0, -, -, -⟩ := hlast
  rw [hk8] at z0
  clear ha hk8
  by_cases her : (jv us).2 = 0
  · obtain ⟨hjv, hall, hn, hl⟩ := jv_good us her
    obtain ⟨ls, e, ht, hek, -, hmap⟩ := tokens_jn us hall hn hl
    rw [hjv] at hj
    have HJ := Lib.hid (show Calls Try.prog 24 #[.slice (some ⟨b, off, none⟩) (p + 1) c] w fun e w' => e = .returned (.tuple #[.string (Pl.mk (jn us)), .int .i64 0]) ∧ Below w.heap.size w w' from hj)
    have hlx := fun W => lexTokens_any (Pl.mk (jn us)) W (by rw [Pl.mk_size]; unfold maxLen; omega)
    rw [Pl.mk_toList, ht] at hlx
    have HLX := Lib.hid hlx
    obtain ⟨hul, heq⟩ := same_maps ls us hmap
    have HUL := Lib.hid hul
    have HEQ := Lib.hid heq
    generalize Pl.mk (jn us) = J at HJ HLX
    clear hj hlx her hjv hall hn hl ht hmap hul heq
    go_enter Try.func26, Try.ntmps26
    go_wp2_with fail
    refine HJ.out.mono ?_
    rintro e' w1 ⟨rfl, hb1⟩
    have HB1 := Lib.hid hb1
    clear hb1
    go_wp2_with fail
    refine (HLX.out _).mono ?_
    rintro e' w2 (⟨-, ⟨v2, rfl, hts⟩, hb2⟩ | ⟨h0, -⟩)
    · obtain ⟨b2, off2, c2, n2, hnl, rfl, hc2, hm2, hbl2, hte, htl⟩ := end_slice hts
      have HM2 := Lib.hid hm2
      unfold maxLen at hm2
      have HTL := Lib.hid htl
      obtain ⟨y0, -, -, -⟩ := hte
      rw [hek] at y0
      have HB2 := Lib.hid (HB1.out.trans (hb2.mono HB1.out.size))
      have hk2 := blk_new w2 #[.int .i64 0, .int .i64 0] 26
      have hb3 : Below w2.heap.size w2 (w2.alloc (.cells #[.int .i64 0, .int .i64 0] 26)) := (Below.refl _ _).alloc (Nat.le_refl _) _
      have y0' := (hb3.cell (p := ⟨b2, off2 + n2 * 4, none⟩) hbl2).trans y0
      have HB3 := Lib.hid hb3
      have HBA := Lib.hid (HB2.out.trans (hb3.mono HB2.out.size))
      have HNL := Lib.hid hnl
      have HBL2 := Lib.hid hbl2
      have z0' := (HBA.out.cell (p := ⟨b, off + p * 4, none⟩) hb).trans z0
      clear hb2 hk2 hb3 hts htl hnl y0
      go_wp2_with fail
      refine (same_any false _ _ us ls _ (tokSlice_mk hlen (by omega) HM.out (Nat.lt_of_lt_of_le hb HBA.out.size) (fun j hj => (HA.out j hj).below HBA.out hb)) (tokSlice_mk HNL.out (by omega) HM2.out (Nat.lt_of_lt_of_le HBL2.out HB3.out.size) (fun j hj => (HTL.out j hj).below HB3.out HBL2.out)) HUL.out HEQ.out).mono ?_
      rintro e' w5 ⟨rfl, hb5⟩
      have HB5 := Lib.hid (HBA.out.trans (hb5.mono HBA.out.size))
      clear hb5
      go_wp2
      go_ret
      exact ⟨rfl, HB5.out⟩
    · exact absurd rfl h0
  · have hbad := jv_bad us her
    have HJ := Lib.hid (show Calls Try.prog 24 #[.slice (some ⟨b, off, none⟩) (p + 1) c] w fun e w' => e = .returned (.tuple #[.string ⟨#[]⟩, .int .i64 (jv us).2]) ∧ Below w.heap.size w w' from by
      unfold JoinPost at hj
      rw [hbad] at hj; exact hj)
    generalize (jv us).2 = er at her HJ
    have p0 : (er != 0) = true := by simpa using her
    clear hj hbad her
    go_enter Try.func26, Try.ntmps26
    go_wp2_with fail
    refine HJ.out.mono ?_
    rintro e' w1 ⟨rfl, hb1⟩
    have HB1 := Lib.hid hb1
    clear hb1
    go_wp2
    go_ret
    exact ⟨rfl, HB1.out⟩
set_option maxRecDepth 100000 in
set_option maxHeartbeats 4000000 in
theorem again_keep (b off c p : Nat) (last : Pl.Tok) (us : List Pl.Tok) (w : World) (hlen : us.length = p + 1) (hc : p + 1 ≤ c) (hm : c ≤ maxLen) (hb : b < w.heap.size) (hlast : TokAt w b (off + p * 4) last) (hmem : last ∈ us)
    (ha : ∀ j (hj : j < us.length), TokAt w b (off + 4 * j) us[j])
    (hj : Calls Try.prog 24 #[.slice (some ⟨b, off, none⟩) (p + 1) c] w (JoinPost w (jv us))) :
    Calls Try.prog 26 #[.slice (some ⟨b, off, none⟩) (p + 1) c] w fun e w' => e = .returned (.bool true) ∧ Below w.heap.size w w' := by
  have HM := Lib.hid hm
  unfold maxLen at hm
  have HA := Lib.hid ha
  obtain ⟨z0, -, -, -⟩ := hlast
  clear ha
  by_cases her : (jv us).2 = 0
  · obtain ⟨hjv, hall, hn, hl⟩ := jv_good us her
    obtain ⟨ls, e, ht, hek, -, hmap⟩ := tokens_jn us hall hn hl
    rw [hjv] at hj
    have HJ := Lib.hid (show Calls Try.prog 24 #[.slice (some ⟨b, off, none⟩) (p + 1) c] w fun e w' => e = .returned (.tuple #[.string (Pl.mk (jn us)), .int .i64 0]) ∧ Below w.heap.size w w' from hj)
    have hlx := fun W => lexTokens_any (Pl.mk (jn us)) W (by rw [Pl.mk_size]; unfold maxLen; omega)
    rw [Pl.mk_toList, ht] at hlx
    have HLX := Lib.hid hlx
    obtain ⟨hul, heq⟩ := same_maps ls us hmap
    have HUL := Lib.hid hul
    have HEQ := Lib.hid heq
    have hk8 := kind_end last (List.all_eq_true.1 hall last hmem)
    clear hmem
    generalize last.kind = kl at z0 hk8
    have p8 : (kl == 8) = false := beq_eq_false_iff_ne.2 hk8
    clear hk8
    generalize Pl.mk (jn us) = J at HJ HLX
    clear hj hlx her hjv hall hn hl ht hmap hul heq
    go_enter Try.func26, Try.ntmps26
    go_wp2_with fail
    refine HJ.out.mono ?_
    rintro e' w1 ⟨rfl, hb1⟩
    have HB1 := Lib.hid hb1
    clear hb1
    go_wp2_with fail
    refine (HLX.out _).mono ?_
    rintro e' w2 (⟨-, ⟨v2, rfl, hts⟩, hb2⟩ | ⟨h0, -⟩)
    · obtain ⟨b2, off2, c2, n2, hnl, rfl, hc2, hm2, hbl2, hte, htl⟩ := end_slice hts
      have HM2 := Lib.hid hm2
      unfold maxLen at hm2
      have HTL := Lib.hid htl
      obtain ⟨y0, -, -, -⟩ := hte
      rw [hek] at y0
      have HB2 := Lib.hid (HB1.out.trans (hb2.mono HB1.out.size))
      have hk2 := blk_new w2 #[.int .i64 0, .int .i64 0] 26
      have hb3 : Below w2.heap.size w2 (w2.alloc (.cells #[.int .i64 0, .int .i64 0] 26)) := (Below.refl _ _).alloc (Nat.le_refl _) _
      have y0' := (hb3.cell (p := ⟨b2, off2 + n2 * 4, none⟩) hbl2).trans y0
      have HB3 := Lib.hid hb3
      have HBA := Lib.hid (HB2.out.trans (hb3.mono HB2.out.size))
      have HNL := Lib.hid hnl
      have HBL2 := Lib.hid hbl2
      have z0' := (HBA.out.cell (p := ⟨b, off + p * 4, none⟩) hb).trans z0
      clear hb2 hk2 hb3 hts htl hnl y0
      go_wp2_with fail
      refine (same_any false _ _ us ls _ (tokSlice_mk hlen (by omega) HM.out (Nat.lt_of_lt_of_le hb HBA.out.size) (fun j hj => (HA.out j hj).below HBA.out hb)) (tokSlice_mk HNL.out (by omega) HM2.out (Nat.lt_of_lt_of_le HBL2.out HB3.out.size) (fun j hj => (HTL.out j hj).below HB3.out HBL2.out)) HUL.out HEQ.out).mono ?_
      rintro e' w5 ⟨rfl, hb5⟩
      have HB5 := Lib.hid (HBA.out.trans (hb5.mono HBA.out.size))
      clear hb5
      go_wp2
      go_ret
      exact ⟨rfl, HB5.out⟩
    · exact absurd rfl h0
  · have hbad := jv_bad us her
    have HJ := Lib.hid (show Calls Try.prog 24 #[.slice (some ⟨b, off, none⟩) (p + 1) c] w fun e w' => e = .returned (.tuple #[.string ⟨#[]⟩, .int .i64 (jv us).2]) ∧ Below w.heap.size w w' from by
      unfold JoinPost at hj
      rw [hbad] at hj; exact hj)
    generalize (jv us).2 = er at her HJ
    have p0 : (er != 0) = true := by simpa using her
    clear hj hbad her
    go_enter Try.func26, Try.ntmps26
    go_wp2_with fail
    refine HJ.out.mono ?_
    rintro e' w1 ⟨rfl, hb1⟩
    have HB1 := Lib.hid hb1
    clear hb1
    go_wp2
    go_ret
    exact ⟨rfl, HB1.out⟩
set_option maxRecDepth 100000 in
set_option maxHeartbeats 4000000 in
theorem again_none (a : Option Addr) (c : Nat) (us : List Pl.Tok) (w : World) (hu : us = [])
    (hj : Calls Try.prog 24 #[.slice a 0 c] w (JoinPost w (jv us))) :
    Calls Try.prog 26 #[.slice a 0 c] w fun e w' => e = .returned (.bool true) ∧ Below w.heap.size w w' := by
  by_cases her : (jv us).2 = 0
  · obtain ⟨hjv, hall, hn, hl⟩ := jv_good us her
    obtain ⟨ls, e, ht, hek, -, hmap⟩ := tokens_jn us hall hn hl
    rw [hjv] at hj
    have HJ := Lib.hid (show Calls Try.prog 24 #[.slice a 0 c] w fun e w' => e = .returned (.tuple #[.string (Pl.mk (jn us)), .int .i64 0]) ∧ Below w.heap.size w w' from hj)
    have hlx := fun W => lexTokens_any (Pl.mk (jn us)) W (by rw [Pl.mk_size]; unfold maxLen; omega)
    rw [Pl.mk_toList, ht] at hlx
    have HLX := Lib.hid hlx
    obtain ⟨hul, heq⟩ := same_maps ls us hmap
    have HUL := Lib.hid hul
    have HEQ := Lib.hid heq
    generalize Pl.mk (jn us) = J at HJ HLX
    clear hj hlx her hjv hall hn hl ht hmap hul heq
    go_enter Try.func26, Try.ntmps26
    go_wp2_with fail
    refine HJ.out.mono ?_
    rintro e' w1 ⟨rfl, hb1⟩
    have HB1 := Lib.hid hb1
    clear hb1
    go_wp2_with fail
    refine (HLX.out _).mono ?_
    rintro e' w2 (⟨-, ⟨v2, rfl, hts⟩, hb2⟩ | ⟨h0, -⟩)
    · obtain ⟨b2, off2, c2, n2, hnl, rfl, hc2, hm2, hbl2, hte, htl⟩ := end_slice hts
      have HM2 := Lib.hid hm2
      unfold maxLen at hm2
      have HTL := Lib.hid htl
      obtain ⟨y0, -, -, -⟩ := hte
      rw [hek] at y0
      have HB2 := Lib.hid (HB1.out.trans (hb2.mono HB1.out.size))
      have hk2 := blk_new w2 #[.int .i64 0, .int .i64 0] 26
      have hb3 : Below w2.heap.size w2 (w2.alloc (.cells #[.int .i64 0, .int .i64 0] 26)) := (Below.refl _ _).alloc (Nat.le_refl _) _
      have y0' := (hb3.cell (p := ⟨b2, off2 + n2 * 4, none⟩) hbl2).trans y0
      have HB3 := Lib.hid hb3
      have HBA := Lib.hid (HB2.out.trans (hb3.mono HB2.out.size))
      have HNL := Lib.hid hnl
      have HBL2 := Lib.hid hbl2
      clear hb2 hk2 hb3 hts htl hnl y0
      go_wp2_with fail
      refine (same_any false _ _ us ls _ (.inl ⟨hu, _, _, rfl⟩) (tokSlice_mk HNL.out (by omega) HM2.out (Nat.lt_of_lt_of_le HBL2.out HB3.out.size) (fun j hj => (HTL.out j hj).below HB3.out HBL2.out)) HUL.out HEQ.out).mono ?_
      rintro e' w5 ⟨rfl, hb5⟩
      have HB5 := Lib.hid (HBA.out.trans (hb5.mono HBA.out.size))
      clear hb5
      go_wp2
      go_ret
      exact ⟨rfl, HB5.out⟩
    · exact absurd rfl h0
  · have hbad := jv_bad us her
    have HJ := Lib.hid (show Calls Try.prog 24 #[.slice a 0 c] w fun e w' => e = .returned (.tuple #[.string ⟨#[]⟩, .int .i64 (jv us).2]) ∧ Below w.heap.size w w' from by
      unfold JoinPost at hj
      rw [hbad] at hj; exact hj)
    generalize (jv us).2 = er at her HJ
    have p0 : (er != 0) = true := by simpa using her
    clear hj hbad her
    go_enter Try.func26, Try.ntmps26
    go_wp2_with fail
    refine HJ.out.mono ?_
    rintro e' w1 ⟨rfl, hb1⟩
    have HB1 := Lib.hid hb1
    clear hb1
    go_wp2
    go_ret
    exact ⟨rfl, HB1.out⟩
theorem again_any (v : Value) (ts : List Pl.Tok) (w : World) (h : TokSlice w v ts) (hbig : ∀ t ∈ ts, t.text.length ≤ 17000) :
    Calls Try.prog 26 #[v] w fun e w' => e = .returned (.bool true) ∧ Below w.heap.size w w' := by
  have hj := lexJoin_any v ts w h hbig
  rcases h with ⟨h0, a, c, rfl⟩ | ⟨b, off, c, rfl, h1, h2, h3, h4, h5⟩
  · rw [h0] at hj; exact again_none a c [] w rfl hj
  · obtain ⟨us, last, rfl⟩ : ∃ us last, ts = us ++ [last] := by
      have hne : ts ≠ [] := by rintro rfl; simp at h1
      exact ⟨ts.dropLast, ts.getLast hne, (List.dropLast_concat_getLast hne).symm⟩
    have hlen : (us ++ [last]).length = us.length + 1 := by simp
    have hl : TokAt w b (off + us.length * 4) last := by
      have := h5 us.length (by omega)
      rw [List.getElem_append_right (Nat.le_refl _)] at this
      simpa [Nat.mul_comm] using this
    rw [unend_snoc] at hj
    rw [hlen] at h2 hj ⊢
    cases he : endB last
    · rw [he, if_neg (by simp)] at hj
      exact again_keep b off c us.length last (us ++ [last]) w hlen h2 h3 h4 hl (by simp) h5 hj
    · rw [he, if_pos rfl] at hj
      have hk8 : last.kind = 8 := by
        unfold endB at he
        rw [Bool.and_eq_true, decide_eq_true_eq] at he
        exact he.1
      refine again_drop b off c us.length last us w rfl h2 h3 h4 hl hk8 (fun j hj => ?_) hj
      have := h5 j (by omega)
      rw [List.getElem_append_left hj] at this
      exact this
end Go.Proofs.Ytbmkbenlhkcklaa
