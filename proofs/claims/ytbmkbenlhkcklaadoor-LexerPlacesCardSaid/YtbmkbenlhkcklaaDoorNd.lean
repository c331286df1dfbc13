/-
  The law LexerPlaces, as a walk: a right source.
-/
import Derived.Test.YtbmkbenlhkcklaaDoorNc
import Derived.Test.YtbmkbenlhkcklaaDoorLq
namespace Go.Proofs.YtbmkbenlhkcklaaDoor
open Go.RowKit

theorem places_facts (s : ByteArray) (hs : s.size ≤ 1500) (h : (Pl.tokens s.toList).err = 0) (T : List Pl.Tok) (hT : (Pl.tokens s.toList).toks = T) (L : List Pl.Bytes) (hL : Pl.lines s.toList = L) :
    1 ≤ T.length ∧ ∀ n (hn : n < T.length), (∃ x c, Pl.InLines L T[n].line T[n].col x c ∧ x.length ≤ 100000 ∧ (T[n].kind = 5 → Pl.isText T[n].text = true) ∧ T[n].text.length ≤ 1500 ∧ Pl.shown T[n].kind T[n].text <+: x.drop c) ∧ (T[n].kind = 8 ↔ n + 1 = T.length) ∧ ∀ (m : Nat) (hm : m < n), Pl.RisesT T[m] T[n] := by
  subst hL
  have hl := Pl.len_size s
  obtain ⟨h1, h2⟩ := Pl.places_ok s.toList (by omega) h T hT
  refine ⟨h1, fun n hn => ?_⟩
  obtain ⟨⟨x, c, hin, h5, ht, hp⟩, h8, hr⟩ := h2 n hn
  refine ⟨⟨x, c, hin, ?_, h5, by omega, hp⟩, h8, hr⟩
  obtain ⟨k, _, _, hk, _⟩ := hin
  have := Pl.lines_le s.toList x (List.mem_of_getElem? hk)
  omega
theorem lines_few (s : ByteArray) (hs : s.size ≤ 1500) (L : List Pl.Bytes) (hL : Pl.lines s.toList = L) : L.length ≤ 100000 := by
  subst hL
  have hl := Pl.len_size s
  rw [Pl.lines_length]
  have := List.count_le_length (a := (10 : UInt8)) (l := s.toList)
  omega
theorem quote_lit (tb : Pl.Bytes) (w : World) (ht : Pl.isText tb = true) (hl : tb.length ≤ 1500) :
    Calls Tryd.prog 8 #[.string (Pl.mk tb)] w fun e w' => e = .returned (.tuple #[.string (Pl.mk (Pl.lit tb)), .int .i64 0]) ∧ Below w.heap.size w w' := by
  have h := quote_any (Pl.mk tb) w (by rw [Pl.mk_size]; unfold maxLen; omega)
  rw [Pl.mk_toList, Pl.quote_text tb ht (by omega)] at h
  exact h
set_option maxRecDepth 100000 in
set_option maxHeartbeats 4000000 in
theorem places_good (s : ByteArray) (w : World) (hs : s.size ≤ 1500) (hw : Wok w) (h : (Pl.tokens s.toList).err = 0) :
    Calls Tryd.prog 3 #[.string s] w fun e w' => e = .returned (.bool true) ∧ Below w.heap.size w w' := by
  have l1 : decide ((1500 : Int) < (s.size : Int)) = false := by simp; omega
  have HLS := Lib.hid fun W => lexTokens_any s W (by unfold maxLen; omega)
  obtain ⟨L, hL⟩ : ∃ L, Pl.lines s.toList = L := ⟨_, rfl⟩
  obtain ⟨T, hT⟩ : ∃ T, (Pl.tokens s.toList).toks = T := ⟨_, rfl⟩
  have hln := lines_few s hs L hL
  obtain ⟨hT1, hf⟩ := places_facts s hs h T hT L hL
  have HSP := Lib.hid fun W (hW : Wok W) => split_lines s L hL W (by omega) hW
  have hmf : ∀ (fn : Fn) (first cap : Array Value) (w : World), (Instr.makeFunc fn first cap).run Tryd.prog w = .ok (.func fn first cap) w := fun _ _ _ _ => rfl
  have HF := Lib.hid hf
  clear hf
  go_enter Tryd.func3, Tryd.ntmps3
  go_wp2_with fail
  refine (awake_any _).mono ?_
  rintro e w1 ⟨rfl, hb1⟩
  have HB1 := Lib.hid hb1
  clear hb1
  go_wp2_with fail
  refine (HLS.out _).mono ?_
  rintro e w2 (⟨-, ⟨v, rfl, hts⟩, hb2⟩ | ⟨he, -⟩)
  rotate_left
  · exact absurd h he
  rw [hT] at hts
  rcases hts with ⟨h0, _⟩ | ⟨b, off, c, rfl, k1, k2, k3, hbl0, htl⟩
  · rw [h0] at hT1; exact absurd hT1 (by decide)
  have HB2 := Lib.hid (HB1.out.trans (hb2.mono HB1.out.size))
  have HT0 := Lib.hid htl
  have hwa : Below w2.heap.size w2 (w2.alloc (.cells #[.int .i64 0, .int .i64 0] 25)) := (Below.refl _ _).alloc (Nat.le_refl _) _
  have HWA := Lib.hid hwa
  unfold maxLen at k3
  clear hb2 htl hwa HLS hT
  go_wp2_with fail
  generalize w2.alloc (.cells #[.int .i64 0, .int .i64 0] 25) = wa at HWA ⊢
  refine (HSP.out _ ((hw.below HB2.out).below HWA.out)).mono ?_
  rintro e w3 ⟨rfl, rfl⟩
  have HL0 := Lib.hid (lines_laid wa L)
  have HWE0 := Lib.hid ((HWA.out.alloc HWA.out.size (.cells (L.map fun x => Value.string (Pl.mk x)).toArray 9)).alloc (by have := HWA.out.size; simp; omega) (.cells #[.slice (some ⟨wa.heap.size, 0, none⟩) L.length L.length] 29))
  obtain ⟨g, hg⟩ : ∃ g, wa.heap.size + 1 = g := ⟨_, rfl⟩
  obtain ⟨n, hn⟩ : ∃ n, T.length = n := ⟨_, rfl⟩
  rw [hn] at hT1 k1 k2
  have HN := Lib.hid hn
  rw [hn]
  clear HSP
  go_wp2_with fail
  have hl0 := HL0.out
  rw [hg] at hl0
  have hwe0 := HWE0.out
  clear HL0 HWE0 hg
  generalize (wa.alloc (.cells (L.map fun x => Value.string (Pl.mk x)).toArray 9)).alloc (.cells #[.slice (some ⟨wa.heap.size, 0, none⟩) L.length L.length] 29) = wE at hl0 hwe0 ⊢
  have HWE := Lib.hid hwe0
  have hbl : b < wE.heap.size := Nat.lt_of_lt_of_le hbl0 hwe0.size
  have HT := Lib.hid (fun (j : Nat) (hj : j < T.length) => (HT0.out j hj).below HWE.out hbl0)
  obtain ⟨lb, hlb⟩ : ∃ lb, wa.heap.size = lb := ⟨_, rfl⟩
  rw [hlb] at hl0
  have HL := Lib.hid hl0
  clear hl0 hwe0 hlb HT0 hbl0 hw hL HWA
  go_loopg [47] (n + 1) (fun gm v wr => ∃ k : Nat, k ≤ n ∧ v = .int .i64 k ∧ gm = n + 1 - k ∧ Below wE.heap.size wE wr)
  case atStart => exact ⟨0, by omega, rfl, by omega, Below.refl _ _⟩
  case round =>
    obtain ⟨k, hk, rfl, hg, hb⟩ := hrel
    by_cases hlt : k < n
    · by_cases hk0 : k = 0
      · skip
        subst hk0
        obtain ⟨⟨x, c0, hin, hxl, h5t, htl, hsh⟩, h8, hri⟩ := HF.out 0 (by omega)
        have hat := (HT.out 0 (by omega)).below hb hbl
        rw [Nat.mul_zero, Nat.add_zero] at hat
        clear hri
        have hbr : b < wr.heap.size := Nat.lt_of_lt_of_le hbl hb.size
        have hrest := fun W (hW : Below wr.heap.size wr W) => rest_any W g lb L _ _ x c0 ((HL.out.below hb).below hW) hln hin hxl
        generalize T[0]'(by omega) = t at *
        obtain ⟨kd, tb, li, co⟩ := t
        dsimp only at hrest h5t htl hsh h8 
        rw [HN.out] at h8
        obtain ⟨a0, a1, a2, a3⟩ := hat
        dsimp only at a0 a1 a2 a3
        have HREST := Lib.hid hrest
        have HBW := Lib.hid hb
        clear hrest hin hxl hb
        by_cases hk5 : kd = 5
        · subst hk5
          have HQ := Lib.hid (fun W => quote_lit tb W (h5t rfl) htl)
          have hs2 : (Pl.lit tb) <+: x.drop c0 := hsh
          have HSH := Lib.hid (show ((Pl.mk (Pl.lit tb)).toList.isPrefixOf (x.drop c0)) = true from by rw [Pl.mk_toList]; exact List.isPrefixOf_iff_prefix.2 hs2)
          have pn : ((0 : Int) == (n : Int) - 1) = false := by
            have : ¬ 0 + 1 = n := fun h => absurd (h8.2 h) (by decide)
            simp; omega
          generalize Pl.mk (Pl.lit tb) = sh at HQ HSH
          generalize Pl.mk tb = tx at a1 HQ
          clear h5t htl hsh hs2 h8
          go_wp2_with fail
          have hkb := blk_new wr #[.int .i64 5, .string tx, .int .i64 li, .int .i64 co] 34
          have hba : Below wr.heap.size wr (wr.alloc (.cells #[.int .i64 5, .string tx, .int .i64 li, .int .i64 co] 34)) := (Below.refl _ _).alloc (Nat.le_refl _) _
          generalize wr.alloc (.cells #[.int .i64 5, .string tx, .int .i64 li, .int .i64 co] 34) = wa at hkb hba ⊢
          refine (HREST.out _ hba).mono ?_
          rintro e w2 ⟨⟨r, rfl, hr⟩, hb2⟩
          have hk2 := hkb.below hb2 hkb.lt
          have HBA := Lib.hid (hba.trans (hb2.mono hba.size))
          obtain ⟨t0, t1, t2, t3, -, -, -, -⟩ := tkAt_of hk2
          have HK2 := Lib.hid hk2
          have HP := Lib.hid (show (sh.toList.isPrefixOf r.toList) = true from by rw [hr]; exact HSH.out)
          clear hkb hba hb2 hk2 hr
          go_wp2_with fail
          refine (HQ.out _).mono ?_
          rintro e w3 ⟨rfl, hb3⟩
          have hk3 := HK2.out.below hb3 HK2.out.lt
          have HB3 := Lib.hid (HBA.out.trans (hb3.mono HBA.out.size))
          clear t0 t1 t2 t3
          obtain ⟨t0, t1, t2, t3, -, -, -, -⟩ := tkAt_of hk3
          clear hb3 hk3
          go_wp2_with fail
          refine (hasPrefix_any _ _ _).mono ?_
          rintro e w' ⟨rfl, rfl⟩
          rw [HP.out]
          go_wp2_with fail
          go_quiet (fail)
          go_wp2
          go_roundg (gk - 1)
          case measure => omega
          case rel => exact ⟨0 + 1, by omega, by go_num, by omega, below_drewN (HBW.out.trans (HB3.out.mono HBW.out.size)) _⟩
        by_cases hk8 : kd = 8
        · subst hk8
          have pn : ((0 : Int) == (n : Int) - 1) = true := by
            have := h8.1 rfl
            simp; omega
          have hs2 : tb <+: x.drop c0 := by unfold Pl.shown at hsh; rw [if_neg (by decide)] at hsh; exact hsh
          have HSH := Lib.hid (show ((Pl.mk tb).toList.isPrefixOf (x.drop c0)) = true from by rw [Pl.mk_toList]; exact List.isPrefixOf_iff_prefix.2 hs2)
          generalize Pl.mk tb = sh at a1 HSH
          clear h5t htl hsh hs2 h8
          go_wp2_with fail
          have hkb := blk_new wr #[.int .i64 8, .string sh, .int .i64 li, .int .i64 co] 34
          have hba : Below wr.heap.size wr (wr.alloc (.cells #[.int .i64 8, .string sh, .int .i64 li, .int .i64 co] 34)) := (Below.refl _ _).alloc (Nat.le_refl _) _
          generalize wr.alloc (.cells #[.int .i64 8, .string sh, .int .i64 li, .int .i64 co] 34) = wa at hkb hba ⊢
          refine (HREST.out _ hba).mono ?_
          rintro e w2 ⟨⟨r, rfl, hr⟩, hb2⟩
          have hk2 := hkb.below hb2 hkb.lt
          have HBA := Lib.hid (hba.trans (hb2.mono hba.size))
          obtain ⟨t0, t1, t2, t3, -, -, -, -⟩ := tkAt_of hk2
          have HK2 := Lib.hid hk2
          have HP := Lib.hid (show (sh.toList.isPrefixOf r.toList) = true from by rw [hr]; exact HSH.out)
          clear hkb hba hb2 hk2 hr
          have HB3 := HBA
          go_wp2_with fail
          refine (hasPrefix_any _ _ _).mono ?_
          rintro e w' ⟨rfl, rfl⟩
          rw [HP.out]
          go_wp2_with fail
          go_quiet (fail)
          go_wp2
          go_roundg (gk - 1)
          case measure => omega
          case rel => exact ⟨0 + 1, by omega, by go_num, by omega, below_drewN (HBW.out.trans (HB3.out.mono HBW.out.size)) _⟩
        · have p8 : (kd == 8) = false := beq_eq_false_iff_ne.2 hk8
          have p5 : (kd == 5) = false := beq_eq_false_iff_ne.2 hk5
          have pn : ((0 : Int) == (n : Int) - 1) = false := by
            have : ¬ 0 + 1 = n := fun h => hk8 (h8.2 h)
            simp; omega
          have hs2 : tb <+: x.drop c0 := by unfold Pl.shown at hsh; rw [if_neg hk5] at hsh; exact hsh
          have HSH := Lib.hid (show ((Pl.mk tb).toList.isPrefixOf (x.drop c0)) = true from by rw [Pl.mk_toList]; exact List.isPrefixOf_iff_prefix.2 hs2)
          generalize Pl.mk tb = sh at a1 HSH
          clear h5t htl hsh hs2 h8 hk8 hk5
          go_wp2_with fail
          have hkb := blk_new wr #[.int .i64 kd, .string sh, .int .i64 li, .int .i64 co] 34
          have hba : Below wr.heap.size wr (wr.alloc (.cells #[.int .i64 kd, .string sh, .int .i64 li, .int .i64 co] 34)) := (Below.refl _ _).alloc (Nat.le_refl _) _
          generalize wr.alloc (.cells #[.int .i64 kd, .string sh, .int .i64 li, .int .i64 co] 34) = wa at hkb hba ⊢
          refine (HREST.out _ hba).mono ?_
          rintro e w2 ⟨⟨r, rfl, hr⟩, hb2⟩
          have hk2 := hkb.below hb2 hkb.lt
          have HBA := Lib.hid (hba.trans (hb2.mono hba.size))
          obtain ⟨t0, t1, t2, t3, -, -, -, -⟩ := tkAt_of hk2
          have HK2 := Lib.hid hk2
          have HP := Lib.hid (show (sh.toList.isPrefixOf r.toList) = true from by rw [hr]; exact HSH.out)
          clear hkb hba hb2 hk2 hr
          have HB3 := HBA
          go_wp2_with fail
          refine (hasPrefix_any _ _ _).mono ?_
          rintro e w' ⟨rfl, rfl⟩
          rw [HP.out]
          go_wp2_with fail
          go_quiet (fail)
          go_wp2
          go_roundg (gk - 1)
          case measure => omega
          case rel => exact ⟨0 + 1, by omega, by go_num, by omega, below_drewN (HBW.out.trans (HB3.out.mono HBW.out.size)) _⟩
      · skip
        obtain ⟨j, rfl⟩ : ∃ j, k = j + 1 := ⟨k - 1, by omega⟩
        obtain ⟨⟨x, c0, hin, hxl, h5t, htl, hsh⟩, h8, hri⟩ := HF.out (j + 1) (by omega)
        have hat := (HT.out (j + 1) (by omega)).below hb hbl
        rw [Nat.mul_comm 4 (j + 1)] at hat
        have hpr := (HT.out j (by omega)).below hb hbl
        rw [Nat.mul_comm 4 j] at hpr
        have hrj := hri j (by omega)
        clear hri
        obtain ⟨-, -, z2, z3⟩ := hpr
        unfold Pl.RisesT Pl.Rises at hrj
        generalize (T[j]'(by omega)).line = pl at hrj z2
        generalize (T[j]'(by omega)).col = pc at hrj z3
        have hbr : b < wr.heap.size := Nat.lt_of_lt_of_le hbl hb.size
        have hrest := fun W (hW : Below wr.heap.size wr W) => rest_any W g lb L _ _ x c0 ((HL.out.below hb).below hW) hln hin hxl
        generalize T[(j + 1)]'(by omega) = t at *
        obtain ⟨kd, tb, li, co⟩ := t
        dsimp only at hrest h5t htl hsh h8 hrj
        rw [HN.out] at h8
        obtain ⟨a0, a1, a2, a3⟩ := hat
        dsimp only at a0 a1 a2 a3
        have HREST := Lib.hid hrest
        have HBW := Lib.hid hb
        clear hrest hin hxl hb
        have q0 : decide ((0 : Int) < (j : Int) + 1) = true := decide_eq_true (by omega)
        by_cases hk5 : kd = 5
        · subst hk5
          have HQ := Lib.hid (fun W => quote_lit tb W (h5t rfl) htl)
          have hs2 : (Pl.lit tb) <+: x.drop c0 := hsh
          have HSH := Lib.hid (show ((Pl.mk (Pl.lit tb)).toList.isPrefixOf (x.drop c0)) = true from by rw [Pl.mk_toList]; exact List.isPrefixOf_iff_prefix.2 hs2)
          have pn : (((j : Int) + 1) == (n : Int) - 1) = false := by
            have : ¬ (j + 1) + 1 = n := fun h => absurd (h8.2 h) (by decide)
            simp; omega
          generalize Pl.mk (Pl.lit tb) = sh at HQ HSH
          generalize Pl.mk tb = tx at a1 HQ
          clear h5t htl hsh hs2 h8
          go_wp2_with fail
          have hkb := blk_new wr #[.int .i64 5, .string tx, .int .i64 li, .int .i64 co] 34
          have hba : Below wr.heap.size wr (wr.alloc (.cells #[.int .i64 5, .string tx, .int .i64 li, .int .i64 co] 34)) := (Below.refl _ _).alloc (Nat.le_refl _) _
          generalize wr.alloc (.cells #[.int .i64 5, .string tx, .int .i64 li, .int .i64 co] 34) = wa at hkb hba ⊢
          refine (HREST.out _ hba).mono ?_
          rintro e w2 ⟨⟨r, rfl, hr⟩, hb2⟩
          have hk2 := hkb.below hb2 hkb.lt
          have HBA := Lib.hid (hba.trans (hb2.mono hba.size))
          obtain ⟨t0, t1, t2, t3, -, -, -, -⟩ := tkAt_of hk2
          have HK2 := Lib.hid hk2
          have HP := Lib.hid (show (sh.toList.isPrefixOf r.toList) = true from by rw [hr]; exact HSH.out)
          clear hkb hba hb2 hk2 hr
          go_wp2_with fail
          refine (HQ.out _).mono ?_
          rintro e w3 ⟨rfl, hb3⟩
          have hk3 := HK2.out.below hb3 HK2.out.lt
          have HB3 := Lib.hid (HBA.out.trans (hb3.mono HBA.out.size))
          clear t0 t1 t2 t3
          obtain ⟨t0, t1, t2, t3, -, -, -, -⟩ := tkAt_of hk3
          clear hb3 hk3
          go_wp2_with fail
          refine (hasPrefix_any _ _ _).mono ?_
          rintro e w' ⟨rfl, rfl⟩
          rw [HP.out]
          have z2' := (HB3.out.cell (p := ⟨b, off + j * 4 + 2, none⟩) hbr).trans z2
          have z3' := (HB3.out.cell (p := ⟨b, off + j * 4 + 3, none⟩) hbr).trans z3
          clear z2 z3
          go_wp2_with fail
          rcases hrj with hrj | ⟨hrj, hrj2⟩
          · have y1 : decide (li < pl) = false := by simp; omega
            have y2 : (li == pl) = false := by simp; omega
            go_quiet (fail)
            go_wp2
            go_roundg (gk - 1)
            case measure => omega
            case rel => exact ⟨(j + 1) + 1, by omega, by go_num, by omega, below_drewN (HBW.out.trans (HB3.out.mono HBW.out.size)) _⟩
          · have y1 : decide (li < pl) = false := by simp; omega
            have y2 : (li == pl) = true := by simp; omega
            have y3 : decide (co ≤ pc) = false := by simp; omega
            go_quiet (fail)
            go_wp2
            go_roundg (gk - 1)
            case measure => omega
            case rel => exact ⟨(j + 1) + 1, by omega, by go_num, by omega, below_drewN (HBW.out.trans (HB3.out.mono HBW.out.size)) _⟩
        by_cases hk8 : kd = 8
        · subst hk8
          have pn : (((j : Int) + 1) == (n : Int) - 1) = true := by
            have := h8.1 rfl
            simp; omega
          have hs2 : tb <+: x.drop c0 := by unfold Pl.shown at hsh; rw [if_neg (by decide)] at hsh; exact hsh
          have HSH := Lib.hid (show ((Pl.mk tb).toList.isPrefixOf (x.drop c0)) = true from by rw [Pl.mk_toList]; exact List.isPrefixOf_iff_prefix.2 hs2)
          generalize Pl.mk tb = sh at a1 HSH
          clear h5t htl hsh hs2 h8
          go_wp2_with fail
          have hkb := blk_new wr #[.int .i64 8, .string sh, .int .i64 li, .int .i64 co] 34
          have hba : Below wr.heap.size wr (wr.alloc (.cells #[.int .i64 8, .string sh, .int .i64 li, .int .i64 co] 34)) := (Below.refl _ _).alloc (Nat.le_refl _) _
          generalize wr.alloc (.cells #[.int .i64 8, .string sh, .int .i64 li, .int .i64 co] 34) = wa at hkb hba ⊢
          refine (HREST.out _ hba).mono ?_
          rintro e w2 ⟨⟨r, rfl, hr⟩, hb2⟩
          have hk2 := hkb.below hb2 hkb.lt
          have HBA := Lib.hid (hba.trans (hb2.mono hba.size))
          obtain ⟨t0, t1, t2, t3, -, -, -, -⟩ := tkAt_of hk2
          have HK2 := Lib.hid hk2
          have HP := Lib.hid (show (sh.toList.isPrefixOf r.toList) = true from by rw [hr]; exact HSH.out)
          clear hkb hba hb2 hk2 hr
          have HB3 := HBA
          go_wp2_with fail
          refine (hasPrefix_any _ _ _).mono ?_
          rintro e w' ⟨rfl, rfl⟩
          rw [HP.out]
          have z2' := (HB3.out.cell (p := ⟨b, off + j * 4 + 2, none⟩) hbr).trans z2
          have z3' := (HB3.out.cell (p := ⟨b, off + j * 4 + 3, none⟩) hbr).trans z3
          clear z2 z3
          go_wp2_with fail
          rcases hrj with hrj | ⟨hrj, hrj2⟩
          · have y1 : decide (li < pl) = false := by simp; omega
            have y2 : (li == pl) = false := by simp; omega
            go_quiet (fail)
            go_wp2
            go_roundg (gk - 1)
            case measure => omega
            case rel => exact ⟨(j + 1) + 1, by omega, by go_num, by omega, below_drewN (HBW.out.trans (HB3.out.mono HBW.out.size)) _⟩
          · have y1 : decide (li < pl) = false := by simp; omega
            have y2 : (li == pl) = true := by simp; omega
            have y3 : decide (co ≤ pc) = false := by simp; omega
            go_quiet (fail)
            go_wp2
            go_roundg (gk - 1)
            case measure => omega
            case rel => exact ⟨(j + 1) + 1, by omega, by go_num, by omega, below_drewN (HBW.out.trans (HB3.out.mono HBW.out.size)) _⟩
        · have p8 : (kd == 8) = false := beq_eq_false_iff_ne.2 hk8
          have p5 : (kd == 5) = false := beq_eq_false_iff_ne.2 hk5
          have pn : (((j : Int) + 1) == (n : Int) - 1) = false := by
            have : ¬ (j + 1) + 1 = n := fun h => hk8 (h8.2 h)
            simp; omega
          have hs2 : tb <+: x.drop c0 := by unfold Pl.shown at hsh; rw [if_neg hk5] at hsh; exact hsh
          have HSH := Lib.hid (show ((Pl.mk tb).toList.isPrefixOf (x.drop c0)) = true from by rw [Pl.mk_toList]; exact List.isPrefixOf_iff_prefix.2 hs2)
          generalize Pl.mk tb = sh at a1 HSH
          clear h5t htl hsh hs2 h8 hk8 hk5
          go_wp2_with fail
          have hkb := blk_new wr #[.int .i64 kd, .string sh, .int .i64 li, .int .i64 co] 34
          have hba : Below wr.heap.size wr (wr.alloc (.cells #[.int .i64 kd, .string sh, .int .i64 li, .int .i64 co] 34)) := (Below.refl _ _).alloc (Nat.le_refl _) _
          generalize wr.alloc (.cells #[.int .i64 kd, .string sh, .int .i64 li, .int .i64 co] 34) = wa at hkb hba ⊢
          refine (HREST.out _ hba).mono ?_
          rintro e w2 ⟨⟨r, rfl, hr⟩, hb2⟩
          have hk2 := hkb.below hb2 hkb.lt
          have HBA := Lib.hid (hba.trans (hb2.mono hba.size))
          obtain ⟨t0, t1, t2, t3, -, -, -, -⟩ := tkAt_of hk2
          have HK2 := Lib.hid hk2
          have HP := Lib.hid (show (sh.toList.isPrefixOf r.toList) = true from by rw [hr]; exact HSH.out)
          clear hkb hba hb2 hk2 hr
          have HB3 := HBA
          go_wp2_with fail
          refine (hasPrefix_any _ _ _).mono ?_
          rintro e w' ⟨rfl, rfl⟩
          rw [HP.out]
          have z2' := (HB3.out.cell (p := ⟨b, off + j * 4 + 2, none⟩) hbr).trans z2
          have z3' := (HB3.out.cell (p := ⟨b, off + j * 4 + 3, none⟩) hbr).trans z3
          clear z2 z3
          go_wp2_with fail
          rcases hrj with hrj | ⟨hrj, hrj2⟩
          · have y1 : decide (li < pl) = false := by simp; omega
            have y2 : (li == pl) = false := by simp; omega
            go_quiet (fail)
            go_wp2
            go_roundg (gk - 1)
            case measure => omega
            case rel => exact ⟨(j + 1) + 1, by omega, by go_num, by omega, below_drewN (HBW.out.trans (HB3.out.mono HBW.out.size)) _⟩
          · have y1 : decide (li < pl) = false := by simp; omega
            have y2 : (li == pl) = true := by simp; omega
            have y3 : decide (co ≤ pc) = false := by simp; omega
            go_quiet (fail)
            go_wp2
            go_roundg (gk - 1)
            case measure => omega
            case rel => exact ⟨(j + 1) + 1, by omega, by go_num, by omega, below_drewN (HBW.out.trans (HB3.out.mono HBW.out.size)) _⟩
    · have hkn : k = n := by omega
      have HKN := Lib.hid hkn
      have HBW := Lib.hid hb
      have q9 : decide (0 < n) = true := decide_eq_true (by omega)
      clear hkn hb
      go_wp2
      go_ret
      exact ⟨rfl, HB2.out.trans ((HWE.out.trans (HBW.out.mono HWE.out.size)).mono HB2.out.size)⟩
end Go.Proofs.YtbmkbenlhkcklaaDoor
