/-
  Walks and plain mathematics, several texts in one (Ek).
-/
import Derived.Test.YtjedahcpkcgpeaaGreatDoorH16
import Derived.Test.YtjedahcpkcgpeaaGreatDoorH2
import Derived.Lib.AtoiErrMem
/-
  Walks of layer 4: a number, an argument of a pattern, an atom.
-/
namespace Go.Proofs.YtjedahcpkcgpeaaGreatDoor
open Go Go.RowKit
set_option linter.unusedSimpArgs false
theorem Pl.parse_val : ∀ (l : Pl.Bytes) (n : Nat), Pl.digits l = true → l.foldl Pl.step (n : Int) ≤ 4503599627370496 → Lib.parseUint10 n l = .ok (l.foldl Pl.step (n : Int)).toNat ∧ 0 ≤ l.foldl Pl.step (n : Int) := by
  intro l
  induction l with
  | nil => intro n _ _; exact ⟨rfl, Int.natCast_nonneg n⟩
  | cons b r ih =>
    intro n hd hv
    rw [Pl.digits, List.all_cons, Bool.and_eq_true] at hd
    have hb := Pl.digit_of b hd.1
    rw [List.foldl_cons] at hv ⊢
    have hmono : ∀ (l : Pl.Bytes) (a : Int), l.all Pl.digitB = true → 4503599627370497 ≤ a → 4503599627370497 ≤ l.foldl Pl.step a := by
      intro l
      induction l with
      | nil => intro a _ h; exact h
      | cons c l ih2 =>
        intro a hl h
        rw [List.all_cons, Bool.and_eq_true] at hl
        have hc := Pl.digit_of c hl.1
        rw [List.foldl_cons]
        exact ih2 _ hl.2 (by unfold Pl.step; omega)
    rcases Int.lt_or_le 4503599627370496 (10 * n + ((b.toNat : Int) - 48)) with hbig | hsm
    · have := hmono r (Pl.step n b) hd.2 (by unfold Pl.step; omega)
      omega
    · have he : Pl.step (n : Int) b = ((10 * n + (b.toNat - 48) : Nat) : Int) := by unfold Pl.step; omega
      rw [he] at hv ⊢
      have h1 := ih _ hd.2 hv
      refine ⟨?_, h1.2⟩
      rw [Lib.parseUint10, if_pos ⟨by omega, by omega⟩, if_neg (by omega), if_neg (by omega)]
      rw [show n * 10 + (b.toNat - 48) = 10 * n + (b.toNat - 48) from by omega]
      exact h1.1
theorem Pl.atoi_of {l : Pl.Bytes} (h : (Pl.number l).2 = 0) : Lib.atoiAll l = .ok (Pl.number l).1 ∧ 0 ≤ (Pl.number l).1 ∧ (Pl.number l).1 ≤ 4503599627370496 := by
  unfold Pl.number at h ⊢
  by_cases hz : Pl.zeroed l = true
  · rw [if_pos hz] at h; exact absurd h (by decide)
  rw [if_neg hz] at h ⊢
  by_cases hd : Pl.digits l = true
  · rw [if_pos hd] at h ⊢
    by_cases hv : 4503599627370496 < Pl.val l
    · rw [if_pos hv] at h; exact absurd h (by decide)
    · rw [if_neg hv]
      have hp := Pl.parse_val l 0 hd (by have : ¬ 4503599627370496 < l.foldl Pl.step 0 := hv; simpa using this)
      have hp0 : 0 ≤ Pl.val l := hp.2
      refine ⟨?_, hp0, by omega⟩
      cases l with
      | nil => exact absurd rfl hz
      | cons c r =>
        have hd' := hd
        rw [Pl.digits, List.all_cons, Bool.and_eq_true] at hd'
        have hc := Pl.digit_of c hd'.1
        have h1 : ¬ (c.toNat = 43 ∨ c.toNat = 45) := by omega
        have h2 : ¬ c.toNat = 45 := by omega
        have hpp : Lib.parseMag (c :: r) = .ok (Pl.val (c :: r)).toNat := by
          unfold Lib.parseMag
          rw [if_neg (by simp)]
          exact hp.1
        have h1a : ¬ c.toNat = 43 := by omega
        simp only [Lib.atoiAll, h2, h1a, or_self, if_false, hpp, not_false_eq_true, true_and, false_and]
        rw [if_neg (by omega)]
        congr 1
        show ((Pl.val (c :: r)).toNat : Int) = Pl.val (c :: r)
        omega
  · rw [if_neg hd] at h; exact absurd h (by decide)
def NumsOk (s : Src) : Prop := ∀ t ∈ s.ts, t.kind = 4 → (Pl.number t.text).2 = 0 ∧ t.text.length ≤ 1099511627776
def numOfText (b : Pl.Bytes) : Int := (Pl.number b).1
theorem nums_at {s : Src} (h : NumsOk s) {i : Nat} (hk : (Pl.tkAt s.ts i).kind = 4) : (Pl.number (Pl.tkAt s.ts i).text).2 = 0 ∧ (Pl.tkAt s.ts i).text.length ≤ 1099511627776 := by
  unfold Pl.tkAt at hk ⊢
  rcases Nat.lt_or_ge i s.ts.length with hlt | hge
  · simp only [List.getD, List.getElem?_eq_getElem hlt, Option.getD_some] at hk ⊢
    exact h _ (List.getElem_mem hlt) hk
  · simp [List.getD, List.getElem?_eq_none hge] at hk
def NumOut (s : Src) (g : Nat) (r : Pl.PR Int) (w : World) (e : Ending) (w' : World) : Prop :=
  (match r with
    | .ok v j => e = .returned (.int .i64 v) ∧ PAt w' g s j ∧ 0 ≤ v ∧ v ≤ 4503599627370496
    | .bad j => e = faultAt s j) ∧ Fr (· = g) (· = g) w w'
theorem NumOut.split {s : Src} {g : Nat} {w w' : World} {r : Pl.PR Int} {e : Ending} (h : NumOut s g r w e w') :
    (∃ j, r = .bad j ∧ e = faultAt s j ∧ Fr (· = g) (· = g) w w') ∨ (∃ v j, r = .ok v j ∧ e = .returned (.int .i64 v) ∧ 0 ≤ v ∧ v ≤ 4503599627370496 ∧ PAt w' g s j ∧ Fr (· = g) (· = g) w w') := by
  obtain ⟨h, hf⟩ := h
  cases r with
  | bad j => exact .inl ⟨j, rfl, h, hf⟩
  | ok v j => exact .inr ⟨v, j, rfl, h.1, h.2.2.1, h.2.2.2, h.2.1, hf⟩
theorem bytes_world {w w' : World} {T : TypeId} (h : w' = w ∨ ∃ t, w' = Lib.bytesWorld w T t) : Below w.heap.size w w' := by
  rcases h with rfl | ⟨t, rfl⟩
  · exact Below.refl _ _
  · exact Lib.bytesWorld_below w T t
set_option maxRecDepth 100000 in
set_option maxHeartbeats 4000000 in
theorem pnumber_any (s : Src) (g i : Nat) (w : World) (h : PAt w g s i) (hn : NumsOk s) : Calls Tryz.prog 115 #[.pointer (some ⟨g, 0, none⟩)] w (NumOut s g ((Pl.takeK s.ts 4 i).then fun t j => .ok (numOfText t) j) w) := by
  have HP := Lib.hid h
  have HN := Lib.hid hn
  obtain ⟨r, hr⟩ : ∃ r, r = (Pl.takeK s.ts 4 i).then fun t j => (.ok (numOfText t) j : Pl.PR Int) := ⟨_, rfl⟩
  rw [← hr]
  have HR := Lib.hid hr
  clear h hr hn
  go_enter Tryz.func115, Tryz.ntmps115
  go_wp2_with fail
  refine (ptake_any s g i 4 (by decide) _ HP.out).mono ?_
  rintro e w1 ho
  rcases TakeOut.split ho with ⟨q, hri, rfl, hf⟩ | ⟨t1, q, hri, rfl, hp, hf⟩
  · refine ⟨rfl, ?_⟩
    rw [show r = .bad q from HR.out.trans (by rw [hri, Pl.PR.then_bad])]
    exact ⟨rfl, hf⟩
  have hk : (Pl.tkAt s.ts i).kind = 4 := by
    unfold Pl.takeK at hri
    split at hri
    · assumption
    · cases hri
  have ht : t1 = (Pl.tkAt s.ts i).text := by
    unfold Pl.takeK at hri
    rw [if_pos hk] at hri
    injection hri with h1 h2
    exact h1.symm
  have hna := nums_at HN.out hk
  rw [← ht] at hna
  have hv := Pl.atoi_of hna.1
  rw [hri, Pl.PR.then_ok] at HR
  have hsz : (Pl.mk t1).size ≤ 1099511627776 := by
    show t1.toArray.size ≤ _
    rw [List.size_toArray]
    exact hna.2
  have HV := Lib.hid hv.2
  have HA := Lib.hid (Tryz.strconv_Atoi_ok (Pl.mk t1) (by omega) (Pl.number t1).1 hv.1 w1)
  have HP1 := Lib.hid hp
  have HF1 := Lib.hid hf
  have hnum : numOfText t1 = (Pl.number t1).1 := rfl
  rw [hnum] at HR
  generalize (Pl.number t1).1 = v at *
  generalize Pl.mk t1 = z at *
  clear ho hp hf hri hk ht hv hsz hnum hna
  go_wp2_with fail
  refine HA.out.mono ?_
  rintro e w2 ⟨rfl, hw⟩
  have HB := Lib.hid (bytes_world hw)
  have HR2 := Lib.hid HR.out
  clear hw
  go_wp2
  go_ret
  rw [HR.out]
  exact ⟨⟨rfl, HP1.out.below HB.out, HV.out.1, HV.out.2⟩, HF1.out.trans (fr_below HB.out)⟩
theorem pnumber_is (s : Src) (g i : Nat) (hk : (Pl.tkAt s.ts i).kind = 4) (w : World) (h : PAt w g s i) (hn : NumsOk s) : Calls Tryz.prog 115 #[.pointer (some ⟨g, 0, none⟩)] w fun e w' => e = .returned (.int .i64 (numOfText (Pl.tkAt s.ts i).text)) ∧ PAt w' g s (i + 1) ∧ Fr (· = g) (· = g) w w' := by
  have := pnumber_any s g i w h hn
  unfold NumOut Pl.takeK at this
  rw [if_pos hk, Pl.PR.then_ok] at this
  exact this.mono fun e w' ⟨⟨a, b, _⟩, c⟩ => ⟨a, b, c⟩
theorem neg_bad {l : List Pl.Tok} {i j : Nat} (h : ((Pl.takeK l 4 i).then fun t j => (.ok (numOfText t) j : Pl.PR Int)) = .bad j) : ((Pl.takeK l 4 i).then fun t j => (.ok (Pl.ndNum 13 (-(numOfText t))) j : Pl.PR Pl.Syn)) = .bad j := by
  cases hq : Pl.takeK l 4 i with
  | bad q => rw [hq, Pl.PR.then_bad] at h; rw [Pl.PR.then_bad]; injection h with h; rw [h]
  | ok t q => rw [hq, Pl.PR.then_ok] at h; cases h
theorem neg_ok {l : List Pl.Tok} {i j : Nat} {v : Int} (h : ((Pl.takeK l 4 i).then fun t j => (.ok (numOfText t) j : Pl.PR Int)) = .ok v j) : ((Pl.takeK l 4 i).then fun t j => (.ok (Pl.ndNum 13 (-(numOfText t))) j : Pl.PR Pl.Syn)) = .ok (Pl.ndNum 13 (-v)) j := by
  cases hq : Pl.takeK l 4 i with
  | bad q => rw [hq, Pl.PR.then_bad] at h; cases h
  | ok t q => rw [hq, Pl.PR.then_ok] at h; rw [Pl.PR.then_ok]; injection h with h1 h2; rw [h1, h2]
set_option maxRecDepth 100000 in
set_option maxHeartbeats 8000000 in
theorem pargument_any (s : Src) (g i : Nat) (F : Pl.Fs) (hco : ∀ W j, i < j → PAt W g s j → Calls Tryz.prog 116 #[.pointer (some ⟨g, 0, none⟩)] W (TreeOut s g (F.comps j) W)) (hnu : NumsOk s) (w : World) (h : PAt w g s i) (hbig : s.ts.length ≤ 536870912) :
    Calls Tryz.prog 70 #[.pointer (some ⟨g, 0, none⟩)] w (TreeOut s g (Pl.argB s.ts numOfText F i) w) := by
  have HP := Lib.hid h
  have HG := Lib.hid h.blk.lt
  have Hco := Lib.hid hco
  have Hnu := Lib.hid hnu
  obtain ⟨r, hr⟩ : ∃ r, r = Pl.argB s.ts numOfText F i := ⟨_, rfl⟩
  rw [← hr]
  have HR := Lib.hid hr
  rw [Pl.argB] at HR
  have HF := Lib.hid (Fr.refl (· = g) w)
  obtain ⟨B, hB⟩ : ∃ B, B = w.heap.size + 1 := ⟨_, rfl⟩
  have HGB := Lib.hid (show g < B from by have := HG.out; omega)
  have HXB := Lib.hid (show w.heap.size < B from by omega)
  have HX := Lib.hid (blk_new w #[.int .i64 0, .int .i64 0, .string ⟨#[]⟩, .slice none 0 0, .slice none 0 0] 27)
  have HXL := Lib.hid (Nat.le_refl w.heap.size)
  have hn := fr_new g w (.cells #[.int .i64 0, .int .i64 0, .string ⟨#[]⟩, .slice none 0 0, .slice none 0 0] 27)
  replace HF := Lib.hid (HF.out.trans hn)
  have HW := Lib.hid (show B ≤ (w.alloc (.cells #[.int .i64 0, .int .i64 0, .string ⟨#[]⟩, .slice none 0 0, .slice none 0 0] 27)).heap.size from by rw [hB]; simp)
  replace HP := Lib.hid (HP.out.below ((Below.refl _ _).alloc (Nat.le_refl _) (.cells #[.int .i64 0, .int .i64 0, .string ⟨#[]⟩, .slice none 0 0, .slice none 0 0] 27)))
  clear h hr hn hB hco hnu
  go_enter Tryz.func70, Tryz.ntmps70
  go_wp2_with fail
  generalize w.alloc (.cells #[.int .i64 0, .int .i64 0, .string ⟨#[]⟩, .slice none 0 0, .slice none 0 0] 27) = w1 at *
  refine (ptoken_any s g i _ HP.out).mono ?_
  rintro e w2 ho
  obtain ⟨li, co, rfl, hp, hf⟩ := TokenOut.split ho HP.out
  replace HF := Lib.hid (HF.out.trans hf)
  replace HW := Lib.hid (Nat.le_trans HW.out (Fr.size hf))
  replace HX := Lib.hid (blk_fr HX.out (by have := HXL.out; have := HG.out; omega) hf)
  replace HP := Lib.hid (hp)
  clear ho hp hf
  obtain ⟨tk, htk⟩ : ∃ tk, tk = (Pl.tkAt s.ts i).kind := ⟨_, rfl⟩
  obtain ⟨tx, htx⟩ : ∃ tx, tx = Pl.mk (Pl.tkAt s.ts i).text := ⟨_, rfl⟩
  rw [← htk, ← htx]
  rw [← htk] at HR
  have HTK := Lib.hid htk
  have HTX := Lib.hid htx
  clear htk htx
  have hfl : ∀ W, Sem.run Tryz.prog (Instr.field 45 (.agg #[.int .i64 tk, .string tx, .int .i64 li, .int .i64 co]) 0) W = .ok (.int .i64 tk) W := fun _ => rfl
  cases hk2 : (tk == 2)
  · have hkk : ¬ tk = 2 := by simpa using hk2
    rw [if_neg hkk] at HR
    clear hkk
    cases hk3 : (tk == 4)
    · have hkk : ¬ tk = 4 := by simpa using hk3
      rw [if_neg hkk] at HR
      clear hkk
      go_wp2_with fail
      clear hfl
      cases hpb4 : Pl.passes s.ts i [95]
      · refine (ppass_not (by decide) HP.out hpb4).mono ?_
        rintro e w3 ⟨rfl, hp, hf⟩
        rw [hpb4, if_neg Bool.false_ne_true] at HR
        replace HF := Lib.hid (HF.out.trans hf)
        replace HW := Lib.hid (Nat.le_trans HW.out (Fr.size hf))
        replace HX := Lib.hid (blk_fr HX.out (by have := HXL.out; have := HG.out; omega) hf)
        replace HP := Lib.hid (hp)
        clear hp hf
        go_wp2_with fail
        cases hpb5 : Pl.passes s.ts i [126]
        · refine (ppass_not (by decide) HP.out hpb5).mono ?_
          rintro e w4 ⟨rfl, hp, hf⟩
          rw [hpb5, if_neg Bool.false_ne_true] at HR
          replace HF := Lib.hid (HF.out.trans hf)
          replace HW := Lib.hid (Nat.le_trans HW.out (Fr.size hf))
          replace HX := Lib.hid (blk_fr HX.out (by have := HXL.out; have := HG.out; omega) hf)
          replace HP := Lib.hid (hp)
          clear hp hf
          go_wp2_with fail
          cases hpb6 : Pl.passes s.ts i [40]
          · refine (ppass_not (by decide) HP.out hpb6).mono ?_
            rintro e w5 ⟨rfl, hp, hf⟩
            rw [hpb6, if_neg Bool.false_ne_true] at HR
            replace HF := Lib.hid (HF.out.trans hf)
            replace HW := Lib.hid (Nat.le_trans HW.out (Fr.size hf))
            replace HX := Lib.hid (blk_fr HX.out (by have := HXL.out; have := HG.out; omega) hf)
            replace HP := Lib.hid (hp)
            clear hp hf
            go_wp2_with fail
            refine (ptake_any s g i 1 (by decide) _ HP.out).mono ?_
            rintro e w6 ho
            rcases TakeOut.split ho with ⟨q7, hri7, rfl, hf⟩ | ⟨t1, q7, hri7, rfl, hp, hf⟩
            · exact ⟨rfl, tree_bad (HR.out.trans (by rw [hri7, Pl.PR.then_bad])) (HF.out.trans hf)⟩
            have hgo7 := take_next hri7
            have HLs := Lib.hid (take_len HP.out hri7)
            rw [hri7, Pl.PR.then_ok] at HR
            replace HF := Lib.hid (HF.out.trans hf)
            replace HW := Lib.hid (Nat.le_trans HW.out (Fr.size hf))
            replace HX := Lib.hid (blk_fr HX.out (by have := HXL.out; have := HG.out; omega) hf)
            replace HP := Lib.hid (hp)
            clear ho hp hf
            have HU := Lib.hid (tree_of (W := w6) (B := B) (op := 12) (n := 0) HLs.out (strs_none _ _) (syns_none _ _))
            obtain ⟨hxc0, hxc1, hxc2, hxc3, hxc4⟩ := five_cells HX.out
            have hxf0 := HX.out.thaw 0
            have hxf1 := HX.out.thaw 1
            have hxf2 := HX.out.thaw 2
            have hxf3 := HX.out.thaw 3
            have hxf4 := HX.out.thaw 4
            go_wp2_with fail
            have HEN := putFive_blk HX.out (.int .i64 12) (.int .i64 0) (.string (Pl.mk t1)) (.slice none 0 0) (.slice none 0 0)
            have HFI := tree_fin HG.out HF.out HU.out HXB.out HP.out (.int .i64 12) (.int .i64 0) (.string (Pl.mk t1)) (.slice none 0 0) (.slice none 0 0)
            unfold putFive at HEN HFI
            obtain ⟨k0, k1, k2, k3, k4⟩ := five_cells HEN
            refine bodyPost_ret (v := .agg #[.int .i64 12, .int .i64 0, .string (Pl.mk t1), .slice none 0 0, .slice none 0 0]) (by simp [results, Tryz.results70, go_sem, k0, k1, k2, k3, k4]) rfl ?_
            exact tree_ok HR.out HFI
          · refine (ppass_yes (by decide) HP.out hpb6).mono ?_
            rintro e w7 ⟨rfl, hp, hf⟩
            rw [hpb6, if_pos rfl] at HR
            replace HF := Lib.hid (HF.out.trans hf)
            replace HW := Lib.hid (Nat.le_trans HW.out (Fr.size hf))
            replace HX := Lib.hid (blk_fr HX.out (by have := HXL.out; have := HG.out; omega) hf)
            replace HP := Lib.hid (hp)
            clear hp hf
            go_wp2_with fail
            refine (Hco.out _ _ (by omega) HP.out).mono ?_
            rintro e w8 ho
            rcases TreeOut.split ho with ⟨q8, hri8, rfl, hf⟩ | ⟨ty, q8, y0, y1, y2, ya, yl, yc, yd, ye, yf, hri8, rfl, ht, hp, hf⟩
            · exact ⟨rfl, tree_bad (HR.out.trans hri8) (HF.out.trans hf)⟩
            replace HR := Lib.hid (HR.out.trans hri8)
            have HTy := Lib.hid (ht.mono (own_low HW.out))
            replace HF := Lib.hid (HF.out.trans hf)
            replace HW := Lib.hid (Nat.le_trans HW.out (Fr.size hf))
            replace HX := Lib.hid (blk_fr HX.out (by have := HXL.out; have := HG.out; omega) hf)
            replace HP := Lib.hid (hp)
            clear ho hp hf ht hri8
            obtain ⟨hxc0, hxc1, hxc2, hxc3, hxc4⟩ := five_cells HX.out
            have hxf0 := HX.out.thaw 0
            have hxf1 := HX.out.thaw 1
            have hxf2 := HX.out.thaw 2
            have hxf3 := HX.out.thaw 3
            have hxf4 := HX.out.thaw 4
            go_wp2_with fail
            have HEN := putFive_blk HX.out (.int .i64 y0) (.int .i64 y1) (.string y2) (.slice ya yl yc) (.slice yd ye yf)
            have HFI := tree_fin HG.out HF.out HTy.out HXB.out HP.out (.int .i64 y0) (.int .i64 y1) (.string y2) (.slice ya yl yc) (.slice yd ye yf)
            unfold putFive at HEN HFI
            obtain ⟨k0, k1, k2, k3, k4⟩ := five_cells HEN
            refine bodyPost_ret (v := .agg #[.int .i64 y0, .int .i64 y1, .string y2, .slice ya yl yc, .slice yd ye yf]) (by simp [results, Tryz.results70, go_sem, k0, k1, k2, k3, k4]) rfl ?_
            exact tree_ok HR.out HFI
        · refine (ppass_yes (by decide) HP.out hpb5).mono ?_
          rintro e w9 ⟨rfl, hp, hf⟩
          rw [hpb5, if_pos rfl] at HR
          replace HF := Lib.hid (HF.out.trans hf)
          replace HW := Lib.hid (Nat.le_trans HW.out (Fr.size hf))
          replace HX := Lib.hid (blk_fr HX.out (by have := HXL.out; have := HG.out; omega) hf)
          replace HP := Lib.hid (hp)
          clear hp hf
          go_wp2_with fail
          refine (pnumber_any s g (i + 1) _ HP.out Hnu.out).mono ?_
          rintro e w10 ho
          rcases NumOut.split ho with ⟨q9, hri, rfl, hf⟩ | ⟨nv, q9, hri, rfl, hn0, hn1, hp, hf⟩
          · exact ⟨rfl, tree_bad (HR.out.trans (neg_bad hri)) (HF.out.trans hf)⟩
          replace HR := Lib.hid (HR.out.trans (neg_ok hri))
          replace HF := Lib.hid (HF.out.trans hf)
          replace HW := Lib.hid (Nat.le_trans HW.out (Fr.size hf))
          replace HX := Lib.hid (blk_fr HX.out (by have := HXL.out; have := HG.out; omega) hf)
          replace HP := Lib.hid (hp)
          clear ho hp hf hri
          have HU := Lib.hid (tree_of (W := w10) (B := B) (op := 13) (n := (-nv)) (tx := ByteArray.empty) (Nat.zero_le _) (strs_none _ _) (syns_none _ _))
          obtain ⟨hxc0, hxc1, hxc2, hxc3, hxc4⟩ := five_cells HX.out
          have hxf0 := HX.out.thaw 0
          have hxf1 := HX.out.thaw 1
          have hxf2 := HX.out.thaw 2
          have hxf3 := HX.out.thaw 3
          have hxf4 := HX.out.thaw 4
          go_wp2_with fail
          have HEN := putFive_blk HX.out (.int .i64 13) (.int .i64 (-nv)) (.string ⟨#[]⟩) (.slice none 0 0) (.slice none 0 0)
          have HFI := tree_fin HG.out HF.out HU.out HXB.out HP.out (.int .i64 13) (.int .i64 (-nv)) (.string ⟨#[]⟩) (.slice none 0 0) (.slice none 0 0)
          unfold putFive at HEN HFI
          obtain ⟨k0, k1, k2, k3, k4⟩ := five_cells HEN
          refine bodyPost_ret (v := .agg #[.int .i64 13, .int .i64 (-nv), .string ⟨#[]⟩, .slice none 0 0, .slice none 0 0]) (by simp [results, Tryz.results70, go_sem, k0, k1, k2, k3, k4]) rfl ?_
          exact tree_ok HR.out HFI
      · refine (ppass_yes (by decide) HP.out hpb4).mono ?_
        rintro e w11 ⟨rfl, hp, hf⟩
        rw [hpb4, if_pos rfl] at HR
        replace HF := Lib.hid (HF.out.trans hf)
        replace HW := Lib.hid (Nat.le_trans HW.out (Fr.size hf))
        replace HX := Lib.hid (blk_fr HX.out (by have := HXL.out; have := HG.out; omega) hf)
        replace HP := Lib.hid (hp)
        clear hp hf
        have HU := Lib.hid (tree_of (W := w11) (B := B) (op := 11) (n := 0) (tx := ByteArray.empty) (Nat.zero_le _) (strs_none _ _) (syns_none _ _))
        obtain ⟨hxc0, hxc1, hxc2, hxc3, hxc4⟩ := five_cells HX.out
        have hxf0 := HX.out.thaw 0
        have hxf1 := HX.out.thaw 1
        have hxf2 := HX.out.thaw 2
        have hxf3 := HX.out.thaw 3
        have hxf4 := HX.out.thaw 4
        go_wp2_with fail
        have HEN := putFive_blk HX.out (.int .i64 11) (.int .i64 0) (.string ⟨#[]⟩) (.slice none 0 0) (.slice none 0 0)
        have HFI := tree_fin HG.out HF.out HU.out HXB.out HP.out (.int .i64 11) (.int .i64 0) (.string ⟨#[]⟩) (.slice none 0 0) (.slice none 0 0)
        unfold putFive at HEN HFI
        obtain ⟨k0, k1, k2, k3, k4⟩ := five_cells HEN
        refine bodyPost_ret (v := .agg #[.int .i64 11, .int .i64 0, .string ⟨#[]⟩, .slice none 0 0, .slice none 0 0]) (by simp [results, Tryz.results70, go_sem, k0, k1, k2, k3, k4]) rfl ?_
        exact tree_ok HR.out HFI
    · have hkk : tk = 4 := by simpa using hk3
      rw [if_pos hkk] at HR
      have HKK := Lib.hid hkk
      clear hkk
      go_wp2_with fail
      clear hfl
      refine (pnumber_is s g i (HTK.out.symm.trans HKK.out) _ HP.out Hnu.out).mono ?_
      rintro e w12 ⟨rfl, hp, hf⟩
      obtain ⟨nv, hnv⟩ : ∃ nv, nv = numOfText (Pl.tkAt s.ts i).text := ⟨_, rfl⟩
      rw [← hnv] at HR ⊢
      clear hnv
      replace HF := Lib.hid (HF.out.trans hf)
      replace HW := Lib.hid (Nat.le_trans HW.out (Fr.size hf))
      replace HX := Lib.hid (blk_fr HX.out (by have := HXL.out; have := HG.out; omega) hf)
      replace HP := Lib.hid (hp)
      clear hp hf
      have HU := Lib.hid (tree_of (W := w12) (B := B) (op := 13) (n := nv) (tx := ByteArray.empty) (Nat.zero_le _) (strs_none _ _) (syns_none _ _))
      obtain ⟨hxc0, hxc1, hxc2, hxc3, hxc4⟩ := five_cells HX.out
      have hxf0 := HX.out.thaw 0
      have hxf1 := HX.out.thaw 1
      have hxf2 := HX.out.thaw 2
      have hxf3 := HX.out.thaw 3
      have hxf4 := HX.out.thaw 4
      go_wp2_with fail
      have HEN := putFive_blk HX.out (.int .i64 13) (.int .i64 nv) (.string ⟨#[]⟩) (.slice none 0 0) (.slice none 0 0)
      have HFI := tree_fin HG.out HF.out HU.out HXB.out HP.out (.int .i64 13) (.int .i64 nv) (.string ⟨#[]⟩) (.slice none 0 0) (.slice none 0 0)
      unfold putFive at HEN HFI
      obtain ⟨k0, k1, k2, k3, k4⟩ := five_cells HEN
      refine bodyPost_ret (v := .agg #[.int .i64 13, .int .i64 nv, .string ⟨#[]⟩, .slice none 0 0, .slice none 0 0]) (by simp [results, Tryz.results70, go_sem, k0, k1, k2, k3, k4]) rfl ?_
      exact tree_ok HR.out HFI
  · have hkk : tk = 2 := by simpa using hk2
    rw [if_pos hkk] at HR
    have HKK := Lib.hid hkk
    clear hkk
    go_wp2_with fail
    clear hfl
    refine (pmodulePath_any s g i _ HP.out hbig).mono ?_
    rintro e w13 ho
    rcases NamesOut.split ho with ⟨q10, hri10, rfl, hf⟩ | ⟨nx, q10, nax, ncx, hri10, rfl, hs, hp, hf⟩
    · exact ⟨rfl, tree_bad (HR.out.trans (by rw [hri10, Pl.PR.then_bad])) (HF.out.trans hf)⟩
    have HNx := Lib.hid (hs.mono (own_low HW.out))
    have hgo10 := Pl.after_mpath _ _ _ _ hri10
    rw [hri10, Pl.PR.then_ok] at HR
    replace HF := Lib.hid (HF.out.trans hf)
    replace HW := Lib.hid (Nat.le_trans HW.out (Fr.size hf))
    replace HX := Lib.hid (blk_fr HX.out (by have := HXL.out; have := HG.out; omega) hf)
    replace HP := Lib.hid (hp)
    clear ho hp hf
    clear hs
    obtain ⟨nlx, hnl⟩ : ∃ nl, nl = nx.length := ⟨_, rfl⟩
    rw [← hnl] at HNx ⊢
    clear hnl
    have HU := Lib.hid (tree_of (W := w13) (B := B) (op := 14) (n := 0) (tx := ByteArray.empty) (Nat.zero_le _) HNx.out (syns_none _ _))
    obtain ⟨hxc0, hxc1, hxc2, hxc3, hxc4⟩ := five_cells HX.out
    have hxf0 := HX.out.thaw 0
    have hxf1 := HX.out.thaw 1
    have hxf2 := HX.out.thaw 2
    have hxf3 := HX.out.thaw 3
    have hxf4 := HX.out.thaw 4
    go_wp2_with fail
    have HEN := putFive_blk HX.out (.int .i64 14) (.int .i64 0) (.string ⟨#[]⟩) (.slice nax nlx ncx) (.slice none 0 0)
    have HFI := tree_fin HG.out HF.out HU.out HXB.out HP.out (.int .i64 14) (.int .i64 0) (.string ⟨#[]⟩) (.slice nax nlx ncx) (.slice none 0 0)
    unfold putFive at HEN HFI
    obtain ⟨k0, k1, k2, k3, k4⟩ := five_cells HEN
    refine bodyPost_ret (v := .agg #[.int .i64 14, .int .i64 0, .string ⟨#[]⟩, .slice nax nlx ncx, .slice none 0 0]) (by simp [results, Tryz.results70, go_sem, k0, k1, k2, k3, k4]) rfl ?_
    exact tree_ok HR.out HFI
set_option maxRecDepth 100000 in
set_option maxHeartbeats 8000000 in
theorem patom_any (s : Src) (g i : Nat) (F : Pl.Fs) (hen : ∀ W j, i < j → PAt W g s j → Calls Tryz.prog 153 #[.pointer (some ⟨g, 0, none⟩)] W (TreeOut s g (F.encl j) W)) (hle : ∀ W j, i < j → PAt W g s j → Calls Tryz.prog 154 #[.pointer (some ⟨g, 0, none⟩)] W (TreeOut s g (F.letE j) W)) (hma : ∀ W j, i < j → PAt W g s j → Calls Tryz.prog 155 #[.pointer (some ⟨g, 0, none⟩)] W (TreeOut s g (F.matchE j) W)) (hnu : NumsOk s) (w : World) (h : PAt w g s i) (hbig : s.ts.length ≤ 536870912) :
    Calls Tryz.prog 147 #[.pointer (some ⟨g, 0, none⟩)] w (TreeOut s g (Pl.atomB s.ts numOfText F i) w) := by
  have HP := Lib.hid h
  have HG := Lib.hid h.blk.lt
  have Hen := Lib.hid hen
  have Hle := Lib.hid hle
  have Hma := Lib.hid hma
  have Hnu := Lib.hid hnu
  obtain ⟨r, hr⟩ : ∃ r, r = Pl.atomB s.ts numOfText F i := ⟨_, rfl⟩
  rw [← hr]
  have HR := Lib.hid hr
  rw [Pl.atomB] at HR
  have HF := Lib.hid (Fr.refl (· = g) w)
  obtain ⟨B, hB⟩ : ∃ B, B = w.heap.size + 1 := ⟨_, rfl⟩
  have HGB := Lib.hid (show g < B from by have := HG.out; omega)
  have HXB := Lib.hid (show w.heap.size < B from by omega)
  have HX := Lib.hid (blk_new w #[.int .i64 0, .int .i64 0, .string ⟨#[]⟩, .slice none 0 0, .slice none 0 0] 27)
  have HXL := Lib.hid (Nat.le_refl w.heap.size)
  have hn := fr_new g w (.cells #[.int .i64 0, .int .i64 0, .string ⟨#[]⟩, .slice none 0 0, .slice none 0 0] 27)
  replace HF := Lib.hid (HF.out.trans hn)
  have HW := Lib.hid (show B ≤ (w.alloc (.cells #[.int .i64 0, .int .i64 0, .string ⟨#[]⟩, .slice none 0 0, .slice none 0 0] 27)).heap.size from by rw [hB]; simp)
  replace HP := Lib.hid (HP.out.below ((Below.refl _ _).alloc (Nat.le_refl _) (.cells #[.int .i64 0, .int .i64 0, .string ⟨#[]⟩, .slice none 0 0, .slice none 0 0] 27)))
  clear h hr hn hB hen hle hma hnu
  go_enter Tryz.func147, Tryz.ntmps147
  go_wp2_with fail
  generalize w.alloc (.cells #[.int .i64 0, .int .i64 0, .string ⟨#[]⟩, .slice none 0 0, .slice none 0 0] 27) = w1 at *
  refine (ptoken_any s g i _ HP.out).mono ?_
  rintro e w2 ho
  obtain ⟨li, co, rfl, hp, hf⟩ := TokenOut.split ho HP.out
  replace HF := Lib.hid (HF.out.trans hf)
  replace HW := Lib.hid (Nat.le_trans HW.out (Fr.size hf))
  replace HX := Lib.hid (blk_fr HX.out (by have := HXL.out; have := HG.out; omega) hf)
  replace HP := Lib.hid (hp)
  clear ho hp hf
  obtain ⟨tk, htk⟩ : ∃ tk, tk = (Pl.tkAt s.ts i).kind := ⟨_, rfl⟩
  obtain ⟨tx, htx⟩ : ∃ tx, tx = Pl.mk (Pl.tkAt s.ts i).text := ⟨_, rfl⟩
  rw [← htk, ← htx]
  rw [← htk] at HR
  have HTK := Lib.hid htk
  have HTX := Lib.hid htx
  clear htk htx
  have hfl : ∀ W, Sem.run Tryz.prog (Instr.field 45 (.agg #[.int .i64 tk, .string tx, .int .i64 li, .int .i64 co]) 0) W = .ok (.int .i64 tk) W := fun _ => rfl
  cases hk2 : (tk == 4)
  · have hkk : ¬ tk = 4 := by simpa using hk2
    rw [if_neg hkk] at HR
    clear hkk
    cases hk3 : (tk == 5)
    · have hkk : ¬ tk = 5 := by simpa using hk3
      rw [if_neg hkk] at HR
      clear hkk
      go_wp2_with fail
      clear hfl
      cases hpb4 : Pl.passes s.ts i [40]
      · refine (ppass_not (by decide) HP.out hpb4).mono ?_
        rintro e w3 ⟨rfl, hp, hf⟩
        rw [hpb4, if_neg Bool.false_ne_true] at HR
        replace HF := Lib.hid (HF.out.trans hf)
        replace HW := Lib.hid (Nat.le_trans HW.out (Fr.size hf))
        replace HX := Lib.hid (blk_fr HX.out (by have := HXL.out; have := HG.out; omega) hf)
        replace HP := Lib.hid (hp)
        clear hp hf
        go_wp2_with fail
        cases hpb5 : Pl.passes s.ts i [108, 101, 116]
        · refine (ppass_not (by decide) HP.out hpb5).mono ?_
          rintro e w4 ⟨rfl, hp, hf⟩
          rw [hpb5, if_neg Bool.false_ne_true] at HR
          replace HF := Lib.hid (HF.out.trans hf)
          replace HW := Lib.hid (Nat.le_trans HW.out (Fr.size hf))
          replace HX := Lib.hid (blk_fr HX.out (by have := HXL.out; have := HG.out; omega) hf)
          replace HP := Lib.hid (hp)
          clear hp hf
          go_wp2_with fail
          cases hpb6 : Pl.passes s.ts i [99, 97, 115, 101]
          · refine (ppass_not (by decide) HP.out hpb6).mono ?_
            rintro e w5 ⟨rfl, hp, hf⟩
            rw [hpb6, if_neg Bool.false_ne_true] at HR
            replace HF := Lib.hid (HF.out.trans hf)
            replace HW := Lib.hid (Nat.le_trans HW.out (Fr.size hf))
            replace HX := Lib.hid (blk_fr HX.out (by have := HXL.out; have := HG.out; omega) hf)
            replace HP := Lib.hid (hp)
            clear hp hf
            go_wp2_with fail
            refine (ppath_any s g i _ HP.out hbig).mono ?_
            rintro e w6 ho
            rcases TreeOut.split ho with ⟨q7, hri7, rfl, hf⟩ | ⟨ty, q7, y0, y1, y2, ya, yl, yc, yd, ye, yf, hri7, rfl, ht, hp, hf⟩
            · exact ⟨rfl, tree_bad (HR.out.trans hri7) (HF.out.trans hf)⟩
            replace HR := Lib.hid (HR.out.trans hri7)
            have HTy := Lib.hid (ht.mono (own_low HW.out))
            replace HF := Lib.hid (HF.out.trans hf)
            replace HW := Lib.hid (Nat.le_trans HW.out (Fr.size hf))
            replace HX := Lib.hid (blk_fr HX.out (by have := HXL.out; have := HG.out; omega) hf)
            replace HP := Lib.hid (hp)
            clear ho hp hf ht hri7
            obtain ⟨hxc0, hxc1, hxc2, hxc3, hxc4⟩ := five_cells HX.out
            have hxf0 := HX.out.thaw 0
            have hxf1 := HX.out.thaw 1
            have hxf2 := HX.out.thaw 2
            have hxf3 := HX.out.thaw 3
            have hxf4 := HX.out.thaw 4
            go_wp2_with fail
            have HEN := putFive_blk HX.out (.int .i64 y0) (.int .i64 y1) (.string y2) (.slice ya yl yc) (.slice yd ye yf)
            have HFI := tree_fin HG.out HF.out HTy.out HXB.out HP.out (.int .i64 y0) (.int .i64 y1) (.string y2) (.slice ya yl yc) (.slice yd ye yf)
            unfold putFive at HEN HFI
            obtain ⟨k0, k1, k2, k3, k4⟩ := five_cells HEN
            refine bodyPost_ret (v := .agg #[.int .i64 y0, .int .i64 y1, .string y2, .slice ya yl yc, .slice yd ye yf]) (by simp [results, Tryz.results147, go_sem, k0, k1, k2, k3, k4]) rfl ?_
            exact tree_ok HR.out HFI
          · refine (ppass_yes (by decide) HP.out hpb6).mono ?_
            rintro e w7 ⟨rfl, hp, hf⟩
            rw [hpb6, if_pos rfl] at HR
            replace HF := Lib.hid (HF.out.trans hf)
            replace HW := Lib.hid (Nat.le_trans HW.out (Fr.size hf))
            replace HX := Lib.hid (blk_fr HX.out (by have := HXL.out; have := HG.out; omega) hf)
            replace HP := Lib.hid (hp)
            clear hp hf
            go_wp2_with fail
            refine (Hma.out _ _ (by omega) HP.out).mono ?_
            rintro e w8 ho
            rcases TreeOut.split ho with ⟨q8, hri8, rfl, hf⟩ | ⟨ty, q8, y0, y1, y2, ya, yl, yc, yd, ye, yf, hri8, rfl, ht, hp, hf⟩
            · exact ⟨rfl, tree_bad (HR.out.trans hri8) (HF.out.trans hf)⟩
            replace HR := Lib.hid (HR.out.trans hri8)
            have HTy := Lib.hid (ht.mono (own_low HW.out))
            replace HF := Lib.hid (HF.out.trans hf)
            replace HW := Lib.hid (Nat.le_trans HW.out (Fr.size hf))
            replace HX := Lib.hid (blk_fr HX.out (by have := HXL.out; have := HG.out; omega) hf)
            replace HP := Lib.hid (hp)
            clear ho hp hf ht hri8
            obtain ⟨hxc0, hxc1, hxc2, hxc3, hxc4⟩ := five_cells HX.out
            have hxf0 := HX.out.thaw 0
            have hxf1 := HX.out.thaw 1
            have hxf2 := HX.out.thaw 2
            have hxf3 := HX.out.thaw 3
            have hxf4 := HX.out.thaw 4
            go_wp2_with fail
            have HEN := putFive_blk HX.out (.int .i64 y0) (.int .i64 y1) (.string y2) (.slice ya yl yc) (.slice yd ye yf)
            have HFI := tree_fin HG.out HF.out HTy.out HXB.out HP.out (.int .i64 y0) (.int .i64 y1) (.string y2) (.slice ya yl yc) (.slice yd ye yf)
            unfold putFive at HEN HFI
            obtain ⟨k0, k1, k2, k3, k4⟩ := five_cells HEN
            refine bodyPost_ret (v := .agg #[.int .i64 y0, .int .i64 y1, .string y2, .slice ya yl yc, .slice yd ye yf]) (by simp [results, Tryz.results147, go_sem, k0, k1, k2, k3, k4]) rfl ?_
            exact tree_ok HR.out HFI
        · refine (ppass_yes (by decide) HP.out hpb5).mono ?_
          rintro e w9 ⟨rfl, hp, hf⟩
          rw [hpb5, if_pos rfl] at HR
          replace HF := Lib.hid (HF.out.trans hf)
          replace HW := Lib.hid (Nat.le_trans HW.out (Fr.size hf))
          replace HX := Lib.hid (blk_fr HX.out (by have := HXL.out; have := HG.out; omega) hf)
          replace HP := Lib.hid (hp)
          clear hp hf
          go_wp2_with fail
          refine (Hle.out _ _ (by omega) HP.out).mono ?_
          rintro e w10 ho
          rcases TreeOut.split ho with ⟨q9, hri9, rfl, hf⟩ | ⟨ty, q9, y0, y1, y2, ya, yl, yc, yd, ye, yf, hri9, rfl, ht, hp, hf⟩
          · exact ⟨rfl, tree_bad (HR.out.trans hri9) (HF.out.trans hf)⟩
          replace HR := Lib.hid (HR.out.trans hri9)
          have HTy := Lib.hid (ht.mono (own_low HW.out))
          replace HF := Lib.hid (HF.out.trans hf)
          replace HW := Lib.hid (Nat.le_trans HW.out (Fr.size hf))
          replace HX := Lib.hid (blk_fr HX.out (by have := HXL.out; have := HG.out; omega) hf)
          replace HP := Lib.hid (hp)
          clear ho hp hf ht hri9
          obtain ⟨hxc0, hxc1, hxc2, hxc3, hxc4⟩ := five_cells HX.out
          have hxf0 := HX.out.thaw 0
          have hxf1 := HX.out.thaw 1
          have hxf2 := HX.out.thaw 2
          have hxf3 := HX.out.thaw 3
          have hxf4 := HX.out.thaw 4
          go_wp2_with fail
          have HEN := putFive_blk HX.out (.int .i64 y0) (.int .i64 y1) (.string y2) (.slice ya yl yc) (.slice yd ye yf)
          have HFI := tree_fin HG.out HF.out HTy.out HXB.out HP.out (.int .i64 y0) (.int .i64 y1) (.string y2) (.slice ya yl yc) (.slice yd ye yf)
          unfold putFive at HEN HFI
          obtain ⟨k0, k1, k2, k3, k4⟩ := five_cells HEN
          refine bodyPost_ret (v := .agg #[.int .i64 y0, .int .i64 y1, .string y2, .slice ya yl yc, .slice yd ye yf]) (by simp [results, Tryz.results147, go_sem, k0, k1, k2, k3, k4]) rfl ?_
          exact tree_ok HR.out HFI
      · refine (ppass_yes (by decide) HP.out hpb4).mono ?_
        rintro e w11 ⟨rfl, hp, hf⟩
        rw [hpb4, if_pos rfl] at HR
        replace HF := Lib.hid (HF.out.trans hf)
        replace HW := Lib.hid (Nat.le_trans HW.out (Fr.size hf))
        replace HX := Lib.hid (blk_fr HX.out (by have := HXL.out; have := HG.out; omega) hf)
        replace HP := Lib.hid (hp)
        clear hp hf
        go_wp2_with fail
        refine (Hen.out _ _ (by omega) HP.out).mono ?_
        rintro e w12 ho
        rcases TreeOut.split ho with ⟨q10, hri10, rfl, hf⟩ | ⟨ty, q10, y0, y1, y2, ya, yl, yc, yd, ye, yf, hri10, rfl, ht, hp, hf⟩
        · exact ⟨rfl, tree_bad (HR.out.trans hri10) (HF.out.trans hf)⟩
        replace HR := Lib.hid (HR.out.trans hri10)
        have HTy := Lib.hid (ht.mono (own_low HW.out))
        replace HF := Lib.hid (HF.out.trans hf)
        replace HW := Lib.hid (Nat.le_trans HW.out (Fr.size hf))
        replace HX := Lib.hid (blk_fr HX.out (by have := HXL.out; have := HG.out; omega) hf)
        replace HP := Lib.hid (hp)
        clear ho hp hf ht hri10
        obtain ⟨hxc0, hxc1, hxc2, hxc3, hxc4⟩ := five_cells HX.out
        have hxf0 := HX.out.thaw 0
        have hxf1 := HX.out.thaw 1
        have hxf2 := HX.out.thaw 2
        have hxf3 := HX.out.thaw 3
        have hxf4 := HX.out.thaw 4
        go_wp2_with fail
        have HEN := putFive_blk HX.out (.int .i64 y0) (.int .i64 y1) (.string y2) (.slice ya yl yc) (.slice yd ye yf)
        have HFI := tree_fin HG.out HF.out HTy.out HXB.out HP.out (.int .i64 y0) (.int .i64 y1) (.string y2) (.slice ya yl yc) (.slice yd ye yf)
        unfold putFive at HEN HFI
        obtain ⟨k0, k1, k2, k3, k4⟩ := five_cells HEN
        refine bodyPost_ret (v := .agg #[.int .i64 y0, .int .i64 y1, .string y2, .slice ya yl yc, .slice yd ye yf]) (by simp [results, Tryz.results147, go_sem, k0, k1, k2, k3, k4]) rfl ?_
        exact tree_ok HR.out HFI
    · have hkk : tk = 5 := by simpa using hk3
      rw [if_pos hkk] at HR
      have HKK := Lib.hid hkk
      clear hkk
      go_wp2_with fail
      clear hfl
      refine (ptake_is s g i 5 (by decide) (HTK.out.symm.trans HKK.out) _ HP.out).mono ?_
      rintro e w13 ⟨rfl, hp, hf⟩
      have HLs := Lib.hid (text_lens HP.out.src i)
      obtain ⟨t1, ht1⟩ : ∃ t1, t1 = (Pl.tkAt s.ts i).text := ⟨_, rfl⟩
      rw [← ht1] at HR HLs ⊢
      clear ht1
      replace HF := Lib.hid (HF.out.trans hf)
      replace HW := Lib.hid (Nat.le_trans HW.out (Fr.size hf))
      replace HX := Lib.hid (blk_fr HX.out (by have := HXL.out; have := HG.out; omega) hf)
      replace HP := Lib.hid (hp)
      clear hp hf
      have HU := Lib.hid (tree_of (W := w13) (B := B) (op := 22) (n := 0) HLs.out (strs_none _ _) (syns_none _ _))
      obtain ⟨hxc0, hxc1, hxc2, hxc3, hxc4⟩ := five_cells HX.out
      have hxf0 := HX.out.thaw 0
      have hxf1 := HX.out.thaw 1
      have hxf2 := HX.out.thaw 2
      have hxf3 := HX.out.thaw 3
      have hxf4 := HX.out.thaw 4
      go_wp2_with fail
      have HEN := putFive_blk HX.out (.int .i64 22) (.int .i64 0) (.string (Pl.mk t1)) (.slice none 0 0) (.slice none 0 0)
      have HFI := tree_fin HG.out HF.out HU.out HXB.out HP.out (.int .i64 22) (.int .i64 0) (.string (Pl.mk t1)) (.slice none 0 0) (.slice none 0 0)
      unfold putFive at HEN HFI
      obtain ⟨k0, k1, k2, k3, k4⟩ := five_cells HEN
      refine bodyPost_ret (v := .agg #[.int .i64 22, .int .i64 0, .string (Pl.mk t1), .slice none 0 0, .slice none 0 0]) (by simp [results, Tryz.results147, go_sem, k0, k1, k2, k3, k4]) rfl ?_
      exact tree_ok HR.out HFI
  · have hkk : tk = 4 := by simpa using hk2
    rw [if_pos hkk] at HR
    have HKK := Lib.hid hkk
    clear hkk
    go_wp2_with fail
    clear hfl
    refine (pnumber_is s g i (HTK.out.symm.trans HKK.out) _ HP.out Hnu.out).mono ?_
    rintro e w14 ⟨rfl, hp, hf⟩
    obtain ⟨nv, hnv⟩ : ∃ nv, nv = numOfText (Pl.tkAt s.ts i).text := ⟨_, rfl⟩
    rw [← hnv] at HR ⊢
    clear hnv
    replace HF := Lib.hid (HF.out.trans hf)
    replace HW := Lib.hid (Nat.le_trans HW.out (Fr.size hf))
    replace HX := Lib.hid (blk_fr HX.out (by have := HXL.out; have := HG.out; omega) hf)
    replace HP := Lib.hid (hp)
    clear hp hf
    have HU := Lib.hid (tree_of (W := w14) (B := B) (op := 21) (n := nv) (tx := ByteArray.empty) (Nat.zero_le _) (strs_none _ _) (syns_none _ _))
    obtain ⟨hxc0, hxc1, hxc2, hxc3, hxc4⟩ := five_cells HX.out
    have hxf0 := HX.out.thaw 0
    have hxf1 := HX.out.thaw 1
    have hxf2 := HX.out.thaw 2
    have hxf3 := HX.out.thaw 3
    have hxf4 := HX.out.thaw 4
    go_wp2_with fail
    have HEN := putFive_blk HX.out (.int .i64 21) (.int .i64 nv) (.string ⟨#[]⟩) (.slice none 0 0) (.slice none 0 0)
    have HFI := tree_fin HG.out HF.out HU.out HXB.out HP.out (.int .i64 21) (.int .i64 nv) (.string ⟨#[]⟩) (.slice none 0 0) (.slice none 0 0)
    unfold putFive at HEN HFI
    obtain ⟨k0, k1, k2, k3, k4⟩ := five_cells HEN
    refine bodyPost_ret (v := .agg #[.int .i64 21, .int .i64 nv, .string ⟨#[]⟩, .slice none 0 0, .slice none 0 0]) (by simp [results, Tryz.results147, go_sem, k0, k1, k2, k3, k4]) rfl ?_
    exact tree_ok HR.out HFI
end Go.Proofs.YtjedahcpkcgpeaaGreatDoor
