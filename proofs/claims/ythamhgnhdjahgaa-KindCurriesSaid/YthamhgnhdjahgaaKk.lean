/-
  Walks of layer 8: the reference's parse.
-/
import Derived.Test.YthamhgnhdjahgaaKj
namespace Go.Proofs.Ythamhgnhdjahgaa
open Go Go.RowKit
open Pl (K)
set_option linter.unusedSimpArgs false

/-- what follows a head of a text: an arrow, or the end -/
def tailW (f : Nat → Option (K × Nat)) (l : List UInt8) (k : K) (j : Nat) : Option (K × Nat) := if atN l j [32, 45, 62, 32] = true then (f (j + 4)).bind fun p => some (.mk [k, p.1], p.2) else some (k, j)
/-- the reference's parser -/
def prs (l : List UInt8) : Nat → Nat → Option (K × Nat)
  | 0, _ => none
  | d + 1, i =>
    if atN l i [42] = true then tailW (prs l d) l (.mk []) (i + 1)
    else if atN l i [40] = true then (prs l d (i + 1)).bind fun p => if p.1.l.length = 0 then none else if atN l p.2 [41] = true then tailW (prs l d) l p.1 (p.2 + 1) else none
    else none
theorem atN_le (l : List UInt8) (i : Nat) (p : List UInt8) (h : atN l i p = true) : i + p.length ≤ l.length := by
  unfold atN at h
  rw [Bool.and_eq_true] at h
  exact of_decide_eq_true h.1
theorem tailW_le {f : Nat → Option (K × Nat)} {l : List UInt8} {k : K} {j : Nat} (hf : ∀ i k e, f i = some (k, e) → i ≤ e ∧ e ≤ l.length) (hj : j ≤ l.length) {k' : K} {e : Nat} (h : tailW f l k j = some (k', e)) : j ≤ e ∧ e ≤ l.length := by
  unfold tailW at h
  split at h
  · cases hq : f (j + 4) with
    | none => rw [hq] at h; cases h
    | some p =>
      rw [hq] at h
      have h : some (K.mk [k, p.1], p.2) = some (k', e) := h
      injection h with h
      injection h with _ h
      subst h
      have := hf (j + 4) p.1 p.2 (by rw [hq])
      exact ⟨by omega, this.2⟩
  · injection h with h
    injection h with _ h
    subst h
    exact ⟨Nat.le_refl _, hj⟩
theorem prs_le (l : List UInt8) : ∀ (d i : Nat) (k : K) (e : Nat), prs l d i = some (k, e) → i ≤ e ∧ e ≤ l.length := by
  intro d
  induction d with
  | zero => intro i k e h; cases h
  | succ d ih =>
    intro i k e h
    rw [prs] at h
    split at h
    · next h1 =>
      have := atN_le _ _ _ h1
      have := tailW_le ih (by simpa using this) h
      omega
    · split at h
      · next h1 =>
        cases hq : prs l d (i + 1) with
        | none => rw [hq] at h; cases h
        | some p =>
          rw [hq] at h
          have h : (if p.1.l.length = 0 then none else if atN l p.2 [41] = true then tailW (prs l d) l p.1 (p.2 + 1) else none) = some (k, e) := h
          have hp := ih (i + 1) p.1 p.2 (by rw [hq])
          split at h
          · cases h
          · split at h
            · next h2 =>
              have := atN_le _ _ _ h2
              have := tailW_le ih (by simpa using this) h
              omega
            · cases h
      · cases h
/-- what the reference's parse answers -/
def POut (R : Option (K × Nat)) (w : World) (e : Ending) (w' : World) : Prop := (match R with
  | some (k, j) => ∃ y, e = .returned (.tuple #[y, .int .i64 j]) ∧ KV w' (From w.heap.size w') k y
  | none => e = .returned (.tuple #[.agg #[.slice none 0 0], .int .i64 (-1)])) ∧ Below w.heap.size w w'
set_option maxRecDepth 100000 in
set_option maxHeartbeats 2000000 in
theorem rparse_any (s : ByteArray) (hs : s.size ≤ 1099511627776) : ∀ (d i : Nat) (w : World), i ≤ s.size → d ≤ 100000 →
    Calls Try.prog 49 #[.string s, .int .i64 i, .int .i64 d] w (POut (prs s.toList d i) w) := by
  intro d
  induction d with
  | zero =>
    intro i w hi hd
    obtain ⟨h0, h1, hb⟩ := two_new w 24 (.slice none 0 0) (.slice none 0 0)
    obtain ⟨B, hB⟩ : ∃ B, B = w.heap.size := ⟨_, rfl⟩
    rw [← hB] at h0 h1
    have H0 := Lib.hid h0
    have H1 := Lib.hid h1
    have HB := Lib.hid hb
    have HBB := Lib.hid hB
    have HF := Lib.hid (show prs s.toList 0 i = none from rfl)
    generalize prs s.toList 0 i = R at HF ⊢
    clear h0 h1 hb
    go_enter Try.func49, Try.ntmps49
    go_wp2_with fail
    rw [← hB]
    clear hB
    generalize ((w.alloc (.cells #[.slice none 0 0] 24)).alloc (.cells #[.slice none 0 0] 24)) = w2 at *
    have h0 := H0.out
    have c0 := h0.cell 0 (.slice none 0 0) rfl
    have f0 := h0.thaw 0
    have c1 := H1.out.cell 0 (.slice none 0 0) rfl
    have HE1 := Lib.hid (blk_one (y := .slice none 0 0) h0)
    have HE2 := Lib.hid (below_set HB.out (show w.heap.size ≤ B by rw [← HBB.out]; omega) (.slice none 0 0))
    clear h0
    go_wp2
    have d0 := HE1.out.cell 0 (.slice none 0 0) rfl
    refine bodyPost_ret (v := .tuple #[.agg #[.slice none 0 0], .int .i64 (-1)]) (by first | (simp [results, Try.results49, go_sem, d0]; done) | (simp [results, Try.results49, go_sem, c0]; done)) rfl ?_
    rw [HF.out]
    first | exact ⟨rfl, HE2.out⟩ | exact ⟨rfl, HB.out⟩
  | succ d ih =>
    intro i w hi hd
    have HIH := Lib.hid (fun i W (hi : i ≤ s.size) => ih i W hi (by omega))
    clear ih
    obtain ⟨h0, h1, hb⟩ := two_new w 24 (.slice none 0 0) (.slice none 0 0)
    have hz2 : ((w.alloc (.cells #[.slice none 0 0] 24)).alloc (.cells #[.slice none 0 0] 24)).heap.size = w.heap.size + 2 := by rw [size_alloc, size_alloc]
    obtain ⟨B, hB⟩ : ∃ B, B = w.heap.size := ⟨_, rfl⟩
    rw [← hB] at h0 h1
    have H0 := Lib.hid h0
    have H1 := Lib.hid h1
    have HB := Lib.hid hb
    have HBB := Lib.hid hB
    have HR0 := Lib.hid (show prs s.toList (d + 1) i = if atN s.toList i [42] = true then tailW (prs s.toList d) s.toList (.mk []) (i + 1) else if atN s.toList i [40] = true then (prs s.toList d (i + 1)).bind fun p => if p.1.l.length = 0 then none else if atN s.toList p.2 [41] = true then tailW (prs s.toList d) s.toList p.1 (p.2 + 1) else none else none from by rw [prs])
    generalize prs s.toList (d + 1) i = R at HR0 ⊢
    have HA1 := Lib.hid (fun W => rat_any s ⟨#[42]⟩ i W hs (by omega) (by decide))
    have HA2 := Lib.hid (fun W => rat_any s ⟨#[40]⟩ i W hs (by omega) (by decide))
    rw [show (⟨#[42]⟩ : ByteArray).toList = [42] from Pl.mk_toList [42]] at HA1
    rw [show (⟨#[40]⟩ : ByteArray).toList = [40] from Pl.mk_toList [40]] at HA2
    have HL1 := Lib.hid (atN_le s.toList i [42])
    have HL2 := Lib.hid (atN_le s.toList i [40])
    obtain ⟨ra, hra⟩ : ∃ r, r = atN s.toList i [42] := ⟨_, rfl⟩
    obtain ⟨rb, hrb⟩ : ∃ r, r = atN s.toList i [40] := ⟨_, rfl⟩
    rw [← hra] at HA1 HR0 HL1
    rw [← hrb] at HA2 HR0 HL2
    have q1 : decide (((d + 1 : Nat) : Int) < 1) = false := decide_eq_false (by omega)
    have w1 : wrap64 ((i : Int) + 1) = (i : Int) + 1 := by rw [wrap64]; omega
    have w2 : wrap64 (((d + 1 : Nat) : Int) - 1) = (d : Int) := by rw [wrap64]; omega
    generalize hD : ((d + 1 : Nat) : Int) = D at *
    clear h0 h1 hb hra hrb hD hz2
    go_enter Try.func49, Try.ntmps49
    go_wp2_with fail
    rw [← hB]
    clear hB
    generalize ((w.alloc (.cells #[.slice none 0 0] 24)).alloc (.cells #[.slice none 0 0] 24)) = w2 at *
    refine (HA1.out _).mono ?_
    rintro e w3 ⟨rfl, hb3⟩
    replace H0 := Lib.hid (H0.out.of_eq (hb3.block _ H0.out.lt))
    replace H1 := Lib.hid (H1.out.of_eq (hb3.block _ H1.out.lt))
    replace HB := Lib.hid (belowStep hb3 HB.out)
    clear hb3
    have hBB1 : ¬ B = B + 1 := by omega
    have hB1B : ¬ B + 1 = B := by omega
    cases ra
    rotate_left
    · have hil := HL1.out rfl
      rw [Pl.len_size] at hil
      have hil : i + 1 ≤ s.size := hil
      have HR := Lib.hid (show R = tailW (prs s.toList d) s.toList (.mk []) (i + 1) from by rw [HR0.out]; rfl)
      clear HR0 HA1 HA2
      go_wp2_with fail
      obtain ⟨j, hj⟩ : ∃ j, j = i + 1 := ⟨_, rfl⟩
      have hji : (i : Int) + 1 = (j : Int) := by omega
      rw [hji]
      rw [← hj] at HR hil
      obtain ⟨k, hk⟩ : ∃ k, k = K.mk [] := ⟨_, rfl⟩
      rw [← hk] at HR
      have HK := Lib.hid (show KidV w3 (From (B + 2) w3) k (.slice none 0 0) from by rw [hk]; exact kidV_none _ _)
      clear hji hj hk w1 q1 hi
      have HA3 := Lib.hid (fun W => rat_any s ⟨#[32, 45, 62, 32]⟩ j W hs (by omega) (by decide))
      rw [show (⟨#[32, 45, 62, 32]⟩ : ByteArray).toList = [32, 45, 62, 32] from Pl.mk_toList [32, 45, 62, 32]] at HA3
      have HTL := Lib.hid (show tailW (prs s.toList d) s.toList k j = if atN s.toList j [32, 45, 62, 32] = true then (prs s.toList d (j + 4)).bind fun p => some (.mk [k, p.1], p.2) else some (k, j) from rfl)
      obtain ⟨rc, hrc⟩ : ∃ r, r = atN s.toList j [32, 45, 62, 32] := ⟨_, rfl⟩
      have HAL := Lib.hid (atN_le s.toList j [32, 45, 62, 32])
      rw [← hrc] at HA3 HTL HAL
      clear hrc
      refine (HA3.out _).mono ?_
      rintro e wb ⟨rfl, hbb⟩
      have hk2 := (HK.out.keep (Same.of_below hbb (fun b h => h.2))).mono (Q := From (B + 2) wb) (fun b h => ⟨h.1, Nat.lt_of_lt_of_le h.2 hbb.size⟩)
      replace H0 := Lib.hid (H0.out.of_eq (hbb.block _ H0.out.lt))
      replace H1 := Lib.hid (H1.out.of_eq (hbb.block _ H1.out.lt))
      replace HB := Lib.hid (belowStep hbb HB.out)
      replace HK := Lib.hid hk2
      clear hbb hk2
      cases rc
      · have HF := Lib.hid (show R = some (k, j) from by rw [HR.out, HTL.out]; rfl)
        have h0 := H0.out
        have c0 := h0.cell 0 (.slice none 0 0) rfl
        have f0 := h0.thaw 0
        have c1 := H1.out.cell 0 (.slice none 0 0) rfl
        have HE1 := Lib.hid (blk_one (y := .slice none 0 0) h0)
        have HE2 := Lib.hid (below_set HB.out (show w.heap.size ≤ B by rw [← HBB.out]; omega) (.slice none 0 0))
        have HE3 := Lib.hid ((HK.out.keep (Same.set (w := wb) ⟨B, 0, none⟩ (.slice none 0 0) (fun b h e => by
          have e : b = B := e
          have := h.1; omega))).mono (Q := From w.heap.size (wb.setCell ⟨B, 0, none⟩ (.slice none 0 0))) fun b h => ⟨by have := h.1; have := HBB.out; omega, by rw [size_set]; exact h.2⟩)
        clear h0
        go_wp2
        have d0 := HE1.out.cell 0 (.slice none 0 0) rfl
        refine bodyPost_ret (v := .tuple #[.agg #[.slice none 0 0], .int .i64 j]) (by simp [results, Try.results49, go_sem, d0]) rfl ?_
        rw [HF.out]
        exact ⟨⟨_, rfl, _, rfl, HE3.out⟩, HE2.out⟩
      · have HSZ := Lib.hid (show B + 2 ≤ wb.heap.size from H1.out.lt)
        have hj4 := HAL.out rfl
        rw [show ([32, 45, 62, 32] : List UInt8).length = 4 from rfl, Pl.len_size] at hj4
        have HTL2 := Lib.hid (show R = (prs s.toList d (j + 4)).bind fun p => some (.mk [k, p.1], p.2) from by rw [HR.out, HTL.out]; rfl)
        have w4 : wrap64 ((j : Int) + 4) = ((j + 4 : Nat) : Int) := by rw [wrap64]; omega
        have HC2 := Lib.hid (fun W => HIH.out (j + 4) W (by omega))
        obtain ⟨S, hS⟩ : ∃ S, S = prs s.toList d (j + 4) := ⟨_, rfl⟩
        have HEL := Lib.hid (fun k e h => prs_le s.toList d (j + 4) k e h)
        rw [← hS] at HTL2 HC2 HEL
        clear hS HTL
        have hj5 : ((j + 4 : Nat) : Int) = (j : Int) + 4 := by omega
        rw [hj5] at w4 HC2
        clear hj5
        go_wp2_with fail
        refine (HC2.out _).mono ?_
        rintro e wc ⟨hp, hbc⟩
        have hk2 := (HK.out.keep (Same.of_below hbc (fun b h => h.2))).mono (Q := From (B + 2) wc) (fun b h => ⟨h.1, Nat.lt_of_lt_of_le h.2 hbc.size⟩)
        replace H0 := Lib.hid (H0.out.of_eq (hbc.block _ H0.out.lt))
        replace H1 := Lib.hid (H1.out.of_eq (hbc.block _ H1.out.lt))
        replace HB := Lib.hid (belowStep hbc HB.out)
        replace HK := Lib.hid hk2
        clear hk2
        cases S with
        | none =>
          have hp : e = .returned (.tuple #[.agg #[.slice none 0 0], .int .i64 (-1)]) := hp
          subst hp
          have HF := Lib.hid (show R = none from HTL2.out)
          have hb9 : Below wc.heap.size wc (wc.alloc (.cells #[.slice none 0 0] 24)) := (Below.refl _ _).alloc (Nat.le_refl _) _
          replace H0 := Lib.hid (H0.out.of_eq (hb9.block _ H0.out.lt))
          replace H1 := Lib.hid (H1.out.of_eq (hb9.block _ H1.out.lt))
          replace HB := Lib.hid (belowStep hb9 HB.out)
          clear hb9 hbc
          have h0 := H0.out
          have c0 := h0.cell 0 (.slice none 0 0) rfl
          have f0 := h0.thaw 0
          have c1 := H1.out.cell 0 (.slice none 0 0) rfl
          have HE1 := Lib.hid (blk_one (y := .slice none 0 0) h0)
          have HE2 := Lib.hid (below_set HB.out (show w.heap.size ≤ B by rw [← HBB.out]; omega) (.slice none 0 0))
          clear h0
          go_wp2
          have d0 := HE1.out.cell 0 (.slice none 0 0) rfl
          refine bodyPost_ret (v := .tuple #[.agg #[.slice none 0 0], .int .i64 (-1)]) (by first | (simp [results, Try.results49, go_sem, d0]; done) | (simp [results, Try.results49, go_sem, c0]; done)) rfl ?_
          rw [HF.out]
          first | exact ⟨rfl, HE2.out⟩ | exact ⟨rfl, HB.out⟩
        | some p =>
          obtain ⟨to, en⟩ := p
          have hp : ∃ y, e = .returned (.tuple #[y, .int .i64 en]) ∧ KV wc (From wb.heap.size wc) to y := hp
          obtain ⟨y, rfl, hy⟩ := hp
          obtain ⟨ta, tc, rfl⟩ := hy.form
          have HF := Lib.hid (show R = some (.mk [k, to], en) from HTL2.out)
          have hy := hy.kid
          generalize to.l.length = tm at *
          have hb9 : Below wc.heap.size wc (wc.alloc (.cells #[.slice ta tm tc] 24)) := (Below.refl _ _).alloc (Nat.le_refl _) _
          have hk9 := blk_new wc #[.slice ta tm tc] 24
          have HK3 := Lib.hid ((HK.out.keep (Same.of_below hb9 (fun b h => h.2))).mono (Q := From (B + 2) (wc.alloc (.cells #[.slice ta tm tc] 24))) (fun b h => ⟨h.1, Nat.lt_of_lt_of_le h.2 hb9.size⟩))
          have HY3 := Lib.hid ((hy.keep (Same.of_below hb9 (fun b h => h.2))).mono (Q := From (B + 2) (wc.alloc (.cells #[.slice ta tm tc] 24))) (fun b h => ⟨by have := h.1; have := HSZ.out; omega, Nat.lt_of_lt_of_le h.2 hb9.size⟩))
          have H9 := Lib.hid hk9
          replace H0 := Lib.hid (H0.out.of_eq (hb9.block _ H0.out.lt))
          replace H1 := Lib.hid (H1.out.of_eq (hb9.block _ H1.out.lt))
          replace HB := Lib.hid (belowStep hb9 HB.out)
          have q9 : decide ((en : Int) < 0) = false := decide_eq_false (by omega)
          have c1 := H1.out.cell 0 (.slice none 0 0) rfl
          have c9 := H9.out.cell 0 (.slice ta tm tc) rfl
          clear hb9 hbc hk9 hy
          go_wp2_with fail
          generalize wc.alloc (.cells #[.slice ta tm tc] 24) = wd at *
          refine (rpair_any (From (B + 2) wd) k to wd (.agg #[.slice none 0 0]) (.agg #[.slice ta tm tc]) (fun b h => h.2) ⟨_, rfl, HK3.out⟩ ⟨_, rfl, HY3.out⟩).mono ?_
          rintro e we ⟨⟨y, rfl, hy⟩, hbe⟩
          obtain ⟨pa, pc, rfl⟩ : ∃ a c, y = .agg #[.slice a 2 c] := hy.form
          have hy := hy.kid
          change KidV we _ _ (.slice pa 2 pc) at hy
          have h0 := H0.out.of_eq (hbe.block _ H0.out.lt)
          have c0 := h0.cell 0 (.slice none 0 0) rfl
          have f0 := h0.thaw 0
          have HE1 := Lib.hid (blk_one (y := .slice pa 2 pc) h0)
          have HE2 := Lib.hid (below_set (belowStep hbe HB.out) (show w.heap.size ≤ B by rw [← HBB.out]; omega) (.slice pa 2 pc))
          have HE3 := Lib.hid ((hy.keep (Same.set (w := we) ⟨B, 0, none⟩ (.slice pa 2 pc) (fun b h e => by
            have e : b = B := e
            rcases h with h | h
            · have := h.1; omega
            · have := h.1; have := H0.out.lt; omega))).mono (Q := From w.heap.size (we.setCell ⟨B, 0, none⟩ (.slice pa 2 pc))) fun b h => by
            rcases h with h | h
            · exact ⟨by have := h.1; have := HBB.out; omega, by rw [size_set]; exact Nat.lt_of_lt_of_le h.2 hbe.size⟩
            · exact ⟨by have := h.1; have := HB.out.size; omega, by rw [size_set]; exact h.2⟩)
          clear hbe hy h0
          go_wp2
          have d0 := HE1.out.cell 0 (.slice pa 2 pc) rfl
          refine bodyPost_ret (v := .tuple #[.agg #[.slice pa 2 pc], .int .i64 en]) (by simp [results, Try.results49, go_sem, d0]) rfl ?_
          rw [HF.out]
          exact ⟨⟨_, rfl, _, rfl, HE3.out⟩, HE2.out⟩
    · go_wp2_with fail
      refine (HA2.out _).mono ?_
      rintro e w4 ⟨rfl, hb4⟩
      replace H0 := Lib.hid (H0.out.of_eq (hb4.block _ H0.out.lt))
      replace H1 := Lib.hid (H1.out.of_eq (hb4.block _ H1.out.lt))
      replace HB := Lib.hid (belowStep hb4 HB.out)
      clear hb4
      cases rb
      · have HF := Lib.hid (show R = none from by rw [HR0.out]; rfl)
        clear HR0 HA1 HA2
        have h0 := H0.out
        have c0 := h0.cell 0 (.slice none 0 0) rfl
        have f0 := h0.thaw 0
        have c1 := H1.out.cell 0 (.slice none 0 0) rfl
        have HE1 := Lib.hid (blk_one (y := .slice none 0 0) h0)
        have HE2 := Lib.hid (below_set HB.out (show w.heap.size ≤ B by rw [← HBB.out]; omega) (.slice none 0 0))
        clear h0
        go_wp2
        have d0 := HE1.out.cell 0 (.slice none 0 0) rfl
        refine bodyPost_ret (v := .tuple #[.agg #[.slice none 0 0], .int .i64 (-1)]) (by first | (simp [results, Try.results49, go_sem, d0]; done) | (simp [results, Try.results49, go_sem, c0]; done)) rfl ?_
        rw [HF.out]
        first | exact ⟨rfl, HE2.out⟩ | exact ⟨rfl, HB.out⟩
      · have hil := HL2.out rfl
        rw [Pl.len_size] at hil
        have hil : i + 1 ≤ s.size := hil
        have HC1 := Lib.hid (fun W => HIH.out (i + 1) W hil)
        obtain ⟨S, hS⟩ : ∃ S, S = prs s.toList d (i + 1) := ⟨_, rfl⟩
        have HEL1 := Lib.hid (fun k e h => prs_le s.toList d (i + 1) k e h)
        have HR1 := Lib.hid (show R = (prs s.toList d (i + 1)).bind fun p => if p.1.l.length = 0 then none else if atN s.toList p.2 [41] = true then tailW (prs s.toList d) s.toList p.1 (p.2 + 1) else none from by rw [HR0.out]; rfl)
        rw [← hS] at HC1 HEL1 HR1
        rw [show ((i + 1 : Nat) : Int) = (i : Int) + 1 from by omega] at HC1
        clear hS HR0 HA1 HA2
        go_wp2_with fail
        refine (HC1.out _).mono ?_
        rintro e w5 ⟨hp, hb5⟩
        have HSZ4 := Lib.hid (show B + 2 ≤ w4.heap.size from H1.out.lt)
        replace H0 := Lib.hid (H0.out.of_eq (hb5.block _ H0.out.lt))
        replace H1 := Lib.hid (H1.out.of_eq (hb5.block _ H1.out.lt))
        replace HB := Lib.hid (belowStep hb5 HB.out)
        clear hb5
        cases S with
        | none =>
          have hp : e = .returned (.tuple #[.agg #[.slice none 0 0], .int .i64 (-1)]) := hp
          subst hp
          have HF := Lib.hid (show R = none from HR1.out)
          have h0 := H0.out
          have h1 := H1.out
          have c0 := h0.cell 0 (.slice none 0 0) rfl
          have f0 := h0.thaw 0
          have c1 := h1.cell 0 (.slice none 0 0) rfl
          have f1 := h1.thaw 0
          have HE1 := Lib.hid (blk_one (y := .slice none 0 0) (h0.other ⟨B + 1, 0, none⟩ (.slice none 0 0) hBB1))
          have HE2 := Lib.hid (below_set (below_set HB.out (show w.heap.size ≤ B + 1 by rw [← HBB.out]; omega) (.slice none 0 0)) (show w.heap.size ≤ B by rw [← HBB.out]; omega) (.slice none 0 0))
          clear h0 h1
          go_wp2
          have d0 := HE1.out.cell 0 (.slice none 0 0) rfl
          refine bodyPost_ret (v := .tuple #[.agg #[.slice none 0 0], .int .i64 (-1)]) (by first | (simp [results, Try.results49, go_sem, d0]; done) | (simp [results, Try.results49, go_sem, c0]; done)) rfl ?_
          rw [HF.out]
          first | exact ⟨rfl, HE2.out⟩ | exact ⟨rfl, HB.out⟩
        | some p =>
          obtain ⟨k, j⟩ := p
          have hp : ∃ y, e = .returned (.tuple #[y, .int .i64 j]) ∧ KV w5 (From w4.heap.size w5) k y := hp
          obtain ⟨y, rfl, hy⟩ := hp
          obtain ⟨ka, kc, rfl⟩ := hy.form
          have hjb := HEL1.out k j rfl
          rw [Pl.len_size] at hjb
          have HY := Lib.hid (hy.kid.mono (Q := From (B + 2) w5) (fun b h => ⟨by have := h.1; have := HSZ4.out; omega, h.2⟩))
          have HR2 := Lib.hid (show R = if k.l.length = 0 then none else if atN s.toList j [41] = true then tailW (prs s.toList d) s.toList k (j + 1) else none from HR1.out)
          generalize k.l.length = km at *
          clear hy HR1 HEL1
          by_cases hkm : km = 0
          · subst hkm
            have HF := Lib.hid (show R = none from by rw [HR2.out]; rfl)
            have h0 := H0.out
            have h1 := H1.out
            have c0 := h0.cell 0 (.slice none 0 0) rfl
            have f0 := h0.thaw 0
            have c1 := h1.cell 0 (.slice none 0 0) rfl
            have f1 := h1.thaw 0
            have HE1 := Lib.hid (blk_one (y := .slice none 0 0) (h0.other ⟨B + 1, 0, none⟩ (.slice ka 0 kc) hBB1))
            have HE2 := Lib.hid (below_set (below_set HB.out (show w.heap.size ≤ B + 1 by rw [← HBB.out]; omega) (.slice ka 0 kc)) (show w.heap.size ≤ B by rw [← HBB.out]; omega) (.slice none 0 0))
            clear h0 h1
            go_wp2
            have d0 := HE1.out.cell 0 (.slice none 0 0) rfl
            refine bodyPost_ret (v := .tuple #[.agg #[.slice none 0 0], .int .i64 (-1)]) (by first | (simp [results, Try.results49, go_sem, d0]; done) | (simp [results, Try.results49, go_sem, c0]; done)) rfl ?_
            rw [HF.out]
            first | exact ⟨rfl, HE2.out⟩ | exact ⟨rfl, HB.out⟩
          · have qk : ((km : Int) == 0) = false := by simp; omega
            rw [if_neg hkm] at HR2
            have HA4 := Lib.hid (fun W => rat_any s ⟨#[41]⟩ j W hs (by omega) (by decide))
            rw [show (⟨#[41]⟩ : ByteArray).toList = [41] from Pl.mk_toList [41]] at HA4
            have HL4 := Lib.hid (atN_le s.toList j [41])
            obtain ⟨rd, hrd⟩ : ∃ r, r = atN s.toList j [41] := ⟨_, rfl⟩
            rw [← hrd] at HA4 HR2 HL4
            have h0 := H0.out
            have h1 := H1.out
            have c1 := h1.cell 0 (.slice none 0 0) rfl
            have f1 := h1.thaw 0
            have HE0 := Lib.hid (h0.other ⟨B + 1, 0, none⟩ (.slice ka km kc) hBB1)
            have HE1 := Lib.hid (blk_one (y := .slice ka km kc) h1)
            have HE2 := Lib.hid (below_set HB.out (show w.heap.size ≤ B + 1 by rw [← HBB.out]; omega) (.slice ka km kc))
            have HE3 := Lib.hid ((HY.out.keep (Same.set (w := w5) ⟨B + 1, 0, none⟩ (.slice ka km kc) (fun b h e => by
              have e : b = B + 1 := e
              have := h.1; omega))).mono (Q := From (B + 2) (w5.setCell ⟨B + 1, 0, none⟩ (.slice ka km kc))) fun b h => ⟨h.1, by rw [size_set]; exact h.2⟩)
            clear h0 h1 hrd H0 H1 HB HY
            go_wp2_with fail
            generalize w5.setCell ⟨B + 1, 0, none⟩ (.slice ka km kc) = w6 at *
            refine (HA4.out _).mono ?_
            rintro e w7 ⟨rfl, hb7⟩
            have H0 := Lib.hid (HE0.out.of_eq (hb7.block _ HE0.out.lt))
            have H1 := Lib.hid (HE1.out.of_eq (hb7.block _ HE1.out.lt))
            have HB := Lib.hid (belowStep hb7 HE2.out)
            have HK := Lib.hid ((HE3.out.keep (Same.of_below hb7 (fun b h => h.2))).mono (Q := From (B + 2) w7) (fun b h => ⟨h.1, Nat.lt_of_lt_of_le h.2 hb7.size⟩))
            clear hb7 c1 f1 HE0 HE1 HE2 HE3
            cases rd
            · have HF := Lib.hid (show R = none from HR2.out)
              have h0 := H0.out
              have c0 := h0.cell 0 (.slice none 0 0) rfl
              have f0 := h0.thaw 0
              have c1 := H1.out.cell 0 (.slice ka km kc) rfl
              have HE1 := Lib.hid (blk_one (y := .slice none 0 0) h0)
              have HE2 := Lib.hid (below_set HB.out (show w.heap.size ≤ B by rw [← HBB.out]; omega) (.slice none 0 0))
              clear h0
              go_wp2
              have d0 := HE1.out.cell 0 (.slice none 0 0) rfl
              refine bodyPost_ret (v := .tuple #[.agg #[.slice none 0 0], .int .i64 (-1)]) (by first | (simp [results, Try.results49, go_sem, d0]; done) | (simp [results, Try.results49, go_sem, c0]; done)) rfl ?_
              rw [HF.out]
              first | exact ⟨rfl, HE2.out⟩ | exact ⟨rfl, HB.out⟩
            · have hj1 := HL4.out rfl
              rw [Pl.len_size] at hj1
              have hj1 : j + 1 ≤ s.size := hj1
              have HR := Lib.hid (show R = tailW (prs s.toList d) s.toList k (j + 1) from HR2.out)
              have w7 : wrap64 ((j : Int) + 1) = (j : Int) + 1 := by rw [wrap64]; omega
              clear HR2 HA4 HC1
              go_wp2_with fail
              obtain ⟨i2, hi2⟩ : ∃ i2, i2 = j + 1 := ⟨_, rfl⟩
              have hji : (j : Int) + 1 = (i2 : Int) := by omega
              rw [hji]
              rw [← hi2] at HR hj1
              clear hji hi2 w7 w1 q1 hi hjb
              have HA3 := Lib.hid (fun W => rat_any s ⟨#[32, 45, 62, 32]⟩ i2 W hs (by omega) (by decide))
              rw [show (⟨#[32, 45, 62, 32]⟩ : ByteArray).toList = [32, 45, 62, 32] from Pl.mk_toList [32, 45, 62, 32]] at HA3
              have HTL := Lib.hid (show tailW (prs s.toList d) s.toList k i2 = if atN s.toList i2 [32, 45, 62, 32] = true then (prs s.toList d (i2 + 4)).bind fun p => some (.mk [k, p.1], p.2) else some (k, i2) from rfl)
              obtain ⟨rc, hrc⟩ : ∃ r, r = atN s.toList i2 [32, 45, 62, 32] := ⟨_, rfl⟩
              have HAL := Lib.hid (atN_le s.toList i2 [32, 45, 62, 32])
              rw [← hrc] at HA3 HTL HAL
              clear hrc
              refine (HA3.out _).mono ?_
              rintro e wb ⟨rfl, hbb⟩
              have hk2 := (HK.out.keep (Same.of_below hbb (fun b h => h.2))).mono (Q := From (B + 2) wb) (fun b h => ⟨h.1, Nat.lt_of_lt_of_le h.2 hbb.size⟩)
              replace H0 := Lib.hid (H0.out.of_eq (hbb.block _ H0.out.lt))
              replace H1 := Lib.hid (H1.out.of_eq (hbb.block _ H1.out.lt))
              replace HB := Lib.hid (belowStep hbb HB.out)
              replace HK := Lib.hid hk2
              clear hbb hk2
              cases rc
              · have HF := Lib.hid (show R = some (k, i2) from by rw [HR.out, HTL.out]; rfl)
                have h0 := H0.out
                have c0 := h0.cell 0 (.slice none 0 0) rfl
                have f0 := h0.thaw 0
                have c1 := H1.out.cell 0 (.slice ka km kc) rfl
                have HE1 := Lib.hid (blk_one (y := .slice ka km kc) h0)
                have HE2 := Lib.hid (below_set HB.out (show w.heap.size ≤ B by rw [← HBB.out]; omega) (.slice ka km kc))
                have HE3 := Lib.hid ((HK.out.keep (Same.set (w := wb) ⟨B, 0, none⟩ (.slice ka km kc) (fun b h e => by
                  have e : b = B := e
                  have := h.1; omega))).mono (Q := From w.heap.size (wb.setCell ⟨B, 0, none⟩ (.slice ka km kc))) fun b h => ⟨by have := h.1; have := HBB.out; omega, by rw [size_set]; exact h.2⟩)
                clear h0
                go_wp2
                have d0 := HE1.out.cell 0 (.slice ka km kc) rfl
                refine bodyPost_ret (v := .tuple #[.agg #[.slice ka km kc], .int .i64 i2]) (by simp [results, Try.results49, go_sem, d0]) rfl ?_
                rw [HF.out]
                exact ⟨⟨_, rfl, _, rfl, HE3.out⟩, HE2.out⟩
              · have HSZ := Lib.hid (show B + 2 ≤ wb.heap.size from H1.out.lt)
                have hj4 := HAL.out rfl
                rw [show ([32, 45, 62, 32] : List UInt8).length = 4 from rfl, Pl.len_size] at hj4
                have HTL2 := Lib.hid (show R = (prs s.toList d (i2 + 4)).bind fun p => some (.mk [k, p.1], p.2) from by rw [HR.out, HTL.out]; rfl)
                have w4 : wrap64 ((i2 : Int) + 4) = ((i2 + 4 : Nat) : Int) := by rw [wrap64]; omega
                have HC2 := Lib.hid (fun W => HIH.out (i2 + 4) W (by omega))
                obtain ⟨S, hS⟩ : ∃ S, S = prs s.toList d (i2 + 4) := ⟨_, rfl⟩
                have HEL := Lib.hid (fun k e h => prs_le s.toList d (i2 + 4) k e h)
                rw [← hS] at HTL2 HC2 HEL
                clear hS HTL
                have hj5 : ((i2 + 4 : Nat) : Int) = (i2 : Int) + 4 := by omega
                rw [hj5] at w4 HC2
                clear hj5
                go_wp2_with fail
                refine (HC2.out _).mono ?_
                rintro e wc ⟨hp, hbc⟩
                have hk2 := (HK.out.keep (Same.of_below hbc (fun b h => h.2))).mono (Q := From (B + 2) wc) (fun b h => ⟨h.1, Nat.lt_of_lt_of_le h.2 hbc.size⟩)
                replace H0 := Lib.hid (H0.out.of_eq (hbc.block _ H0.out.lt))
                replace H1 := Lib.hid (H1.out.of_eq (hbc.block _ H1.out.lt))
                replace HB := Lib.hid (belowStep hbc HB.out)
                replace HK := Lib.hid hk2
                clear hk2
                cases S with
                | none =>
                  have hp : e = .returned (.tuple #[.agg #[.slice none 0 0], .int .i64 (-1)]) := hp
                  subst hp
                  have HF := Lib.hid (show R = none from HTL2.out)
                  have hb9 : Below wc.heap.size wc (wc.alloc (.cells #[.slice none 0 0] 24)) := (Below.refl _ _).alloc (Nat.le_refl _) _
                  replace H0 := Lib.hid (H0.out.of_eq (hb9.block _ H0.out.lt))
                  replace H1 := Lib.hid (H1.out.of_eq (hb9.block _ H1.out.lt))
                  replace HB := Lib.hid (belowStep hb9 HB.out)
                  clear hb9 hbc
                  have h0 := H0.out
                  have c0 := h0.cell 0 (.slice none 0 0) rfl
                  have f0 := h0.thaw 0
                  have c1 := H1.out.cell 0 (.slice ka km kc) rfl
                  have HE1 := Lib.hid (blk_one (y := .slice none 0 0) h0)
                  have HE2 := Lib.hid (below_set HB.out (show w.heap.size ≤ B by rw [← HBB.out]; omega) (.slice none 0 0))
                  clear h0
                  go_wp2
                  have d0 := HE1.out.cell 0 (.slice none 0 0) rfl
                  refine bodyPost_ret (v := .tuple #[.agg #[.slice none 0 0], .int .i64 (-1)]) (by first | (simp [results, Try.results49, go_sem, d0]; done) | (simp [results, Try.results49, go_sem, c0]; done)) rfl ?_
                  rw [HF.out]
                  first | exact ⟨rfl, HE2.out⟩ | exact ⟨rfl, HB.out⟩
                | some p =>
                  obtain ⟨to, en⟩ := p
                  have hp : ∃ y, e = .returned (.tuple #[y, .int .i64 en]) ∧ KV wc (From wb.heap.size wc) to y := hp
                  obtain ⟨y, rfl, hy⟩ := hp
                  obtain ⟨ta, tc, rfl⟩ := hy.form
                  have HF := Lib.hid (show R = some (.mk [k, to], en) from HTL2.out)
                  have hy := hy.kid
                  generalize to.l.length = tm at *
                  have hb9 : Below wc.heap.size wc (wc.alloc (.cells #[.slice ta tm tc] 24)) := (Below.refl _ _).alloc (Nat.le_refl _) _
                  have hk9 := blk_new wc #[.slice ta tm tc] 24
                  have HK3 := Lib.hid ((HK.out.keep (Same.of_below hb9 (fun b h => h.2))).mono (Q := From (B + 2) (wc.alloc (.cells #[.slice ta tm tc] 24))) (fun b h => ⟨h.1, Nat.lt_of_lt_of_le h.2 hb9.size⟩))
                  have HY3 := Lib.hid ((hy.keep (Same.of_below hb9 (fun b h => h.2))).mono (Q := From (B + 2) (wc.alloc (.cells #[.slice ta tm tc] 24))) (fun b h => ⟨by have := h.1; have := HSZ.out; omega, Nat.lt_of_lt_of_le h.2 hb9.size⟩))
                  have H9 := Lib.hid hk9
                  replace H0 := Lib.hid (H0.out.of_eq (hb9.block _ H0.out.lt))
                  replace H1 := Lib.hid (H1.out.of_eq (hb9.block _ H1.out.lt))
                  replace HB := Lib.hid (belowStep hb9 HB.out)
                  have q9 : decide ((en : Int) < 0) = false := decide_eq_false (by omega)
                  have c1 := H1.out.cell 0 (.slice ka km kc) rfl
                  have c9 := H9.out.cell 0 (.slice ta tm tc) rfl
                  clear hb9 hbc hk9 hy
                  go_wp2_with fail
                  generalize wc.alloc (.cells #[.slice ta tm tc] 24) = wd at *
                  refine (rpair_any (From (B + 2) wd) k to wd (.agg #[.slice ka km kc]) (.agg #[.slice ta tm tc]) (fun b h => h.2) ⟨_, rfl, HK3.out⟩ ⟨_, rfl, HY3.out⟩).mono ?_
                  rintro e we ⟨⟨y, rfl, hy⟩, hbe⟩
                  obtain ⟨pa, pc, rfl⟩ : ∃ a c, y = .agg #[.slice a 2 c] := hy.form
                  have hy := hy.kid
                  change KidV we _ _ (.slice pa 2 pc) at hy
                  have h0 := H0.out.of_eq (hbe.block _ H0.out.lt)
                  have c0 := h0.cell 0 (.slice none 0 0) rfl
                  have f0 := h0.thaw 0
                  have HE1 := Lib.hid (blk_one (y := .slice pa 2 pc) h0)
                  have HE2 := Lib.hid (below_set (belowStep hbe HB.out) (show w.heap.size ≤ B by rw [← HBB.out]; omega) (.slice pa 2 pc))
                  have HE3 := Lib.hid ((hy.keep (Same.set (w := we) ⟨B, 0, none⟩ (.slice pa 2 pc) (fun b h e => by
                    have e : b = B := e
                    rcases h with h | h
                    · have := h.1; omega
                    · have := h.1; have := H0.out.lt; omega))).mono (Q := From w.heap.size (we.setCell ⟨B, 0, none⟩ (.slice pa 2 pc))) fun b h => by
                    rcases h with h | h
                    · exact ⟨by have := h.1; have := HBB.out; omega, by rw [size_set]; exact Nat.lt_of_lt_of_le h.2 hbe.size⟩
                    · exact ⟨by have := h.1; have := HB.out.size; omega, by rw [size_set]; exact h.2⟩)
                  clear hbe hy h0
                  go_wp2
                  have d0 := HE1.out.cell 0 (.slice pa 2 pc) rfl
                  refine bodyPost_ret (v := .tuple #[.agg #[.slice pa 2 pc], .int .i64 en]) (by simp [results, Try.results49, go_sem, d0]) rfl ?_
                  rw [HF.out]
                  exact ⟨⟨_, rfl, _, rfl, HE3.out⟩, HE2.out⟩
end Go.Proofs.Ythamhgnhdjahgaa
