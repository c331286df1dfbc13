/-
  Walks of layer 8's code: Parts.
-/
import Derived.Test.YthamhgnhdjahgaaJf
import Derived.Test.YthamhgnhdjahgaaKp
import Derived.Deep.AppendLies
import Derived.Laws.OwnMore
namespace Go.Proofs.Ythamhgnhdjahgaa
open Go Go.RowKit
open Pl (K)
set_option linter.unusedSimpArgs false

theorem below_grow {w w' : World} (h : Below w.heap.size w w') : w.grownBy w' none := ⟨h.os, h.tape, h.output, h.size, fun i hi _ => h.block i hi⟩
theorem no_own (o : Value) : o.ownBlock = none ∨ o.ownBlock ≠ none := by
  cases o.ownBlock
  · exact .inl rfl
  · exact .inr (by simp)
/-- blocks from B on that are not the row's own -/
def Off (o : Value) (B : Nat) (w : World) (q : Nat) : Prop := q < w.heap.size ∧ B ≤ q ∧ o.ownBlock ≠ some q
theorem KindRow.mono {w : World} {P Q : Nat → Prop} {us : List Value} {ts : List K} (hq : ∀ b, P b → Q b) (h : KindRow w P us ts) : KindRow w Q us ts :=
  ⟨h.1, fun j hj => by obtain ⟨x, h1, h2⟩ := h.2 j hj; exact ⟨x, h1, h2.mono hq⟩⟩
/-- what Parts answers -/
def PartsP (P : Nat → Prop) (t : K) (w : World) (e : Ending) (w' : World) : Prop := (∃ y, e = .returned (.tuple #[y, .agg #[.slice none 0 0], .int .i64 (if K.valid t = true then 0 else 1)]) ∧ KSl w' (Ext P w w') y (if K.valid t = true then K.parts t else [])) ∧ Below w.heap.size w w'
set_option maxRecDepth 100000 in
set_option maxHeartbeats 2000000 in
theorem cparts_any (P : Nat → Prop) (t : K) (w : World) (v : Value) (hP : ∀ b, P b → b < w.heap.size) (ht : KV w P t v) :
    Calls Try.prog 23 #[v] w (PartsP P t w) := by
  obtain ⟨i28, hi0, hz0, hz1, hz2⟩ := info3 infoKind
  have HV := Lib.hid (fun W (hW : Below w.heap.size w W) => valid_any P t W v (fun b h => Nat.lt_of_lt_of_le (hP b h) hW.size) (ht.below hP hW))
  obtain ⟨a, c, rfl⟩ := ht.form
  have hk := ht.kid
  clear ht
  have HVV := Lib.hid (show K.valid t = true → K.ok t = true ∧ K.depth t ≤ 400 from fun h => by
    have := (K.valid_iff t).1 h
    exact ⟨this.1, by have := this.2.2; omega⟩)
  have HQ := Lib.hid (show PartsP P t w = fun e w' => (∃ y, e = .returned (.tuple #[y, .agg #[.slice none 0 0], .int .i64 (if K.valid t = true then 0 else 1)]) ∧ KSl w' (Ext P w w') y (if K.valid t = true then K.parts t else [])) ∧ Below w.heap.size w w' from rfl)
  generalize PartsP P t w = Q at *
  generalize hz : K.valid t = z at *
  generalize t.l.length = n at *
  obtain ⟨hbx, hbx2, hb⟩ := two_new w 24 (.slice a n c) (.slice none 0 0)
  have HT := Lib.hid hk
  have HP := Lib.hid hP
  have HB := Lib.hid hb
  have HBX := Lib.hid hbx
  have HBX2 := Lib.hid hbx2
  have c0 := hbx.cell 0 (.slice a n c) rfl
  clear hbx hb hk hP hbx2
  go_enter Try.func23, Try.ntmps23
  go_wp2_with fail
  generalize (w.alloc (.cells #[.slice a n c] 24)).alloc (.cells #[.slice none 0 0] 24) = w2 at *
  refine (HV.out _ HB.out).mono ?_
  rintro e w3 ⟨rfl, hb3⟩
  replace HBX := Lib.hid (HBX.out.of_eq (hb3.block _ HBX.out.lt))
  replace HBX2 := Lib.hid (HBX2.out.of_eq (hb3.block _ HBX2.out.lt))
  replace HB := Lib.hid (belowStep hb3 HB.out)
  clear hb3 c0 HV
  cases z
  · have h1 := HBX2.out
    have c1 := h1.cell 0 (.slice none 0 0) rfl
    have f1 := h1.thaw 0
    have HE1 := Lib.hid (blk_one (y := .slice none 0 0) h1)
    have HE2 := Lib.hid (below_set HB.out (Nat.le_succ w.heap.size) (.slice none 0 0))
    clear h1
    go_wp2
    have d0 := HE1.out.cell 0 (.slice none 0 0) rfl
    refine bodyPost_ret (v := .tuple #[.slice none 0 0, .agg #[.slice none 0 0], .int .i64 1]) (by first | (simp [results, Try.results23, go_sem, d0]; done) | (simp [results, Try.results23, go_sem, c1]; done)) rfl ?_
    rw [HQ.out]
    refine ⟨⟨_, rfl, kidV_none _ _⟩, ?_⟩
    first | exact HE2.out | exact HB.out
  obtain ⟨hok, hdep⟩ := HVV.out (by first | exact rfl | trivial)
  have HOK := Lib.hid hok
  have HSZ := Lib.hid (show w.heap.size + 2 ≤ w3.heap.size from HBX2.out.lt)
  clear hok HVV
  go_wp2_with fail
  go_loopg [5] (K.depth t + 1) (fun g o wr => ∃ (u : K) (ts : List K) (us : List Value) (b : Option Addr) (m d : Nat), g = K.depth u + 1 ∧ K.ok u = true ∧ K.parts t = ts ++ K.parts u ∧ ts.length + K.depth u ≤ K.depth t ∧ Blk wr w.heap.size 24 #[.slice b m d] ∧ Blk wr (w.heap.size + 1) 24 #[.slice none 0 0] ∧ KidV wr P u (.slice b m d) ∧ wr.ownsRow (w.heap.size + 2) 24 1 o ts.length us ∧ KindRow wr (Off o (w.heap.size + 2) wr) us ts ∧ Below w.heap.size w wr ∧ w.heap.size + 2 ≤ wr.heap.size)
  case atStart => exact ⟨t, [], [], a, n, c, rfl, HOK.out, rfl, by simp, HBX.out, HBX2.out, HT.out.keep (Same.of_below HB.out HP.out), World.ownsRow_nil _ _ _ _, ⟨rfl, fun j h => absurd h (Nat.not_lt_zero _)⟩, HB.out, HSZ.out⟩
  case round =>
    obtain ⟨u, ts, us, b, m, d, hg, hok, hpt, hdd, h0, h00, hk, ho, hr, hbw, hsz⟩ := hrel
    have HS := Lib.hid (isStar_any P u wr (.agg #[.slice b m d]) ⟨_, rfl, hk⟩)
    have c0 := h0.cell 0 (.slice b m d) rfl
    have HK := Lib.hid hk
    have HO := Lib.hid ho
    have HR := Lib.hid hr
    have HBW := Lib.hid hbw
    have HPT := Lib.hid hpt
    have H0 := Lib.hid h0
    have H00 := Lib.hid h00
    have HOK2 := Lib.hid hok
    have HSZR := Lib.hid hsz
    clear hok hpt h0 h00 hk ho hr hbw hsz
    go_wp2_with fail
    refine HS.out.mono ?_
    rintro e w4 ⟨rfl, hb4⟩
    replace HK := Lib.hid (HK.out.keep (Same.of_below hb4 (fun q hq => Nat.lt_of_lt_of_le (HP.out q hq) HBW.out.size)))
    replace HO := Lib.hid (HO.out.kept (below_grow hb4) (no_own u5))
    replace HR := Lib.hid ((HR.out.keep (Same.of_below hb4 (fun q hq => hq.1))).mono (fun q hq => (show Off u5 (w.heap.size + 2) w4 q from ⟨Nat.lt_of_lt_of_le hq.1 hb4.size, hq.2⟩)))
    replace H0 := Lib.hid (H0.out.of_eq (hb4.block _ H0.out.lt))
    replace H00 := Lib.hid (H00.out.of_eq (hb4.block _ H00.out.lt))
    replace HBW := Lib.hid (belowStep hb4 HBW.out)
    replace HSZR := Lib.hid (Nat.le_trans HSZR.out hb4.size)
    clear hb4 c0 HS
    obtain ⟨b', d', hcm, e3, hka⟩ : ∃ (b' : Option Addr) (d' : Nat), u.l.length ≤ maxLen ∧ Value.slice b m d = .slice b' u.l.length d' ∧ (∀ (j : Nat) (hj : j < u.l.length), ∃ b0 o0 x, b' = some ⟨b0, o0, none⟩ ∧ P b0 ∧ w4.cell? ⟨b0, o0 + j, none⟩ = some x ∧ KidV w4 P u.l[j] x) := by
      obtain ⟨b', d', e, h1, h2, h3⟩ := KV.open (t := u) ⟨_, rfl, HK.out⟩
      injection e with e
      have e : Value.slice b m d = .slice b' u.l.length d' := by simpa using e
      exact ⟨b', d', Nat.le_trans h1 h2, e, h3⟩
    injection e3 with e1 e2 e3
    subst e1 e2 e3
    rcases K.ok_cases HOK2.out with rfl | ⟨x, y, rfl⟩
    · have HF := Lib.hid (show K.parts t = ts from by rw [HPT.out, parts_not [] (by simp), List.append_nil])
      have HSL := Lib.hid (row_slice HO.out HR.out)
      have HST := Lib.hid (fun W => star_any W)
      clear hka
      obtain ⟨ra, rn, rc, rfl⟩ : ∃ a n c, u5 = .slice a n c := by
        obtain ⟨a, c, h, -⟩ := HSL.out.each
        exact ⟨a, _, c, h⟩
      go_wp2_with fail
      refine (HST.out _).mono ?_
      rintro e w5 ⟨rfl, hb5⟩
      have h1 := H00.out.of_eq (hb5.block _ H00.out.lt)
      have c1 := h1.cell 0 (.slice none 0 0) rfl
      have f1 := h1.thaw 0
      have HE1 := Lib.hid (blk_one (y := .slice none 0 0) h1)
      have HE2 := Lib.hid (below_set (belowStep hb5 HBW.out) (Nat.le_succ w.heap.size) (.slice none 0 0))
      have HE3 := Lib.hid (show KSl (w5.setCell ⟨w.heap.size + 1, 0, none⟩ (.slice none 0 0)) (Ext P w (w5.setCell ⟨w.heap.size + 1, 0, none⟩ (.slice none 0 0))) (.slice ra rn rc) ts from by
        refine ((HSL.out.keep (Same.of_below hb5 (fun q hq => by
          rcases hq with hq | hq
          · exact hq.1
          · exact hq.2))).keep (Same.set (w := w5) ⟨w.heap.size + 1, 0, none⟩ (.slice none 0 0) (fun q h e => by
          have e : q = w.heap.size + 1 := e
          rcases h with h | h
          · have := h.2.1; omega
          · have := h.1; omega))).mono (fun q h => .inr ?_)
        rw [size_set]
        rcases h with h | h
        · exact ⟨by have := h.2.1; omega, Nat.lt_of_lt_of_le h.1 hb5.size⟩
        · exact ⟨by have := h.1; omega, Nat.lt_of_lt_of_le h.2 hb5.size⟩)
      clear h1 hb5
      go_wp2
      have d0 := HE1.out.cell 0 (.slice none 0 0) rfl
      refine bodyPost_ret (v := .tuple #[.slice ra rn rc, .agg #[.slice none 0 0], .int .i64 0]) (by first | (simp [results, Try.results23, go_sem, d0]; done) | (simp [results, Try.results23, go_sem, c1]; done)) rfl ?_
      rw [HQ.out]
      refine ⟨⟨_, rfl, ?_⟩, ?_⟩
      · show KSl _ _ _ (if true = true then K.parts t else [])
        rw [if_pos rfl, HF.out]
        exact HE3.out
      · exact HE2.out
    · obtain ⟨b0, o0, rfl, hPb, hke⟩ := kids_each hka (by simp [K.l])
      obtain ⟨x0, hx0, hkx⟩ := hke 0 (by simp [K.l])
      obtain ⟨y0, hy0, hky⟩ := hke 1 (by simp [K.l])
      have hkx : KidV w4 P x x0 := hkx
      have hky : KidV w4 P y y0 := hky
      rw [Nat.add_zero] at hx0
      obtain ⟨a7, c7, rfl⟩ := hkx.form
      obtain ⟨a8, c8, rfl⟩ := hky.form
      have hok2 := K.ok_two HOK2.out
      have hdp := depth_two x y
      have hb0 := HP.out b0 hPb
      have HCP := Lib.hid (copied_any P x w4 (.agg #[.slice a7 x.l.length c7]) (fun q hq => Nat.lt_of_lt_of_le (HP.out q hq) HBW.out.size) ⟨_, rfl, hkx⟩ hok2.1)
      have HKY := Lib.hid hky
      have HY0 := Lib.hid hy0
      have HOKY := Lib.hid hok2.2
      generalize x.l.length = n7 at *
      generalize y.l.length = n8 at *
      have c0 := H0.out.cell 0 (.slice (some ⟨b0, o0, none⟩) 2 d) rfl
      clear hka hke hkx hky hy0 hok2 hPb HK
      go_wp2_with fail
      refine HCP.out.mono ?_
      rintro e w5 ⟨⟨ra, rc, rfl, hra⟩, hb5⟩
      obtain ⟨ln, hln⟩ : ∃ ln, ln = ts.length := ⟨_, rfl⟩
      have HLN := Lib.hid hln
      rw [← hln] at hdd HO
      have HOL := Lib.hid (fun k hk => (HO.out.lt k hk))
      have hb6 : Below w5.heap.size w5 (w5.alloc (.cells #[.slice ra n7 rc] 24)) := (Below.refl _ _).alloc (Nat.le_refl _) _
      have HROW := Lib.hid ((HO.out.kept (below_grow hb5) (no_own u5)).kept (World.grownBy_alloc w5 (.cells #[.slice ra n7 rc] 24) none) (no_own u5))
      have HRW := Lib.hid ((((HR.out.keep (Same.of_below hb5 (fun q hq => hq.1))).mono (fun q hq => (show Off u5 (w.heap.size + 2) w5 q from ⟨Nat.lt_of_lt_of_le hq.1 hb5.size, hq.2⟩))).push (hra.mono (fun q hq => (show Off u5 (w.heap.size + 2) w5 q from ⟨hq.2, by have := hq.1; have := HSZR.out; omega, fun e => by have := (HOL.out q e).2; have := hq.1; omega⟩)))))
      have HB5 := Lib.hid (belowStep hb5 HBW.out)
      have HS5 := Lib.hid (Nat.le_trans HSZR.out hb5.size)
      have H05 := Lib.hid (H0.out.of_eq (hb5.block _ H0.out.lt))
      have H005 := Lib.hid (H00.out.of_eq (hb5.block _ H00.out.lt))
      have HKY5 := Lib.hid (HKY.out.keep (Same.of_below hb5 (fun q hq => Nat.lt_of_lt_of_le (HP.out q hq) HBW.out.size)))
      have HY5 := Lib.hid ((hb5.cell (p := ⟨b0, o0 + 1, none⟩) (Nat.lt_of_lt_of_le hb0 HBW.out.size)).trans HY0.out)
      have HOB := Lib.hid (show ∀ k, u5.ownBlock = some k → w.heap.size + 2 ≤ k ∧ k < w5.heap.size from fun k hk => ⟨(HOL.out k hk).1, Nat.lt_of_lt_of_le (HOL.out k hk).2 hb5.size⟩)
      have HDP := Lib.hid (show ln + 1 + K.depth y ≤ K.depth t from by omega)
      have HPT2 := Lib.hid (show K.parts t = ts ++ (x :: K.parts y) from by rw [HPT.out, parts_two])
      have hl400 : ln ≤ 400 := by omega
      have HG := Lib.hid (show K.depth y + 1 ≤ gk - 1 + 1 from by omega)
      have HG2 := Lib.hid (show K.depth y + 1 ≤ gk - 1 from by omega)
      clear hra hb5 hb6 hx0 c0 HO HR H0 H00 HKY HY0 HBW HSZR hln HCP HOL HPT hdp
      go_wp2_with (at_builtin; refine wpList_append_lies _ rfl _ _ 22 rfl (w.heap.size + 2) 24 i28 (.agg #[.slice none 0 0]) 1 24 Try.underlying22 hi0 hz0 hz1 hz2 rfl (by decide) _ _ _ rfl HROW.out ⟨w5.heap.size, 0, none⟩ 1 1 [.slice ra n7 rc] rfl rfl ?c1 ?c2 (by decide) ?c3 ?c4 ?c5 (w5.heap.size + 1) (by simp) ?_)
      case c1 => exact World.news_of_block (cs := #[.slice ra n7 rc]) (t := 24) (fr := (0, 0)) (heap_alloc_new w5 _)
      case c2 => simp [Value.oneCell']
      case c3 => unfold maxLen; omega
      case c4 => omega
      case c5 => have := HS5.out; simp; omega
      intro gg cap w6 hown hgrow hat hlt
      have hsame : ∀ q, q < w5.heap.size → u5.ownBlock ≠ some q → w6.heap[q]? = w5.heap[q]? := fun q h1 h2 => (hgrow.block q (by rw [size_alloc]; omega) (fun e => h2 e.symm)).trans (Below.heap_alloc w5 _ q h1)
      have hgs : w5.heap.size ≤ w6.heap.size := by have := World.grownBy.size hgrow; rw [size_alloc] at this; omega
      have hB6 : Below w.heap.size w w6 := below_grown (HB5.out.alloc HB5.out.size _) (by rw [size_alloc]; have := HB5.out.size; omega) hgrow (fun k hk => by have := (HOB.out k hk).1; omega)
      have h06 : Blk w6 w.heap.size 24 #[.slice (some ⟨b0, o0, none⟩) 2 d] := H05.out.of_eq (hsame _ H05.out.lt (fun e => by have := (HOB.out _ e).1; omega))
      have h006 : Blk w6 (w.heap.size + 1) 24 #[.slice none 0 0] := H005.out.of_eq (hsame _ H005.out.lt (fun e => by have := (HOB.out _ e).1; omega))
      have hr6 : KindRow w6 (Off (.slice (some ⟨gg, 0, none⟩) (ln + 1) cap) (w.heap.size + 2) w6) (us ++ [.slice ra n7 rc]) (ts ++ [x]) := (HRW.out.keep (fun q hq => hsame q hq.1 hq.2.2)).mono (fun q hq => ⟨Nat.lt_of_lt_of_le hq.1 hgs, hq.2.1, fun e => by
        have e : (some gg : Option Nat) = some q := e
        injection e with e
        subst e
        rcases hat with h | h
        · exact hq.2.2 h
        · have := hq.1; omega⟩)
      have hky6 : KidV w6 P y (.slice a8 n8 c8) := HKY5.out.keep (fun q hq => hsame q (Nat.lt_of_lt_of_le (HP.out q hq) HB5.out.size) (fun e => by have := (HOB.out _ e).1; have := HP.out q hq; omega))
      have hy6 : w6.cell? ⟨b0, o0 + 1, none⟩ = some (.slice a8 n8 c8) := by
        have e := hsame b0 (Nat.lt_of_lt_of_le hb0 HB5.out.size) (fun e => by have := (HOB.out _ e).1; omega)
        have h := HY5.out
        simp only [World.cell?, e] at h ⊢
        exact h
      have c0 := h06.cell 0 (.slice (some ⟨b0, o0, none⟩) 2 d) rfl
      have f0 := h06.thaw 0
      have HK7 := Lib.hid (hky6.keep (Same.set (w := w6) ⟨w.heap.size, 0, none⟩ (.slice a8 n8 c8) (fun q hq e => by
        have e : q = w.heap.size := e
        have := HP.out q hq
        omega)))
      have HR7 := Lib.hid ((hr6.keep (Same.set (w := w6) ⟨w.heap.size, 0, none⟩ (.slice a8 n8 c8) (fun q hq e => by
        have e : q = w.heap.size := e
        have := hq.2.1
        omega))).mono (fun q hq => (show Off (.slice (some ⟨gg, 0, none⟩) (ln + 1) cap) (w.heap.size + 2) (w6.setCell ⟨w.heap.size, 0, none⟩ (.slice a8 n8 c8)) q from ⟨by rw [size_set]; exact hq.1, hq.2⟩)))
      have H07 := Lib.hid (blk_one (y := .slice a8 n8 c8) h06)
      have H007 := Lib.hid (h006.other ⟨w.heap.size, 0, none⟩ (.slice a8 n8 c8) (by simp))
      have HB7 := Lib.hid (below_set hB6 (Nat.le_refl w.heap.size) (.slice a8 n8 c8))
      have HS7 := Lib.hid (show w.heap.size + 2 ≤ (w6.setCell ⟨w.heap.size, 0, none⟩ (.slice a8 n8 c8)).heap.size from by rw [size_set]; exact Nat.le_trans HS5.out hgs)
      have HO7 := Lib.hid (show (w6.setCell ⟨w.heap.size, 0, none⟩ (.slice a8 n8 c8)).ownsRow (w.heap.size + 2) 24 1 (.slice (some ⟨gg, 0, none⟩) (ln + 1) cap) (ts ++ [x]).length (us ++ [.slice ra n7 rc]) from by
        rw [List.length_append, ← HLN.out]
        refine hown.kept (row := some w.heap.size) ⟨rfl, rfl, rfl, by rw [size_set]; exact Nat.le_refl _, fun k hk hn => Below.heap_setCell w6 ⟨w.heap.size, 0, none⟩ _ k (fun e => hn (by rw [e]))⟩ (.inr fun e => ?_)
        have := (hown.lt w.heap.size e).1
        omega)
      have HDP7 := Lib.hid (show (ts ++ [x]).length + K.depth y ≤ K.depth t from by rw [List.length_append, ← HLN.out]; exact HDP.out)
      have HPT7 := Lib.hid (show K.parts t = (ts ++ [x]) ++ K.parts y from by rw [HPT2.out, List.append_assoc]; rfl)
      clear hown hgrow hat hlt hB6 h06 h006 hr6 hky6 hsame hgs
      go_wp2
      go_roundg (K.depth y + 1)
      case measure => have := HG2.out; omega
      case rel => exact ⟨y, ts ++ [x], us ++ [.slice ra n7 rc], a8, n8, c8, rfl, HOKY.out, HPT7.out, HDP7.out, H07.out, H007.out, HK7.out, HO7.out, HR7.out, HB7.out, HS7.out⟩
end Go.Proofs.Ythamhgnhdjahgaa
