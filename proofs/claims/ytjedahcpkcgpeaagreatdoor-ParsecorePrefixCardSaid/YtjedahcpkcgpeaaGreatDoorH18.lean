/-
  Walks and plain mathematics, several texts in one (El Em En).
-/
import Derived.Test.YtjedahcpkcgpeaaGreatDoorH16
import Derived.Deep.LoopGhost
import Derived.Deep.RegionLaw
/-
  Walks of layer 4: a let.
-/
namespace Go.Proofs.YtjedahcpkcgpeaaGreatDoor
open Go Go.RowKit
set_option linter.unusedSimpArgs false
set_option maxRecDepth 100000 in
set_option maxHeartbeats 8000000 in
theorem plet_any (s : Src) (g i : Nat) (F : Pl.Fs) (hde : ∀ W j, i ≤ j → PAt W g s j → Calls Tryz.prog 163 #[.pointer (some ⟨g, 0, none⟩)] W (TreeOut s g (F.decl j) W)) (hex : ∀ W j, i ≤ j → PAt W g s j → Calls Tryz.prog 38 #[.pointer (some ⟨g, 0, none⟩)] W (TreeOut s g (F.expr j) W)) (hgo : Pl.Goes F) (w : World) (h : PAt w g s i) (hbig : s.ts.length ≤ 536870912) :
    Calls Tryz.prog 154 #[.pointer (some ⟨g, 0, none⟩)] w (TreeOut s g (Pl.letB s.ts F i) w) := by
  have HP := Lib.hid h
  have HG := Lib.hid h.blk.lt
  obtain ⟨i28, hi0, hz0, hz1, hz2⟩ := info3 infoTree
  have Hde := Lib.hid hde
  have Hex := Lib.hid hex
  have Hgo := Lib.hid hgo
  obtain ⟨r, hr⟩ : ∃ r, r = Pl.letB s.ts F i := ⟨_, rfl⟩
  rw [← hr]
  have HR := Lib.hid hr
  rw [Pl.letB] at HR
  have HF := Lib.hid (Fr.refl (· = g) w)
  obtain ⟨B, hB⟩ : ∃ B, B = w.heap.size + 1 := ⟨_, rfl⟩
  have HGB := Lib.hid (show g < B from by have := HG.out; omega)
  have HXB := Lib.hid (show w.heap.size < B from by omega)
  have HX := Lib.hid (blk_new w #[.int .i64 0, .int .i64 0, .string ⟨#[]⟩, .slice none 0 0, .slice none 0 0] 27)
  have HXL := Lib.hid (Nat.le_refl w.heap.size)
  have hn := fr_new g w (.cells #[.int .i64 0, .int .i64 0, .string ⟨#[]⟩, .slice none 0 0, .slice none 0 0] 27)
  replace HF := Lib.hid (HF.out.trans hn)
  have HW := Lib.hid (show B ≤ (w.alloc (.cells #[.int .i64 0, .int .i64 0, .string ⟨#[]⟩, .slice none 0 0, .slice none 0 0] 27)).heap.size from by rw [hB]; simp)
  replace HP := Lib.hid (HP.out.below ((Below.refl _ _).alloc (Nat.le_refl _) (.cells #[.int .i64 0, .int .i64 0, .string ⟨#[]⟩, .slice none 0 0, .slice none 0 0] 27)))
  clear h hr hn hB hde hex hgo
  obtain ⟨f, hf⟩ : ∃ f, f = fun (ts : List Pl.Syn) (j : Nat) => (F.expr j).then fun t k => (Pl.needT s.ts [101, 110, 100] k).then fun _ m => (Pl.PR.ok (Pl.nd 31 (ts ++ [t])) m : Pl.PR Pl.Syn) := ⟨_, rfl⟩
  have HR : RowKit.Hid (r = (Pl.declMore s.ts F (s.ts.length + 1) [] i).then f) := Lib.hid (by rw [hf]; exact HR.out)
  have HFF := Lib.hid (fun ts j => show f ts j = _ from by rw [hf])
  have HMM := Lib.hid (fun n ts j => show Pl.declMore s.ts F (n + 1) ts j = if Pl.passes s.ts j [105, 110] then .ok ts (j + 1) else (F.decl j).then fun t k => Pl.declMore s.ts F n (ts ++ [t]) k from rfl)
  clear hf
  go_enter Tryz.func154, Tryz.ntmps154
  go_wp2_with fail
  generalize w.alloc (.cells #[.int .i64 0, .int .i64 0, .string ⟨#[]⟩, .slice none 0 0, .slice none 0 0] 27) = w1 at *
  go_loopg [3] (s.ts.length + 1) (fun gk v wr => ∃ (j : Nat) (ts : List Pl.Syn), PAt wr g s j ∧ Fr (· = g) (· = g) w wr ∧ TreesAt wr B v ts ∧ Blk wr w.heap.size 27 #[.int .i64 0, .int .i64 0, .string ⟨#[]⟩, .slice none 0 0, .slice none 0 0] ∧ B ≤ wr.heap.size ∧ r = (Pl.declMore s.ts F gk ts j).then f ∧ s.ts.length + 1 ≤ gk + j ∧ ts.length ≤ j ∧ i ≤ j)
  case atStart => exact ⟨i, [], HP.out, HF.out, TreesAt.nil _ _, HX.out, HW.out, HR.out, by omega, by simp, by omega⟩
  case round =>
    obtain ⟨j, ts, hp, hf, hl, hx, hw, hr, hj, hnl, hij⟩ := hrel
    have hjn := hp.inn
    obtain ⟨G, hG⟩ : ∃ G, gk = G + 1 := ⟨gk - 1, by omega⟩
    rw [hG, HMM.out G ts j] at hr
    replace HP := Lib.hid hp
    replace HF := Lib.hid hf
    have HL := Lib.hid hl
    replace HX := Lib.hid hx
    replace HW := Lib.hid hw
    replace HR := Lib.hid hr
    have HGJ := Lib.hid hG
    clear hp hf hl hx hw hr hG
    go_wp2_with fail
    cases hpb1 : Pl.passes s.ts j [105, 110]
    · refine (ppass_not (by decide) HP.out hpb1).mono ?_
      rintro e w2 ⟨rfl, hp, hf⟩
      rw [hpb1, if_neg Bool.false_ne_true] at HR
      replace HF := Lib.hid (HF.out.trans hf)
      replace HW := Lib.hid (Nat.le_trans HW.out (Fr.size hf))
      replace HX := Lib.hid (blk_fr HX.out (by have := HXL.out; have := HG.out; omega) hf)
      replace HL := Lib.hid (HL.out.keep HGB.out hf)
      replace HP := Lib.hid (hp)
      clear hp hf
      go_wp2_with fail
      have HOL := Lib.hid (fun k (hk : Value.ownBlock u3 = some k) => (HL.out.owned hk).2)
      have HOB := Lib.hid (fun k (hk : Value.ownBlock u3 = some k) => (HL.out.owned hk).1)
      have HSB := Lib.hid HW.out
      rw [Pl.PR.then_then] at HR
      refine (Hde.out _ _ (by omega) HP.out).mono ?_
      rintro e w3 ho
      rcases TreeOut.split ho with ⟨q3, hri3, rfl, hf⟩ | ⟨tv, q3, v0, v1, v2, va, vl, vc, vd, ve, vf, hri3, rfl, ht, hp, hf⟩
      · exact ⟨rfl, tree_bad (HR.out.trans (by rw [hri3, Pl.PR.then_bad])) (HF.out.trans hf)⟩
      have hgo3 := Hgo.out.decl _ _ _ hri3
      rw [hri3, Pl.PR.then_ok] at HR
      have HTv := Lib.hid ht
      replace HF := Lib.hid (HF.out.trans hf)
      replace HW := Lib.hid (Nat.le_trans HW.out (Fr.size hf))
      replace HX := Lib.hid (blk_fr HX.out (by have := HXL.out; have := HG.out; omega) hf)
      replace HL := Lib.hid (HL.out.keep HGB.out hf)
      replace HP := Lib.hid (hp)
      clear ho hp hf ht hri3
      have hqn := HP.out.inn
      obtain ⟨us, hown, hpush⟩ := trees_append HL.out HTv.out HSB.out HOL.out
      obtain ⟨ln, hln⟩ : ∃ ln, ln = ts.length := ⟨_, rfl⟩
      rw [← hln] at hown hpush hnl
      have HLN := Lib.hid hln
      clear hln
      have HROW := Lib.hid (show World.ownsRow (w3.alloc (.cells #[.int .i64 v0, .int .i64 v1, .string v2, .slice va vl vc, .slice vd ve vf] 27)) B 27 5 u3 ln us from hown)
      have HPUSH := Lib.hid hpush
      clear hown hpush
      have hn := fr_new g w3 (.cells #[.int .i64 v0, .int .i64 v1, .string v2, .slice va vl vc, .slice vd ve vf] 27)
      replace HF := Lib.hid (HF.out.trans hn)
      replace HW := Lib.hid (Nat.le_trans HW.out (Fr.size hn))
      replace HX := Lib.hid (blk_fr HX.out (by have := HXL.out; have := HG.out; omega) hn)
      replace HP := Lib.hid (HP.out.below ((Below.refl _ _).alloc (Nat.le_refl _) (.cells #[.int .i64 v0, .int .i64 v1, .string v2, .slice va vl vc, .slice vd ve vf] 27)))
      clear hn
      go_wp2_with (at_builtin; refine wpList_append_lies _ rfl _ _ 25 rfl B 27 i28 (.agg #[.int .i64 0, .int .i64 0, .string ⟨#[]⟩, .slice none 0 0, .slice none 0 0]) 5 80 Tryz.underlying25 hi0 hz0 hz1 hz2 rfl (by decide) _ _ _ rfl HROW.out ⟨w3.heap.size, 0, none⟩ 1 1 [.int .i64 v0, .int .i64 v1, .string v2, .slice va vl vc, .slice vd ve vf] rfl rfl ?c1 ?c2 (by decide) ?c3 ?c4 ?c5 (w3.heap.size + 1) (by simp) ?_)
      case c1 => exact World.news_of_block (cs := #[.int .i64 v0, .int .i64 v1, .string v2, .slice va vl vc, .slice vd ve vf]) (t := 27) (fr := (0, 0)) (heap_alloc_new w3 _)
      case c2 => simp [Value.oneCell']
      case c3 => unfold maxLen; omega
      case c4 => omega
      case c5 => exact HW.out
      intro gg cap w4 hown hgrow hat hlt
      have HL := Lib.hid (show TreesAt w4 B (.slice (some ⟨gg, 0, none⟩) (ln + 1) cap) (ts ++ [tv]) from HPUSH.out _ _ hown hgrow (fun k hk => by
        have e : some gg = some k := hk
        injection e with e
        subst e
        rcases hat with hat | hat
        · exact .inl hat
        · right; rw [hat]; exact Nat.le_refl _))
      replace HF := Lib.hid (fr_row HF.out hgrow (fun k hk => by have := HOB.out k hk; have := HXB.out; omega))
      replace HX := Lib.hid (blk_grown HX.out hgrow (fun k hk => by have := HOB.out k hk; have := HXB.out; omega))
      replace HP := Lib.hid (HP.out.grown hgrow (fun k hk => by have := HOB.out k hk; have := HGB.out; omega))
      replace HW := Lib.hid (Nat.le_trans HW.out hgrow.size)
      clear hown hgrow hat hlt HROW HPUSH HOL HOB HSB HTv
      have HNN := Lib.hid (show (ts ++ [tv]).length ≤ q3 from by rw [List.length_append, ← HLN.out]; simp; omega)
      go_wp2
      go_roundg G
      case measure => have := HGJ.out; omega
      case rel => exact ⟨q3, ts ++ [tv], HP.out, HF.out, HL.out, HX.out, HW.out, HR.out, by have := HGJ.out; omega, HNN.out, by omega⟩
    · refine (ppass_yes (by decide) HP.out hpb1).mono ?_
      rintro e w5 ⟨rfl, hp, hf⟩
      rw [hpb1, if_pos rfl] at HR
      replace HF := Lib.hid (HF.out.trans hf)
      replace HW := Lib.hid (Nat.le_trans HW.out (Fr.size hf))
      replace HX := Lib.hid (blk_fr HX.out (by have := HXL.out; have := HG.out; omega) hf)
      replace HL := Lib.hid (HL.out.keep HGB.out hf)
      replace HP := Lib.hid (hp)
      clear hp hf
      rw [Pl.PR.then_ok, HFF.out] at HR
      go_wp2_with fail
      have HOL := Lib.hid (fun k (hk : Value.ownBlock u3 = some k) => (HL.out.owned hk).2)
      have HOB := Lib.hid (fun k (hk : Value.ownBlock u3 = some k) => (HL.out.owned hk).1)
      have HSB := Lib.hid HW.out
      refine (Hex.out _ _ (by omega) HP.out).mono ?_
      rintro e w6 ho
      rcases TreeOut.split ho with ⟨q4, hri4, rfl, hf⟩ | ⟨tv, q4, v0, v1, v2, va, vl, vc, vd, ve, vf, hri4, rfl, ht, hp, hf⟩
      · exact ⟨rfl, tree_bad (HR.out.trans (by rw [hri4, Pl.PR.then_bad])) (HF.out.trans hf)⟩
      have hgo4 := Hgo.out.expr _ _ _ hri4
      rw [hri4, Pl.PR.then_ok] at HR
      have HTv := Lib.hid ht
      replace HF := Lib.hid (HF.out.trans hf)
      replace HW := Lib.hid (Nat.le_trans HW.out (Fr.size hf))
      replace HX := Lib.hid (blk_fr HX.out (by have := HXL.out; have := HG.out; omega) hf)
      replace HL := Lib.hid (HL.out.keep HGB.out hf)
      replace HP := Lib.hid (hp)
      clear ho hp hf ht hri4
      obtain ⟨us, hown, hpush⟩ := trees_append HL.out HTv.out HSB.out HOL.out
      obtain ⟨ln, hln⟩ : ∃ ln, ln = ts.length := ⟨_, rfl⟩
      rw [← hln] at hown hpush hnl
      have HLN := Lib.hid hln
      clear hln
      have HROW := Lib.hid (show World.ownsRow (w6.alloc (.cells #[.int .i64 v0, .int .i64 v1, .string v2, .slice va vl vc, .slice vd ve vf] 27)) B 27 5 u3 ln us from hown)
      have HPUSH := Lib.hid hpush
      clear hown hpush
      have hn := fr_new g w6 (.cells #[.int .i64 v0, .int .i64 v1, .string v2, .slice va vl vc, .slice vd ve vf] 27)
      replace HF := Lib.hid (HF.out.trans hn)
      replace HW := Lib.hid (Nat.le_trans HW.out (Fr.size hn))
      replace HX := Lib.hid (blk_fr HX.out (by have := HXL.out; have := HG.out; omega) hn)
      replace HP := Lib.hid (HP.out.below ((Below.refl _ _).alloc (Nat.le_refl _) (.cells #[.int .i64 v0, .int .i64 v1, .string v2, .slice va vl vc, .slice vd ve vf] 27)))
      clear hn
      go_wp2_with (at_builtin; refine wpList_append_lies _ rfl _ _ 25 rfl B 27 i28 (.agg #[.int .i64 0, .int .i64 0, .string ⟨#[]⟩, .slice none 0 0, .slice none 0 0]) 5 80 Tryz.underlying25 hi0 hz0 hz1 hz2 rfl (by decide) _ _ _ rfl HROW.out ⟨w6.heap.size, 0, none⟩ 1 1 [.int .i64 v0, .int .i64 v1, .string v2, .slice va vl vc, .slice vd ve vf] rfl rfl ?c1 ?c2 (by decide) ?c3 ?c4 ?c5 (w6.heap.size + 1) (by simp) ?_)
      case c1 => exact World.news_of_block (cs := #[.int .i64 v0, .int .i64 v1, .string v2, .slice va vl vc, .slice vd ve vf]) (t := 27) (fr := (0, 0)) (heap_alloc_new w6 _)
      case c2 => simp [Value.oneCell']
      case c3 => unfold maxLen; omega
      case c4 => omega
      case c5 => exact HW.out
      intro gg cap w7 hown hgrow hat hlt
      have HL := Lib.hid (show TreesAt w7 B (.slice (some ⟨gg, 0, none⟩) (ln + 1) cap) (ts ++ [tv]) from HPUSH.out _ _ hown hgrow (fun k hk => by
        have e : some gg = some k := hk
        injection e with e
        subst e
        rcases hat with hat | hat
        · exact .inl hat
        · right; rw [hat]; exact Nat.le_refl _))
      replace HF := Lib.hid (fr_row HF.out hgrow (fun k hk => by have := HOB.out k hk; have := HXB.out; omega))
      replace HX := Lib.hid (blk_grown HX.out hgrow (fun k hk => by have := HOB.out k hk; have := HXB.out; omega))
      replace HP := Lib.hid (HP.out.grown hgrow (fun k hk => by have := HOB.out k hk; have := HGB.out; omega))
      replace HW := Lib.hid (Nat.le_trans HW.out hgrow.size)
      clear hown hgrow hat hlt HROW HPUSH HOL HOB HSB HTv
      go_wp2_with fail
      refine (pneed_any s g q4 [101, 110, 100] (by decide) _ HP.out).mono ?_
      rintro e w8 ho
      rcases NeedOut.split ho with ⟨q5, hri5, rfl, hf⟩ | ⟨q5, nv, hri5, rfl, hp, hf⟩
      · exact ⟨rfl, tree_bad (HR.out.trans (by rw [hri5, Pl.PR.then_bad])) (HF.out.trans hf)⟩
      have hgo5 := need_next hri5
      rw [hri5, Pl.PR.then_ok] at HR
      replace HF := Lib.hid (HF.out.trans hf)
      replace HW := Lib.hid (Nat.le_trans HW.out (Fr.size hf))
      replace HX := Lib.hid (blk_fr HX.out (by have := HXL.out; have := HG.out; omega) hf)
      replace HL := Lib.hid (HL.out.keep HGB.out hf)
      replace HP := Lib.hid (hp)
      clear ho hp hf
      have HU := Lib.hid (tree_of (W := w8) (B := B) (op := 31) (n := 0) (tx := ByteArray.empty) (Nat.zero_le _) (strs_none _ _) HL.out.syns)
      obtain ⟨hxc0, hxc1, hxc2, hxc3, hxc4⟩ := five_cells HX.out
      have hxf0 := HX.out.thaw 0
      have hxf1 := HX.out.thaw 1
      have hxf2 := HX.out.thaw 2
      have hxf3 := HX.out.thaw 3
      have hxf4 := HX.out.thaw 4
      go_wp2_with fail
      have HEN := putFive_blk HX.out (.int .i64 31) (.int .i64 0) (.string ⟨#[]⟩) (.slice none 0 0) (.slice (some ⟨gg, 0, none⟩) (ln + 1) cap)
      have HFI := tree_fin HG.out HF.out HU.out HXB.out HP.out (.int .i64 31) (.int .i64 0) (.string ⟨#[]⟩) (.slice none 0 0) (.slice (some ⟨gg, 0, none⟩) (ln + 1) cap)
      unfold putFive at HEN HFI
      obtain ⟨k0, k1, k2, k3, k4⟩ := five_cells HEN
      refine bodyPost_ret (v := .agg #[.int .i64 31, .int .i64 0, .string ⟨#[]⟩, .slice none 0 0, .slice (some ⟨gg, 0, none⟩) (ln + 1) cap]) (by simp [results, Tryz.results154, go_sem, k0, k1, k2, k3, k4]) rfl ?_
      exact tree_ok HR.out HFI
end Go.Proofs.YtjedahcpkcgpeaaGreatDoor

/-
  Walks of layer 4: a type with applications.
-/
namespace Go.Proofs.YtjedahcpkcgpeaaGreatDoor
open Go Go.RowKit
set_option linter.unusedSimpArgs false
theorem post_yes {n : Nat} {t : Pl.Tok} (h : 1 < n ∨ begPath t = true) : 1 < n ∨ t.kind = 1 ∨ t.kind = 2 := h.elim .inl fun h => .inr (by simpa [begPath] using h)
theorem post_not {n : Nat} {t : Pl.Tok} (h : ¬ 1 < n) (h2 : begPath t = false) : ¬ (1 < n ∨ t.kind = 1 ∨ t.kind = 2) := by
  simp only [begPath, Bool.or_eq_false_iff, decide_eq_false_iff_not] at h2
  rintro (h3 | h3 | h3)
  · exact h h3
  · exact h2.1 h3
  · exact h2.2 h3
theorem syns_first {W : World} {P : Nat → Prop} {v : Value} {t : Pl.Syn} {r : List Pl.Syn} (h : SynSl W P v (t :: r)) : ∃ b off c x0 x1 x2 na nl nc la ll lc, v = .slice (some ⟨b, off, none⟩) (t :: r).length c ∧ W.cell? ⟨b, off, none⟩ = some (.int .i64 x0) ∧ W.cell? ⟨b, off + 1, none⟩ = some (.int .i64 x1) ∧ W.cell? ⟨b, off + 2, none⟩ = some (.string x2) ∧ W.cell? ⟨b, off + 3, none⟩ = some (.slice na nl nc) ∧ W.cell? ⟨b, off + 4, none⟩ = some (.slice la ll lc) ∧ SynV W P t (.agg #[.int .i64 x0, .int .i64 x1, .string x2, .slice na nl nc, .slice la ll lc]) := by
  obtain ⟨a, c, rfl, hc, hm, -, hk⟩ := h
  rcases hk with hk | ⟨b, off, rfl, hb, hk⟩
  · cases hk
  obtain ⟨u, hn, ht⟩ := (kidsAt_iff _ _ _ _ _).1 hk 0 (by simp)
  obtain ⟨x0, x1, x2, x3, x4, rfl, t0, t1, t2, t3, t4⟩ := hn
  have ht' : SynV W P t _ := ht
  obtain ⟨y0, y1, y2, na, nl, nc, la, ll, lc, he⟩ := tree_open ht'
  injection he with he
  simp only [Array.mk.injEq, List.cons.injEq, and_true] at he
  obtain ⟨rfl, rfl, rfl, rfl, rfl⟩ := he
  simp only [Nat.zero_mul, Nat.add_zero] at t0 t1 t2 t3 t4
  exact ⟨b, off, c, _, _, _, _, _, _, _, _, _, rfl, t0, t1, t2, t3, t4, ht'⟩
set_option maxRecDepth 100000 in
set_option maxHeartbeats 8000000 in
theorem ppostfix_any (s : Src) (g i : Nat) (F : Pl.Fs) (hsi : ∀ W, PAt W g s i → Calls Tryz.prog 138 #[.pointer (some ⟨g, 0, none⟩)] W (TreesOut s g (F.simp i) W)) (hne : ∀ ts j, F.simp i = .ok ts j → 1 ≤ ts.length ∧ i + 1 ≤ j) (w : World) (h : PAt w g s i) (hbig : s.ts.length ≤ 536870912) :
    Calls Tryz.prog 114 #[.pointer (some ⟨g, 0, none⟩)] w (TreeOut s g (Pl.postB s.ts F i) w) := by
  have HP := Lib.hid h
  have HG := Lib.hid h.blk.lt
  have Hsi := Lib.hid hsi
  have Hne := Lib.hid hne
  obtain ⟨r, hr⟩ : ∃ r, r = Pl.postB s.ts F i := ⟨_, rfl⟩
  rw [← hr]
  have HR := Lib.hid hr
  rw [Pl.postB] at HR
  have HF := Lib.hid (Fr.refl (· = g) w)
  obtain ⟨B, hB⟩ : ∃ B, B = w.heap.size + 1 := ⟨_, rfl⟩
  have HGB := Lib.hid (show g < B from by have := HG.out; omega)
  have HXB := Lib.hid (show w.heap.size < B from by omega)
  have HX := Lib.hid (blk_new w #[.int .i64 0, .int .i64 0, .string ⟨#[]⟩, .slice none 0 0, .slice none 0 0] 27)
  have HXL := Lib.hid (Nat.le_refl w.heap.size)
  have hn := fr_new g w (.cells #[.int .i64 0, .int .i64 0, .string ⟨#[]⟩, .slice none 0 0, .slice none 0 0] 27)
  replace HF := Lib.hid (HF.out.trans hn)
  have HW := Lib.hid (show B ≤ (w.alloc (.cells #[.int .i64 0, .int .i64 0, .string ⟨#[]⟩, .slice none 0 0, .slice none 0 0] 27)).heap.size from by rw [hB]; simp)
  replace HP := Lib.hid (HP.out.below ((Below.refl _ _).alloc (Nat.le_refl _) (.cells #[.int .i64 0, .int .i64 0, .string ⟨#[]⟩, .slice none 0 0, .slice none 0 0] 27)))
  clear h hr hn hB hsi hne
  have HMM := Lib.hid (fun n ts j => show Pl.postMore s.ts (n + 1) ts j = if 1 < ts.length ∨ (Pl.tkAt s.ts j).kind = 1 ∨ (Pl.tkAt s.ts j).kind = 2 then (Pl.tpath s.ts j).then fun ns k => Pl.postMore s.ts n [Pl.ndNames 2 ns ts] k else .ok (ts.headD Pl.none0) j from rfl)
  go_enter Tryz.func114, Tryz.ntmps114
  go_wp2_with fail
  generalize w.alloc (.cells #[.int .i64 0, .int .i64 0, .string ⟨#[]⟩, .slice none 0 0, .slice none 0 0] 27) = w1 at *
  refine (Hsi.out _ HP.out).mono ?_
  rintro e w2 ho
  rcases TreesOut.split ho with ⟨q1, hri1, rfl, hf⟩ | ⟨ts, q1, la, lc, hri1, rfl, ht, hp, hf⟩
  · exact ⟨rfl, tree_bad (HR.out.trans (by rw [hri1, Pl.PR.then_bad])) (HF.out.trans hf)⟩
  rw [hri1, Pl.PR.then_ok] at HR
  have HL := Lib.hid (ht.low HW.out)
  replace HF := Lib.hid (HF.out.trans hf)
  replace HW := Lib.hid (Nat.le_trans HW.out (Fr.size hf))
  replace HX := Lib.hid (blk_fr HX.out (by have := HXL.out; have := HG.out; omega) hf)
  replace HP := Lib.hid (hp)
  clear ho hp hf ht
  obtain ⟨ln, hln⟩ : ∃ ln, ln = ts.length := ⟨_, rfl⟩
  rw [← hln] at HL ⊢
  have HLN := Lib.hid hln
  clear hln
  have hne := Hne.out _ _ hri1
  clear hri1
  go_wp2_with fail
  go_loopg [3] (s.ts.length + 2) (fun gk v wr => ∃ (j : Nat) (ts : List Pl.Syn), PAt wr g s j ∧ Fr (· = g) (· = g) w wr ∧ TreesAt wr B v ts ∧ Blk wr w.heap.size 27 #[.int .i64 0, .int .i64 0, .string ⟨#[]⟩, .slice none 0 0, .slice none 0 0] ∧ B ≤ wr.heap.size ∧ r = Pl.postMore s.ts gk ts j ∧ s.ts.length + 2 ≤ gk + j ∧ 1 ≤ ts.length)
  case atStart => exact ⟨q1, ts, HP.out, HF.out, HL.out, HX.out, HW.out, HR.out, by omega, hne.1⟩
  case round =>
    clear hne HL HLN
    obtain ⟨j, ts, hp, hf, hl, hx, hw, hr, hj, hnl⟩ := hrel
    have hjn := hp.inn
    obtain ⟨G, hG⟩ : ∃ G, gk = G + 1 := ⟨gk - 1, by omega⟩
    rw [hG, HMM.out G ts j] at hr
    replace HP := Lib.hid hp
    replace HF := Lib.hid hf
    obtain ⟨la, lc, hv, -⟩ := hl.syns
    subst hv
    have HL := Lib.hid hl
    replace HX := Lib.hid hx
    replace HW := Lib.hid hw
    replace HR := Lib.hid hr
    have HGJ := Lib.hid hG
    clear hp hf hl hx hw hr hG
    obtain ⟨ln, hln⟩ : ∃ ln, ln = ts.length := ⟨_, rfl⟩
    rw [← hln] at HL HR hnl ⊢
    have HLN := Lib.hid hln
    clear hln
    by_cases hb : 1 < ln
    · have hq : (1 : Int) < (ln : Int) := by omega
      rw [if_pos (.inl hb)] at HR
      go_wp2_with fail
      refine (ptypePath_any s g j _ HP.out hbig).mono ?_
      rintro e w3 ho
      rcases NamesOut.split ho with ⟨q2, hri2, rfl, hf⟩ | ⟨nx, q2, nax, ncx, hri2, rfl, hs, hp, hf⟩
      · exact ⟨rfl, tree_bad (HR.out.trans (by rw [hri2, Pl.PR.then_bad])) (HF.out.trans hf)⟩
      have HNx := Lib.hid (hs.mono (own_low HW.out))
      have hgo := Pl.after_tpath _ _ _ _ hri2
      rw [hri2, Pl.PR.then_ok] at HR
      replace HF := Lib.hid (HF.out.trans hf)
      replace HW := Lib.hid (Nat.le_trans HW.out (Fr.size hf))
      replace HX := Lib.hid (blk_fr HX.out (by have := HXL.out; have := HG.out; omega) hf)
      replace HL := Lib.hid (HL.out.keep HGB.out hf)
      replace HP := Lib.hid (hp)
      clear ho hp hf
      clear hs
      have hqn := HP.out.inn
      obtain ⟨nlx, hnl⟩ : ∃ nl, nl = nx.length := ⟨_, rfl⟩
      rw [← hnl] at HNx ⊢
      clear hnl
      have hu := tree_of (W := w3) (B := B) (op := 2) (n := 0) (tx := ByteArray.empty) (Nat.zero_le _) HNx.out HL.out.syns
      have hl := trees_one_at HW.out hu
      clear hu
      have hn := fr_new g w3 (.cells #[.int .i64 2, .int .i64 0, .string ⟨#[]⟩, .slice nax nlx ncx, .slice la ln lc] 27)
      replace HF := Lib.hid (HF.out.trans hn)
      replace HW := Lib.hid (Nat.le_trans HW.out (Fr.size hn))
      replace HX := Lib.hid (blk_fr HX.out (by have := HXL.out; have := HG.out; omega) hn)
      replace HP := Lib.hid (HP.out.below ((Below.refl _ _).alloc (Nat.le_refl _) (.cells #[.int .i64 2, .int .i64 0, .string ⟨#[]⟩, .slice nax nlx ncx, .slice la ln lc] 27)))
      clear hn
      replace HL := Lib.hid hl
      clear hl
      go_wp2
      go_roundg G
      case measure => have := HGJ.out; omega
      case rel => exact ⟨q2, [Pl.ndNames 2 nx ts], HP.out, HF.out, HL.out, HX.out, HW.out, HR.out, by have := HGJ.out; omega, by simp⟩
    · have hq : ¬ (1 : Int) < (ln : Int) := by omega
      go_wp2_with fail
      refine (ptoken_any s g j _ HP.out).mono ?_
      rintro e w4 ho
      obtain ⟨li, co, rfl, hp, hf⟩ := TokenOut.split ho HP.out
      replace HF := Lib.hid (HF.out.trans hf)
      replace HW := Lib.hid (Nat.le_trans HW.out (Fr.size hf))
      replace HX := Lib.hid (blk_fr HX.out (by have := HXL.out; have := HG.out; omega) hf)
      replace HL := Lib.hid (HL.out.keep HGB.out hf)
      replace HP := Lib.hid (hp)
      clear ho hp hf
      go_wp2_with fail
      have hc := pbegPath_at s j li co w4
      cases hbg3 : begPath (Pl.tkAt s.ts j)
      · rw [hbg3] at hc
        refine hc.mono ?_
        rintro e w5 ⟨rfl, hb⟩
        have hf := fr_below (o := (· = g)) hb
        replace HF := Lib.hid (HF.out.trans hf)
        replace HW := Lib.hid (Nat.le_trans HW.out (Fr.size hf))
        replace HX := Lib.hid (blk_fr HX.out (by have := HXL.out; have := HG.out; omega) hf)
        replace HL := Lib.hid (HL.out.keep HGB.out hf)
        replace HP := Lib.hid (HP.out.below hb)
        clear hb hf hc
        rw [if_neg (post_not hb hbg3)] at HR
        obtain ⟨t0, rest, hts⟩ : ∃ t0 rest, ts = t0 :: rest := List.exists_cons_of_length_pos (by have := HLN.out; omega)
        subst hts
        have hfs := HL.out.syns
        have HLN2 := HLN.out
        rw [List.headD_cons] at HR
        obtain ⟨bb, off, cc, x0, x1, x2, xa, xl, xc, xd, xe, xf, hv, d0, d1, d2, d3, d4, hu⟩ := syns_first hfs
        injection hv with ha h0 hc
        subst ha
        have HU := Lib.hid hu
        have hpos : (0 : Int) < (ln : Int) := by omega
        clear hfs hu h0 HLN2
        obtain ⟨hxc0, hxc1, hxc2, hxc3, hxc4⟩ := five_cells HX.out
        have hxf0 := HX.out.thaw 0
        have hxf1 := HX.out.thaw 1
        have hxf2 := HX.out.thaw 2
        have hxf3 := HX.out.thaw 3
        have hxf4 := HX.out.thaw 4
        go_wp2_with fail
        have HEN := putFive_blk HX.out (.int .i64 x0) (.int .i64 x1) (.string x2) (.slice xa xl xc) (.slice xd xe xf)
        have HFI := tree_fin HG.out HF.out HU.out HXB.out HP.out (.int .i64 x0) (.int .i64 x1) (.string x2) (.slice xa xl xc) (.slice xd xe xf)
        unfold putFive at HEN HFI
        obtain ⟨k0, k1, k2, k3, k4⟩ := five_cells HEN
        refine bodyPost_ret (v := .agg #[.int .i64 x0, .int .i64 x1, .string x2, .slice xa xl xc, .slice xd xe xf]) (by simp [results, Tryz.results114, go_sem, k0, k1, k2, k3, k4]) rfl ?_
        exact tree_ok HR.out HFI
      · rw [hbg3] at hc
        refine hc.mono ?_
        rintro e w5 ⟨rfl, hb⟩
        have hf := fr_below (o := (· = g)) hb
        replace HF := Lib.hid (HF.out.trans hf)
        replace HW := Lib.hid (Nat.le_trans HW.out (Fr.size hf))
        replace HX := Lib.hid (blk_fr HX.out (by have := HXL.out; have := HG.out; omega) hf)
        replace HL := Lib.hid (HL.out.keep HGB.out hf)
        replace HP := Lib.hid (HP.out.below hb)
        clear hb hf hc
        rw [if_pos (post_yes (.inr hbg3))] at HR
        go_wp2_with fail
        refine (ptypePath_any s g j _ HP.out hbig).mono ?_
        rintro e w6 ho
        rcases NamesOut.split ho with ⟨q4, hri4, rfl, hf⟩ | ⟨nx, q4, nax, ncx, hri4, rfl, hs, hp, hf⟩
        · exact ⟨rfl, tree_bad (HR.out.trans (by rw [hri4, Pl.PR.then_bad])) (HF.out.trans hf)⟩
        have HNx := Lib.hid (hs.mono (own_low HW.out))
        have hgo := Pl.after_tpath _ _ _ _ hri4
        rw [hri4, Pl.PR.then_ok] at HR
        replace HF := Lib.hid (HF.out.trans hf)
        replace HW := Lib.hid (Nat.le_trans HW.out (Fr.size hf))
        replace HX := Lib.hid (blk_fr HX.out (by have := HXL.out; have := HG.out; omega) hf)
        replace HL := Lib.hid (HL.out.keep HGB.out hf)
        replace HP := Lib.hid (hp)
        clear ho hp hf
        clear hs
        have hqn := HP.out.inn
        obtain ⟨nlx, hnl⟩ : ∃ nl, nl = nx.length := ⟨_, rfl⟩
        rw [← hnl] at HNx ⊢
        clear hnl
        have hu := tree_of (W := w6) (B := B) (op := 2) (n := 0) (tx := ByteArray.empty) (Nat.zero_le _) HNx.out HL.out.syns
        have hl := trees_one_at HW.out hu
        clear hu
        have hn := fr_new g w6 (.cells #[.int .i64 2, .int .i64 0, .string ⟨#[]⟩, .slice nax nlx ncx, .slice la ln lc] 27)
        replace HF := Lib.hid (HF.out.trans hn)
        replace HW := Lib.hid (Nat.le_trans HW.out (Fr.size hn))
        replace HX := Lib.hid (blk_fr HX.out (by have := HXL.out; have := HG.out; omega) hn)
        replace HP := Lib.hid (HP.out.below ((Below.refl _ _).alloc (Nat.le_refl _) (.cells #[.int .i64 2, .int .i64 0, .string ⟨#[]⟩, .slice nax nlx ncx, .slice la ln lc] 27)))
        clear hn
        replace HL := Lib.hid hl
        clear hl
        go_wp2
        go_roundg G
        case measure => have := HGJ.out; omega
        case rel => exact ⟨q4, [Pl.ndNames 2 nx ts], HP.out, HF.out, HL.out, HX.out, HW.out, HR.out, by have := HGJ.out; omega, by simp⟩
end Go.Proofs.YtjedahcpkcgpeaaGreatDoor

/-
  Walks of layer 4: an application.
-/
namespace Go.Proofs.YtjedahcpkcgpeaaGreatDoor
open Go Go.RowKit
set_option linter.unusedSimpArgs false
abbrev OwnX (B Z : Nat) (W : World) : Nat → Prop := fun b => B ≤ b ∧ b < W.heap.size ∧ b ≠ Z
theorem treex_fr {W W' : World} {B Z o : Nat} {t : Pl.Syn} {v : Value} (h : SynV W (OwnX B Z W) t v) (ho : o < B ∨ o = Z) (hf : Fr (· = o) (· = o) W W') : SynV W' (OwnX B Z W') t v :=
  (h.keep (fun b hb => hf.block hb.2.1 (fun e => by have e : b = o := e; have := hb.1; have := hb.2.2; omega))).mono (fun b hb => ⟨hb.1, Nat.lt_of_lt_of_le hb.2.1 hf.size, hb.2.2⟩)
theorem trees_two_in {W : World} {P : Nat → Prop} {t u : Pl.Syn} {x0 x1 x2 x3 x4 y0 y1 y2 y3 y4 : Value} (hP : ∀ b, P b → b < W.heap.size) (hx : SynV W P t (.agg #[x0, x1, x2, x3, x4])) (hy : SynV W P u (.agg #[y0, y1, y2, y3, y4])) :
    SynSl (W.alloc (.cells #[x0, x1, x2, x3, x4, y0, y1, y2, y3, y4] 27)) (fun b => P b ∨ b = W.heap.size) (.slice (some ⟨W.heap.size, 0, none⟩) 2 2) [t, u] := by
  have hb : Below W.heap.size W (W.alloc (.cells #[x0, x1, x2, x3, x4, y0, y1, y2, y3, y4] 27)) := (Below.refl _ _).alloc (Nat.le_refl _) _
  have hk := blk_new W #[x0, x1, x2, x3, x4, y0, y1, y2, y3, y4] 27
  have up : ∀ {a : Pl.Syn} {v : Value}, SynV W P a v → SynV (W.alloc (.cells #[x0, x1, x2, x3, x4, y0, y1, y2, y3, y4] 27)) (fun b => P b ∨ b = W.heap.size) a v := fun h => (h.keep (fun b h => hb.block b (hP b h))).mono (fun b h => .inl h)
  refine ⟨_, 2, rfl, Nat.le_refl _, by unfold maxLen; omega, fun h => (by cases h), Or.inr ⟨W.heap.size, 0, rfl, .inr rfl, (kidsAt_iff _ _ _ _ _).2 fun j hj => ?_⟩⟩
  match j, hj with
  | 0, _ => exact ⟨_, ⟨x0, x1, x2, x3, x4, rfl, hk.cell 0 _ rfl, hk.cell 1 _ rfl, hk.cell 2 _ rfl, hk.cell 3 _ rfl, hk.cell 4 _ rfl⟩, up hx⟩
  | 1, _ => exact ⟨_, ⟨y0, y1, y2, y3, y4, rfl, hk.cell 5 _ rfl, hk.cell 6 _ rfl, hk.cell 7 _ rfl, hk.cell 8 _ rfl, hk.cell 9 _ rfl⟩, up hy⟩
theorem node_two {W V : World} {B Z : Nat} {t u : Pl.Syn} {op n : Int} {x0 x1 x2 x3 x4 y0 y1 y2 y3 y4 z0 z1 z2 z3 z4 : Value} (hB : B ≤ V.heap.size) (hZ : Z < V.heap.size) (hW : V.heap.size ≤ W.heap.size) (hx : SynV W (OwnX B Z W) t (.agg #[x0, x1, x2, x3, x4])) (hy : SynV W (fun b => V.heap.size ≤ b ∧ b < W.heap.size) u (.agg #[y0, y1, y2, y3, y4])) :
    SynV (putFive (W.alloc (.cells #[x0, x1, x2, x3, x4, y0, y1, y2, y3, y4] 27)) Z z0 z1 z2 z3 z4) (OwnX B Z (putFive (W.alloc (.cells #[x0, x1, x2, x3, x4, y0, y1, y2, y3, y4] 27)) Z z0 z1 z2 z3 z4)) ⟨op, n, ByteArray.empty, [], [t, u]⟩ (.agg #[.int .i64 op, .int .i64 n, .string ⟨#[]⟩, .slice none 0 0, .slice (some ⟨W.heap.size, 0, none⟩) 2 2]) := by
  have hl := trees_two_in (P := OwnX B Z W) (fun b hb => hb.2.1) hx (hy.mono fun b hb => ⟨by omega, hb.2, by omega⟩)
  have hsz : (W.alloc (.cells #[x0, x1, x2, x3, x4, y0, y1, y2, y3, y4] 27)).heap.size = W.heap.size + 1 := by simp
  have h := synV_make (op := op) (n := n) (tx := ByteArray.empty) (ns := []) (Nat.zero_le _) (strs_none _ _) (hl.mono (Q := OwnX B Z (W.alloc (.cells #[x0, x1, x2, x3, x4, y0, y1, y2, y3, y4] 27))) (fun b hb => by
    rcases hb with hb | hb
    · exact ⟨hb.1, by omega, hb.2.2⟩
    · exact ⟨by omega, by omega, by omega⟩))
  exact treex_fr h (.inr rfl) (fr_putFive _ _ _ _ _ _ _)
set_option maxRecDepth 100000 in
set_option maxHeartbeats 8000000 in
theorem papplication_any (s : Src) (g i : Nat) (F : Pl.Fs) (hat : ∀ W j, i ≤ j → PAt W g s j → Calls Tryz.prog 147 #[.pointer (some ⟨g, 0, none⟩)] W (TreeOut s g (F.atom j) W)) (hgo : Pl.Goes F) (w : World) (h : PAt w g s i) :
    Calls Tryz.prog 137 #[.pointer (some ⟨g, 0, none⟩)] w (TreeOut s g (Pl.appB s.ts F i) w) := by
  have HP := Lib.hid h
  have HG := Lib.hid h.blk.lt
  have Hat := Lib.hid hat
  have Hgo := Lib.hid hgo
  obtain ⟨r, hr⟩ : ∃ r, r = Pl.appB s.ts F i := ⟨_, rfl⟩
  rw [← hr]
  have HR := Lib.hid hr
  rw [Pl.appB] at HR
  have HF := Lib.hid (Fr.refl (· = g) w)
  obtain ⟨B, hB⟩ : ∃ B, B = w.heap.size + 1 := ⟨_, rfl⟩
  have HGB := Lib.hid (show g < B from by have := HG.out; omega)
  have HXB := Lib.hid (show w.heap.size < B from by omega)
  have HX := Lib.hid (blk_new w #[.int .i64 0, .int .i64 0, .string ⟨#[]⟩, .slice none 0 0, .slice none 0 0] 27)
  have HXL := Lib.hid (Nat.le_refl w.heap.size)
  have hn := fr_new g w (.cells #[.int .i64 0, .int .i64 0, .string ⟨#[]⟩, .slice none 0 0, .slice none 0 0] 27)
  replace HF := Lib.hid (HF.out.trans hn)
  have HW := Lib.hid (show B ≤ (w.alloc (.cells #[.int .i64 0, .int .i64 0, .string ⟨#[]⟩, .slice none 0 0, .slice none 0 0] 27)).heap.size from by rw [hB]; simp)
  replace HP := Lib.hid (HP.out.below ((Below.refl _ _).alloc (Nat.le_refl _) (.cells #[.int .i64 0, .int .i64 0, .string ⟨#[]⟩, .slice none 0 0, .slice none 0 0] 27)))
  clear h hr hn hB hat hgo
  have HMM := Lib.hid (fun n t j => show Pl.appMore s.ts F (n + 1) t j = if Pl.begAtom (Pl.tkAt s.ts j) then (F.atom j).then fun u k => Pl.appMore s.ts F n (Pl.nd 26 [t, u]) k else .ok t j from rfl)
  go_enter Tryz.func137, Tryz.ntmps137
  go_wp2_with fail
  generalize w.alloc (.cells #[.int .i64 0, .int .i64 0, .string ⟨#[]⟩, .slice none 0 0, .slice none 0 0] 27) = w1 at *
  refine (Hat.out _ _ (Nat.le_refl _) HP.out).mono ?_
  rintro e w2 ho
  rcases TreeOut.split ho with ⟨q1, hri1, rfl, hf⟩ | ⟨tx, q1, x0, x1, x2, xa, xl, xc, xd, xe, xf, hri1, rfl, ht, hp, hf⟩
  · exact ⟨rfl, tree_bad (HR.out.trans (by rw [hri1, Pl.PR.then_bad])) (HF.out.trans hf)⟩
  have hgo1 := Hgo.out.atom _ _ _ hri1
  rw [hri1, Pl.PR.then_ok] at HR
  have HTx := Lib.hid (ht.mono (own_low HW.out))
  replace HF := Lib.hid (HF.out.trans hf)
  replace HW := Lib.hid (Nat.le_trans HW.out (Fr.size hf))
  replace HX := Lib.hid (blk_fr HX.out (by have := HXL.out; have := HG.out; omega) hf)
  replace HP := Lib.hid (hp)
  clear ho hp hf ht hri1
  have HTX := Lib.hid (HTx.out.mono (Q := OwnX B w2.heap.size w2) (fun b hb => ⟨hb.1, hb.2, Nat.ne_of_lt hb.2⟩))
  clear HTx
  have HZL := Lib.hid (show w.heap.size < w2.heap.size from Nat.lt_of_lt_of_le HXB.out HW.out)
  have HZW := Lib.hid HW.out
  have hz := blk_new w2 #[.int .i64 x0, .int .i64 x1, .string x2, .slice xa xl xc, .slice xd xe xf] 27
  have hn := fr_new g w2 (.cells #[.int .i64 x0, .int .i64 x1, .string x2, .slice xa xl xc, .slice xd xe xf] 27)
  replace HF := Lib.hid (HF.out.trans hn)
  replace HW := Lib.hid (Nat.le_trans HW.out (Fr.size hn))
  replace HX := Lib.hid (blk_fr HX.out (by have := HXL.out; have := HG.out; omega) hn)
  replace HP := Lib.hid (HP.out.below ((Below.refl _ _).alloc (Nat.le_refl _) (.cells #[.int .i64 x0, .int .i64 x1, .string x2, .slice xa xl xc, .slice xd xe xf] 27)))
  clear hn
  replace HTX := Lib.hid (treex_fr HTX.out (.inl HGB.out) (fr_new g w2 (.cells #[.int .i64 x0, .int .i64 x1, .string x2, .slice xa xl xc, .slice xd xe xf] 27)))
  have HZ := Lib.hid hz
  clear hz
  go_wp2_with fail
  generalize (w2.alloc (.cells #[.int .i64 x0, .int .i64 x1, .string x2, .slice xa xl xc, .slice xd xe xf] 27)) = wz at *
  generalize w2.heap.size = z at *
  go_loopg [] (s.ts.length + 1) (fun gk wr => ∃ (j : Nat) (t : Pl.Syn) (x0 x1 : Int) (x2 : ByteArray) (xa : Option Addr) (xl xc : Nat) (xd : Option Addr) (xe xf : Nat), PAt wr g s j ∧ Fr (· = g) (· = g) w wr ∧ Blk wr w.heap.size 27 #[.int .i64 0, .int .i64 0, .string ⟨#[]⟩, .slice none 0 0, .slice none 0 0] ∧ Blk wr z 27 #[.int .i64 x0, .int .i64 x1, .string x2, .slice xa xl xc, .slice xd xe xf] ∧ SynV wr (OwnX B z wr) t (.agg #[.int .i64 x0, .int .i64 x1, .string x2, .slice xa xl xc, .slice xd xe xf]) ∧ z < wr.heap.size ∧ r = Pl.appMore s.ts F gk t j ∧ s.ts.length + 1 ≤ gk + j ∧ i ≤ j)
  case atStart => exact ⟨q1, tx, x0, x1, x2, xa, xl, xc, xd, xe, xf, HP.out, HF.out, HX.out, HZ.out, HTX.out, HZ.out.lt, HR.out, by omega, by omega⟩
  case round =>
    clear HTX HZ
    obtain ⟨j, t, x0, x1, x2, xa, xl, xc, xd, xe, xf, hp, hf, hx, hz, ht, hzl, hr, hj, hij⟩ := hrel
    have hjn := hp.inn
    obtain ⟨G, hG⟩ : ∃ G, gk = G + 1 := ⟨gk - 1, by omega⟩
    rw [hG] at hr
    replace HP := Lib.hid hp
    replace HF := Lib.hid hf
    replace HX := Lib.hid hx
    have HZ := Lib.hid hz
    have HTX := Lib.hid ht
    replace HR := Lib.hid hr
    have HGJ := Lib.hid hG
    clear hp hf hx hz ht hr hG hzl
    rw [HMM.out G t j] at HR
    go_wp2_with fail
    refine (ptoken_any s g j _ HP.out).mono ?_
    rintro e w3 ho
    obtain ⟨li, co, rfl, hp, hf⟩ := TokenOut.split ho HP.out
    replace HF := Lib.hid (HF.out.trans hf)
    replace HX := Lib.hid (blk_fr HX.out (by have := HG.out; omega) hf)
    replace HZ := Lib.hid (blk_fr HZ.out (by have := HZL.out; have := HG.out; omega) hf)
    replace HTX := Lib.hid (treex_fr HTX.out (.inl HGB.out) hf)
    replace HP := Lib.hid (hp)
    clear ho hp hf
    go_wp2_with fail
    have hc := pbegAtom_at s j li co w3
    cases hbg2 : Pl.begAtom (Pl.tkAt s.ts j)
    · rw [hbg2] at hc
      rw [hbg2, if_neg Bool.false_ne_true] at HR
      refine hc.mono ?_
      rintro e w4 ⟨rfl, hb⟩
      have hf := fr_below (o := (· = g)) hb
      replace HF := Lib.hid (HF.out.trans hf)
      replace HX := Lib.hid (blk_fr HX.out (by have := HG.out; omega) hf)
      replace HZ := Lib.hid (blk_fr HZ.out (by have := HZL.out; have := HG.out; omega) hf)
      replace HTX := Lib.hid (treex_fr HTX.out (.inl HGB.out) hf)
      replace HP := Lib.hid (HP.out.below hb)
      clear hb hf hc
      have HU := Lib.hid (HTX.out.mono (Q := Own B w4) (fun b hb => ⟨hb.1, hb.2.1⟩))
      have hzx : ¬ z = w.heap.size := by have := HZL.out; omega
      have hxz : ¬ w.heap.size = z := by have := HZL.out; omega
      obtain ⟨hxc0, hxc1, hxc2, hxc3, hxc4⟩ := five_cells HX.out
      have hxf0 := HX.out.thaw 0
      have hxf1 := HX.out.thaw 1
      have hxf2 := HX.out.thaw 2
      have hxf3 := HX.out.thaw 3
      have hxf4 := HX.out.thaw 4
      obtain ⟨hzc0, hzc1, hzc2, hzc3, hzc4⟩ := five_cells HZ.out
      go_wp2_with fail
      have HEN := putFive_blk HX.out (.int .i64 x0) (.int .i64 x1) (.string x2) (.slice xa xl xc) (.slice xd xe xf)
      have HFI := tree_fin HG.out HF.out HU.out HXB.out HP.out (.int .i64 x0) (.int .i64 x1) (.string x2) (.slice xa xl xc) (.slice xd xe xf)
      unfold putFive at HEN HFI
      obtain ⟨k0, k1, k2, k3, k4⟩ := five_cells HEN
      refine bodyPost_ret (v := .agg #[.int .i64 x0, .int .i64 x1, .string x2, .slice xa xl xc, .slice xd xe xf]) (by simp [results, Tryz.results137, go_sem, k0, k1, k2, k3, k4]) rfl ?_
      exact tree_ok HR.out HFI
    · rw [hbg2] at hc
      rw [hbg2, if_pos rfl] at HR
      refine hc.mono ?_
      rintro e w4 ⟨rfl, hb⟩
      have hf := fr_below (o := (· = g)) hb
      replace HF := Lib.hid (HF.out.trans hf)
      replace HX := Lib.hid (blk_fr HX.out (by have := HG.out; omega) hf)
      replace HZ := Lib.hid (blk_fr HZ.out (by have := HZL.out; have := HG.out; omega) hf)
      replace HTX := Lib.hid (treex_fr HTX.out (.inl HGB.out) hf)
      replace HP := Lib.hid (HP.out.below hb)
      clear hb hf hc
      go_wp2_with fail
      have HPD := Lib.hid (HP.out.below (Below.refl w4.heap.size w4).drew)
      have HZLT := Lib.hid HZ.out.lt
      have hzx : ¬ z = w.heap.size := by have := HZL.out; omega
      have hxz : ¬ w.heap.size = z := by have := HZL.out; omega
      obtain ⟨hzc0, hzc1, hzc2, hzc3, hzc4⟩ := five_cells HZ.out
      go_region_law (go_simp; go_at_call 147; refine (Hat.out _ _ (by omega) HPD.out).mono ?_; rintro e w5 ho; rcases TreeOut.split ho with ⟨q, hri, rfl, hf⟩ | ⟨ty, q, y0, y1, y2, ya, yl, yc, yd, ye, yf, hri, rfl, ht, hp, hf⟩; exact ⟨rfl, tree_bad (HR.out.trans (by rw [hri, Pl.PR.then_bad])) (HF.out.trans ((fr_drew g w4).trans hf))⟩; have HRI := Lib.hid hri; have HYT := Lib.hid ht; have HF5 := Lib.hid ((fr_drew g w4).trans hf); have HP5 := Lib.hid hp; have HZ5 := Lib.hid (blk_fr HZ.out (by have := HZL.out; have := HG.out; omega) HF5.out); have HZ6 := Lib.hid (blk_fr HZ5.out (by have := HZL.out; have := HG.out; omega) (fr_new g w5 (.cells #[.int .i64 x0, .int .i64 x1, .string x2, .slice xa xl xc, .slice xd xe xf, .int .i64 y0, .int .i64 y1, .string y2, .slice ya yl yc, .slice yd ye yf] 27))); obtain ⟨r0, r1, r2, r3, r4⟩ := five_cells HZ5.out; obtain ⟨d0, d1, d2, d3, d4⟩ := five_cells HZ6.out; have f0 := HZ6.out.thaw 0; have f1 := HZ6.out.thaw 1; have f2 := HZ6.out.thaw 2; have f3 := HZ6.out.thaw 3; have f4 := HZ6.out.thaw 4; clear ho hri ht hp hf)
      all_goals
        have hgo := Hgo.out.atom _ _ _ HRI.out
        rw [HRI.out, Pl.PR.then_ok] at HR
        have hsz5 : (World.heap w4).size ≤ (World.heap w5).size := HF5.out.size
        have HN0 := Lib.hid (treex_fr HTX.out (.inl HGB.out) HF5.out)
        have HN1 := Lib.hid (node_two (V := w4) (op := 26) (n := 0) (z0 := (.int .i64 26)) (z1 := (.int .i64 0)) (z2 := (.string ⟨#[]⟩)) (z3 := (.slice none 0 0)) (z4 := (.slice (some ⟨w5.heap.size, 0, none⟩) 2 2)) (by have := HZW.out; have := HZLT.out; omega) HZLT.out hsz5 HN0.out HYT.out)
        have HN2 := Lib.hid (putFive_blk HZ6.out (.int .i64 26) (.int .i64 0) (.string ⟨#[]⟩) (.slice none 0 0) (.slice (some ⟨w5.heap.size, 0, none⟩) 2 2))
        have hf6 := fr_putFive (w5.alloc (.cells #[.int .i64 x0, .int .i64 x1, .string x2, .slice xa xl xc, .slice xd xe xf, .int .i64 y0, .int .i64 y1, .string y2, .slice ya yl yc, .slice yd ye yf] 27)) z (.int .i64 26) (.int .i64 0) (.string ⟨#[]⟩) (.slice none 0 0) (.slice (some ⟨w5.heap.size, 0, none⟩) 2 2)
        have HN3 := Lib.hid (fr_over ((HF.out.trans HF5.out).trans (fr_new g w5 (.cells #[.int .i64 x0, .int .i64 x1, .string x2, .slice xa xl xc, .slice xd xe xf, .int .i64 y0, .int .i64 y1, .string y2, .slice ya yl yc, .slice yd ye yf] 27))) (Nat.le_of_lt HZL.out) hf6)
        have HN4 := Lib.hid (pat_fr (HP5.out.below ((Below.refl _ _).alloc (Nat.le_refl _) (.cells #[.int .i64 x0, .int .i64 x1, .string x2, .slice xa xl xc, .slice xd xe xf, .int .i64 y0, .int .i64 y1, .string y2, .slice ya yl yc, .slice yd ye yf] 27))) (by have := HZL.out; have := HG.out; omega) hf6)
        have HN5 := Lib.hid (blk_fr (blk_fr (blk_fr HX.out (by have := HG.out; omega) HF5.out) (by have := HG.out; omega) (fr_new g w5 (.cells #[.int .i64 x0, .int .i64 x1, .string x2, .slice xa xl xc, .slice xd xe xf, .int .i64 y0, .int .i64 y1, .string y2, .slice ya yl yc, .slice yd ye yf] 27))) hxz hf6)
        have HN6 := Lib.hid HN2.out.lt
        have hqn := HP5.out.inn
        unfold putFive at HN1 HN2 HN3 HN4 HN5 HN6
        clear hf6
        go_wp2
        go_roundg G
        case measure => have := HGJ.out; omega
        case rel => exact ⟨q, _, 26, 0, _, none, 0, 0, some ⟨w5.heap.size, 0, none⟩, 2, 2, HN4.out, HN3.out, HN5.out, HN2.out, HN1.out, HN6.out, HR.out, by have := HGJ.out; omega, by omega⟩
end Go.Proofs.YtjedahcpkcgpeaaGreatDoor
