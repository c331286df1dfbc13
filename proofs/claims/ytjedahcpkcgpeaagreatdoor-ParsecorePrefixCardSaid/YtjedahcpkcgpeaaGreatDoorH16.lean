/-
  Walks and plain mathematics, several texts in one (Ej Eh).
-/
import Derived.Test.YtjedahcpkcgpeaaGreatDoorH15
/-
  Walks of layer 4: a match.
-/
namespace Go.Proofs.YtjedahcpkcgpeaaGreatDoor
open Go Go.RowKit
set_option linter.unusedSimpArgs false
theorem Pl.sepMore_len (l : List Pl.Tok) (b : Pl.Bytes) {read : Nat → Pl.PR Pl.Syn} (hr : ∀ i, Pl.After (read i) (i + 1)) : ∀ (n : Nat) (acc : List Pl.Syn) (i : Nat) (ts : List Pl.Syn) (j : Nat), Pl.sepMore l b read n acc i = .ok ts j → acc.length ≤ ts.length ∧ ts.length + i ≤ acc.length + j := by
  intro n
  induction n with
  | zero => intro acc i ts j h; rw [Pl.sepMore] at h; cases h
  | succ n ih =>
    intro acc i ts j h
    rw [Pl.sepMore] at h
    split at h
    · cases hq : read (i + 1) with
      | bad q => rw [hq, Pl.PR.then_bad] at h; cases h
      | ok t q =>
        rw [hq, Pl.PR.then_ok] at h
        have h1 := ih _ _ _ _ h
        have h2 := hr _ _ _ hq
        simp only [List.length_append, List.length_singleton] at h1
        omega
    · injection h with h1 h2
      subst h1 h2
      omega
theorem Pl.sepd_len {l : List Pl.Tok} {b : Pl.Bytes} {read : Nat → Pl.PR Pl.Syn} (hr : ∀ i, Pl.After (read i) (i + 1)) {i : Nat} {ts : List Pl.Syn} {j : Nat} (h : Pl.sepd l b read i = .ok ts j) : 1 ≤ ts.length ∧ ts.length + i ≤ j := by
  unfold Pl.sepd at h
  cases hq : read i with
  | bad q => rw [hq, Pl.PR.then_bad] at h; cases h
  | ok t q =>
    rw [hq, Pl.PR.then_ok] at h
    have h1 := Pl.sepMore_len l b hr _ _ _ _ _ h
    have h2 := hr _ _ _ hq
    simp only [List.length_singleton] at h1
    omega
set_option maxRecDepth 100000 in
set_option maxHeartbeats 8000000 in
theorem pmatch_any (s : Src) (g i : Nat) (F : Pl.Fs) (hex : ∀ W j, i ≤ j → PAt W g s j → Calls Tryz.prog 38 #[.pointer (some ⟨g, 0, none⟩)] W (TreeOut s g (F.expr j) W)) (hru : ∀ W j, i ≤ j → PAt W g s j → Calls Tryz.prog 164 #[.pointer (some ⟨g, 0, none⟩)] W (TreeOut s g (F.rule j) W)) (hgo : Pl.Goes F) (w : World) (h : PAt w g s i) (hbig : s.ts.length ≤ 536870912) :
    Calls Tryz.prog 155 #[.pointer (some ⟨g, 0, none⟩)] w (TreeOut s g (Pl.matchB s.ts F i) w) := by
  have HP := Lib.hid h
  have HG := Lib.hid h.blk.lt
  have hmf : ∀ (fn : Fn) (first cap : Array Value) (w : World), (Instr.makeFunc fn first cap).run Tryz.prog w = .ok (.func fn first cap) w := fun _ _ _ _ => rfl
  obtain ⟨i28, hi0, hz0, hz1, hz2⟩ := info3 infoTree
  have Hex := Lib.hid hex
  have Hru := Lib.hid hru
  have Hgo := Lib.hid hgo
  obtain ⟨r, hr⟩ : ∃ r, r = Pl.matchB s.ts F i := ⟨_, rfl⟩
  rw [← hr]
  have HR := Lib.hid hr
  rw [Pl.matchB] at HR
  have HF := Lib.hid (Fr.refl (· = g) w)
  obtain ⟨B, hB⟩ : ∃ B, B = w.heap.size + 1 := ⟨_, rfl⟩
  have HGB := Lib.hid (show g < B from by have := HG.out; omega)
  have HXB := Lib.hid (show w.heap.size < B from by omega)
  have HX := Lib.hid (blk_new w #[.int .i64 0, .int .i64 0, .string ⟨#[]⟩, .slice none 0 0, .slice none 0 0] 27)
  have HXL := Lib.hid (Nat.le_refl w.heap.size)
  have hn := fr_new g w (.cells #[.int .i64 0, .int .i64 0, .string ⟨#[]⟩, .slice none 0 0, .slice none 0 0] 27)
  replace HF := Lib.hid (HF.out.trans hn)
  have HW := Lib.hid (show B ≤ (w.alloc (.cells #[.int .i64 0, .int .i64 0, .string ⟨#[]⟩, .slice none 0 0, .slice none 0 0] 27)).heap.size from by rw [hB]; simp)
  replace HP := Lib.hid (HP.out.below ((Below.refl _ _).alloc (Nat.le_refl _) (.cells #[.int .i64 0, .int .i64 0, .string ⟨#[]⟩, .slice none 0 0, .slice none 0 0] 27)))
  clear h hr hn hB hex hru hgo
  go_enter Tryz.func155, Tryz.ntmps155
  go_wp2_with fail
  generalize w.alloc (.cells #[.int .i64 0, .int .i64 0, .string ⟨#[]⟩, .slice none 0 0, .slice none 0 0] 27) = w1 at *
  refine (Hex.out _ _ (Nat.le_refl _) HP.out).mono ?_
  rintro e w2 ho
  rcases TreeOut.split ho with ⟨q1, hri1, rfl, hf⟩ | ⟨tu, q1, u0, u1, u2, ua, ul, uc, ud, ue, uf, hri1, rfl, ht, hp, hf⟩
  · exact ⟨rfl, tree_bad (HR.out.trans (by rw [hri1, Pl.PR.then_bad])) (HF.out.trans hf)⟩
  have hgo1 := Hgo.out.expr _ _ _ hri1
  rw [hri1, Pl.PR.then_ok] at HR
  have HTu := Lib.hid (ht.mono (own_low HW.out))
  replace HF := Lib.hid (HF.out.trans hf)
  replace HW := Lib.hid (Nat.le_trans HW.out (Fr.size hf))
  replace HX := Lib.hid (blk_fr HX.out (by have := HXL.out; have := HG.out; omega) hf)
  replace HP := Lib.hid (hp)
  clear ho hp hf ht hri1
  have hl := trees_one_at HW.out HTu.out
  have hn := fr_new g w2 (.cells #[.int .i64 u0, .int .i64 u1, .string u2, .slice ua ul uc, .slice ud ue uf] 27)
  replace HF := Lib.hid (HF.out.trans hn)
  replace HW := Lib.hid (Nat.le_trans HW.out (Fr.size hn))
  replace HX := Lib.hid (blk_fr HX.out (by have := HXL.out; have := HG.out; omega) hn)
  replace HP := Lib.hid (HP.out.below ((Below.refl _ _).alloc (Nat.le_refl _) (.cells #[.int .i64 u0, .int .i64 u1, .string u2, .slice ua ul uc, .slice ud ue uf] 27)))
  clear hn
  have HL := Lib.hid hl
  clear hl
  go_wp2_with fail
  generalize (w2.alloc (.cells #[.int .i64 u0, .int .i64 u1, .string u2, .slice ua ul uc, .slice ud ue uf] 27)) = w3 at *
  refine (pneed_any s g q1 [111, 102] (by decide) _ HP.out).mono ?_
  rintro e w4 ho
  rcases NeedOut.split ho with ⟨q2, hri2, rfl, hf⟩ | ⟨q2, nv, hri2, rfl, hp, hf⟩
  · exact ⟨rfl, tree_bad (HR.out.trans (by rw [hri2, Pl.PR.then_bad])) (HF.out.trans hf)⟩
  have hgo2 := need_next hri2
  rw [hri2, Pl.PR.then_ok] at HR
  replace HF := Lib.hid (HF.out.trans hf)
  replace HW := Lib.hid (Nat.le_trans HW.out (Fr.size hf))
  replace HX := Lib.hid (blk_fr HX.out (by have := HXL.out; have := HG.out; omega) hf)
  replace HL := Lib.hid (HL.out.keep HGB.out hf)
  replace HP := Lib.hid (hp)
  clear ho hp hf
  go_wp2_with fail
  have HOL := Lib.hid (fun k (hk : Value.ownBlock (.slice (some ⟨w2.heap.size, 0, none⟩) 1 1) = some k) => (HL.out.owned hk).2)
  have HOB := Lib.hid (fun k (hk : Value.ownBlock (.slice (some ⟨w2.heap.size, 0, none⟩) 1 1) = some k) => (HL.out.owned hk).1)
  have HSB := Lib.hid HW.out
  refine (pseparated_any s g q2 164 [124] (by decide) F.rule (fun _ _ _ h => Hgo.out.rule _ _ _ h) (fun W j hj hW => Hru.out W j (by omega) hW) (fun _ => rfl) _ HP.out hbig).mono ?_
  rintro e w5 ho
  rcases TreesOut.split ho with ⟨q3, hri3, rfl, hf⟩ | ⟨ts, q3, la, lc, hri3, rfl, ht, hp, hf⟩
  · exact ⟨rfl, tree_bad (HR.out.trans (by rw [hri3, Pl.PR.then_bad])) (HF.out.trans hf)⟩
  have hlen := Pl.sepd_len (fun j => Hgo.out.rule j) hri3
  have hin := hp.inn
  rw [hri3, Pl.PR.then_ok] at HR
  have HM := Lib.hid ht
  replace HF := Lib.hid (HF.out.trans hf)
  replace HW := Lib.hid (Nat.le_trans HW.out (Fr.size hf))
  replace HX := Lib.hid (blk_fr HX.out (by have := HXL.out; have := HG.out; omega) hf)
  replace HL := Lib.hid (HL.out.keep HGB.out hf)
  replace HP := Lib.hid (hp)
  clear ho hp hf ht hri3
  obtain ⟨us, vs, hown, hown2, hone, hpush⟩ := trees_pushes HL.out HM.out HSB.out HOL.out
  obtain ⟨ln, hln⟩ : ∃ ln, ln = ts.length := ⟨_, rfl⟩
  rw [← hln] at hown2 hpush hlen ⊢
  obtain ⟨gb, cp, hv, -, -⟩ := hown2.form (by omega)
  injection hv with ha h0 hc
  subst ha
  have HROW := Lib.hid (show World.ownsRow w5 B 27 5 (.slice (some ⟨w2.heap.size, 0, none⟩) 1 1) 1 us from hown)
  have HPUSH := Lib.hid (show ∀ w' v', World.ownsRow w' B 27 5 v' (1 + ln) (us ++ vs) → _ from hpush)
  have HOW2 := Lib.hid hown2
  have HONE := Lib.hid hone
  clear hown hown2 hone hpush HM hln
  go_wp2_with (at_builtin; refine wpList_append_lies _ rfl _ _ 25 rfl B 27 i28 (.agg #[.int .i64 0, .int .i64 0, .string ⟨#[]⟩, .slice none 0 0, .slice none 0 0]) 5 80 Tryz.underlying25 hi0 hz0 hz1 hz2 rfl (by decide) _ _ _ rfl HROW.out ⟨gb, 0, none⟩ ln cp vs rfl HOW2.out.1 (HOW2.out.cells rfl) HONE.out ?c6 ?c3 ?c4 ?c5 (World.heap w5).size rfl ?_)
  case c6 => omega
  case c3 => unfold maxLen; omega
  case c4 => omega
  case c5 => exact HW.out
  intro gg cap w6 hown hgrow hat hlt
  have HL := Lib.hid (show TreesAt w6 B (.slice (some ⟨gg, 0, none⟩) (1 + ln) cap) ([tu] ++ ts) from HPUSH.out _ _ hown hgrow (fun k hk => by
    have e : some gg = some k := hk
    injection e with e
    subst e
    rcases hat with hat | hat
    · exact .inl hat
    · right; rw [hat]; exact Nat.le_refl _))
  replace HF := Lib.hid (fr_row HF.out hgrow (fun k hk => by have := HOB.out k hk; have := HXB.out; omega))
  replace HX := Lib.hid (blk_grown HX.out hgrow (fun k hk => by have := HOB.out k hk; have := HXB.out; omega))
  replace HP := Lib.hid (HP.out.grown hgrow (fun k hk => by have := HOB.out k hk; have := HGB.out; omega))
  replace HW := Lib.hid (Nat.le_trans HW.out hgrow.size)
  clear hown hgrow hat hlt HROW HPUSH HOL HOB HSB HOW2 HONE
  go_wp2_with fail
  refine (pneed_any s g q3 [101, 110, 100] (by decide) _ HP.out).mono ?_
  rintro e w7 ho
  rcases NeedOut.split ho with ⟨q4, hri4, rfl, hf⟩ | ⟨q4, nv, hri4, rfl, hp, hf⟩
  · exact ⟨rfl, tree_bad (HR.out.trans (by rw [hri4, Pl.PR.then_bad])) (HF.out.trans hf)⟩
  have hgo4 := need_next hri4
  rw [hri4, Pl.PR.then_ok] at HR
  replace HF := Lib.hid (HF.out.trans hf)
  replace HW := Lib.hid (Nat.le_trans HW.out (Fr.size hf))
  replace HX := Lib.hid (blk_fr HX.out (by have := HXL.out; have := HG.out; omega) hf)
  replace HL := Lib.hid (HL.out.keep HGB.out hf)
  replace HP := Lib.hid (hp)
  clear ho hp hf
  have HU := Lib.hid (tree_of (W := w7) (B := B) (op := 29) (n := 0) (tx := ByteArray.empty) (Nat.zero_le _) (strs_none _ _) HL.out.syns)
  obtain ⟨hxc0, hxc1, hxc2, hxc3, hxc4⟩ := five_cells HX.out
  have hxf0 := HX.out.thaw 0
  have hxf1 := HX.out.thaw 1
  have hxf2 := HX.out.thaw 2
  have hxf3 := HX.out.thaw 3
  have hxf4 := HX.out.thaw 4
  go_wp2_with fail
  have HEN := putFive_blk HX.out (.int .i64 29) (.int .i64 0) (.string ⟨#[]⟩) (.slice none 0 0) (.slice (some ⟨gg, 0, none⟩) (1 + ln) cap)
  have HFI := tree_fin HG.out HF.out HU.out HXB.out HP.out (.int .i64 29) (.int .i64 0) (.string ⟨#[]⟩) (.slice none 0 0) (.slice (some ⟨gg, 0, none⟩) (1 + ln) cap)
  unfold putFive at HEN HFI
  obtain ⟨k0, k1, k2, k3, k4⟩ := five_cells HEN
  refine bodyPost_ret (v := .agg #[.int .i64 29, .int .i64 0, .string ⟨#[]⟩, .slice none 0 0, .slice (some ⟨gg, 0, none⟩) (1 + ln) cap]) (by simp [results, Tryz.results155, go_sem, k0, k1, k2, k3, k4]) rfl ?_
  exact tree_ok HR.out HFI
end Go.Proofs.YtjedahcpkcgpeaaGreatDoor

/-
  Walks of layer 4: what stands in the parentheses of an atom.
-/
namespace Go.Proofs.YtjedahcpkcgpeaaGreatDoor
open Go Go.RowKit
set_option linter.unusedSimpArgs false
set_option maxRecDepth 100000 in
set_option maxHeartbeats 8000000 in
theorem pcontents_any (s : Src) (g i : Nat) (F : Pl.Fs) (hex : ∀ W j, i ≤ j → PAt W g s j → Calls Tryz.prog 38 #[.pointer (some ⟨g, 0, none⟩)] W (TreeOut s g (F.expr j) W)) (hty : ∀ W j, i < j → PAt W g s j → Calls Tryz.prog 39 #[.pointer (some ⟨g, 0, none⟩)] W (TreeOut s g (F.typ j) W)) (hgo : Pl.Goes F) (w : World) (h : PAt w g s i) (hbig : s.ts.length ≤ 536870912) :
    Calls Tryz.prog 162 #[.pointer (some ⟨g, 0, none⟩)] w (TreeOut s g (Pl.contB s.ts F i) w) := by
  have HP := Lib.hid h
  have HG := Lib.hid h.blk.lt
  have hmf : ∀ (fn : Fn) (first cap : Array Value) (w : World), (Instr.makeFunc fn first cap).run Tryz.prog w = .ok (.func fn first cap) w := fun _ _ _ _ => rfl
  obtain ⟨i28, hi0, hz0, hz1, hz2⟩ := info3 infoTree
  have Hex := Lib.hid hex
  have Hty := Lib.hid hty
  have Hgo := Lib.hid hgo
  obtain ⟨r, hr⟩ : ∃ r, r = Pl.contB s.ts F i := ⟨_, rfl⟩
  rw [← hr]
  have HR := Lib.hid hr
  rw [Pl.contB] at HR
  have HF := Lib.hid (Fr.refl (· = g) w)
  obtain ⟨B, hB⟩ : ∃ B, B = w.heap.size + 1 := ⟨_, rfl⟩
  have HGB := Lib.hid (show g < B from by have := HG.out; omega)
  have HXB := Lib.hid (show w.heap.size < B from by omega)
  have HX := Lib.hid (blk_new w #[.int .i64 0, .int .i64 0, .string ⟨#[]⟩, .slice none 0 0, .slice none 0 0] 27)
  have HXL := Lib.hid (Nat.le_refl w.heap.size)
  have hn := fr_new g w (.cells #[.int .i64 0, .int .i64 0, .string ⟨#[]⟩, .slice none 0 0, .slice none 0 0] 27)
  replace HF := Lib.hid (HF.out.trans hn)
  have HW := Lib.hid (show B ≤ (w.alloc (.cells #[.int .i64 0, .int .i64 0, .string ⟨#[]⟩, .slice none 0 0, .slice none 0 0] 27)).heap.size from by rw [hB]; simp)
  replace HP := Lib.hid (HP.out.below ((Below.refl _ _).alloc (Nat.le_refl _) (.cells #[.int .i64 0, .int .i64 0, .string ⟨#[]⟩, .slice none 0 0, .slice none 0 0] 27)))
  clear h hr hn hB hex hty hgo
  go_enter Tryz.func162, Tryz.ntmps162
  go_wp2_with fail
  generalize w.alloc (.cells #[.int .i64 0, .int .i64 0, .string ⟨#[]⟩, .slice none 0 0, .slice none 0 0] 27) = w1 at *
  cases hpb1 : Pl.passes s.ts i [112, 97, 99, 107]
  · refine (ppass_not (by decide) HP.out hpb1).mono ?_
    rintro e w2 ⟨rfl, hp, hf⟩
    rw [hpb1, if_neg Bool.false_ne_true] at HR
    replace HF := Lib.hid (HF.out.trans hf)
    replace HW := Lib.hid (Nat.le_trans HW.out (Fr.size hf))
    replace HX := Lib.hid (blk_fr HX.out (by have := HXL.out; have := HG.out; omega) hf)
    replace HP := Lib.hid (hp)
    clear hp hf
    go_wp2_with fail
    refine (pseparated_any s g i 38 [44] (by decide) F.expr (fun _ _ _ h => Hgo.out.expr _ _ _ h) (fun W j hj hW => Hex.out W j (by omega) hW) (fun _ => rfl) _ HP.out hbig).mono ?_
    rintro e w3 ho
    rcases TreesOut.split ho with ⟨q2, hri2, rfl, hf⟩ | ⟨ts, q2, la, lc, hri2, rfl, ht, hp, hf⟩
    · exact ⟨rfl, tree_bad (HR.out.trans (by rw [hri2, Pl.PR.then_bad])) (HF.out.trans hf)⟩
    have hgo2 := Pl.after_sepd _ _ (fun j => Hgo.out.expr j) _ _ _ hri2
    rw [hri2, Pl.PR.then_ok] at HR
    have HL := Lib.hid (ht.low HW.out)
    replace HF := Lib.hid (HF.out.trans hf)
    replace HW := Lib.hid (Nat.le_trans HW.out (Fr.size hf))
    replace HX := Lib.hid (blk_fr HX.out (by have := HXL.out; have := HG.out; omega) hf)
    replace HP := Lib.hid (hp)
    clear ho hp hf ht
    obtain ⟨ln, hln⟩ : ∃ ln, ln = ts.length := ⟨_, rfl⟩
    rw [← hln] at HL ⊢
    have HLN := Lib.hid hln
    clear hln
    cases hq1 : ((ln : Int) == 1)
    · have hl1 : ¬ ts.length = 1 := by have := HLN.out; have h2 : ¬ (ln : Int) = 1 := (by simpa using hq1); omega
      rw [if_neg (fun h => hl1 h.1)] at HR
      clear hl1
      go_wp2_with fail
      have HS := Lib.hid (show SynSl w3 (Own B w3) _ ts from HL.out.syns)
      refine (ptuple_any 27 (Own B w3) ts _ _ (fun b h => h.2) HS.out).mono ?_
      rintro e w4 ⟨⟨v, rfl, hu⟩, hb⟩
      obtain ⟨y0, y1, y2, ya, yl, yc, yd, ye, yf, rfl⟩ := tree_open hu
      have hf := fr_below (o := (· = g)) hb
      have HTy := Lib.hid (hu.mono (own_fr hf))
      replace HF := Lib.hid (HF.out.trans hf)
      replace HW := Lib.hid (Nat.le_trans HW.out (Fr.size hf))
      replace HX := Lib.hid (blk_fr HX.out (by have := HXL.out; have := HG.out; omega) hf)
      replace HP := Lib.hid (HP.out.below hb)
      clear hu hb hf HS HL
      obtain ⟨hxc0, hxc1, hxc2, hxc3, hxc4⟩ := five_cells HX.out
      have hxf0 := HX.out.thaw 0
      have hxf1 := HX.out.thaw 1
      have hxf2 := HX.out.thaw 2
      have hxf3 := HX.out.thaw 3
      have hxf4 := HX.out.thaw 4
      go_wp2_with fail
      have HEN := putFive_blk HX.out (.int .i64 y0) (.int .i64 y1) (.string y2) (.slice ya yl yc) (.slice yd ye yf)
      have HFI := tree_fin HG.out HF.out HTy.out HXB.out HP.out (.int .i64 y0) (.int .i64 y1) (.string y2) (.slice ya yl yc) (.slice yd ye yf)
      unfold putFive at HEN HFI
      obtain ⟨k0, k1, k2, k3, k4⟩ := five_cells HEN
      refine bodyPost_ret (v := .agg #[.int .i64 y0, .int .i64 y1, .string y2, .slice ya yl yc, .slice yd ye yf]) (by simp [results, Tryz.results162, go_sem, k0, k1, k2, k3, k4]) rfl ?_
      exact tree_ok HR.out HFI
    · have e0 : (ln : Int) = 1 := by simpa using hq1
      have hl1 : ts.length = 1 := by have := HLN.out; omega
      have e1 : ln = 1 := by omega
      subst e1
      simp only [hl1, true_and] at HR
      go_wp2_with fail
      cases hpb3 : Pl.passes s.ts q2 [58]
      · refine (ppass_not (by decide) HP.out hpb3).mono ?_
        rintro e w5 ⟨rfl, hp, hf⟩
        rw [hpb3, if_neg Bool.false_ne_true] at HR
        replace HF := Lib.hid (HF.out.trans hf)
        replace HW := Lib.hid (Nat.le_trans HW.out (Fr.size hf))
        replace HX := Lib.hid (blk_fr HX.out (by have := HXL.out; have := HG.out; omega) hf)
        replace HL := Lib.hid (HL.out.keep HGB.out hf)
        replace HP := Lib.hid (hp)
        clear hp hf
        go_wp2_with fail
        have HS := Lib.hid (show SynSl w5 (Own B w5) _ ts from HL.out.syns)
        refine (ptuple_any 27 (Own B w5) ts _ _ (fun b h => h.2) HS.out).mono ?_
        rintro e w6 ⟨⟨v, rfl, hu⟩, hb⟩
        obtain ⟨y0, y1, y2, ya, yl, yc, yd, ye, yf, rfl⟩ := tree_open hu
        have hf := fr_below (o := (· = g)) hb
        have HTy := Lib.hid (hu.mono (own_fr hf))
        replace HF := Lib.hid (HF.out.trans hf)
        replace HW := Lib.hid (Nat.le_trans HW.out (Fr.size hf))
        replace HX := Lib.hid (blk_fr HX.out (by have := HXL.out; have := HG.out; omega) hf)
        replace HP := Lib.hid (HP.out.below hb)
        clear hu hb hf HS HL
        obtain ⟨hxc0, hxc1, hxc2, hxc3, hxc4⟩ := five_cells HX.out
        have hxf0 := HX.out.thaw 0
        have hxf1 := HX.out.thaw 1
        have hxf2 := HX.out.thaw 2
        have hxf3 := HX.out.thaw 3
        have hxf4 := HX.out.thaw 4
        go_wp2_with fail
        have HEN := putFive_blk HX.out (.int .i64 y0) (.int .i64 y1) (.string y2) (.slice ya yl yc) (.slice yd ye yf)
        have HFI := tree_fin HG.out HF.out HTy.out HXB.out HP.out (.int .i64 y0) (.int .i64 y1) (.string y2) (.slice ya yl yc) (.slice yd ye yf)
        unfold putFive at HEN HFI
        obtain ⟨k0, k1, k2, k3, k4⟩ := five_cells HEN
        refine bodyPost_ret (v := .agg #[.int .i64 y0, .int .i64 y1, .string y2, .slice ya yl yc, .slice yd ye yf]) (by simp [results, Tryz.results162, go_sem, k0, k1, k2, k3, k4]) rfl ?_
        exact tree_ok HR.out HFI
      · refine (ppass_yes (by decide) HP.out hpb3).mono ?_
        rintro e w7 ⟨rfl, hp, hf⟩
        rw [hpb3, if_pos rfl] at HR
        replace HF := Lib.hid (HF.out.trans hf)
        replace HW := Lib.hid (Nat.le_trans HW.out (Fr.size hf))
        replace HX := Lib.hid (blk_fr HX.out (by have := HXL.out; have := HG.out; omega) hf)
        replace HL := Lib.hid (HL.out.keep HGB.out hf)
        replace HP := Lib.hid (hp)
        clear hp hf
        go_wp2_with fail
        have HOL := Lib.hid (fun k (hk : Value.ownBlock (.slice la 1 lc) = some k) => (HL.out.owned hk).2)
        have HOB := Lib.hid (fun k (hk : Value.ownBlock (.slice la 1 lc) = some k) => (HL.out.owned hk).1)
        have HSB := Lib.hid HW.out
        refine (Hty.out _ _ (by omega) HP.out).mono ?_
        rintro e w8 ho
        rcases TreeOut.split ho with ⟨q4, hri4, rfl, hf⟩ | ⟨tv, q4, v0, v1, v2, va, vl, vc, vd, ve, vf, hri4, rfl, ht, hp, hf⟩
        · exact ⟨rfl, tree_bad (HR.out.trans (by rw [hri4, Pl.PR.then_bad])) (HF.out.trans hf)⟩
        rw [hri4, Pl.PR.then_ok] at HR
        have HTv := Lib.hid ht
        replace HF := Lib.hid (HF.out.trans hf)
        replace HW := Lib.hid (Nat.le_trans HW.out (Fr.size hf))
        replace HX := Lib.hid (blk_fr HX.out (by have := HXL.out; have := HG.out; omega) hf)
        replace HL := Lib.hid (HL.out.keep HGB.out hf)
        replace HP := Lib.hid (hp)
        clear ho hp hf ht hri4
        obtain ⟨us, hown, hpush⟩ := trees_append HL.out HTv.out HSB.out HOL.out
        rw [hl1] at hown hpush
        have HROW := Lib.hid (show World.ownsRow (w8.alloc (.cells #[.int .i64 v0, .int .i64 v1, .string v2, .slice va vl vc, .slice vd ve vf] 27)) B 27 5 (.slice la 1 lc) 1 us from hown)
        have HPUSH := Lib.hid hpush
        clear hown hpush
        have hn := fr_new g w8 (.cells #[.int .i64 v0, .int .i64 v1, .string v2, .slice va vl vc, .slice vd ve vf] 27)
        replace HF := Lib.hid (HF.out.trans hn)
        replace HW := Lib.hid (Nat.le_trans HW.out (Fr.size hn))
        replace HX := Lib.hid (blk_fr HX.out (by have := HXL.out; have := HG.out; omega) hn)
        replace HP := Lib.hid (HP.out.below ((Below.refl _ _).alloc (Nat.le_refl _) (.cells #[.int .i64 v0, .int .i64 v1, .string v2, .slice va vl vc, .slice vd ve vf] 27)))
        clear hn
        go_wp2_with (at_builtin; refine wpList_append_lies _ rfl _ _ 25 rfl B 27 i28 (.agg #[.int .i64 0, .int .i64 0, .string ⟨#[]⟩, .slice none 0 0, .slice none 0 0]) 5 80 Tryz.underlying25 hi0 hz0 hz1 hz2 rfl (by decide) _ _ _ rfl HROW.out ⟨w8.heap.size, 0, none⟩ 1 1 [.int .i64 v0, .int .i64 v1, .string v2, .slice va vl vc, .slice vd ve vf] rfl rfl ?c1 ?c2 (by decide) ?c3 ?c4 ?c5 (w8.heap.size + 1) (by simp) ?_)
        case c1 => exact World.news_of_block (cs := #[.int .i64 v0, .int .i64 v1, .string v2, .slice va vl vc, .slice vd ve vf]) (t := 27) (fr := (0, 0)) (heap_alloc_new w8 _)
        case c2 => simp [Value.oneCell']
        case c3 => unfold maxLen; omega
        case c4 => omega
        case c5 => exact HW.out
        intro g2 c2 w9 hown hgrow hat hlt
        have HL := Lib.hid (show TreesAt w9 B (.slice (some ⟨g2, 0, none⟩) 2 c2) (ts ++ [tv]) from HPUSH.out _ _ hown hgrow (fun k hk => by
          have e : some g2 = some k := hk
          injection e with e
          subst e
          rcases hat with hat | hat
          · exact .inl hat
          · right; rw [hat]; exact Nat.le_refl _))
        replace HF := Lib.hid (fr_row HF.out hgrow (fun k hk => by have := HOB.out k hk; have := HXB.out; omega))
        replace HX := Lib.hid (blk_grown HX.out hgrow (fun k hk => by have := HOB.out k hk; have := HXB.out; omega))
        replace HP := Lib.hid (HP.out.grown hgrow (fun k hk => by have := HOB.out k hk; have := HGB.out; omega))
        replace HW := Lib.hid (Nat.le_trans HW.out hgrow.size)
        clear hown hgrow hat hlt HROW HPUSH HOL HOB HSB HTv
        have HU := Lib.hid (tree_of (W := w9) (B := B) (op := 33) (n := 0) (tx := ByteArray.empty) (Nat.zero_le _) (strs_none _ _) HL.out.syns)
        obtain ⟨hxc0, hxc1, hxc2, hxc3, hxc4⟩ := five_cells HX.out
        have hxf0 := HX.out.thaw 0
        have hxf1 := HX.out.thaw 1
        have hxf2 := HX.out.thaw 2
        have hxf3 := HX.out.thaw 3
        have hxf4 := HX.out.thaw 4
        go_wp2_with fail
        have HEN := putFive_blk HX.out (.int .i64 33) (.int .i64 0) (.string ⟨#[]⟩) (.slice none 0 0) (.slice (some ⟨g2, 0, none⟩) 2 c2)
        have HFI := tree_fin HG.out HF.out HU.out HXB.out HP.out (.int .i64 33) (.int .i64 0) (.string ⟨#[]⟩) (.slice none 0 0) (.slice (some ⟨g2, 0, none⟩) 2 c2)
        unfold putFive at HEN HFI
        obtain ⟨k0, k1, k2, k3, k4⟩ := five_cells HEN
        refine bodyPost_ret (v := .agg #[.int .i64 33, .int .i64 0, .string ⟨#[]⟩, .slice none 0 0, .slice (some ⟨g2, 0, none⟩) 2 c2]) (by simp [results, Tryz.results162, go_sem, k0, k1, k2, k3, k4]) rfl ?_
        exact tree_ok HR.out HFI
  · refine (ppass_yes (by decide) HP.out hpb1).mono ?_
    rintro e w10 ⟨rfl, hp, hf⟩
    rw [hpb1, if_pos rfl] at HR
    replace HF := Lib.hid (HF.out.trans hf)
    replace HW := Lib.hid (Nat.le_trans HW.out (Fr.size hf))
    replace HX := Lib.hid (blk_fr HX.out (by have := HXL.out; have := HG.out; omega) hf)
    replace HP := Lib.hid (hp)
    clear hp hf
    go_wp2_with fail
    refine (pmodulePath_any s g (i + 1) _ HP.out hbig).mono ?_
    rintro e w11 ho
    rcases NamesOut.split ho with ⟨q5, hri5, rfl, hf⟩ | ⟨nx, q5, nax, ncx, hri5, rfl, hs, hp, hf⟩
    · exact ⟨rfl, tree_bad (HR.out.trans (by rw [hri5, Pl.PR.then_bad])) (HF.out.trans hf)⟩
    have HNx := Lib.hid (hs.mono (own_low HW.out))
    have hgo5 := Pl.after_mpath _ _ _ _ hri5
    rw [hri5, Pl.PR.then_ok] at HR
    replace HF := Lib.hid (HF.out.trans hf)
    replace HW := Lib.hid (Nat.le_trans HW.out (Fr.size hf))
    replace HX := Lib.hid (blk_fr HX.out (by have := HXL.out; have := HG.out; omega) hf)
    replace HP := Lib.hid (hp)
    clear ho hp hf
    clear hs
    obtain ⟨nlx, hnl⟩ : ∃ nl, nl = nx.length := ⟨_, rfl⟩
    rw [← hnl] at HNx ⊢
    clear hnl
    have HZL := Lib.hid (show w.heap.size ≤ w11.heap.size from HF.out.size)
    have HZB := Lib.hid (show w.heap.size < w11.heap.size from Nat.lt_of_lt_of_le HXB.out HW.out)
    have HBZ := Lib.hid (show B ≤ w11.heap.size from HW.out)
    have hz := blk_new w11 #[.int .i64 34, .int .i64 0, .string ⟨#[]⟩, .slice nax nlx ncx, .slice none 0 0] 27
    replace HNx := Lib.hid (show StrSl w11 (Win B w11.heap.size) _ _ from HNx.out)
    have HZW := Lib.hid (Nat.le_refl w11.heap.size)
    have hn := fr_new g w11 (.cells #[.int .i64 34, .int .i64 0, .string ⟨#[]⟩, .slice nax nlx ncx, .slice none 0 0] 27)
    replace HF := Lib.hid (HF.out.trans hn)
    replace HNx := Lib.hid (strs_win HNx.out (.inl HGB.out) HZW.out hn)
    replace HW := Lib.hid (Nat.le_trans HW.out (Fr.size hn))
    replace HZW := Lib.hid (Nat.le_trans HZW.out (Fr.size hn))
    replace HX := Lib.hid (blk_fr HX.out (by have := HXL.out; have := HG.out; omega) hn)
    replace HP := Lib.hid (HP.out.below ((Below.refl _ _).alloc (Nat.le_refl _) (.cells #[.int .i64 34, .int .i64 0, .string ⟨#[]⟩, .slice nax nlx ncx, .slice none 0 0] 27)))
    clear hn
    have HZ := Lib.hid hz
    clear hz
    obtain ⟨C, hC⟩ : ∃ C, C = w11.heap.size + 1 := ⟨_, rfl⟩
    have HBC := Lib.hid (show B ≤ C from by have := HBZ.out; omega)
    have HZC := Lib.hid (show w11.heap.size < C from by omega)
    have HGC := Lib.hid (show g < C from by have := HZL.out; have := HG.out; omega)
    have HWC := Lib.hid (show C ≤ (World.heap (w11.alloc (.cells #[.int .i64 34, .int .i64 0, .string ⟨#[]⟩, .slice nax nlx ncx, .slice none 0 0] 27))).size from by rw [hC]; exact HZ.out.lt)
    clear hC
    go_wp2_with fail
    generalize (w11.alloc (.cells #[.int .i64 34, .int .i64 0, .string ⟨#[]⟩, .slice nax nlx ncx, .slice none 0 0] 27)) = w12 at *
    refine (pneed_any s g q5 [58] (by decide) _ HP.out).mono ?_
    rintro e w13 ho
    rcases NeedOut.split ho with ⟨q6, hri6, rfl, hf⟩ | ⟨q6, nv, hri6, rfl, hp, hf⟩
    · exact ⟨rfl, tree_bad (HR.out.trans (by rw [hri6, Pl.PR.then_bad])) (HF.out.trans hf)⟩
    have hgo6 := need_next hri6
    rw [hri6, Pl.PR.then_ok] at HR
    replace HF := Lib.hid (HF.out.trans hf)
    replace HNx := Lib.hid (strs_win HNx.out (.inl HGB.out) HZW.out hf)
    replace HW := Lib.hid (Nat.le_trans HW.out (Fr.size hf))
    replace HWC := Lib.hid (Nat.le_trans HWC.out (Fr.size hf))
    replace HZW := Lib.hid (Nat.le_trans HZW.out (Fr.size hf))
    replace HX := Lib.hid (blk_fr HX.out (by have := HXL.out; have := HG.out; omega) hf)
    replace HZ := Lib.hid (blk_fr HZ.out (by have := HZL.out; have := HG.out; omega) hf)
    replace HP := Lib.hid (hp)
    clear ho hp hf
    go_wp2_with fail
    refine (psignature_any s g q6 _ HP.out hbig).mono ?_
    rintro e w14 ho
    rcases TreeOut.split ho with ⟨q7, hri7, rfl, hf⟩ | ⟨tu, q7, u0, u1, u2, ua, ul, uc, ud, ue, uf, hri7, rfl, ht, hp, hf⟩
    · exact ⟨rfl, tree_bad (HR.out.trans (by rw [hri7, Pl.PR.then_bad])) (HF.out.trans hf)⟩
    rw [hri7, Pl.PR.then_ok] at HR
    have HTu := Lib.hid (ht.mono (own_low HWC.out))
    replace HF := Lib.hid (HF.out.trans hf)
    replace HNx := Lib.hid (strs_win HNx.out (.inl HGB.out) HZW.out hf)
    replace HW := Lib.hid (Nat.le_trans HW.out (Fr.size hf))
    replace HWC := Lib.hid (Nat.le_trans HWC.out (Fr.size hf))
    replace HZW := Lib.hid (Nat.le_trans HZW.out (Fr.size hf))
    replace HX := Lib.hid (blk_fr HX.out (by have := HXL.out; have := HG.out; omega) hf)
    replace HZ := Lib.hid (blk_fr HZ.out (by have := HZL.out; have := HG.out; omega) hf)
    replace HP := Lib.hid (hp)
    clear ho hp hf ht hri7
    have hl := trees_one_at HWC.out HTu.out
    have hn := fr_new g w14 (.cells #[.int .i64 u0, .int .i64 u1, .string u2, .slice ua ul uc, .slice ud ue uf] 27)
    replace HF := Lib.hid (HF.out.trans hn)
    replace HNx := Lib.hid (strs_win HNx.out (.inl HGB.out) HZW.out hn)
    replace HW := Lib.hid (Nat.le_trans HW.out (Fr.size hn))
    replace HWC := Lib.hid (Nat.le_trans HWC.out (Fr.size hn))
    replace HZW := Lib.hid (Nat.le_trans HZW.out (Fr.size hn))
    replace HX := Lib.hid (blk_fr HX.out (by have := HXL.out; have := HG.out; omega) hn)
    replace HZ := Lib.hid (blk_fr HZ.out (by have := HZL.out; have := HG.out; omega) hn)
    replace HP := Lib.hid (HP.out.below ((Below.refl _ _).alloc (Nat.le_refl _) (.cells #[.int .i64 u0, .int .i64 u1, .string u2, .slice ua ul uc, .slice ud ue uf] 27)))
    clear hn
    have HL := Lib.hid hl
    clear hl
    have hzx : ¬ w11.heap.size = w.heap.size := by have := HZB.out; omega
    have hxz : ¬ w.heap.size = w11.heap.size := by have := HZB.out; omega
    obtain ⟨hxc0, hxc1, hxc2, hxc3, hxc4⟩ := five_cells HX.out
    have hxf0 := HX.out.thaw 0
    have hxf1 := HX.out.thaw 1
    have hxf2 := HX.out.thaw 2
    have hxf3 := HX.out.thaw 3
    have hxf4 := HX.out.thaw 4
    obtain ⟨hzc0, hzc1, hzc2, hzc3, hzc4⟩ := five_cells HZ.out
    have hzf0 := HZ.out.thaw 0
    have hzf1 := HZ.out.thaw 1
    have hzf2 := HZ.out.thaw 2
    have hzf3 := HZ.out.thaw 3
    have hzf4 := HZ.out.thaw 4
    have hn := fr_put (w14.alloc (.cells #[.int .i64 u0, .int .i64 u1, .string u2, .slice ua ul uc, .slice ud ue uf] 27)) (w11.heap.size) 4 (.slice (some ⟨w14.heap.size, 0, none⟩) 1 1)
    have hz : Blk (World.setCell (w14.alloc (.cells #[.int .i64 u0, .int .i64 u1, .string u2, .slice ua ul uc, .slice ud ue uf] 27)) ⟨w11.heap.size, 4, none⟩ (.slice (some ⟨w14.heap.size, 0, none⟩) 1 1)) w11.heap.size 27 #[.int .i64 34, .int .i64 0, .string ⟨#[]⟩, .slice nax nlx ncx, .slice (some ⟨w14.heap.size, 0, none⟩) 1 1] := by
      have := HZ.out.set 4 (.slice (some ⟨w14.heap.size, 0, none⟩) 1 1)
      simpa using this
    replace HF := Lib.hid (fr_over HF.out HZL.out hn)
    replace HNx := Lib.hid (strs_win HNx.out (.inr (Nat.le_refl _)) HZW.out hn)
    replace HW := Lib.hid (Nat.le_trans HW.out (Fr.size hn))
    replace HWC := Lib.hid (Nat.le_trans HWC.out (Fr.size hn))
    replace HZW := Lib.hid (Nat.le_trans HZW.out (Fr.size hn))
    replace HX := Lib.hid (blk_fr HX.out (by have := HZB.out; have := HXB.out; omega) hn)
    replace HL := Lib.hid (HL.out.keep HZC.out hn)
    replace HP := Lib.hid (pat_fr HP.out (Nat.lt_of_lt_of_le HG.out HZL.out) hn)
    replace HZ := Lib.hid hz
    clear hn hz
    have HU := Lib.hid (tree_of (W := (World.setCell (w14.alloc (.cells #[.int .i64 u0, .int .i64 u1, .string u2, .slice ua ul uc, .slice ud ue uf] 27)) ⟨w11.heap.size, 4, none⟩ (.slice (some ⟨w14.heap.size, 0, none⟩) 1 1))) (B := B) (op := 34) (n := 0) (tx := ByteArray.empty) (Nat.zero_le _) (HNx.out.mono fun b h => ⟨h.1, Nat.lt_of_lt_of_le h.2 HZW.out⟩) (SynSl.mono (own_low HBC.out) HL.out.syns))
    go_wp2_with fail
    have HEN := putFive_blk HX.out (.int .i64 34) (.int .i64 0) (.string ⟨#[]⟩) (.slice nax nlx ncx) (.slice (some ⟨w14.heap.size, 0, none⟩) 1 1)
    have HFI := tree_fin HG.out HF.out HU.out HXB.out HP.out (.int .i64 34) (.int .i64 0) (.string ⟨#[]⟩) (.slice nax nlx ncx) (.slice (some ⟨w14.heap.size, 0, none⟩) 1 1)
    unfold putFive at HEN HFI
    obtain ⟨k0, k1, k2, k3, k4⟩ := five_cells HEN
    refine bodyPost_ret (v := .agg #[.int .i64 34, .int .i64 0, .string ⟨#[]⟩, .slice nax nlx ncx, .slice (some ⟨w14.heap.size, 0, none⟩) 1 1]) (by simp [results, Tryz.results162, go_sem, k0, k1, k2, k3, k4]) rfl ?_
    exact tree_ok HR.out HFI
end Go.Proofs.YtjedahcpkcgpeaaGreatDoor
