/-
  Walks and plain mathematics, several texts in one (Ej).
-/
import Derived.Test.YtkmgnibopmpcjaaGreatDoorH22
/-
  Walks of layer 4: a match.
-/
namespace Go.Proofs.YtkmgnibopmpcjaaGreatDoor
open Go Go.RowKit
set_option linter.unusedSimpArgs false
theorem Pl.sepMore_len (l : List Pl.Tok) (b : Pl.Bytes) {read : Nat → Pl.PR Pl.Syn} (hr : ∀ i, Pl.After (read i) (i + 1)) : ∀ (n : Nat) (acc : List Pl.Syn) (i : Nat) (ts : List Pl.Syn) (j : Nat), Pl.sepMore l b read n acc i = .ok ts j → acc.length ≤ ts.length ∧ ts.length + i ≤ acc.length + j := by
  intro n
  induction n with
  | zero => intro acc i ts j h; rw [Pl.sepMore] at h; cases h
  | succ n ih =>
    intro acc i ts j h
    rw [Pl.sepMore] at h
    split at h
    · cases hq : read (i + 1) with
      | bad q => rw [hq, Pl.PR.then_bad] at h; cases h
      | ok t q =>
        rw [hq, Pl.PR.then_ok] at h
        have h1 := ih _ _ _ _ h
        have h2 := hr _ _ _ hq
        simp only [List.length_append, List.length_singleton] at h1
        omega
    · injection h with h1 h2
      subst h1 h2
      omega
theorem Pl.sepd_len {l : List Pl.Tok} {b : Pl.Bytes} {read : Nat → Pl.PR Pl.Syn} (hr : ∀ i, Pl.After (read i) (i + 1)) {i : Nat} {ts : List Pl.Syn} {j : Nat} (h : Pl.sepd l b read i = .ok ts j) : 1 ≤ ts.length ∧ ts.length + i ≤ j := by
  unfold Pl.sepd at h
  cases hq : read i with
  | bad q => rw [hq, Pl.PR.then_bad] at h; cases h
  | ok t q =>
    rw [hq, Pl.PR.then_ok] at h
    have h1 := Pl.sepMore_len l b hr _ _ _ _ _ h
    have h2 := hr _ _ _ hq
    simp only [List.length_singleton] at h1
    omega
set_option maxRecDepth 100000 in
set_option maxHeartbeats 8000000 in
theorem pmatch_any (s : Src) (g i : Nat) (F : Pl.Fs) (hex : ∀ W j, i ≤ j → PAt W g s j → Calls Tryz.prog 44 #[.pointer (some ⟨g, 0, none⟩)] W (TreeOut s g (F.expr j) W)) (hru : ∀ W j, i ≤ j → PAt W g s j → Calls Tryz.prog 154 #[.pointer (some ⟨g, 0, none⟩)] W (TreeOut s g (F.rule j) W)) (hgo : Pl.Goes F) (w : World) (h : PAt w g s i) (hbig : s.ts.length ≤ 536870912) :
    Calls Tryz.prog 87 #[.pointer (some ⟨g, 0, none⟩)] w (TreeOut s g (Pl.matchB s.ts F i) w) := by
  have HP := Lib.hid h
  have HG := Lib.hid h.blk.lt
  have hmf : ∀ (fn : Fn) (first cap : Array Value) (w : World), (Instr.makeFunc fn first cap).run Tryz.prog w = .ok (.func fn first cap) w := fun _ _ _ _ => rfl
  obtain ⟨i28, hi0, hz0, hz1, hz2⟩ := info3 infoTree
  have Hex := Lib.hid hex
  have Hru := Lib.hid hru
  have Hgo := Lib.hid hgo
  obtain ⟨r, hr⟩ : ∃ r, r = Pl.matchB s.ts F i := ⟨_, rfl⟩
  rw [← hr]
  have HR := Lib.hid hr
  rw [Pl.matchB] at HR
  have HF := Lib.hid (Fr.refl (· = g) w)
  obtain ⟨B, hB⟩ : ∃ B, B = w.heap.size + 1 := ⟨_, rfl⟩
  have HGB := Lib.hid (show g < B from by have := HG.out; omega)
  have HXB := Lib.hid (show w.heap.size < B from by omega)
  have HX := Lib.hid (blk_new w #[.int .i64 0, .int .i64 0, .string ⟨#[]⟩, .slice none 0 0, .slice none 0 0] 28)
  have HXL := Lib.hid (Nat.le_refl w.heap.size)
  have hn := fr_new g w (.cells #[.int .i64 0, .int .i64 0, .string ⟨#[]⟩, .slice none 0 0, .slice none 0 0] 28)
  replace HF := Lib.hid (HF.out.trans hn)
  have HW := Lib.hid (show B ≤ (w.alloc (.cells #[.int .i64 0, .int .i64 0, .string ⟨#[]⟩, .slice none 0 0, .slice none 0 0] 28)).heap.size from by rw [hB]; simp)
  replace HP := Lib.hid (HP.out.below ((Below.refl _ _).alloc (Nat.le_refl _) (.cells #[.int .i64 0, .int .i64 0, .string ⟨#[]⟩, .slice none 0 0, .slice none 0 0] 28)))
  clear h hr hn hB hex hru hgo
  go_enter Tryz.func87, Tryz.ntmps87
  go_wp2_with fail
  generalize w.alloc (.cells #[.int .i64 0, .int .i64 0, .string ⟨#[]⟩, .slice none 0 0, .slice none 0 0] 28) = w1 at *
  refine (Hex.out _ _ (Nat.le_refl _) HP.out).mono ?_
  rintro e w2 ho
  rcases TreeOut.split ho with ⟨q1, hri1, rfl, hf⟩ | ⟨tu, q1, u0, u1, u2, ua, ul, uc, ud, ue, uf, hri1, rfl, ht, hp, hf⟩
  · exact ⟨rfl, tree_bad (HR.out.trans (by rw [hri1, Pl.PR.then_bad])) (HF.out.trans hf)⟩
  have hgo1 := Hgo.out.expr _ _ _ hri1
  rw [hri1, Pl.PR.then_ok] at HR
  have HTu := Lib.hid (ht.mono (own_low HW.out))
  replace HF := Lib.hid (HF.out.trans hf)
  replace HW := Lib.hid (Nat.le_trans HW.out (Fr.size hf))
  replace HX := Lib.hid (blk_fr HX.out (by have := HXL.out; have := HG.out; omega) hf)
  replace HP := Lib.hid (hp)
  clear ho hp hf ht hri1
  have hl := trees_one_at HW.out HTu.out
  have hn := fr_new g w2 (.cells #[.int .i64 u0, .int .i64 u1, .string u2, .slice ua ul uc, .slice ud ue uf] 28)
  replace HF := Lib.hid (HF.out.trans hn)
  replace HW := Lib.hid (Nat.le_trans HW.out (Fr.size hn))
  replace HX := Lib.hid (blk_fr HX.out (by have := HXL.out; have := HG.out; omega) hn)
  replace HP := Lib.hid (HP.out.below ((Below.refl _ _).alloc (Nat.le_refl _) (.cells #[.int .i64 u0, .int .i64 u1, .string u2, .slice ua ul uc, .slice ud ue uf] 28)))
  clear hn
  have HL := Lib.hid hl
  clear hl
  go_wp2_with fail
  generalize (w2.alloc (.cells #[.int .i64 u0, .int .i64 u1, .string u2, .slice ua ul uc, .slice ud ue uf] 28)) = w3 at *
  refine (pneed_any s g q1 [111, 102] (by decide) _ HP.out).mono ?_
  rintro e w4 ho
  rcases NeedOut.split ho with ⟨q2, hri2, rfl, hf⟩ | ⟨q2, nv, hri2, rfl, hp, hf⟩
  · exact ⟨rfl, tree_bad (HR.out.trans (by rw [hri2, Pl.PR.then_bad])) (HF.out.trans hf)⟩
  have hgo2 := need_next hri2
  rw [hri2, Pl.PR.then_ok] at HR
  replace HF := Lib.hid (HF.out.trans hf)
  replace HW := Lib.hid (Nat.le_trans HW.out (Fr.size hf))
  replace HX := Lib.hid (blk_fr HX.out (by have := HXL.out; have := HG.out; omega) hf)
  replace HL := Lib.hid (HL.out.keep HGB.out hf)
  replace HP := Lib.hid (hp)
  clear ho hp hf
  go_wp2_with fail
  have HOL := Lib.hid (fun k (hk : Value.ownBlock (.slice (some ⟨w2.heap.size, 0, none⟩) 1 1) = some k) => (HL.out.owned hk).2)
  have HOB := Lib.hid (fun k (hk : Value.ownBlock (.slice (some ⟨w2.heap.size, 0, none⟩) 1 1) = some k) => (HL.out.owned hk).1)
  have HSB := Lib.hid HW.out
  refine (pseparated_any s g q2 154 [124] (by decide) F.rule (fun _ _ _ h => Hgo.out.rule _ _ _ h) (fun W j hj hW => Hru.out W j (by omega) hW) (fun _ => rfl) _ HP.out hbig).mono ?_
  rintro e w5 ho
  rcases TreesOut.split ho with ⟨q3, hri3, rfl, hf⟩ | ⟨ts, q3, la, lc, hri3, rfl, ht, hp, hf⟩
  · exact ⟨rfl, tree_bad (HR.out.trans (by rw [hri3, Pl.PR.then_bad])) (HF.out.trans hf)⟩
  have hlen := Pl.sepd_len (fun j => Hgo.out.rule j) hri3
  have hin := hp.inn
  rw [hri3, Pl.PR.then_ok] at HR
  have HM := Lib.hid ht
  replace HF := Lib.hid (HF.out.trans hf)
  replace HW := Lib.hid (Nat.le_trans HW.out (Fr.size hf))
  replace HX := Lib.hid (blk_fr HX.out (by have := HXL.out; have := HG.out; omega) hf)
  replace HL := Lib.hid (HL.out.keep HGB.out hf)
  replace HP := Lib.hid (hp)
  clear ho hp hf ht hri3
  obtain ⟨us, vs, hown, hown2, hone, hpush⟩ := trees_pushes HL.out HM.out HSB.out HOL.out
  obtain ⟨ln, hln⟩ : ∃ ln, ln = ts.length := ⟨_, rfl⟩
  rw [← hln] at hown2 hpush hlen ⊢
  obtain ⟨gb, cp, hv, -, -⟩ := hown2.form (by omega)
  injection hv with ha h0 hc
  subst ha
  have HROW := Lib.hid (show World.ownsRow w5 B 28 5 (.slice (some ⟨w2.heap.size, 0, none⟩) 1 1) 1 us from hown)
  have HPUSH := Lib.hid (show ∀ w' v', World.ownsRow w' B 28 5 v' (1 + ln) (us ++ vs) → _ from hpush)
  have HOW2 := Lib.hid hown2
  have HONE := Lib.hid hone
  clear hown hown2 hone hpush HM hln
  go_wp2_with (at_builtin; refine wpList_append_lies _ rfl _ _ 26 rfl B 28 i28 (.agg #[.int .i64 0, .int .i64 0, .string ⟨#[]⟩, .slice none 0 0, .slice none 0 0]) 5 80 Tryz.underlying26 hi0 hz0 hz1 hz2 rfl (by decide) _ _ _ rfl HROW.out ⟨gb, 0, none⟩ ln cp vs rfl HOW2.out.1 (HOW2.out.cells rfl) HONE.out ?c6 ?c3 ?c4 ?c5 (World.heap w5).size rfl ?_)
  case c6 => omega
  case c3 => unfold maxLen; omega
  case c4 => omega
  case c5 => exact HW.out
  intro gg cap w6 hown hgrow hat hlt
  have HL := Lib.hid (show TreesAt w6 B (.slice (some ⟨gg, 0, none⟩) (1 + ln) cap) ([tu] ++ ts) from HPUSH.out _ _ hown hgrow (fun k hk => by
    have e : some gg = some k := hk
    injection e with e
    subst e
    rcases hat with hat | hat
    · exact .inl hat
    · right; rw [hat]; exact Nat.le_refl _))
  replace HF := Lib.hid (fr_row HF.out hgrow (fun k hk => by have := HOB.out k hk; have := HXB.out; omega))
  replace HX := Lib.hid (blk_grown HX.out hgrow (fun k hk => by have := HOB.out k hk; have := HXB.out; omega))
  replace HP := Lib.hid (HP.out.grown hgrow (fun k hk => by have := HOB.out k hk; have := HGB.out; omega))
  replace HW := Lib.hid (Nat.le_trans HW.out hgrow.size)
  clear hown hgrow hat hlt HROW HPUSH HOL HOB HSB HOW2 HONE
  go_wp2_with fail
  refine (pneed_any s g q3 [101, 110, 100] (by decide) _ HP.out).mono ?_
  rintro e w7 ho
  rcases NeedOut.split ho with ⟨q4, hri4, rfl, hf⟩ | ⟨q4, nv, hri4, rfl, hp, hf⟩
  · exact ⟨rfl, tree_bad (HR.out.trans (by rw [hri4, Pl.PR.then_bad])) (HF.out.trans hf)⟩
  have hgo4 := need_next hri4
  rw [hri4, Pl.PR.then_ok] at HR
  replace HF := Lib.hid (HF.out.trans hf)
  replace HW := Lib.hid (Nat.le_trans HW.out (Fr.size hf))
  replace HX := Lib.hid (blk_fr HX.out (by have := HXL.out; have := HG.out; omega) hf)
  replace HL := Lib.hid (HL.out.keep HGB.out hf)
  replace HP := Lib.hid (hp)
  clear ho hp hf
  have HU := Lib.hid (tree_of (W := w7) (B := B) (op := 29) (n := 0) (tx := ByteArray.empty) (Nat.zero_le _) (strs_none _ _) HL.out.syns)
  obtain ⟨hxc0, hxc1, hxc2, hxc3, hxc4⟩ := five_cells HX.out
  have hxf0 := HX.out.thaw 0
  have hxf1 := HX.out.thaw 1
  have hxf2 := HX.out.thaw 2
  have hxf3 := HX.out.thaw 3
  have hxf4 := HX.out.thaw 4
  go_wp2_with fail
  have HEN := putFive_blk HX.out (.int .i64 29) (.int .i64 0) (.string ⟨#[]⟩) (.slice none 0 0) (.slice (some ⟨gg, 0, none⟩) (1 + ln) cap)
  have HFI := tree_fin HG.out HF.out HU.out HXB.out HP.out (.int .i64 29) (.int .i64 0) (.string ⟨#[]⟩) (.slice none 0 0) (.slice (some ⟨gg, 0, none⟩) (1 + ln) cap)
  unfold putFive at HEN HFI
  obtain ⟨k0, k1, k2, k3, k4⟩ := five_cells HEN
  refine bodyPost_ret (v := .agg #[.int .i64 29, .int .i64 0, .string ⟨#[]⟩, .slice none 0 0, .slice (some ⟨gg, 0, none⟩) (1 + ln) cap]) (by simp [results, Tryz.results87, go_sem, k0, k1, k2, k3, k4]) rfl ?_
  exact tree_ok HR.out HFI
end Go.Proofs.YtkmgnibopmpcjaaGreatDoor
