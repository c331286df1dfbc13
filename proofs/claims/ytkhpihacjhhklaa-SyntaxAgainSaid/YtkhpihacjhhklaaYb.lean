/-
  Walks of layer 3: a list of trees is cloned.
-/
import Derived.Test.YtkhpihacjhhklaaXz
namespace Go.Proofs.Ytkhpihacjhhklaa
open Go Go.RowKit
open Pl (Syn)
set_option linter.unusedSimpArgs false

theorem infoSyn : (Try.prog.info? 25).map (fun i => (i.zero, i.size, i.bytes)) = some (some (.agg #[.int .i64 0, .int .i64 0, .string ByteArray.empty, .slice none 0 0, .slice none 0 0]), 5, 80) := by kernel_rfl
/-- the five cells of a node in a block's cells -/
def NodeIn (cur : Array Value) (o : Nat) (v : Value) : Prop := ∃ x0 x1 x2 x3 x4, v = .agg #[x0, x1, x2, x3, x4] ∧ cur[o]? = some x0 ∧ cur[o + 1]? = some x1 ∧ cur[o + 2]? = some x2 ∧ cur[o + 3]? = some x3 ∧ cur[o + 4]? = some x4
/-- a list of trees whose nodes lie in a block of the call's own, their parts in the blocks Q -/
def FreshSl (w : World) (base : Nat) (Q : Nat → Prop) (v : Value) (l : List Syn) : Prop :=
  ∃ a c, v = .slice a l.length c ∧ l.length ≤ c ∧ c ≤ maxLen ∧ (a = none → c = 0) ∧ (l = [] ∨ ∃ g cur, a = some ⟨g, 0, none⟩ ∧ base ≤ g ∧ Blk w g 25 cur ∧ l.length * 5 ≤ cur.size ∧ ∀ j (h : j < l.length), ∃ x, NodeIn cur (j * 5) x ∧ SynV w Q l[j] x)
theorem NodeIn.at {w : World} {g o : Nat} {cur : Array Value} {v : Value} {T : TypeId} (h : NodeIn cur o v) (hb : Blk w g T cur) : NodeAt w g o v := by
  obtain ⟨x0, x1, x2, x3, x4, rfl, h0, h1, h2, h3, h4⟩ := h
  exact ⟨x0, x1, x2, x3, x4, rfl, hb.cell _ _ h0, hb.cell _ _ h1, hb.cell _ _ h2, hb.cell _ _ h3, hb.cell _ _ h4⟩
/-- as a list of trees -/
theorem FreshSl.syns {w : World} {base : Nat} {Q R : Nat → Prop} {v : Value} {l : List Syn} (h : FreshSl w base Q v l) (hQ : ∀ b, Q b → R b) (hR : ∀ b, base ≤ b → b < w.heap.size → R b) : SynSl w R v l := by
  obtain ⟨a, c, h1, h2, h3, h4, h5⟩ := h
  refine ⟨a, c, h1, h2, h3, h4, ?_⟩
  rcases h5 with h5 | ⟨g, cur, h5, h6, h7, -, h8⟩
  · exact .inl h5
  · refine .inr ⟨g, 0, h5, hR g h6 h7.lt, ?_⟩
    rw [kidsAt_iff]
    intro j hj
    obtain ⟨x, hx, hv⟩ := h8 j hj
    exact ⟨x, by rw [Nat.zero_add]; exact hx.at h7, hv.mono hQ⟩
theorem one_cell_of {w : World} {P : Nat → Prop} {t : Syn} {v : Value} (h : SynV w P t v) : ∃ x0 x1 x2 x3 x4, v = .agg #[x0, x1, x2, x3, x4] ∧ x0.oneCell' = true ∧ x1.oneCell' = true ∧ x2.oneCell' = true ∧ x3.oneCell' = true ∧ x4.oneCell' = true := by
  obtain ⟨na, nn, nc, la, ln, lc, rfl⟩ := h.form
  exact ⟨_, _, _, _, _, rfl, rfl, rfl, rfl, rfl, rfl⟩
/-- the cells of nodes side by side -/
theorem kid_row {w : World} {P : Nat → Prop} {l : List Syn} {b off : Nat} (h : KidsAt w P l b off) : ∃ us : List Value, us.length = l.length * 5 ∧ (∀ i u, us[i]? = some u → w.cell? ⟨b, off + i, none⟩ = some u) ∧ ∀ u ∈ us, u.oneCell' = true := by
  induction l generalizing off with
  | nil => exact ⟨[], rfl, (fun i u hu => by simp at hu), fun u hu => by cases hu⟩
  | cons t r ih =>
    rw [KidsAt] at h
    obtain ⟨⟨v, hv, hs⟩, hr⟩ := h
    obtain ⟨us, h1, h2, h3⟩ := ih hr
    obtain ⟨x0, x1, x2, x3, x4, rfl, o0, o1, o2, o3, o4⟩ := one_cell_of hs
    obtain ⟨y0, y1, y2, y3, y4, he, c0, c1, c2, c3, c4⟩ := hv
    simp only [Value.agg.injEq, Array.mk.injEq, List.cons.injEq, and_true] at he
    obtain ⟨rfl, rfl, rfl, rfl, rfl⟩ := he
    refine ⟨x0 :: x1 :: x2 :: x3 :: x4 :: us, by simp [h1]; omega, fun i u hu => ?_, fun u hu => ?_⟩
    · match i, hu with
      | 0, hu => simp at hu; subst hu; exact c0
      | 1, hu => simp at hu; subst hu; exact c1
      | 2, hu => simp at hu; subst hu; exact c2
      | 3, hu => simp at hu; subst hu; exact c3
      | 4, hu => simp at hu; subst hu; exact c4
      | i + 5, hu =>
        have := h2 i u (by simpa using hu)
        rw [show off + 5 + i = off + (i + 5) from by omega] at this
        exact this
    · simp at hu
      rcases hu with rfl | rfl | rfl | rfl | rfl | hu
      · exact o0
      · exact o1
      · exact o2
      · exact o3
      · exact o4
      · exact h3 u hu
theorem fresh_of {w w1 : World} {base : Nat} {P : Nat → Prop} {l : List Syn} {b off : Nat} {us : List Value} {v' : Value} (hk : KidsAt w P l b off) (hl : us.length = l.length * 5) (hu : ∀ i u, us[i]? = some u → w.cell? ⟨b, off + i, none⟩ = some u) (hs : Same P w w1) (hne : 0 < l.length)
    (ho : w1.ownsRow base 25 5 v' l.length us) : FreshSl w1 base P v' l := by
  rcases ho.2 with ⟨_, h0⟩ | ⟨g, cap, cur, rfl, hbg, hg, hnc, hcm, hcs, htake⟩
  · omega
  · refine ⟨_, cap, rfl, hnc, hcm, (fun h => by cases h), .inr ⟨g, cur, rfl, hbg, hg, by rw [hcs]; exact Nat.mul_le_mul_right 5 hnc, fun j hj => ?_⟩⟩
    obtain ⟨v, hv, hsv⟩ := (kidsAt_iff _ _ _ _ _).1 hk j hj
    refine ⟨v, ?_, hsv.keep hs⟩
    have each : ∀ d x, d < 5 → w.cell? ⟨b, off + j * 5 + d, none⟩ = some x → cur[j * 5 + d]? = some x := by
      intro d x hd hx
      have hlt : j * 5 + d < us.length := by rw [hl]; omega
      have h1 := hu (j * 5 + d) us[j * 5 + d] (List.getElem?_eq_getElem hlt)
      rw [← Nat.add_assoc, hx] at h1
      injection h1 with h1
      have h2 : us[j * 5 + d]? = some x := by rw [h1]; exact List.getElem?_eq_getElem hlt
      rw [← htake, List.getElem?_take_of_lt (by rw [hl] at hlt; exact hlt)] at h2
      simpa using h2
    obtain ⟨x0, x1, x2, x3, x4, rfl, c0, c1, c2, c3, c4⟩ := hv
    exact ⟨x0, x1, x2, x3, x4, rfl, each 0 _ (by omega) c0, each 1 _ (by omega) c1, each 2 _ (by omega) c2, each 3 _ (by omega) c3, each 4 _ (by omega) c4⟩
set_option maxRecDepth 100000 in
set_option maxHeartbeats 4000000 in
theorem cloneSyn_any (P : Nat → Prop) (v : Value) (l : List Syn) (w : World) (hP : ∀ b, P b → b < w.heap.size) (h : SynSl w P v l) (hbig : l.length ≤ 536870912) :
    Calls Try.prog 58 #[v] w fun e w' => (∃ a n c, e = .returned (.slice a n c) ∧ FreshSl w' w.heap.size P (.slice a n c) l) ∧ Below w.heap.size w w' := by
  obtain ⟨i25, hi0, hz0, hz1, hz2⟩ := info_parts infoSyn
  have HB := Lib.hid (show Below w.heap.size w (w.alloc (.cells #[] 25)) from (Below.refl _ _).alloc (Nat.le_refl _) _)
  have HBL := Lib.hid (Below.refl w.heap.size w)
  have HO := Lib.hid (show (w.alloc (.cells #[] 25)).ownsRow w.heap.size 25 5 (.slice (some ⟨w.heap.size, 0, none⟩) 0 0) 0 [] from ⟨rfl, .inr ⟨w.heap.size, 0, #[], rfl, Nat.le_refl _, blk_new w #[] 25, Nat.le_refl _, Nat.zero_le _, rfl, rfl⟩⟩)
  have HN := Lib.hid (fun (a : Option Addr) c W (h1 : c ≤ maxLen) (h2 : a = none → c = 0) => show FreshSl W w.heap.size P (.slice a 0 c) [] from ⟨a, c, rfl, Nat.zero_le _, h1, h2, .inl rfl⟩)
  rcases h.cases with ⟨rfl, a, c, rfl, hac, hcm⟩ | ⟨b, off, n, c, rfl, hnl, hn0, hnc, hcm, hPb, hka⟩
  · clear h
    cases a with
    | none =>
      obtain rfl := hac rfl
      have he : ∀ W : World, (binOp .eql 23 (.slice none 0 0) (.slice none 0 0)).run Try.prog W = .ok (.bool true) W := fun _ => rfl
      go_enter Try.func58, Try.ntmps58
      go_wp2
      go_ret
      exact ⟨⟨none, 0, 0, rfl, HN.out _ _ _ (Nat.zero_le _) (fun _ => rfl)⟩, HBL.out⟩
    | some a =>
      have he : ∀ W : World, (binOp .eql 23 (.slice (some a) 0 c) (.slice none 0 0)).run Try.prog W = .ok (.bool false) W := fun _ => rfl
      go_enter Try.func58, Try.ntmps58
      go_wp2_with (at_builtin; refine wpList_append_own _ rfl _ _ 23 rfl w.heap.size 25 i25 (.agg #[.int .i64 0, .int .i64 0, .string ByteArray.empty, .slice none 0 0, .slice none 0 0]) 5 80 Try.underlying23 hi0 hz0 hz1 hz2 rfl (by decide) _ _ _ rfl HO.out a 0 c [] rfl ?c0 ?c1 ?c2 ?c3 ?c4 ?c5 ?_)
      case c0 => rfl
      case c1 => intro j u hj; simp at hj
      case c2 => intro u hu; cases hu
      case c3 => exact Nat.zero_le _
      case c4 => omega
      case c5 => exact HB.out.size
      intro v' w1 hown hgrow _
      have HB1 := Lib.hid (HB.out.grown hgrow HB.out.size (fun j hj => (HO.out.lt j hj).1))
      have HO1 := Lib.hid hown
      clear hown hgrow
      go_wp2
      go_ret
      refine ⟨?_, HB1.out⟩
      rcases HO1.out.2 with ⟨rfl, _⟩ | ⟨g, cap, cur, rfl, _, _, _, hcm2, _, _⟩
      · exact ⟨none, 0, 0, rfl, HN.out _ _ _ (Nat.zero_le _) (fun _ => rfl)⟩
      · exact ⟨_, _, cap, rfl, HN.out _ _ _ hcm2 (fun h => by cases h)⟩
  · obtain ⟨us, hul, huc, hu1⟩ := kid_row hka
    have he : ∀ W : World, (binOp .eql 23 (.slice (some ⟨b, off, none⟩) n c) (.slice none 0 0)).run Try.prog W = .ok (.bool false) W := fun _ => rfl
    have HKA := Lib.hid hka
    have HUL := Lib.hid hul
    have HUC := Lib.hid huc
    have HU1 := Lib.hid hu1
    have HP := Lib.hid hP
    have HPB := Lib.hid hPb
    have HNL := Lib.hid hnl
    rw [hnl] at hbig
    clear hka hul huc hu1 hP hPb hnl h
    go_enter Try.func58, Try.ntmps58
    go_wp2_with (at_builtin; refine wpList_append_own _ rfl _ _ 23 rfl w.heap.size 25 i25 (.agg #[.int .i64 0, .int .i64 0, .string ByteArray.empty, .slice none 0 0, .slice none 0 0]) 5 80 Try.underlying23 hi0 hz0 hz1 hz2 rfl (by decide) _ _ _ rfl HO.out ⟨b, off, none⟩ n c us rfl ?c0 ?c1 ?c2 ?c3 ?c4 ?c5 ?_)
    case c0 => rw [HUL.out, HNL.out]
    case c1 =>
      intro j u hj
      rw [Go.WideShapes.add_plain, HB.out.cell (p := ⟨b, off + j, none⟩) (HP.out _ HPB.out)]
      exact HUC.out j u hj
    case c2 => exact HU1.out
    case c3 => unfold maxLen; omega
    case c4 => omega
    case c5 => exact HB.out.size
    intro v' w1 hown hgrow _
    have HB1 := Lib.hid (HB.out.grown hgrow HB.out.size (fun j hj => (HO.out.lt j hj).1))
    have HO1 := Lib.hid hown
    clear hown hgrow
    go_wp2
    go_ret
    refine ⟨?_, HB1.out⟩
    have ho : w1.ownsRow w.heap.size 25 5 v' l.length us := by
      have := HO1.out
      rw [← HNL.out] at this
      exact this
    have hf := fresh_of (w1 := w1) HKA.out HUL.out HUC.out (Same.of_below HB1.out HP.out) (by rw [HNL.out]; exact hn0) ho
    obtain ⟨a', c', rfl, hr⟩ := id hf
    exact ⟨a', _, c', rfl, hf⟩
end Go.Proofs.Ytkhpihacjhhklaa
