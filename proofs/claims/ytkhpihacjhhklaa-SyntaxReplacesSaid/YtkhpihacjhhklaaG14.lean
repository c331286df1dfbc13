/-
  Walks and plain mathematics, several texts in one (Xq Xr).
-/
import Derived.Test.YtkhpihacjhhklaaG12
import Derived.Test.YtkhpihacjhhklaaG13
/-
  Walks of layer 3: the reference's forms of cases.
-/
namespace Go.Proofs.Ytkhpihacjhhklaa
open Go Go.RowKit
open Pl (Syn)
set_option linter.unusedSimpArgs false

namespace Pl
theorem kinds_from (l : List Syn) (ks : List Int) (i : Nat) : kinds (l.drop i) ks = true ↔ ∀ q (h : q < l.length), i ≤ q → ks.contains l[q].op = true := by
  unfold kinds
  rw [List.all_eq_true]
  constructor
  · intro h q hq h1
    refine h _ (List.mem_iff_getElem?.2 ⟨q - i, ?_⟩)
    rw [List.getElem?_drop, show i + (q - i) = q from by omega, List.getElem?_eq_getElem hq]
  · intro h x hx
    obtain ⟨k, hk⟩ := List.mem_iff_getElem?.1 hx
    rw [List.getElem?_drop] at hk
    obtain ⟨hl, e⟩ := List.getElem?_eq_some_iff.1 hk
    rw [← e]
    exact h _ hl (by omega)
theorem kinds_upto (l : List Syn) (ks : List Int) (j : Nat) : kinds (l.take j) ks = true ↔ ∀ q (h : q < l.length), q < j → ks.contains l[q].op = true := by
  unfold kinds
  rw [List.all_eq_true]
  constructor
  · intro h q hq h1
    refine h _ (List.mem_iff_getElem?.2 ⟨q, ?_⟩)
    rw [List.getElem?_take_of_lt h1, List.getElem?_eq_getElem hq]
  · intro h x hx
    obtain ⟨k, hk⟩ := List.mem_iff_getElem?.1 hx
    by_cases hj : k < j
    · rw [List.getElem?_take_of_lt hj] at hk
      obtain ⟨hl, e⟩ := List.getElem?_eq_some_iff.1 hk
      rw [← e]
      exact h _ hl hj
    · rw [List.getElem?_eq_none (by rw [List.length_take]; omega)] at hk
      cases hk
end Pl
set_option maxRecDepth 100000 in
set_option maxHeartbeats 8000000 in
theorem rexprF_29 (P : Nat → Prop) (t : Syn) (w : World) (v : Value) (hP : ∀ b, P b → b < w.heap.size) (ht : SynV w P t v) (hop : t.op = 29) :
    Calls Try.prog 82 #[v] w fun e w' => e = .returned (.bool (Pl.exprF t)) ∧ Below w.heap.size w w' := by
  have hlm : t.l.length ≤ maxLen := by
    obtain ⟨_, nv, lv, _, _, a, c, _, h1, h2, _⟩ := (synV_iff _ _ _ _).1 ht
    omega
  have hnm9 : t.names.length ≤ maxLen := by
    obtain ⟨_, nv, lv, _, hn, _⟩ := (synV_iff _ _ _ _).1 ht
    obtain ⟨_, _, _, h⟩ := hn.form
    exact h
  unfold maxLen at hlm hnm9
  have HT := Lib.hid ht
  rw [synV_iff] at ht
  obtain ⟨hs, nv, lv, rfl, hn, hl⟩ := ht
  have HSZ := Lib.hid hs
  have HNM := Lib.hid hn
  have HLL := Lib.hid hl
  obtain ⟨na, nc, rfl, hnm⟩ := hn.form
  obtain ⟨la, lc, rfl, hlmm⟩ := hl.form
  have hb0 : Below w.heap.size w (w.alloc (.cells #[.int .i64 t.op, .int .i64 t.n, .string t.s, .slice na t.names.length nc, .slice la t.l.length lc] 25)) := (Below.refl _ _).alloc (Nat.le_refl _) _
  have bx := blk_new w #[.int .i64 t.op, .int .i64 t.n, .string t.s, .slice na t.names.length nc, .slice la t.l.length lc] 25
  have hsame := Same.of_below hb0 hP
  have HND := Lib.hid (node_of P t (w.alloc (.cells #[.int .i64 t.op, .int .i64 t.n, .string t.s, .slice na t.names.length nc, .slice la t.l.length lc] 25)) 0 _ (fun b h => Nat.lt_of_lt_of_le (hP b h) hb0.size) (HT.out.keep hsame))
  have HPA := Lib.hid (fun W low (h : Below (w.alloc (.cells #[.int .i64 t.op, .int .i64 t.n, .string t.s, .slice na t.names.length nc, .slice la t.l.length lc] 25)).heap.size (w.alloc (.cells #[.int .i64 t.op, .int .i64 t.n, .string t.s, .slice na t.names.length nc, .slice la t.l.length lc] 25)) W) => rpath_any low P _ t.names W (HNM.out.keep (Same.of_below (belowStep h hb0) hP)) (fun b hb => Nat.lt_of_lt_of_le (hP b hb) (belowStep h hb0).size))
  have HPR := Lib.hid (fun W (h : Below (w.alloc (.cells #[.int .i64 t.op, .int .i64 t.n, .string t.s, .slice na t.names.length nc, .slice la t.l.length lc] 25)).heap.size (w.alloc (.cells #[.int .i64 t.op, .int .i64 t.n, .string t.s, .slice na t.names.length nc, .slice la t.l.length lc] 25)) W) => rparams_any P _ t.names W (HNM.out.keep (Same.of_below (belowStep h hb0) hP)) (fun b hb => Nat.lt_of_lt_of_le (hP b hb) (belowStep h hb0).size))
  have HTX := Lib.hid (fun W => rtext_any t.s W HSZ.out)
  have HKL := Lib.hid (fun W (h : Below (w.alloc (.cells #[.int .i64 t.op, .int .i64 t.n, .string t.s, .slice na t.names.length nc, .slice la t.l.length lc] 25)).heap.size (w.alloc (.cells #[.int .i64 t.op, .int .i64 t.n, .string t.s, .slice na t.names.length nc, .slice la t.l.length lc] 25)) W) => HLL.out.keep (Same.of_below (belowStep h hb0) hP))
  have HKN := Lib.hid (fun W (h : Below (w.alloc (.cells #[.int .i64 t.op, .int .i64 t.n, .string t.s, .slice na t.names.length nc, .slice la t.l.length lc] 25)).heap.size (w.alloc (.cells #[.int .i64 t.op, .int .i64 t.n, .string t.s, .slice na t.names.length nc, .slice la t.l.length lc] 25)) W) => HNM.out.keep (Same.of_below (belowStep h hb0) hP))
  have HBX := Lib.hid bx
  have HB0 := Lib.hid hb0
  have HALL := Lib.hid HND.out.all
  have HBA := Lib.hid HND.out.bare
  have HLO := Lib.hid HND.out.low
  have HUP := Lib.hid HND.out.up
  have HX1 := Lib.hid HND.out.ex1
  have HX2 := Lib.hid HND.out.ex2
  have HX3 := Lib.hid HND.out.ex3
  obtain ⟨y0, y1, y2, y3, y4⟩ := box_cells bx
  have HPP := Lib.hid hP
  clear hs hn hl hnm hlmm bx hsame hb0 hP HND HT
  have HQ := Lib.hid (fun W (hW : Below (w.alloc (.cells #[.int .i64 t.op, .int .i64 t.n, .string t.s, .slice na t.names.length nc, .slice la t.l.length lc] 25)).heap.size (w.alloc (.cells #[.int .i64 t.op, .int .i64 t.n, .string t.s, .slice na t.names.length nc, .slice la t.l.length lc] 25)) W) => box_cells (Blk.of_eq HBX.out (hW.block _ (Blk.lt HBX.out))))
  have hbn0 := Below.refl (w.alloc (.cells #[.int .i64 t.op, .int .i64 t.n, .string t.s, .slice na t.names.length nc, .slice la t.l.length lc] 25)).heap.size (w.alloc (.cells #[.int .i64 t.op, .int .i64 t.n, .string t.s, .slice na t.names.length nc, .slice la t.l.length lc] 25))
  have HKK := Lib.hid (show t.l ≠ [] → ∃ b off, la = some ⟨b, off, none⟩ ∧ ∀ W, Below (w.alloc (.cells #[.int .i64 t.op, .int .i64 t.n, .string t.s, .slice na t.names.length nc, .slice la t.l.length lc] 25)).heap.size (w.alloc (.cells #[.int .i64 t.op, .int .i64 t.n, .string t.s, .slice na t.names.length nc, .slice la t.l.length lc] 25)) W → KidsAt W P t.l b off from fun hne => kids_of HLL.out hne (fun W h => Same.of_below (belowStep h HB0.out) HPP.out))
  obtain ⟨op, nn, ss, mm, ll⟩ := t
  dsimp only at hop
  subst hop
  dsimp only at *
  have HE := Lib.hid (show Pl.exprF ⟨29, nn, ss, mm, ll⟩ = _ by unfold Pl.exprF; rw [if_neg (by simp), if_neg (by simp), if_neg (by simp), if_neg (by simp), if_neg (by simp), if_neg (by simp), if_neg (by simp), if_neg (by simp), if_pos (by simp)])
  dsimp only at HE
  have HB1 := Lib.hid (fun W h => HBA.out W false false false h)
  generalize hrb : Pl.bare ⟨29, nn, ss, mm, ll⟩ false false false = rb at *
  by_cases h1 : 2 ≤ ll.length
  · obtain ⟨b, off, rfl, hkk⟩ := HKK.out (by rintro rfl; simp at h1)
    have HKA := Lib.hid hkk
    have HA1 := Lib.hid (fun W h => show Calls Try.prog 96 #[_, .int .i64 0, .int .i64 1, .int .i64 3] W fun e w' => e = .returned (.bool (Pl.rall (ll.take 1) 3)) ∧ Below W.heap.size W w' from (HALL.out W 0 1 3 h (Nat.zero_le _) (by omega)).mono fun e w' ⟨h1, h2⟩ => ⟨by rw [h1]; rfl, h2⟩)
    have HE2 := Lib.hid (HE.out.trans (show _ = (rb && true && Pl.rall (ll.take 1) 3 && Pl.kinds (ll.drop 1) [30]) from by rw [decide_eq_true h1]))
    generalize Pl.exprF ⟨29, nn, ss, mm, ll⟩ = res at *
    generalize hln : ll.length = ln at *
    have HLN := Lib.hid hln
    have HKI := Lib.hid (Pl.kinds_from ll [30] 1)
    generalize Pl.rall (ll.take 1) 3 = ra at *
    generalize Pl.kinds (ll.drop 1) [30] = rk at *
    have q2 : decide ((ln : Int) < 2) = false := by simp; omega
    clear hln hkk hrb HE HKK HALL HBA HKL HLL
    cases rb
    · go_enter Try.func82, Try.ntmps82
      go_wp2_with fail
      generalize w.alloc (.cells #[.int .i64 29, .int .i64 nn, .string ss, .slice na mm.length nc, .slice (some ⟨b, off, none⟩) ln lc] 25) = w0 at *
      go_wp2_with (first
        | (go_at_call 93; refine (HB1.out _ (by assumption)).mono ?_; rintro e wn ⟨rfl, hbn⟩; have hbn2 := belowStep hbn (show Below w0.heap.size w0 _ by assumption); obtain ⟨z0, z1, z2, z3, z4⟩ := HQ.out _ hbn2))
      go_ret
      exact ⟨ret_bool (by first | (rw [HE2.out]; done) | (rw [HE2.out]; rfl) | (rw [HE2.out]; simp; done)), belowStep (show Below w0.heap.size w0 _ by assumption) HB0.out⟩
    cases ra
    · go_enter Try.func82, Try.ntmps82
      go_wp2_with fail
      generalize w.alloc (.cells #[.int .i64 29, .int .i64 nn, .string ss, .slice na mm.length nc, .slice (some ⟨b, off, none⟩) ln lc] 25) = w0 at *
      go_wp2_with (first
        | (go_at_call 93; refine (HB1.out _ (by assumption)).mono ?_; rintro e wn ⟨rfl, hbn⟩; have hbn2 := belowStep hbn (show Below w0.heap.size w0 _ by assumption); obtain ⟨z0, z1, z2, z3, z4⟩ := HQ.out _ hbn2)
        | (go_at_call 96; refine (HA1.out _ (by assumption)).mono ?_; rintro e wn ⟨rfl, hbn⟩; have hbn2 := belowStep hbn (show Below w0.heap.size w0 _ by assumption); obtain ⟨z0, z1, z2, z3, z4⟩ := HQ.out _ hbn2))
      go_ret
      exact ⟨ret_bool (by first | (rw [HE2.out]; done) | (rw [HE2.out]; rfl) | (rw [HE2.out]; simp; done)), belowStep (show Below w0.heap.size w0 _ by assumption) HB0.out⟩
    · go_enter Try.func82, Try.ntmps82
      go_wp2_with fail
      generalize w.alloc (.cells #[.int .i64 29, .int .i64 nn, .string ss, .slice na mm.length nc, .slice (some ⟨b, off, none⟩) ln lc] 25) = w0 at *
      go_wp2_with (first
        | (go_at_call 93; refine (HB1.out _ (by assumption)).mono ?_; rintro e wn ⟨rfl, hbn⟩; have hbn2 := belowStep hbn (show Below w0.heap.size w0 _ by assumption); obtain ⟨z0, z1, z2, z3, z4⟩ := HQ.out _ hbn2)
        | (go_at_call 96; refine (HA1.out _ (by assumption)).mono ?_; rintro e wn ⟨rfl, hbn⟩; have hbn2 := belowStep hbn (show Below w0.heap.size w0 _ by assumption); obtain ⟨z0, z1, z2, z3, z4⟩ := HQ.out _ hbn2))
      go_loopg [4] (ln + 1) (fun g iv wr => ∃ k : Nat, 1 ≤ k ∧ k ≤ ln ∧ iv = .int .i64 k ∧ g + k = ln + 2 ∧ Below w0.heap.size w0 wr ∧ ∀ q (h : q < ll.length), 1 ≤ q → q < k → ([30] : List Int).contains ll[q].op = true)
      case atStart => exact ⟨1, Nat.le_refl _, by omega, rfl, by omega, by assumption, fun q _ h1 h2 => by omega⟩
      case round =>
        obtain ⟨k, hk1, hk, rfl, hg, hbw, hall⟩ := hrel
        have HA := Lib.hid hall
        have HBW := Lib.hid (belowStep hbw HB0.out)
        clear hall
        by_cases hlt : k < ln
        · have hkl : k < ll.length := by rw [HLN.out]; exact hlt
          obtain ⟨v0, v1, v2, v3, v4⟩ := HQ.out _ hbw
          obtain ⟨k0, k2, kla, klc, k4⟩ := kid_cells (HKA.out _ hbw) k hkl
          have HYS := Lib.hid (show ([30] : List Int).contains ll[k].op = true → ∀ q (h : q < ll.length), 1 ≤ q → q < k + 1 → ([30] : List Int).contains ll[q].op = true from fun hx q hq h1 h2 => by
            by_cases hqk : q = k
            · subst hqk; exact hx
            · exact HA.out q hq h1 (by omega))
          have HNO := Lib.hid (show ([30] : List Int).contains ll[k].op = false → rk = false from fun hx => by
            rw [Bool.eq_false_iff]; intro e
            rw [HKI.out.1 e k hkl hk1] at hx; cases hx)
          generalize ll[k].op = xo at *
          clear k2 k4
          by_cases hx : xo = 30
          · subst hx
            go_wp2
            go_roundg (gk - 1)
            case measure => omega
            case rel => exact ⟨k + 1, by omega, by omega, by go_num, by omega, hbw, HYS.out (by decide)⟩
          · have q : (xo != 30) = true := bne_iff_ne.2 hx
            have HX := Lib.hid hx
            clear hx
            go_wp2
            go_ret
            exact ⟨ret_bool (by rw [HE2.out, HNO.out (by simp; exact fun e => HX.out e)]; rfl), HBW.out⟩
        · have HR := Lib.hid (show rk = true from HKI.out.2 (fun q hq h1 => HA.out q hq h1 (by have := HLN.out; omega)))
          go_wp2
          go_ret
          exact ⟨ret_bool (by rw [HE2.out, HR.out]; rfl), HBW.out⟩
  · have HE2 := Lib.hid (HE.out.trans (show _ = (rb && false && Pl.rall (ll.take 1) 3 && Pl.kinds (ll.drop 1) [30]) from by rw [decide_eq_false h1]))
    generalize Pl.exprF ⟨29, nn, ss, mm, ll⟩ = res at *
    generalize Pl.rall (ll.take 1) 3 = ra at *
    generalize Pl.kinds (ll.drop 1) [30] = rk at *
    have q2 : decide ((ll.length : Int) < 2) = true := by simp; omega
    generalize ll.length = ln at *
    clear h1 hrb HE HKK HALL HBA HKL HLL
    cases rb
    · go_enter Try.func82, Try.ntmps82
      go_wp2_with fail
      generalize w.alloc (.cells #[.int .i64 29, .int .i64 nn, .string ss, .slice na mm.length nc, .slice la ln lc] 25) = w0 at *
      go_wp2_with (first
        | (go_at_call 93; refine (HB1.out _ (by assumption)).mono ?_; rintro e wn ⟨rfl, hbn⟩; have hbn2 := belowStep hbn (show Below w0.heap.size w0 _ by assumption); obtain ⟨z0, z1, z2, z3, z4⟩ := HQ.out _ hbn2))
      go_ret
      exact ⟨ret_bool (by first | (rw [HE2.out]; done) | (rw [HE2.out]; rfl) | (rw [HE2.out]; simp; done)), belowStep (show Below w0.heap.size w0 _ by assumption) HB0.out⟩
    · go_enter Try.func82, Try.ntmps82
      go_wp2_with fail
      generalize w.alloc (.cells #[.int .i64 29, .int .i64 nn, .string ss, .slice na mm.length nc, .slice la ln lc] 25) = w0 at *
      go_wp2_with (first
        | (go_at_call 93; refine (HB1.out _ (by assumption)).mono ?_; rintro e wn ⟨rfl, hbn⟩; have hbn2 := belowStep hbn (show Below w0.heap.size w0 _ by assumption); obtain ⟨z0, z1, z2, z3, z4⟩ := HQ.out _ hbn2))
      go_ret
      exact ⟨ret_bool (by first | (rw [HE2.out]; done) | (rw [HE2.out]; rfl) | (rw [HE2.out]; simp; done)), belowStep (show Below w0.heap.size w0 _ by assumption) HB0.out⟩
end Go.Proofs.Ytkhpihacjhhklaa

/-
  Walks of layer 3: the reference's forms of lets; all expressions.
-/
namespace Go.Proofs.Ytkhpihacjhhklaa
open Go Go.RowKit
open Pl (Syn)
set_option linter.unusedSimpArgs false

set_option maxRecDepth 100000 in
set_option maxHeartbeats 8000000 in
theorem rexprF_31 (P : Nat → Prop) (t : Syn) (w : World) (v : Value) (hP : ∀ b, P b → b < w.heap.size) (ht : SynV w P t v) (hop : t.op = 31) :
    Calls Try.prog 82 #[v] w fun e w' => e = .returned (.bool (Pl.exprF t)) ∧ Below w.heap.size w w' := by
  have hlm : t.l.length ≤ maxLen := by
    obtain ⟨_, nv, lv, _, _, a, c, _, h1, h2, _⟩ := (synV_iff _ _ _ _).1 ht
    omega
  have hnm9 : t.names.length ≤ maxLen := by
    obtain ⟨_, nv, lv, _, hn, _⟩ := (synV_iff _ _ _ _).1 ht
    obtain ⟨_, _, _, h⟩ := hn.form
    exact h
  unfold maxLen at hlm hnm9
  have HT := Lib.hid ht
  rw [synV_iff] at ht
  obtain ⟨hs, nv, lv, rfl, hn, hl⟩ := ht
  have HSZ := Lib.hid hs
  have HNM := Lib.hid hn
  have HLL := Lib.hid hl
  obtain ⟨na, nc, rfl, hnm⟩ := hn.form
  obtain ⟨la, lc, rfl, hlmm⟩ := hl.form
  have hb0 : Below w.heap.size w (w.alloc (.cells #[.int .i64 t.op, .int .i64 t.n, .string t.s, .slice na t.names.length nc, .slice la t.l.length lc] 25)) := (Below.refl _ _).alloc (Nat.le_refl _) _
  have bx := blk_new w #[.int .i64 t.op, .int .i64 t.n, .string t.s, .slice na t.names.length nc, .slice la t.l.length lc] 25
  have hsame := Same.of_below hb0 hP
  have HND := Lib.hid (node_of P t (w.alloc (.cells #[.int .i64 t.op, .int .i64 t.n, .string t.s, .slice na t.names.length nc, .slice la t.l.length lc] 25)) 0 _ (fun b h => Nat.lt_of_lt_of_le (hP b h) hb0.size) (HT.out.keep hsame))
  have HPA := Lib.hid (fun W low (h : Below (w.alloc (.cells #[.int .i64 t.op, .int .i64 t.n, .string t.s, .slice na t.names.length nc, .slice la t.l.length lc] 25)).heap.size (w.alloc (.cells #[.int .i64 t.op, .int .i64 t.n, .string t.s, .slice na t.names.length nc, .slice la t.l.length lc] 25)) W) => rpath_any low P _ t.names W (HNM.out.keep (Same.of_below (belowStep h hb0) hP)) (fun b hb => Nat.lt_of_lt_of_le (hP b hb) (belowStep h hb0).size))
  have HPR := Lib.hid (fun W (h : Below (w.alloc (.cells #[.int .i64 t.op, .int .i64 t.n, .string t.s, .slice na t.names.length nc, .slice la t.l.length lc] 25)).heap.size (w.alloc (.cells #[.int .i64 t.op, .int .i64 t.n, .string t.s, .slice na t.names.length nc, .slice la t.l.length lc] 25)) W) => rparams_any P _ t.names W (HNM.out.keep (Same.of_below (belowStep h hb0) hP)) (fun b hb => Nat.lt_of_lt_of_le (hP b hb) (belowStep h hb0).size))
  have HTX := Lib.hid (fun W => rtext_any t.s W HSZ.out)
  have HKL := Lib.hid (fun W (h : Below (w.alloc (.cells #[.int .i64 t.op, .int .i64 t.n, .string t.s, .slice na t.names.length nc, .slice la t.l.length lc] 25)).heap.size (w.alloc (.cells #[.int .i64 t.op, .int .i64 t.n, .string t.s, .slice na t.names.length nc, .slice la t.l.length lc] 25)) W) => HLL.out.keep (Same.of_below (belowStep h hb0) hP))
  have HKN := Lib.hid (fun W (h : Below (w.alloc (.cells #[.int .i64 t.op, .int .i64 t.n, .string t.s, .slice na t.names.length nc, .slice la t.l.length lc] 25)).heap.size (w.alloc (.cells #[.int .i64 t.op, .int .i64 t.n, .string t.s, .slice na t.names.length nc, .slice la t.l.length lc] 25)) W) => HNM.out.keep (Same.of_below (belowStep h hb0) hP))
  have HBX := Lib.hid bx
  have HB0 := Lib.hid hb0
  have HALL := Lib.hid HND.out.all
  have HBA := Lib.hid HND.out.bare
  have HLO := Lib.hid HND.out.low
  have HUP := Lib.hid HND.out.up
  have HX1 := Lib.hid HND.out.ex1
  have HX2 := Lib.hid HND.out.ex2
  have HX3 := Lib.hid HND.out.ex3
  obtain ⟨y0, y1, y2, y3, y4⟩ := box_cells bx
  have HPP := Lib.hid hP
  clear hs hn hl hnm hlmm bx hsame hb0 hP HND HT
  have HQ := Lib.hid (fun W (hW : Below (w.alloc (.cells #[.int .i64 t.op, .int .i64 t.n, .string t.s, .slice na t.names.length nc, .slice la t.l.length lc] 25)).heap.size (w.alloc (.cells #[.int .i64 t.op, .int .i64 t.n, .string t.s, .slice na t.names.length nc, .slice la t.l.length lc] 25)) W) => box_cells (Blk.of_eq HBX.out (hW.block _ (Blk.lt HBX.out))))
  have hbn0 := Below.refl (w.alloc (.cells #[.int .i64 t.op, .int .i64 t.n, .string t.s, .slice na t.names.length nc, .slice la t.l.length lc] 25)).heap.size (w.alloc (.cells #[.int .i64 t.op, .int .i64 t.n, .string t.s, .slice na t.names.length nc, .slice la t.l.length lc] 25))
  have HKK := Lib.hid (show t.l ≠ [] → ∃ b off, la = some ⟨b, off, none⟩ ∧ ∀ W, Below (w.alloc (.cells #[.int .i64 t.op, .int .i64 t.n, .string t.s, .slice na t.names.length nc, .slice la t.l.length lc] 25)).heap.size (w.alloc (.cells #[.int .i64 t.op, .int .i64 t.n, .string t.s, .slice na t.names.length nc, .slice la t.l.length lc] 25)) W → KidsAt W P t.l b off from fun hne => kids_of HLL.out hne (fun W h => Same.of_below (belowStep h HB0.out) HPP.out))
  obtain ⟨op, nn, ss, mm, ll⟩ := t
  dsimp only at hop
  subst hop
  dsimp only at *
  have HE := Lib.hid (show Pl.exprF ⟨31, nn, ss, mm, ll⟩ = _ by unfold Pl.exprF; rw [if_neg (by simp), if_neg (by simp), if_neg (by simp), if_neg (by simp), if_neg (by simp), if_neg (by simp), if_neg (by simp), if_neg (by simp), if_neg (by simp), if_neg (by simp), if_pos (by simp)])
  dsimp only at HE
  have HB1 := Lib.hid (fun W h => HBA.out W false false false h)
  generalize hrb : Pl.bare ⟨31, nn, ss, mm, ll⟩ false false false = rb at *
  by_cases h1 : 1 ≤ ll.length
  · obtain ⟨b, off, rfl, hkk⟩ := HKK.out (by rintro rfl; simp at h1)
    have HKA := Lib.hid hkk
    have e1 : ((ll.length - 1 : Nat) : Int) = (ll.length : Int) - 1 := by omega
    have r2 : Pl.rallR ll (ll.length - 1) ll.length 3 = Pl.rall (ll.drop (ll.length - 1)) 3 := by unfold Pl.rallR Pl.rall; rw [List.take_length]
    have HA1 := Lib.hid (fun W h => show Calls Try.prog 96 #[_, .int .i64 ((ll.length : Int) - 1), .int .i64 (ll.length : Int), .int .i64 3] W fun e w' => e = .returned (.bool (Pl.rall (ll.drop (ll.length - 1)) 3)) ∧ Below W.heap.size W w' from by
      have := HALL.out W (ll.length - 1) ll.length 3 h (Nat.sub_le _ _) (Nat.le_refl _)
      rw [e1, r2] at this
      exact this)
    have HE2 := Lib.hid (HE.out.trans (show _ = (rb && true && Pl.rall (ll.drop (ll.length - 1)) 3 && Pl.kinds (ll.take (ll.length - 1)) [41, 42, 50]) from by rw [decide_eq_true h1]))
    generalize Pl.exprF ⟨31, nn, ss, mm, ll⟩ = res at *
    clear e1 r2
    generalize hln : ll.length = ln at *
    have HLN := Lib.hid hln
    have HKI := Lib.hid (Pl.kinds_upto ll [41, 42, 50] (ln - 1))
    generalize Pl.rall (ll.drop (ln - 1)) 3 = ra at *
    generalize Pl.kinds (ll.take (ln - 1)) [41, 42, 50] = rk at *
    have q2 : decide ((ln : Int) < 1) = false := by simp; omega
    clear hln hkk hrb HE HKK HALL HBA HKL HLL
    cases rb
    · go_enter Try.func82, Try.ntmps82
      go_wp2_with fail
      generalize w.alloc (.cells #[.int .i64 31, .int .i64 nn, .string ss, .slice na mm.length nc, .slice (some ⟨b, off, none⟩) ln lc] 25) = w0 at *
      go_wp2_with (first
        | (go_at_call 93; refine (HB1.out _ (by assumption)).mono ?_; rintro e wn ⟨rfl, hbn⟩; have hbn2 := belowStep hbn (show Below w0.heap.size w0 _ by assumption); obtain ⟨z0, z1, z2, z3, z4⟩ := HQ.out _ hbn2))
      go_ret
      exact ⟨ret_bool (by first | (rw [HE2.out]; done) | (rw [HE2.out]; rfl) | (rw [HE2.out]; simp; done)), belowStep (show Below w0.heap.size w0 _ by assumption) HB0.out⟩
    cases ra
    · go_enter Try.func82, Try.ntmps82
      go_wp2_with fail
      generalize w.alloc (.cells #[.int .i64 31, .int .i64 nn, .string ss, .slice na mm.length nc, .slice (some ⟨b, off, none⟩) ln lc] 25) = w0 at *
      go_wp2_with (first
        | (go_at_call 93; refine (HB1.out _ (by assumption)).mono ?_; rintro e wn ⟨rfl, hbn⟩; have hbn2 := belowStep hbn (show Below w0.heap.size w0 _ by assumption); obtain ⟨z0, z1, z2, z3, z4⟩ := HQ.out _ hbn2)
        | (go_at_call 96; refine (HA1.out _ (by assumption)).mono ?_; rintro e wn ⟨rfl, hbn⟩; have hbn2 := belowStep hbn (show Below w0.heap.size w0 _ by assumption); obtain ⟨z0, z1, z2, z3, z4⟩ := HQ.out _ hbn2))
      go_ret
      exact ⟨ret_bool (by first | (rw [HE2.out]; done) | (rw [HE2.out]; rfl) | (rw [HE2.out]; simp; done)), belowStep (show Below w0.heap.size w0 _ by assumption) HB0.out⟩
    · go_enter Try.func82, Try.ntmps82
      go_wp2_with fail
      generalize w.alloc (.cells #[.int .i64 31, .int .i64 nn, .string ss, .slice na mm.length nc, .slice (some ⟨b, off, none⟩) ln lc] 25) = w0 at *
      go_wp2_with (first
        | (go_at_call 93; refine (HB1.out _ (by assumption)).mono ?_; rintro e wn ⟨rfl, hbn⟩; have hbn2 := belowStep hbn (show Below w0.heap.size w0 _ by assumption); obtain ⟨z0, z1, z2, z3, z4⟩ := HQ.out _ hbn2)
        | (go_at_call 96; refine (HA1.out _ (by assumption)).mono ?_; rintro e wn ⟨rfl, hbn⟩; have hbn2 := belowStep hbn (show Below w0.heap.size w0 _ by assumption); obtain ⟨z0, z1, z2, z3, z4⟩ := HQ.out _ hbn2))
      go_loopg [5] (ln + 1) (fun g iv wr => ∃ k : Nat, k ≤ ln - 1 ∧ iv = .int .i64 k ∧ g = ln + 1 - k ∧ Below w0.heap.size w0 wr ∧ ∀ q (h : q < ll.length), q < k → ([41, 42, 50] : List Int).contains ll[q].op = true)
      case atStart => exact ⟨0, by omega, rfl, by omega, by assumption, fun q _ h2 => by omega⟩
      case round =>
        obtain ⟨k, hk, rfl, hg, hbw, hall⟩ := hrel
        have HA := Lib.hid hall
        have HBW := Lib.hid (belowStep hbw HB0.out)
        clear hall
        by_cases hlt : k < ln - 1
        · have hkl : k < ll.length := by rw [HLN.out]; omega
          have q4 : decide ((k : Int) < (ln : Int) - 1) = true := by simp; omega
          have hkn : k < ln := by omega
          obtain ⟨v0, v1, v2, v3, v4⟩ := HQ.out _ hbw
          obtain ⟨k0, k2, kla, klc, k4⟩ := kid_cells (HKA.out _ hbw) k hkl
          have HYS := Lib.hid (show ([41, 42, 50] : List Int).contains ll[k].op = true → ∀ q (h : q < ll.length), q < k + 1 → ([41, 42, 50] : List Int).contains ll[q].op = true from fun hx q hq h2 => by
            by_cases hqk : q = k
            · subst hqk; exact hx
            · exact HA.out q hq (by omega))
          have HNO := Lib.hid (show ([41, 42, 50] : List Int).contains ll[k].op = false → rk = false from fun hx => by
            rw [Bool.eq_false_iff]; intro e
            rw [HKI.out.1 e k hkl hlt] at hx; cases hx)
          generalize ll[k].op = xo at *
          clear k2 k4
          by_cases hx : xo = 41
          · subst hx
            go_wp2
            go_roundg (gk - 1)
            case measure => omega
            case rel => exact ⟨k + 1, by omega, by go_num, by omega, hbw, HYS.out (by decide)⟩
          by_cases hx1 : xo = 42
          · subst hx1
            clear hx
            go_wp2
            go_roundg (gk - 1)
            case measure => omega
            case rel => exact ⟨k + 1, by omega, by go_num, by omega, hbw, HYS.out (by decide)⟩
          by_cases hx2 : xo = 50
          · subst hx2
            clear hx hx1
            go_wp2
            go_roundg (gk - 1)
            case measure => omega
            case rel => exact ⟨k + 1, by omega, by go_num, by omega, hbw, HYS.out (by decide)⟩
          · have q : (xo != 41) = true := bne_iff_ne.2 hx
            have q1 : (xo != 42) = true := bne_iff_ne.2 hx1
            have q3 : (xo != 50) = true := bne_iff_ne.2 hx2
            have HX := Lib.hid (show ([41, 42, 50] : List Int).contains xo = false by simp; exact ⟨hx, hx1, hx2⟩)
            clear hx hx1 hx2
            go_wp2
            go_ret
            exact ⟨ret_bool (by rw [HE2.out, HNO.out HX.out]; rfl), HBW.out⟩
        · have HR := Lib.hid (show rk = true from HKI.out.2 (fun q hq h1 => HA.out q hq (by omega)))
          have q4 : decide ((k : Int) < (ln : Int) - 1) = false := by simp; omega
          go_wp2
          go_ret
          exact ⟨ret_bool (by rw [HE2.out, HR.out]; rfl), HBW.out⟩
  · have HE2 := Lib.hid (HE.out.trans (show _ = (rb && false && Pl.rall (ll.drop (ll.length - 1)) 3 && Pl.kinds (ll.take (ll.length - 1)) [41, 42, 50]) from by rw [decide_eq_false h1]))
    generalize Pl.exprF ⟨31, nn, ss, mm, ll⟩ = res at *
    generalize Pl.rall (ll.drop (ll.length - 1)) 3 = ra at *
    generalize Pl.kinds (ll.take (ll.length - 1)) [41, 42, 50] = rk at *
    have q2 : decide ((ll.length : Int) < 1) = true := by simp; omega
    generalize ll.length = ln at *
    clear h1 hrb HE HKK HALL HBA HKL HLL
    cases rb
    · go_enter Try.func82, Try.ntmps82
      go_wp2_with fail
      generalize w.alloc (.cells #[.int .i64 31, .int .i64 nn, .string ss, .slice na mm.length nc, .slice la ln lc] 25) = w0 at *
      go_wp2_with (first
        | (go_at_call 93; refine (HB1.out _ (by assumption)).mono ?_; rintro e wn ⟨rfl, hbn⟩; have hbn2 := belowStep hbn (show Below w0.heap.size w0 _ by assumption); obtain ⟨z0, z1, z2, z3, z4⟩ := HQ.out _ hbn2))
      go_ret
      exact ⟨ret_bool (by first | (rw [HE2.out]; done) | (rw [HE2.out]; rfl) | (rw [HE2.out]; simp; done)), belowStep (show Below w0.heap.size w0 _ by assumption) HB0.out⟩
    · go_enter Try.func82, Try.ntmps82
      go_wp2_with fail
      generalize w.alloc (.cells #[.int .i64 31, .int .i64 nn, .string ss, .slice na mm.length nc, .slice la ln lc] 25) = w0 at *
      go_wp2_with (first
        | (go_at_call 93; refine (HB1.out _ (by assumption)).mono ?_; rintro e wn ⟨rfl, hbn⟩; have hbn2 := belowStep hbn (show Below w0.heap.size w0 _ by assumption); obtain ⟨z0, z1, z2, z3, z4⟩ := HQ.out _ hbn2))
      go_ret
      exact ⟨ret_bool (by first | (rw [HE2.out]; done) | (rw [HE2.out]; rfl) | (rw [HE2.out]; simp; done)), belowStep (show Below w0.heap.size w0 _ by assumption) HB0.out⟩
theorem rexprF_any (P : Nat → Prop) (t : Syn) (w : World) (v : Value) (hP : ∀ b, P b → b < w.heap.size) (ht : SynV w P t v) (hc : Pl.cat t.op = 3 ∨ t.op = 30) :
    Calls Try.prog 82 #[v] w fun e w' => e = .returned (.bool (Pl.exprF t)) ∧ Below w.heap.size w w' := by
  have hop : t.op = 29 ∨ t.op = 31 ∨ t.op = 32 ∨ (t.op = 21 ∨ t.op = 22 ∨ t.op = 23 ∨ t.op = 24 ∨ t.op = 25 ∨ t.op = 26 ∨ t.op = 27 ∨ t.op = 28 ∨ t.op = 30 ∨ t.op = 33 ∨ t.op = 34) := by
    generalize t.op = op at *
    unfold Pl.cat at hc
    repeat' split at hc
    all_goals omega
  rcases hop with h | h | h | h
  · exact rexprF_29 P t w v hP ht h
  · exact rexprF_31 P t w v hP ht h
  · exact rexprF_32 P t w v hP ht h
  · exact rexprF_most P t w v hP ht h
end Go.Proofs.Ytkhpihacjhhklaa
