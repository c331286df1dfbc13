/-
  Walks and plain mathematics, several texts in one (Xl Xm).
-/
import Derived.Test.YtkhpihacjhhklaaG11
/-
  Walks of layer 3: the reference's forms of expressions.
-/
namespace Go.Proofs.Ytkhpihacjhhklaa
open Go Go.RowKit
open Pl (Syn)
set_option linter.unusedSimpArgs false

theorem emptyS_is (s : ByteArray) : Pl.emptyS s = s.toList.isEmpty := rfl
set_option maxRecDepth 100000 in
set_option maxHeartbeats 8000000 in
theorem rexprF_most (P : Nat → Prop) (t : Syn) (w : World) (v : Value) (hP : ∀ b, P b → b < w.heap.size) (ht : SynV w P t v) (hop : t.op = 21 ∨ t.op = 22 ∨ t.op = 23 ∨ t.op = 24 ∨ t.op = 25 ∨ t.op = 26 ∨ t.op = 27 ∨ t.op = 28 ∨ t.op = 30 ∨ t.op = 33 ∨ t.op = 34) :
    Calls Try.prog 82 #[v] w fun e w' => e = .returned (.bool (Pl.exprF t)) ∧ Below w.heap.size w w' := by
  have hlm : t.l.length ≤ maxLen := by
    obtain ⟨_, nv, lv, _, _, a, c, _, h1, h2, _⟩ := (synV_iff _ _ _ _).1 ht
    omega
  have hnm9 : t.names.length ≤ maxLen := by
    obtain ⟨_, nv, lv, _, hn, _⟩ := (synV_iff _ _ _ _).1 ht
    obtain ⟨_, _, _, h⟩ := hn.form
    exact h
  unfold maxLen at hlm hnm9
  have HT := Lib.hid ht
  rw [synV_iff] at ht
  obtain ⟨hs, nv, lv, rfl, hn, hl⟩ := ht
  have HSZ := Lib.hid hs
  have HNM := Lib.hid hn
  have HLL := Lib.hid hl
  obtain ⟨na, nc, rfl, hnm⟩ := hn.form
  obtain ⟨la, lc, rfl, hlmm⟩ := hl.form
  have hb0 : Below w.heap.size w (w.alloc (.cells #[.int .i64 t.op, .int .i64 t.n, .string t.s, .slice na t.names.length nc, .slice la t.l.length lc] 25)) := (Below.refl _ _).alloc (Nat.le_refl _) _
  have bx := blk_new w #[.int .i64 t.op, .int .i64 t.n, .string t.s, .slice na t.names.length nc, .slice la t.l.length lc] 25
  have hsame := Same.of_below hb0 hP
  have HND := Lib.hid (node_of P t (w.alloc (.cells #[.int .i64 t.op, .int .i64 t.n, .string t.s, .slice na t.names.length nc, .slice la t.l.length lc] 25)) 0 _ (fun b h => Nat.lt_of_lt_of_le (hP b h) hb0.size) (HT.out.keep hsame))
  have HPA := Lib.hid (fun W low (h : Below (w.alloc (.cells #[.int .i64 t.op, .int .i64 t.n, .string t.s, .slice na t.names.length nc, .slice la t.l.length lc] 25)).heap.size (w.alloc (.cells #[.int .i64 t.op, .int .i64 t.n, .string t.s, .slice na t.names.length nc, .slice la t.l.length lc] 25)) W) => rpath_any low P _ t.names W (HNM.out.keep (Same.of_below (belowStep h hb0) hP)) (fun b hb => Nat.lt_of_lt_of_le (hP b hb) (belowStep h hb0).size))
  have HPR := Lib.hid (fun W (h : Below (w.alloc (.cells #[.int .i64 t.op, .int .i64 t.n, .string t.s, .slice na t.names.length nc, .slice la t.l.length lc] 25)).heap.size (w.alloc (.cells #[.int .i64 t.op, .int .i64 t.n, .string t.s, .slice na t.names.length nc, .slice la t.l.length lc] 25)) W) => rparams_any P _ t.names W (HNM.out.keep (Same.of_below (belowStep h hb0) hP)) (fun b hb => Nat.lt_of_lt_of_le (hP b hb) (belowStep h hb0).size))
  have HTX := Lib.hid (fun W => rtext_any t.s W HSZ.out)
  have HKL := Lib.hid (fun W (h : Below (w.alloc (.cells #[.int .i64 t.op, .int .i64 t.n, .string t.s, .slice na t.names.length nc, .slice la t.l.length lc] 25)).heap.size (w.alloc (.cells #[.int .i64 t.op, .int .i64 t.n, .string t.s, .slice na t.names.length nc, .slice la t.l.length lc] 25)) W) => HLL.out.keep (Same.of_below (belowStep h hb0) hP))
  have HKN := Lib.hid (fun W (h : Below (w.alloc (.cells #[.int .i64 t.op, .int .i64 t.n, .string t.s, .slice na t.names.length nc, .slice la t.l.length lc] 25)).heap.size (w.alloc (.cells #[.int .i64 t.op, .int .i64 t.n, .string t.s, .slice na t.names.length nc, .slice la t.l.length lc] 25)) W) => HNM.out.keep (Same.of_below (belowStep h hb0) hP))
  have HBX := Lib.hid bx
  have HB0 := Lib.hid hb0
  have HALL := Lib.hid HND.out.all
  have HAL := Lib.hid (fun W h => show Calls Try.prog 96 #[_, .int .i64 0, .int .i64 (t.l.length : Int), .int .i64 3] W fun e w' => e = .returned (.bool (Pl.rall t.l 3)) ∧ Below W.heap.size W w' from (HND.out.all W 0 t.l.length 3 h (Nat.zero_le _) (Nat.le_refl _)).mono fun e w' ⟨h1, h2⟩ => ⟨by rw [h1, rallR_all], h2⟩)
  have HBA := Lib.hid HND.out.bare
  have HLO := Lib.hid HND.out.low
  have HUP := Lib.hid HND.out.up
  have HX1 := Lib.hid HND.out.ex1
  have HX2 := Lib.hid HND.out.ex2
  have HX3 := Lib.hid HND.out.ex3
  obtain ⟨y0, y1, y2, y3, y4⟩ := box_cells bx
  clear hs hn hl hnm hlmm bx hsame hb0 hP HND HT
  have HQ := Lib.hid (fun W (hW : Below (w.alloc (.cells #[.int .i64 t.op, .int .i64 t.n, .string t.s, .slice na t.names.length nc, .slice la t.l.length lc] 25)).heap.size (w.alloc (.cells #[.int .i64 t.op, .int .i64 t.n, .string t.s, .slice na t.names.length nc, .slice la t.l.length lc] 25)) W) => box_cells (Blk.of_eq HBX.out (hW.block _ (Blk.lt HBX.out))))
  have hbn0 := Below.refl (w.alloc (.cells #[.int .i64 t.op, .int .i64 t.n, .string t.s, .slice na t.names.length nc, .slice la t.l.length lc] 25)).heap.size (w.alloc (.cells #[.int .i64 t.op, .int .i64 t.n, .string t.s, .slice na t.names.length nc, .slice la t.l.length lc] 25))
  rcases hop with hop | hop | hop | hop | hop | hop | hop | hop | hop | hop | hop
  · obtain ⟨op, nn, ss, mm, ll⟩ := t
    dsimp only at hop
    subst hop
    dsimp only at *
    have HE := Lib.hid (show Pl.exprF ⟨21, nn, ss, mm, ll⟩ = _ by unfold Pl.exprF; rw [if_pos (by simp)])
    dsimp only at HE
    (try rw [nat_z] at HE)
    go_enter Try.func82, Try.ntmps82
    go_wp2_with fail
    generalize w.alloc (.cells #[.int .i64 21, .int .i64 nn, .string ss, .slice na mm.length nc, .slice la ll.length lc] 25) = w0 at *
    go_wp2_with (first
      | (go_at_call 93; refine (HBA.out _ _ _ _ (by assumption)).mono ?_; rintro e wn ⟨rfl, hbn⟩; have hbn2 := belowStep hbn (show Below w0.heap.size w0 _ by assumption); obtain ⟨z0, z1, z2, z3, z4⟩ := HQ.out _ hbn2))
    all_goals
      go_ret
      refine ⟨ret_bool ?_, belowStep (show Below w0.heap.size w0 _ by assumption) HB0.out⟩
      rw [HE.out]
      first | rfl | (simp_all; done) | (simp_all; intros; omega)
  · obtain ⟨op, nn, ss, mm, ll⟩ := t
    dsimp only at hop
    subst hop
    dsimp only at *
    have HE := Lib.hid (show Pl.exprF ⟨22, nn, ss, mm, ll⟩ = _ by unfold Pl.exprF; rw [if_neg (by simp), if_pos (by simp)])
    dsimp only at HE
    (try rw [nat_z] at HE)
    go_enter Try.func82, Try.ntmps82
    go_wp2_with fail
    generalize w.alloc (.cells #[.int .i64 22, .int .i64 nn, .string ss, .slice na mm.length nc, .slice la ll.length lc] 25) = w0 at *
    go_wp2_with (first
      | (go_at_call 93; refine (HBA.out _ _ _ _ (by assumption)).mono ?_; rintro e wn ⟨rfl, hbn⟩; have hbn2 := belowStep hbn (show Below w0.heap.size w0 _ by assumption); obtain ⟨z0, z1, z2, z3, z4⟩ := HQ.out _ hbn2)
      | (go_at_call 99; refine (HTX.out _).mono ?_; rintro e wn ⟨rfl, rfl⟩))
    all_goals
      go_ret
      refine ⟨ret_bool ?_, belowStep (show Below w0.heap.size w0 _ by assumption) HB0.out⟩
      rw [HE.out]
      first | rfl | (simp_all; done) | (simp_all; intros; omega)
  · obtain ⟨op, nn, ss, mm, ll⟩ := t
    dsimp only at hop
    subst hop
    dsimp only at *
    have HE := Lib.hid (show Pl.exprF ⟨23, nn, ss, mm, ll⟩ = _ by unfold Pl.exprF; rw [if_neg (by simp), if_neg (by simp), if_pos (by simp)])
    dsimp only at HE
    (try rw [nat_z] at HE)
    go_enter Try.func82, Try.ntmps82
    go_wp2_with fail
    generalize w.alloc (.cells #[.int .i64 23, .int .i64 nn, .string ss, .slice na mm.length nc, .slice la ll.length lc] 25) = w0 at *
    go_wp2_with (first
      | (go_at_call 93; refine (HBA.out _ _ _ _ (by assumption)).mono ?_; rintro e wn ⟨rfl, hbn⟩; have hbn2 := belowStep hbn (show Below w0.heap.size w0 _ by assumption); obtain ⟨z0, z1, z2, z3, z4⟩ := HQ.out _ hbn2)
      | (go_at_call 95; refine (HPA.out _ _ (by assumption)).mono ?_; rintro e wn ⟨rfl, hbn⟩; have hbn2 := belowStep hbn (show Below w0.heap.size w0 _ by assumption); obtain ⟨z0, z1, z2, z3, z4⟩ := HQ.out _ hbn2))
    all_goals
      go_ret
      refine ⟨ret_bool ?_, belowStep (show Below w0.heap.size w0 _ by assumption) HB0.out⟩
      rw [HE.out]
      first | rfl | (simp_all; done) | (simp_all; intros; omega)
  · obtain ⟨op, nn, ss, mm, ll⟩ := t
    dsimp only at hop
    subst hop
    dsimp only at *
    have HE := Lib.hid (show Pl.exprF ⟨24, nn, ss, mm, ll⟩ = _ by unfold Pl.exprF; rw [if_neg (by simp), if_neg (by simp), if_neg (by simp), if_pos (by simp)])
    dsimp only at HE
    (try rw [nat_z] at HE)
    go_enter Try.func82, Try.ntmps82
    go_wp2_with fail
    generalize w.alloc (.cells #[.int .i64 24, .int .i64 nn, .string ss, .slice na mm.length nc, .slice la ll.length lc] 25) = w0 at *
    go_wp2_with (first
      | (go_at_call 93; refine (HBA.out _ _ _ _ (by assumption)).mono ?_; rintro e wn ⟨rfl, hbn⟩; have hbn2 := belowStep hbn (show Below w0.heap.size w0 _ by assumption); obtain ⟨z0, z1, z2, z3, z4⟩ := HQ.out _ hbn2)
      | (go_at_call 95; refine (HPA.out _ _ (by assumption)).mono ?_; rintro e wn ⟨rfl, hbn⟩; have hbn2 := belowStep hbn (show Below w0.heap.size w0 _ by assumption); obtain ⟨z0, z1, z2, z3, z4⟩ := HQ.out _ hbn2))
    all_goals
      go_ret
      refine ⟨ret_bool ?_, belowStep (show Below w0.heap.size w0 _ by assumption) HB0.out⟩
      rw [HE.out]
      first | rfl | (simp_all; done) | (simp_all; intros; omega)
  · obtain ⟨op, nn, ss, mm, ll⟩ := t
    dsimp only at hop
    subst hop
    dsimp only at *
    have HE := Lib.hid (show Pl.exprF ⟨25, nn, ss, mm, ll⟩ = _ by unfold Pl.exprF; rw [if_neg (by simp), if_neg (by simp), if_neg (by simp), if_neg (by simp), if_pos (by simp)])
    dsimp only at HE
    (try rw [emptyS_is] at HE)
    go_enter Try.func82, Try.ntmps82
    go_wp2_with fail
    generalize w.alloc (.cells #[.int .i64 25, .int .i64 nn, .string ss, .slice na mm.length nc, .slice la ll.length lc] 25) = w0 at *
    go_wp2_with (first
      | (go_at_call 93; refine (HBA.out _ _ _ _ (by assumption)).mono ?_; rintro e wn ⟨rfl, hbn⟩; have hbn2 := belowStep hbn (show Below w0.heap.size w0 _ by assumption); obtain ⟨z0, z1, z2, z3, z4⟩ := HQ.out _ hbn2)
      | (go_at_call 98; refine (HLO.out _).mono ?_; rintro e wn ⟨rfl, hbn⟩; have hbn2 := belowStep hbn (show Below w0.heap.size w0 _ by assumption); obtain ⟨z0, z1, z2, z3, z4⟩ := HQ.out _ hbn2)
      | (go_at_call 97; refine (HX1.out _ _ _ (by assumption)).mono ?_; rintro e wn ⟨rfl, hbn⟩; have hbn2 := belowStep hbn (show Below w0.heap.size w0 _ by assumption); obtain ⟨z0, z1, z2, z3, z4⟩ := HQ.out _ hbn2))
    all_goals
      go_ret
      refine ⟨ret_bool ?_, belowStep (show Below w0.heap.size w0 _ by assumption) HB0.out⟩
      rw [HE.out]
      first | rfl | (simp_all; done) | (simp_all; intros; omega)
  · obtain ⟨op, nn, ss, mm, ll⟩ := t
    dsimp only at hop
    subst hop
    dsimp only at *
    have HE := Lib.hid (show Pl.exprF ⟨26, nn, ss, mm, ll⟩ = _ by unfold Pl.exprF; rw [if_neg (by simp), if_neg (by simp), if_neg (by simp), if_neg (by simp), if_neg (by simp), if_pos (by simp)])
    dsimp only at HE
    go_enter Try.func82, Try.ntmps82
    go_wp2_with fail
    generalize w.alloc (.cells #[.int .i64 26, .int .i64 nn, .string ss, .slice na mm.length nc, .slice la ll.length lc] 25) = w0 at *
    go_wp2_with (first
      | (go_at_call 93; refine (HBA.out _ _ _ _ (by assumption)).mono ?_; rintro e wn ⟨rfl, hbn⟩; have hbn2 := belowStep hbn (show Below w0.heap.size w0 _ by assumption); obtain ⟨z0, z1, z2, z3, z4⟩ := HQ.out _ hbn2)
      | (go_at_call 97; refine (HX2.out _ _ _ _ (by assumption)).mono ?_; rintro e wn ⟨rfl, hbn⟩; have hbn2 := belowStep hbn (show Below w0.heap.size w0 _ by assumption); obtain ⟨z0, z1, z2, z3, z4⟩ := HQ.out _ hbn2))
    all_goals
      go_ret
      refine ⟨ret_bool ?_, belowStep (show Below w0.heap.size w0 _ by assumption) HB0.out⟩
      rw [HE.out]
      first | rfl | (simp_all; done) | (simp_all; intros; omega)
  · obtain ⟨op, nn, ss, mm, ll⟩ := t
    dsimp only at hop
    subst hop
    dsimp only at *
    have HE := Lib.hid (show Pl.exprF ⟨27, nn, ss, mm, ll⟩ = _ by unfold Pl.exprF; rw [if_neg (by simp), if_neg (by simp), if_neg (by simp), if_neg (by simp), if_neg (by simp), if_neg (by simp), if_pos (by simp)])
    dsimp only at HE
    (try rw [nat_ne1] at HE)
    (try rw [nat_le9] at HE)
    go_enter Try.func82, Try.ntmps82
    go_wp2_with fail
    generalize w.alloc (.cells #[.int .i64 27, .int .i64 nn, .string ss, .slice na mm.length nc, .slice la ll.length lc] 25) = w0 at *
    go_wp2_with (first
      | (go_at_call 93; refine (HBA.out _ _ _ _ (by assumption)).mono ?_; rintro e wn ⟨rfl, hbn⟩; have hbn2 := belowStep hbn (show Below w0.heap.size w0 _ by assumption); obtain ⟨z0, z1, z2, z3, z4⟩ := HQ.out _ hbn2)
      | (go_at_call 96; refine (HAL.out _ (by assumption)).mono ?_; rintro e wn ⟨rfl, hbn⟩; have hbn2 := belowStep hbn (show Below w0.heap.size w0 _ by assumption); obtain ⟨z0, z1, z2, z3, z4⟩ := HQ.out _ hbn2))
    all_goals
      go_ret
      refine ⟨ret_bool ?_, belowStep (show Below w0.heap.size w0 _ by assumption) HB0.out⟩
      rw [HE.out]
      first | rfl | (simp_all; done) | (simp_all; intros; omega)
  · obtain ⟨op, nn, ss, mm, ll⟩ := t
    dsimp only at hop
    subst hop
    dsimp only at *
    have HE := Lib.hid (show Pl.exprF ⟨28, nn, ss, mm, ll⟩ = _ by unfold Pl.exprF; rw [if_neg (by simp), if_neg (by simp), if_neg (by simp), if_neg (by simp), if_neg (by simp), if_neg (by simp), if_neg (by simp), if_pos (by simp)])
    dsimp only at HE
    go_enter Try.func82, Try.ntmps82
    go_wp2_with fail
    generalize w.alloc (.cells #[.int .i64 28, .int .i64 nn, .string ss, .slice na mm.length nc, .slice la ll.length lc] 25) = w0 at *
    go_wp2_with (first
      | (go_at_call 93; refine (HBA.out _ _ _ _ (by assumption)).mono ?_; rintro e wn ⟨rfl, hbn⟩; have hbn2 := belowStep hbn (show Below w0.heap.size w0 _ by assumption); obtain ⟨z0, z1, z2, z3, z4⟩ := HQ.out _ hbn2)
      | (go_at_call 97; refine (HX3.out _ _ _ _ _ (by assumption)).mono ?_; rintro e wn ⟨rfl, hbn⟩; have hbn2 := belowStep hbn (show Below w0.heap.size w0 _ by assumption); obtain ⟨z0, z1, z2, z3, z4⟩ := HQ.out _ hbn2))
    all_goals
      go_ret
      refine ⟨ret_bool ?_, belowStep (show Below w0.heap.size w0 _ by assumption) HB0.out⟩
      rw [HE.out]
      first | rfl | (simp_all; done) | (simp_all; intros; omega)
  · obtain ⟨op, nn, ss, mm, ll⟩ := t
    dsimp only at hop
    subst hop
    dsimp only at *
    have HE := Lib.hid (show Pl.exprF ⟨30, nn, ss, mm, ll⟩ = _ by unfold Pl.exprF; rw [if_neg (by simp), if_neg (by simp), if_neg (by simp), if_neg (by simp), if_neg (by simp), if_neg (by simp), if_neg (by simp), if_neg (by simp), if_neg (by simp), if_pos (by simp)])
    dsimp only at HE
    go_enter Try.func82, Try.ntmps82
    go_wp2_with fail
    generalize w.alloc (.cells #[.int .i64 30, .int .i64 nn, .string ss, .slice na mm.length nc, .slice la ll.length lc] 25) = w0 at *
    go_wp2_with (first
      | (go_at_call 93; refine (HBA.out _ _ _ _ (by assumption)).mono ?_; rintro e wn ⟨rfl, hbn⟩; have hbn2 := belowStep hbn (show Below w0.heap.size w0 _ by assumption); obtain ⟨z0, z1, z2, z3, z4⟩ := HQ.out _ hbn2)
      | (go_at_call 97; refine (HX2.out _ _ _ _ (by assumption)).mono ?_; rintro e wn ⟨rfl, hbn⟩; have hbn2 := belowStep hbn (show Below w0.heap.size w0 _ by assumption); obtain ⟨z0, z1, z2, z3, z4⟩ := HQ.out _ hbn2))
    all_goals
      go_ret
      refine ⟨ret_bool ?_, belowStep (show Below w0.heap.size w0 _ by assumption) HB0.out⟩
      rw [HE.out]
      first | rfl | (simp_all; done) | (simp_all; intros; omega)
  · obtain ⟨op, nn, ss, mm, ll⟩ := t
    dsimp only at hop
    subst hop
    dsimp only at *
    have HE := Lib.hid (show Pl.exprF ⟨33, nn, ss, mm, ll⟩ = _ by unfold Pl.exprF; rw [if_neg (by simp), if_neg (by simp), if_neg (by simp), if_neg (by simp), if_neg (by simp), if_neg (by simp), if_neg (by simp), if_neg (by simp), if_neg (by simp), if_neg (by simp), if_neg (by simp), if_neg (by simp), if_pos (by simp)])
    dsimp only at HE
    go_enter Try.func82, Try.ntmps82
    go_wp2_with fail
    generalize w.alloc (.cells #[.int .i64 33, .int .i64 nn, .string ss, .slice na mm.length nc, .slice la ll.length lc] 25) = w0 at *
    go_wp2_with (first
      | (go_at_call 93; refine (HBA.out _ _ _ _ (by assumption)).mono ?_; rintro e wn ⟨rfl, hbn⟩; have hbn2 := belowStep hbn (show Below w0.heap.size w0 _ by assumption); obtain ⟨z0, z1, z2, z3, z4⟩ := HQ.out _ hbn2)
      | (go_at_call 97; refine (HX2.out _ _ _ _ (by assumption)).mono ?_; rintro e wn ⟨rfl, hbn⟩; have hbn2 := belowStep hbn (show Below w0.heap.size w0 _ by assumption); obtain ⟨z0, z1, z2, z3, z4⟩ := HQ.out _ hbn2))
    all_goals
      go_ret
      refine ⟨ret_bool ?_, belowStep (show Below w0.heap.size w0 _ by assumption) HB0.out⟩
      rw [HE.out]
      first | rfl | (simp_all; done) | (simp_all; intros; omega)
  · obtain ⟨op, nn, ss, mm, ll⟩ := t
    dsimp only at hop
    subst hop
    dsimp only at *
    have HE := Lib.hid (show Pl.exprF ⟨34, nn, ss, mm, ll⟩ = _ by unfold Pl.exprF; rw [if_neg (by simp), if_neg (by simp), if_neg (by simp), if_neg (by simp), if_neg (by simp), if_neg (by simp), if_neg (by simp), if_neg (by simp), if_neg (by simp), if_neg (by simp), if_neg (by simp), if_neg (by simp), if_neg (by simp)])
    dsimp only at HE
    go_enter Try.func82, Try.ntmps82
    go_wp2_with fail
    generalize w.alloc (.cells #[.int .i64 34, .int .i64 nn, .string ss, .slice na mm.length nc, .slice la ll.length lc] 25) = w0 at *
    go_wp2_with (first
      | (go_at_call 93; refine (HBA.out _ _ _ _ (by assumption)).mono ?_; rintro e wn ⟨rfl, hbn⟩; have hbn2 := belowStep hbn (show Below w0.heap.size w0 _ by assumption); obtain ⟨z0, z1, z2, z3, z4⟩ := HQ.out _ hbn2)
      | (go_at_call 95; refine (HPA.out _ _ (by assumption)).mono ?_; rintro e wn ⟨rfl, hbn⟩; have hbn2 := belowStep hbn (show Below w0.heap.size w0 _ by assumption); obtain ⟨z0, z1, z2, z3, z4⟩ := HQ.out _ hbn2)
      | (go_at_call 97; refine (HX1.out _ _ _ (by assumption)).mono ?_; rintro e wn ⟨rfl, hbn⟩; have hbn2 := belowStep hbn (show Below w0.heap.size w0 _ by assumption); obtain ⟨z0, z1, z2, z3, z4⟩ := HQ.out _ hbn2))
    all_goals
      go_ret
      refine ⟨ret_bool ?_, belowStep (show Below w0.heap.size w0 _ by assumption) HB0.out⟩
      rw [HE.out]
      first | rfl | (simp_all; done) | (simp_all; intros; omega)
end Go.Proofs.Ytkhpihacjhhklaa

/-
  Walks of layer 3: the reference's forms of declarations.
-/
namespace Go.Proofs.Ytkhpihacjhhklaa
open Go Go.RowKit
open Pl (Syn)
set_option linter.unusedSimpArgs false

theorem emptyS_is' (s : ByteArray) : Pl.emptyS s = s.toList.isEmpty := rfl
set_option maxRecDepth 100000 in
set_option maxHeartbeats 8000000 in
theorem rdeclF_most (P : Nat → Prop) (t : Syn) (w : World) (v : Value) (hP : ∀ b, P b → b < w.heap.size) (ht : SynV w P t v) (hop : t.op = 41 ∨ t.op = 43 ∨ t.op = 45 ∨ t.op = 46 ∨ t.op = 47 ∨ t.op = 48 ∨ t.op = 49 ∨ t.op = 50) :
    Calls Try.prog 83 #[v] w fun e w' => e = .returned (.bool (Pl.declF t)) ∧ Below w.heap.size w w' := by
  have hlm : t.l.length ≤ maxLen := by
    obtain ⟨_, nv, lv, _, _, a, c, _, h1, h2, _⟩ := (synV_iff _ _ _ _).1 ht
    omega
  have hnm9 : t.names.length ≤ maxLen := by
    obtain ⟨_, nv, lv, _, hn, _⟩ := (synV_iff _ _ _ _).1 ht
    obtain ⟨_, _, _, h⟩ := hn.form
    exact h
  unfold maxLen at hlm hnm9
  have HT := Lib.hid ht
  rw [synV_iff] at ht
  obtain ⟨hs, nv, lv, rfl, hn, hl⟩ := ht
  have HSZ := Lib.hid hs
  have HNM := Lib.hid hn
  have HLL := Lib.hid hl
  obtain ⟨na, nc, rfl, hnm⟩ := hn.form
  obtain ⟨la, lc, rfl, hlmm⟩ := hl.form
  have hb0 : Below w.heap.size w (w.alloc (.cells #[.int .i64 t.op, .int .i64 t.n, .string t.s, .slice na t.names.length nc, .slice la t.l.length lc] 25)) := (Below.refl _ _).alloc (Nat.le_refl _) _
  have bx := blk_new w #[.int .i64 t.op, .int .i64 t.n, .string t.s, .slice na t.names.length nc, .slice la t.l.length lc] 25
  have hsame := Same.of_below hb0 hP
  have HND := Lib.hid (node_of P t (w.alloc (.cells #[.int .i64 t.op, .int .i64 t.n, .string t.s, .slice na t.names.length nc, .slice la t.l.length lc] 25)) 0 _ (fun b h => Nat.lt_of_lt_of_le (hP b h) hb0.size) (HT.out.keep hsame))
  have HPA := Lib.hid (fun W low (h : Below (w.alloc (.cells #[.int .i64 t.op, .int .i64 t.n, .string t.s, .slice na t.names.length nc, .slice la t.l.length lc] 25)).heap.size (w.alloc (.cells #[.int .i64 t.op, .int .i64 t.n, .string t.s, .slice na t.names.length nc, .slice la t.l.length lc] 25)) W) => rpath_any low P _ t.names W (HNM.out.keep (Same.of_below (belowStep h hb0) hP)) (fun b hb => Nat.lt_of_lt_of_le (hP b hb) (belowStep h hb0).size))
  have HPR := Lib.hid (fun W (h : Below (w.alloc (.cells #[.int .i64 t.op, .int .i64 t.n, .string t.s, .slice na t.names.length nc, .slice la t.l.length lc] 25)).heap.size (w.alloc (.cells #[.int .i64 t.op, .int .i64 t.n, .string t.s, .slice na t.names.length nc, .slice la t.l.length lc] 25)) W) => rparams_any P _ t.names W (HNM.out.keep (Same.of_below (belowStep h hb0) hP)) (fun b hb => Nat.lt_of_lt_of_le (hP b hb) (belowStep h hb0).size))
  have HTX := Lib.hid (fun W => rtext_any t.s W HSZ.out)
  have HKL := Lib.hid (fun W (h : Below (w.alloc (.cells #[.int .i64 t.op, .int .i64 t.n, .string t.s, .slice na t.names.length nc, .slice la t.l.length lc] 25)).heap.size (w.alloc (.cells #[.int .i64 t.op, .int .i64 t.n, .string t.s, .slice na t.names.length nc, .slice la t.l.length lc] 25)) W) => HLL.out.keep (Same.of_below (belowStep h hb0) hP))
  have HKN := Lib.hid (fun W (h : Below (w.alloc (.cells #[.int .i64 t.op, .int .i64 t.n, .string t.s, .slice na t.names.length nc, .slice la t.l.length lc] 25)).heap.size (w.alloc (.cells #[.int .i64 t.op, .int .i64 t.n, .string t.s, .slice na t.names.length nc, .slice la t.l.length lc] 25)) W) => HNM.out.keep (Same.of_below (belowStep h hb0) hP))
  have HBX := Lib.hid bx
  have HB0 := Lib.hid hb0
  have HALL := Lib.hid HND.out.all
  have HAL := Lib.hid (fun W h => show Calls Try.prog 96 #[_, .int .i64 0, .int .i64 (t.l.length : Int), .int .i64 1] W fun e w' => e = .returned (.bool (Pl.rall t.l 1)) ∧ Below W.heap.size W w' from (HND.out.all W 0 t.l.length 1 h (Nat.zero_le _) (Nat.le_refl _)).mono fun e w' ⟨h1, h2⟩ => ⟨by rw [h1, rallR_all], h2⟩)
  have HBA := Lib.hid HND.out.bare
  have HLO := Lib.hid HND.out.low
  have HUP := Lib.hid HND.out.up
  have HX1 := Lib.hid HND.out.ex1
  have HX2 := Lib.hid HND.out.ex2
  have HX3 := Lib.hid HND.out.ex3
  obtain ⟨y0, y1, y2, y3, y4⟩ := box_cells bx
  clear hs hn hl hnm hlmm bx hsame hb0 hP HND HT
  have HQ := Lib.hid (fun W (hW : Below (w.alloc (.cells #[.int .i64 t.op, .int .i64 t.n, .string t.s, .slice na t.names.length nc, .slice la t.l.length lc] 25)).heap.size (w.alloc (.cells #[.int .i64 t.op, .int .i64 t.n, .string t.s, .slice na t.names.length nc, .slice la t.l.length lc] 25)) W) => box_cells (Blk.of_eq HBX.out (hW.block _ (Blk.lt HBX.out))))
  have hbn0 := Below.refl (w.alloc (.cells #[.int .i64 t.op, .int .i64 t.n, .string t.s, .slice na t.names.length nc, .slice la t.l.length lc] 25)).heap.size (w.alloc (.cells #[.int .i64 t.op, .int .i64 t.n, .string t.s, .slice na t.names.length nc, .slice la t.l.length lc] 25))
  rcases hop with hop | hop | hop | hop | hop | hop | hop | hop
  · obtain ⟨op, nn, ss, mm, ll⟩ := t
    dsimp only at hop
    subst hop
    dsimp only at *
    have HE := Lib.hid (show Pl.declF ⟨41, nn, ss, mm, ll⟩ = _ by unfold Pl.declF; rw [if_pos (by simp)])
    dsimp only at HE
    go_enter Try.func83, Try.ntmps83
    go_wp2_with fail
    generalize w.alloc (.cells #[.int .i64 41, .int .i64 nn, .string ss, .slice na mm.length nc, .slice la ll.length lc] 25) = w0 at *
    go_wp2_with (first
      | (go_at_call 93; refine (HBA.out _ _ _ _ (by assumption)).mono ?_; rintro e wn ⟨rfl, hbn⟩; have hbn2 := belowStep hbn (show Below w0.heap.size w0 _ by assumption); obtain ⟨z0, z1, z2, z3, z4⟩ := HQ.out _ hbn2)
      | (go_at_call 98; refine (HLO.out _).mono ?_; rintro e wn ⟨rfl, hbn⟩; have hbn2 := belowStep hbn (show Below w0.heap.size w0 _ by assumption); obtain ⟨z0, z1, z2, z3, z4⟩ := HQ.out _ hbn2)
      | (go_at_call 97; refine (HX1.out _ _ _ (by assumption)).mono ?_; rintro e wn ⟨rfl, hbn⟩; have hbn2 := belowStep hbn (show Below w0.heap.size w0 _ by assumption); obtain ⟨z0, z1, z2, z3, z4⟩ := HQ.out _ hbn2))
    all_goals
      go_ret
      refine ⟨ret_bool ?_, belowStep (show Below w0.heap.size w0 _ by assumption) HB0.out⟩
      rw [HE.out]
      first | rfl | (simp_all; done) | (simp_all; intros; omega)
  · obtain ⟨op, nn, ss, mm, ll⟩ := t
    dsimp only at hop
    subst hop
    dsimp only at *
    have HE := Lib.hid (show Pl.declF ⟨43, nn, ss, mm, ll⟩ = _ by unfold Pl.declF; rw [if_neg (by simp), if_neg (by simp), if_pos (by simp)])
    dsimp only at HE
    (try rw [emptyS_is'] at HE)
    go_enter Try.func83, Try.ntmps83
    go_wp2_with fail
    generalize w.alloc (.cells #[.int .i64 43, .int .i64 nn, .string ss, .slice na mm.length nc, .slice la ll.length lc] 25) = w0 at *
    go_wp2_with (first
      | (go_at_call 93; refine (HBA.out _ _ _ _ (by assumption)).mono ?_; rintro e wn ⟨rfl, hbn⟩; have hbn2 := belowStep hbn (show Below w0.heap.size w0 _ by assumption); obtain ⟨z0, z1, z2, z3, z4⟩ := HQ.out _ hbn2)
      | (go_at_call 98; refine (HLO.out _).mono ?_; rintro e wn ⟨rfl, hbn⟩; have hbn2 := belowStep hbn (show Below w0.heap.size w0 _ by assumption); obtain ⟨z0, z1, z2, z3, z4⟩ := HQ.out _ hbn2)
      | (go_at_call 100; refine (HPR.out _ (by assumption)).mono ?_; rintro e wn ⟨rfl, hbn⟩; have hbn2 := belowStep hbn (show Below w0.heap.size w0 _ by assumption); obtain ⟨z0, z1, z2, z3, z4⟩ := HQ.out _ hbn2)
      | (go_at_call 97; refine (HX1.out _ _ _ (by assumption)).mono ?_; rintro e wn ⟨rfl, hbn⟩; have hbn2 := belowStep hbn (show Below w0.heap.size w0 _ by assumption); obtain ⟨z0, z1, z2, z3, z4⟩ := HQ.out _ hbn2))
    all_goals
      go_ret
      refine ⟨ret_bool ?_, belowStep (show Below w0.heap.size w0 _ by assumption) HB0.out⟩
      rw [HE.out]
      first | rfl | (simp_all; done) | (simp_all; intros; omega)
  · obtain ⟨op, nn, ss, mm, ll⟩ := t
    dsimp only at hop
    subst hop
    dsimp only at *
    have HE := Lib.hid (show Pl.declF ⟨45, nn, ss, mm, ll⟩ = _ by unfold Pl.declF; rw [if_neg (by simp), if_neg (by simp), if_neg (by simp), if_neg (by simp), if_pos (by simp)])
    dsimp only at HE
    (try rw [nat_le1] at HE)
    go_enter Try.func83, Try.ntmps83
    go_wp2_with fail
    generalize w.alloc (.cells #[.int .i64 45, .int .i64 nn, .string ss, .slice na mm.length nc, .slice la ll.length lc] 25) = w0 at *
    go_wp2_with (first
      | (go_at_call 93; refine (HBA.out _ _ _ _ (by assumption)).mono ?_; rintro e wn ⟨rfl, hbn⟩; have hbn2 := belowStep hbn (show Below w0.heap.size w0 _ by assumption); obtain ⟨z0, z1, z2, z3, z4⟩ := HQ.out _ hbn2)
      | (go_at_call 101; refine (HUP.out _).mono ?_; rintro e wn ⟨rfl, rfl⟩)
      | (go_at_call 96; refine (HAL.out _ (by assumption)).mono ?_; rintro e wn ⟨rfl, hbn⟩; have hbn2 := belowStep hbn (show Below w0.heap.size w0 _ by assumption); obtain ⟨z0, z1, z2, z3, z4⟩ := HQ.out _ hbn2))
    all_goals
      go_ret
      refine ⟨ret_bool ?_, belowStep (show Below w0.heap.size w0 _ by assumption) HB0.out⟩
      rw [HE.out]
      first | rfl | (simp_all; done) | (simp_all; intros; omega)
  · obtain ⟨op, nn, ss, mm, ll⟩ := t
    dsimp only at hop
    subst hop
    dsimp only at *
    have HE := Lib.hid (show Pl.declF ⟨46, nn, ss, mm, ll⟩ = _ by unfold Pl.declF; rw [if_neg (by simp), if_neg (by simp), if_neg (by simp), if_neg (by simp), if_neg (by simp), if_pos (by simp)])
    dsimp only at HE
    go_enter Try.func83, Try.ntmps83
    go_wp2_with fail
    generalize w.alloc (.cells #[.int .i64 46, .int .i64 nn, .string ss, .slice na mm.length nc, .slice la ll.length lc] 25) = w0 at *
    go_wp2_with (first
      | (go_at_call 93; refine (HBA.out _ _ _ _ (by assumption)).mono ?_; rintro e wn ⟨rfl, hbn⟩; have hbn2 := belowStep hbn (show Below w0.heap.size w0 _ by assumption); obtain ⟨z0, z1, z2, z3, z4⟩ := HQ.out _ hbn2)
      | (go_at_call 101; refine (HUP.out _).mono ?_; rintro e wn ⟨rfl, rfl⟩)
      | (go_at_call 97; refine (HX1.out _ _ _ (by assumption)).mono ?_; rintro e wn ⟨rfl, hbn⟩; have hbn2 := belowStep hbn (show Below w0.heap.size w0 _ by assumption); obtain ⟨z0, z1, z2, z3, z4⟩ := HQ.out _ hbn2))
    all_goals
      go_ret
      refine ⟨ret_bool ?_, belowStep (show Below w0.heap.size w0 _ by assumption) HB0.out⟩
      rw [HE.out]
      first | rfl | (simp_all; done) | (simp_all; intros; omega)
  · obtain ⟨op, nn, ss, mm, ll⟩ := t
    dsimp only at hop
    subst hop
    dsimp only at *
    have HE := Lib.hid (show Pl.declF ⟨47, nn, ss, mm, ll⟩ = _ by unfold Pl.declF; rw [if_neg (by simp), if_neg (by simp), if_neg (by simp), if_neg (by simp), if_neg (by simp), if_neg (by simp), if_pos (by simp)])
    dsimp only at HE
    go_enter Try.func83, Try.ntmps83
    go_wp2_with fail
    generalize w.alloc (.cells #[.int .i64 47, .int .i64 nn, .string ss, .slice na mm.length nc, .slice la ll.length lc] 25) = w0 at *
    go_wp2_with (first
      | (go_at_call 93; refine (HBA.out _ _ _ _ (by assumption)).mono ?_; rintro e wn ⟨rfl, hbn⟩; have hbn2 := belowStep hbn (show Below w0.heap.size w0 _ by assumption); obtain ⟨z0, z1, z2, z3, z4⟩ := HQ.out _ hbn2)
      | (go_at_call 101; refine (HUP.out _).mono ?_; rintro e wn ⟨rfl, rfl⟩)
      | (go_at_call 97; refine (HX1.out _ _ _ (by assumption)).mono ?_; rintro e wn ⟨rfl, hbn⟩; have hbn2 := belowStep hbn (show Below w0.heap.size w0 _ by assumption); obtain ⟨z0, z1, z2, z3, z4⟩ := HQ.out _ hbn2))
    all_goals
      go_ret
      refine ⟨ret_bool ?_, belowStep (show Below w0.heap.size w0 _ by assumption) HB0.out⟩
      rw [HE.out]
      first | rfl | (simp_all; done) | (simp_all; intros; omega)
  · obtain ⟨op, nn, ss, mm, ll⟩ := t
    dsimp only at hop
    subst hop
    dsimp only at *
    have HE := Lib.hid (show Pl.declF ⟨48, nn, ss, mm, ll⟩ = _ by unfold Pl.declF; rw [if_neg (by simp), if_neg (by simp), if_neg (by simp), if_neg (by simp), if_neg (by simp), if_neg (by simp), if_neg (by simp), if_pos (by simp)])
    dsimp only at HE
    (try rw [nat_z] at HE)
    go_enter Try.func83, Try.ntmps83
    go_wp2_with fail
    generalize w.alloc (.cells #[.int .i64 48, .int .i64 nn, .string ss, .slice na mm.length nc, .slice la ll.length lc] 25) = w0 at *
    go_wp2_with (first
      | (go_at_call 93; refine (HBA.out _ _ _ _ (by assumption)).mono ?_; rintro e wn ⟨rfl, hbn⟩; have hbn2 := belowStep hbn (show Below w0.heap.size w0 _ by assumption); obtain ⟨z0, z1, z2, z3, z4⟩ := HQ.out _ hbn2)
      | (go_at_call 95; refine (HPA.out _ _ (by assumption)).mono ?_; rintro e wn ⟨rfl, hbn⟩; have hbn2 := belowStep hbn (show Below w0.heap.size w0 _ by assumption); obtain ⟨z0, z1, z2, z3, z4⟩ := HQ.out _ hbn2))
    all_goals
      go_ret
      refine ⟨ret_bool ?_, belowStep (show Below w0.heap.size w0 _ by assumption) HB0.out⟩
      rw [HE.out]
      first | rfl | (simp_all; done) | (simp_all; intros; omega)
  · obtain ⟨op, nn, ss, mm, ll⟩ := t
    dsimp only at hop
    subst hop
    dsimp only at *
    have HE := Lib.hid (show Pl.declF ⟨49, nn, ss, mm, ll⟩ = _ by unfold Pl.declF; rw [if_neg (by simp), if_neg (by simp), if_neg (by simp), if_neg (by simp), if_neg (by simp), if_neg (by simp), if_neg (by simp), if_pos (by simp)])
    dsimp only at HE
    (try rw [nat_z] at HE)
    go_enter Try.func83, Try.ntmps83
    go_wp2_with fail
    generalize w.alloc (.cells #[.int .i64 49, .int .i64 nn, .string ss, .slice na mm.length nc, .slice la ll.length lc] 25) = w0 at *
    go_wp2_with (first
      | (go_at_call 93; refine (HBA.out _ _ _ _ (by assumption)).mono ?_; rintro e wn ⟨rfl, hbn⟩; have hbn2 := belowStep hbn (show Below w0.heap.size w0 _ by assumption); obtain ⟨z0, z1, z2, z3, z4⟩ := HQ.out _ hbn2)
      | (go_at_call 95; refine (HPA.out _ _ (by assumption)).mono ?_; rintro e wn ⟨rfl, hbn⟩; have hbn2 := belowStep hbn (show Below w0.heap.size w0 _ by assumption); obtain ⟨z0, z1, z2, z3, z4⟩ := HQ.out _ hbn2))
    all_goals
      go_ret
      refine ⟨ret_bool ?_, belowStep (show Below w0.heap.size w0 _ by assumption) HB0.out⟩
      rw [HE.out]
      first | rfl | (simp_all; done) | (simp_all; intros; omega)
  · obtain ⟨op, nn, ss, mm, ll⟩ := t
    dsimp only at hop
    subst hop
    dsimp only at *
    have HE := Lib.hid (show Pl.declF ⟨50, nn, ss, mm, ll⟩ = _ by unfold Pl.declF; rw [if_neg (by simp), if_neg (by simp), if_neg (by simp), if_neg (by simp), if_neg (by simp), if_neg (by simp), if_neg (by simp), if_neg (by simp)])
    dsimp only at HE
    go_enter Try.func83, Try.ntmps83
    go_wp2_with fail
    generalize w.alloc (.cells #[.int .i64 50, .int .i64 nn, .string ss, .slice na mm.length nc, .slice la ll.length lc] 25) = w0 at *
    go_wp2_with (first
      | (go_at_call 93; refine (HBA.out _ _ _ _ (by assumption)).mono ?_; rintro e wn ⟨rfl, hbn⟩; have hbn2 := belowStep hbn (show Below w0.heap.size w0 _ by assumption); obtain ⟨z0, z1, z2, z3, z4⟩ := HQ.out _ hbn2)
      | (go_at_call 101; refine (HUP.out _).mono ?_; rintro e wn ⟨rfl, rfl⟩)
      | (go_at_call 97; refine (HX2.out _ _ _ _ (by assumption)).mono ?_; rintro e wn ⟨rfl, hbn⟩; have hbn2 := belowStep hbn (show Below w0.heap.size w0 _ by assumption); obtain ⟨z0, z1, z2, z3, z4⟩ := HQ.out _ hbn2))
    all_goals
      go_ret
      refine ⟨ret_bool ?_, belowStep (show Below w0.heap.size w0 _ by assumption) HB0.out⟩
      rw [HE.out]
      first | rfl | (simp_all; done) | (simp_all; intros; omega)
end Go.Proofs.Ytkhpihacjhhklaa
