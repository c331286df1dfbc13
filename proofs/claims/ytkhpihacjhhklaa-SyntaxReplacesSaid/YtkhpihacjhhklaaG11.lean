/-
  Walks and plain mathematics, several texts in one (Xf Xg Xh Xi Xj).
-/
import Derived.Test.YtkhpihacjhhklaaG10
/-
  Walks of layer 3: the reference's forms of types.
-/
namespace Go.Proofs.Ytkhpihacjhhklaa
open Go Go.RowKit
open Pl (Syn)
set_option linter.unusedSimpArgs false

theorem nat_z (n : Nat) : decide (n = 0) = ((n : Int) == 0) := by
  rw [Bool.eq_iff_iff, beq_iff_eq, decide_eq_true_iff]; omega
theorem nat_le4 (n : Nat) : decide (n ≤ 4) = decide ((n : Int) ≤ 4) := by
  rw [Bool.eq_iff_iff, decide_eq_true_iff, decide_eq_true_iff]; omega
theorem nat_le9 (n : Nat) : decide (n ≤ 9) = decide ((n : Int) ≤ 9) := by
  rw [Bool.eq_iff_iff, decide_eq_true_iff, decide_eq_true_iff]; omega
theorem nat_ge2 (n : Nat) : decide (2 ≤ n) = decide (2 ≤ (n : Int)) := by
  rw [Bool.eq_iff_iff, decide_eq_true_iff, decide_eq_true_iff]; omega
theorem cat_type (op : Int) (h : Pl.cat op = 1) : op = 1 ∨ op = 2 ∨ op = 3 ∨ op = 4 ∨ op = 5 := by
  unfold Pl.cat at h
  repeat' split at h
  all_goals omega
set_option maxRecDepth 100000 in
set_option maxHeartbeats 8000000 in
theorem rtypeF_any (P : Nat → Prop) (t : Syn) (w : World) (v : Value) (hP : ∀ b, P b → b < w.heap.size) (ht : SynV w P t v) (hc : Pl.cat t.op = 1) :
    Calls Try.prog 80 #[v] w fun e w' => e = .returned (.bool (Pl.typeF t)) ∧ Below w.heap.size w w' := by
  have hop := cat_type _ hc
  have hlm : t.l.length ≤ maxLen := by
    obtain ⟨_, nv, lv, _, _, a, c, _, h1, h2, _⟩ := (synV_iff _ _ _ _).1 ht
    omega
  unfold maxLen at hlm
  have HT := Lib.hid ht
  rw [synV_iff] at ht
  obtain ⟨hs, nv, lv, rfl, hn, hl⟩ := ht
  have HNM := Lib.hid hn
  obtain ⟨na, nc, rfl, hnm⟩ := hn.form
  obtain ⟨la, lc, rfl, hlmm⟩ := hl.form
  have hb0 : Below w.heap.size w (w.alloc (.cells #[.int .i64 t.op, .int .i64 t.n, .string t.s, .slice na t.names.length nc, .slice la t.l.length lc] 25)) := (Below.refl _ _).alloc (Nat.le_refl _) _
  have bx := blk_new w #[.int .i64 t.op, .int .i64 t.n, .string t.s, .slice na t.names.length nc, .slice la t.l.length lc] 25
  have hsame := Same.of_below hb0 hP
  have HND := Lib.hid (node_of P t (w.alloc (.cells #[.int .i64 t.op, .int .i64 t.n, .string t.s, .slice na t.names.length nc, .slice la t.l.length lc] 25)) 0 _ (fun b h => Nat.lt_of_lt_of_le (hP b h) hb0.size) (HT.out.keep hsame))
  have HPA := Lib.hid (fun W low (h : Below (w.alloc (.cells #[.int .i64 t.op, .int .i64 t.n, .string t.s, .slice na t.names.length nc, .slice la t.l.length lc] 25)).heap.size (w.alloc (.cells #[.int .i64 t.op, .int .i64 t.n, .string t.s, .slice na t.names.length nc, .slice la t.l.length lc] 25)) W) => rpath_any low P _ t.names W (HNM.out.keep (Same.of_below (belowStep h hb0) hP)) (fun b hb => Nat.lt_of_lt_of_le (hP b hb) (belowStep h hb0).size))
  have HBX := Lib.hid bx
  have HB0 := Lib.hid hb0
  have HAL := Lib.hid (fun W h => show Calls Try.prog 96 #[_, .int .i64 0, .int .i64 (t.l.length : Int), .int .i64 1] W fun e w' => e = .returned (.bool (Pl.rall t.l 1)) ∧ Below W.heap.size W w' from (HND.out.all W 0 t.l.length 1 h (Nat.zero_le _) (Nat.le_refl _)).mono fun e w' ⟨h1, h2⟩ => ⟨by rw [h1, rallR_all], h2⟩)
  have HBA := Lib.hid HND.out.bare
  have HVA := Lib.hid HND.out.var
  have HX2 := Lib.hid HND.out.ex2
  obtain ⟨y0, y1, y2, y3, y4⟩ := box_cells bx
  clear hs hn hl hnm hlmm hc bx hsame hb0 hP HND
  have HQ := Lib.hid (fun W (hW : Below (w.alloc (.cells #[.int .i64 t.op, .int .i64 t.n, .string t.s, .slice na t.names.length nc, .slice la t.l.length lc] 25)).heap.size (w.alloc (.cells #[.int .i64 t.op, .int .i64 t.n, .string t.s, .slice na t.names.length nc, .slice la t.l.length lc] 25)) W) => box_cells (Blk.of_eq HBX.out (hW.block _ (Blk.lt HBX.out))))
  have hbn0 := Below.refl (w.alloc (.cells #[.int .i64 t.op, .int .i64 t.n, .string t.s, .slice na t.names.length nc, .slice la t.l.length lc] 25)).heap.size (w.alloc (.cells #[.int .i64 t.op, .int .i64 t.n, .string t.s, .slice na t.names.length nc, .slice la t.l.length lc] 25))
  rcases hop with hop | hop | hop | hop | hop
  · obtain ⟨op, nn, ss, mm, ll⟩ := t
    dsimp only at hop
    subst hop
    dsimp only at *
    have HE := Lib.hid (show Pl.typeF ⟨1, nn, ss, mm, ll⟩ = _ by unfold Pl.typeF; rw [if_pos rfl])
    dsimp only at HE
    (try rw [nat_z] at HE)
    (try rw [nat_le4] at HE)
    (try rw [nat_ge2, nat_le9] at HE)
    go_enter Try.func80, Try.ntmps80
    go_wp2_with fail
    generalize w.alloc (.cells #[.int .i64 1, .int .i64 nn, .string ss, .slice na mm.length nc, .slice la ll.length lc] 25) = w0 at *
    go_wp2_with (first
      | (go_at_call 93; refine (HBA.out _ _ _ _ (by assumption)).mono ?_; rintro e wn ⟨rfl, hbn⟩; have hbn2 := belowStep hbn (show Below w0.heap.size w0 _ by assumption); obtain ⟨z0, z1, z2, z3, z4⟩ := HQ.out _ hbn2)
      | (go_at_call 94; refine (HVA.out _).mono ?_; rintro e wn ⟨rfl, rfl⟩)
      | (go_at_call 95; refine (HPA.out _ _ (by assumption)).mono ?_; rintro e wn ⟨rfl, hbn⟩; have hbn2 := belowStep hbn (show Below w0.heap.size w0 _ by assumption); obtain ⟨z0, z1, z2, z3, z4⟩ := HQ.out _ hbn2)
      | (go_at_call 96; refine (HAL.out _ (by assumption)).mono ?_; rintro e wn ⟨rfl, hbn⟩; have hbn2 := belowStep hbn (show Below w0.heap.size w0 _ by assumption); obtain ⟨z0, z1, z2, z3, z4⟩ := HQ.out _ hbn2)
      | (go_at_call 97; refine (HX2.out _ _ _ _ (by assumption)).mono ?_; rintro e wn ⟨rfl, hbn⟩; have hbn2 := belowStep hbn (show Below w0.heap.size w0 _ by assumption); obtain ⟨z0, z1, z2, z3, z4⟩ := HQ.out _ hbn2))
    all_goals
      go_ret
      refine ⟨ret_bool ?_, belowStep (show Below w0.heap.size w0 _ by assumption) HB0.out⟩
      rw [HE.out]
      first | rfl | (simp_all; done) | (simp_all; intros; omega)
  · obtain ⟨op, nn, ss, mm, ll⟩ := t
    dsimp only at hop
    subst hop
    dsimp only at *
    have HE := Lib.hid (show Pl.typeF ⟨2, nn, ss, mm, ll⟩ = _ by unfold Pl.typeF; rw [if_neg (by simp), if_pos rfl])
    dsimp only at HE
    (try rw [nat_z] at HE)
    (try rw [nat_le4] at HE)
    (try rw [nat_ge2, nat_le9] at HE)
    go_enter Try.func80, Try.ntmps80
    go_wp2_with fail
    generalize w.alloc (.cells #[.int .i64 2, .int .i64 nn, .string ss, .slice na mm.length nc, .slice la ll.length lc] 25) = w0 at *
    go_wp2_with (first
      | (go_at_call 93; refine (HBA.out _ _ _ _ (by assumption)).mono ?_; rintro e wn ⟨rfl, hbn⟩; have hbn2 := belowStep hbn (show Below w0.heap.size w0 _ by assumption); obtain ⟨z0, z1, z2, z3, z4⟩ := HQ.out _ hbn2)
      | (go_at_call 94; refine (HVA.out _).mono ?_; rintro e wn ⟨rfl, rfl⟩)
      | (go_at_call 95; refine (HPA.out _ _ (by assumption)).mono ?_; rintro e wn ⟨rfl, hbn⟩; have hbn2 := belowStep hbn (show Below w0.heap.size w0 _ by assumption); obtain ⟨z0, z1, z2, z3, z4⟩ := HQ.out _ hbn2)
      | (go_at_call 96; refine (HAL.out _ (by assumption)).mono ?_; rintro e wn ⟨rfl, hbn⟩; have hbn2 := belowStep hbn (show Below w0.heap.size w0 _ by assumption); obtain ⟨z0, z1, z2, z3, z4⟩ := HQ.out _ hbn2)
      | (go_at_call 97; refine (HX2.out _ _ _ _ (by assumption)).mono ?_; rintro e wn ⟨rfl, hbn⟩; have hbn2 := belowStep hbn (show Below w0.heap.size w0 _ by assumption); obtain ⟨z0, z1, z2, z3, z4⟩ := HQ.out _ hbn2))
    all_goals
      go_ret
      refine ⟨ret_bool ?_, belowStep (show Below w0.heap.size w0 _ by assumption) HB0.out⟩
      rw [HE.out]
      first | rfl | (simp_all; done) | (simp_all; intros; omega)
  · obtain ⟨op, nn, ss, mm, ll⟩ := t
    dsimp only at hop
    subst hop
    dsimp only at *
    have HE := Lib.hid (show Pl.typeF ⟨3, nn, ss, mm, ll⟩ = _ by unfold Pl.typeF; rw [if_neg (by simp), if_neg (by simp), if_pos rfl])
    dsimp only at HE
    (try rw [nat_z] at HE)
    (try rw [nat_le4] at HE)
    (try rw [nat_ge2, nat_le9] at HE)
    go_enter Try.func80, Try.ntmps80
    go_wp2_with fail
    generalize w.alloc (.cells #[.int .i64 3, .int .i64 nn, .string ss, .slice na mm.length nc, .slice la ll.length lc] 25) = w0 at *
    go_wp2_with (first
      | (go_at_call 93; refine (HBA.out _ _ _ _ (by assumption)).mono ?_; rintro e wn ⟨rfl, hbn⟩; have hbn2 := belowStep hbn (show Below w0.heap.size w0 _ by assumption); obtain ⟨z0, z1, z2, z3, z4⟩ := HQ.out _ hbn2)
      | (go_at_call 94; refine (HVA.out _).mono ?_; rintro e wn ⟨rfl, rfl⟩)
      | (go_at_call 95; refine (HPA.out _ _ (by assumption)).mono ?_; rintro e wn ⟨rfl, hbn⟩; have hbn2 := belowStep hbn (show Below w0.heap.size w0 _ by assumption); obtain ⟨z0, z1, z2, z3, z4⟩ := HQ.out _ hbn2)
      | (go_at_call 96; refine (HAL.out _ (by assumption)).mono ?_; rintro e wn ⟨rfl, hbn⟩; have hbn2 := belowStep hbn (show Below w0.heap.size w0 _ by assumption); obtain ⟨z0, z1, z2, z3, z4⟩ := HQ.out _ hbn2)
      | (go_at_call 97; refine (HX2.out _ _ _ _ (by assumption)).mono ?_; rintro e wn ⟨rfl, hbn⟩; have hbn2 := belowStep hbn (show Below w0.heap.size w0 _ by assumption); obtain ⟨z0, z1, z2, z3, z4⟩ := HQ.out _ hbn2))
    all_goals
      go_ret
      refine ⟨ret_bool ?_, belowStep (show Below w0.heap.size w0 _ by assumption) HB0.out⟩
      rw [HE.out]
      first | rfl | (simp_all; done) | (simp_all; intros; omega)
  · obtain ⟨op, nn, ss, mm, ll⟩ := t
    dsimp only at hop
    subst hop
    dsimp only at *
    have HE := Lib.hid (show Pl.typeF ⟨4, nn, ss, mm, ll⟩ = _ by unfold Pl.typeF; rw [if_neg (by simp), if_neg (by simp), if_neg (by simp), if_pos rfl])
    dsimp only at HE
    (try rw [nat_z] at HE)
    (try rw [nat_le4] at HE)
    (try rw [nat_ge2, nat_le9] at HE)
    go_enter Try.func80, Try.ntmps80
    go_wp2_with fail
    generalize w.alloc (.cells #[.int .i64 4, .int .i64 nn, .string ss, .slice na mm.length nc, .slice la ll.length lc] 25) = w0 at *
    go_wp2_with (first
      | (go_at_call 93; refine (HBA.out _ _ _ _ (by assumption)).mono ?_; rintro e wn ⟨rfl, hbn⟩; have hbn2 := belowStep hbn (show Below w0.heap.size w0 _ by assumption); obtain ⟨z0, z1, z2, z3, z4⟩ := HQ.out _ hbn2)
      | (go_at_call 94; refine (HVA.out _).mono ?_; rintro e wn ⟨rfl, rfl⟩)
      | (go_at_call 95; refine (HPA.out _ _ (by assumption)).mono ?_; rintro e wn ⟨rfl, hbn⟩; have hbn2 := belowStep hbn (show Below w0.heap.size w0 _ by assumption); obtain ⟨z0, z1, z2, z3, z4⟩ := HQ.out _ hbn2)
      | (go_at_call 96; refine (HAL.out _ (by assumption)).mono ?_; rintro e wn ⟨rfl, hbn⟩; have hbn2 := belowStep hbn (show Below w0.heap.size w0 _ by assumption); obtain ⟨z0, z1, z2, z3, z4⟩ := HQ.out _ hbn2)
      | (go_at_call 97; refine (HX2.out _ _ _ _ (by assumption)).mono ?_; rintro e wn ⟨rfl, hbn⟩; have hbn2 := belowStep hbn (show Below w0.heap.size w0 _ by assumption); obtain ⟨z0, z1, z2, z3, z4⟩ := HQ.out _ hbn2))
    all_goals
      go_ret
      refine ⟨ret_bool ?_, belowStep (show Below w0.heap.size w0 _ by assumption) HB0.out⟩
      rw [HE.out]
      first | rfl | (simp_all; done) | (simp_all; intros; omega)
  · obtain ⟨op, nn, ss, mm, ll⟩ := t
    dsimp only at hop
    subst hop
    dsimp only at *
    have HE := Lib.hid (show Pl.typeF ⟨5, nn, ss, mm, ll⟩ = _ by unfold Pl.typeF; rw [if_neg (by simp), if_neg (by simp), if_neg (by simp), if_neg (by simp)])
    dsimp only at HE
    (try rw [nat_z] at HE)
    (try rw [nat_le4] at HE)
    (try rw [nat_ge2, nat_le9] at HE)
    go_enter Try.func80, Try.ntmps80
    go_wp2_with fail
    generalize w.alloc (.cells #[.int .i64 5, .int .i64 nn, .string ss, .slice na mm.length nc, .slice la ll.length lc] 25) = w0 at *
    go_wp2_with (first
      | (go_at_call 93; refine (HBA.out _ _ _ _ (by assumption)).mono ?_; rintro e wn ⟨rfl, hbn⟩; have hbn2 := belowStep hbn (show Below w0.heap.size w0 _ by assumption); obtain ⟨z0, z1, z2, z3, z4⟩ := HQ.out _ hbn2)
      | (go_at_call 94; refine (HVA.out _).mono ?_; rintro e wn ⟨rfl, rfl⟩)
      | (go_at_call 95; refine (HPA.out _ _ (by assumption)).mono ?_; rintro e wn ⟨rfl, hbn⟩; have hbn2 := belowStep hbn (show Below w0.heap.size w0 _ by assumption); obtain ⟨z0, z1, z2, z3, z4⟩ := HQ.out _ hbn2)
      | (go_at_call 96; refine (HAL.out _ (by assumption)).mono ?_; rintro e wn ⟨rfl, hbn⟩; have hbn2 := belowStep hbn (show Below w0.heap.size w0 _ by assumption); obtain ⟨z0, z1, z2, z3, z4⟩ := HQ.out _ hbn2)
      | (go_at_call 97; refine (HX2.out _ _ _ _ (by assumption)).mono ?_; rintro e wn ⟨rfl, hbn⟩; have hbn2 := belowStep hbn (show Below w0.heap.size w0 _ by assumption); obtain ⟨z0, z1, z2, z3, z4⟩ := HQ.out _ hbn2))
    all_goals
      go_ret
      refine ⟨ret_bool ?_, belowStep (show Below w0.heap.size w0 _ by assumption) HB0.out⟩
      rw [HE.out]
      first | rfl | (simp_all; done) | (simp_all; intros; omega)
end Go.Proofs.Ytkhpihacjhhklaa

/-
  Walks of layer 3: the reference's forms of patterns.
-/
namespace Go.Proofs.Ytkhpihacjhhklaa
open Go Go.RowKit
open Pl (Syn)
set_option linter.unusedSimpArgs false

theorem nat_le1 (n : Nat) : decide (n ≤ 1) = decide ((n : Int) ≤ 1) := by
  rw [Bool.eq_iff_iff, decide_eq_true_iff, decide_eq_true_iff]; omega
theorem nat_ne1 (n : Nat) : decide (n ≠ 1) = ((n : Int) != 1) := by
  rw [Bool.eq_iff_iff, bne_iff_ne, decide_eq_true_iff]; omega
theorem cat_pat (op : Int) (h : Pl.cat op = 2) : op = 11 ∨ op = 12 ∨ op = 13 ∨ op = 14 ∨ op = 15 := by
  unfold Pl.cat at h
  repeat' split at h
  all_goals omega
set_option maxRecDepth 100000 in
set_option maxHeartbeats 8000000 in
theorem rpatF_any (P : Nat → Prop) (t : Syn) (w : World) (v : Value) (hP : ∀ b, P b → b < w.heap.size) (ht : SynV w P t v) (hc : Pl.cat t.op = 2) :
    Calls Try.prog 81 #[v] w fun e w' => e = .returned (.bool (Pl.patF t)) ∧ Below w.heap.size w w' := by
  have hop := cat_pat _ hc
  have hlm : t.l.length ≤ maxLen := by
    obtain ⟨_, nv, lv, _, _, a, c, _, h1, h2, _⟩ := (synV_iff _ _ _ _).1 ht
    omega
  unfold maxLen at hlm
  have HT := Lib.hid ht
  rw [synV_iff] at ht
  obtain ⟨hs, nv, lv, rfl, hn, hl⟩ := ht
  have HNM := Lib.hid hn
  obtain ⟨na, nc, rfl, hnm⟩ := hn.form
  obtain ⟨la, lc, rfl, hlmm⟩ := hl.form
  have hb0 : Below w.heap.size w (w.alloc (.cells #[.int .i64 t.op, .int .i64 t.n, .string t.s, .slice na t.names.length nc, .slice la t.l.length lc] 25)) := (Below.refl _ _).alloc (Nat.le_refl _) _
  have bx := blk_new w #[.int .i64 t.op, .int .i64 t.n, .string t.s, .slice na t.names.length nc, .slice la t.l.length lc] 25
  have hsame := Same.of_below hb0 hP
  have HND := Lib.hid (node_of P t (w.alloc (.cells #[.int .i64 t.op, .int .i64 t.n, .string t.s, .slice na t.names.length nc, .slice la t.l.length lc] 25)) 0 _ (fun b h => Nat.lt_of_lt_of_le (hP b h) hb0.size) (HT.out.keep hsame))
  have HPA := Lib.hid (fun W low (h : Below (w.alloc (.cells #[.int .i64 t.op, .int .i64 t.n, .string t.s, .slice na t.names.length nc, .slice la t.l.length lc] 25)).heap.size (w.alloc (.cells #[.int .i64 t.op, .int .i64 t.n, .string t.s, .slice na t.names.length nc, .slice la t.l.length lc] 25)) W) => rpath_any low P _ t.names W (HNM.out.keep (Same.of_below (belowStep h hb0) hP)) (fun b hb => Nat.lt_of_lt_of_le (hP b hb) (belowStep h hb0).size))
  have HBX := Lib.hid bx
  have HB0 := Lib.hid hb0
  have HAL := Lib.hid (fun W h => show Calls Try.prog 96 #[_, .int .i64 0, .int .i64 (t.l.length : Int), .int .i64 2] W fun e w' => e = .returned (.bool (Pl.rall t.l 2)) ∧ Below W.heap.size W w' from (HND.out.all W 0 t.l.length 2 h (Nat.zero_le _) (Nat.le_refl _)).mono fun e w' ⟨h1, h2⟩ => ⟨by rw [h1, rallR_all], h2⟩)
  have HBA := Lib.hid HND.out.bare
  have HLO := Lib.hid HND.out.low
  obtain ⟨y0, y1, y2, y3, y4⟩ := box_cells bx
  clear hs hn hl hnm hlmm hc bx hsame hb0 hP HND
  have HQ := Lib.hid (fun W (hW : Below (w.alloc (.cells #[.int .i64 t.op, .int .i64 t.n, .string t.s, .slice na t.names.length nc, .slice la t.l.length lc] 25)).heap.size (w.alloc (.cells #[.int .i64 t.op, .int .i64 t.n, .string t.s, .slice na t.names.length nc, .slice la t.l.length lc] 25)) W) => box_cells (Blk.of_eq HBX.out (hW.block _ (Blk.lt HBX.out))))
  have hbn0 := Below.refl (w.alloc (.cells #[.int .i64 t.op, .int .i64 t.n, .string t.s, .slice na t.names.length nc, .slice la t.l.length lc] 25)).heap.size (w.alloc (.cells #[.int .i64 t.op, .int .i64 t.n, .string t.s, .slice na t.names.length nc, .slice la t.l.length lc] 25))
  rcases hop with hop | hop | hop | hop | hop
  · obtain ⟨op, nn, ss, mm, ll⟩ := t
    dsimp only at hop
    subst hop
    dsimp only at *
    have HE := Lib.hid (show Pl.patF ⟨11, nn, ss, mm, ll⟩ = _ by unfold Pl.patF; rw [if_pos rfl])
    dsimp only at HE
    (try rw [nat_z] at HE)
    (try rw [nat_le1] at HE)
    (try rw [nat_ne1, nat_le9] at HE)
    go_enter Try.func81, Try.ntmps81
    go_wp2_with fail
    generalize w.alloc (.cells #[.int .i64 11, .int .i64 nn, .string ss, .slice na mm.length nc, .slice la ll.length lc] 25) = w0 at *
    go_wp2_with (first
      | (go_at_call 93; refine (HBA.out _ _ _ _ (by assumption)).mono ?_; rintro e wn ⟨rfl, hbn⟩; have hbn2 := belowStep hbn (show Below w0.heap.size w0 _ by assumption); obtain ⟨z0, z1, z2, z3, z4⟩ := HQ.out _ hbn2)
      | (go_at_call 98; refine (HLO.out _).mono ?_; rintro e wn ⟨rfl, hbn⟩; have hbn2 := belowStep hbn (show Below w0.heap.size w0 _ by assumption); obtain ⟨z0, z1, z2, z3, z4⟩ := HQ.out _ hbn2)
      | (go_at_call 95; refine (HPA.out _ _ (by assumption)).mono ?_; rintro e wn ⟨rfl, hbn⟩; have hbn2 := belowStep hbn (show Below w0.heap.size w0 _ by assumption); obtain ⟨z0, z1, z2, z3, z4⟩ := HQ.out _ hbn2)
      | (go_at_call 96; refine (HAL.out _ (by assumption)).mono ?_; rintro e wn ⟨rfl, hbn⟩; have hbn2 := belowStep hbn (show Below w0.heap.size w0 _ by assumption); obtain ⟨z0, z1, z2, z3, z4⟩ := HQ.out _ hbn2))
    all_goals
      go_ret
      refine ⟨ret_bool ?_, belowStep (show Below w0.heap.size w0 _ by assumption) HB0.out⟩
      rw [HE.out]
      first | rfl | (simp_all; done) | (simp_all; intros; omega)
  · obtain ⟨op, nn, ss, mm, ll⟩ := t
    dsimp only at hop
    subst hop
    dsimp only at *
    have HE := Lib.hid (show Pl.patF ⟨12, nn, ss, mm, ll⟩ = _ by unfold Pl.patF; rw [if_neg (by simp), if_pos rfl])
    dsimp only at HE
    (try rw [nat_z] at HE)
    (try rw [nat_le1] at HE)
    (try rw [nat_ne1, nat_le9] at HE)
    go_enter Try.func81, Try.ntmps81
    go_wp2_with fail
    generalize w.alloc (.cells #[.int .i64 12, .int .i64 nn, .string ss, .slice na mm.length nc, .slice la ll.length lc] 25) = w0 at *
    go_wp2_with (first
      | (go_at_call 93; refine (HBA.out _ _ _ _ (by assumption)).mono ?_; rintro e wn ⟨rfl, hbn⟩; have hbn2 := belowStep hbn (show Below w0.heap.size w0 _ by assumption); obtain ⟨z0, z1, z2, z3, z4⟩ := HQ.out _ hbn2)
      | (go_at_call 98; refine (HLO.out _).mono ?_; rintro e wn ⟨rfl, hbn⟩; have hbn2 := belowStep hbn (show Below w0.heap.size w0 _ by assumption); obtain ⟨z0, z1, z2, z3, z4⟩ := HQ.out _ hbn2)
      | (go_at_call 95; refine (HPA.out _ _ (by assumption)).mono ?_; rintro e wn ⟨rfl, hbn⟩; have hbn2 := belowStep hbn (show Below w0.heap.size w0 _ by assumption); obtain ⟨z0, z1, z2, z3, z4⟩ := HQ.out _ hbn2)
      | (go_at_call 96; refine (HAL.out _ (by assumption)).mono ?_; rintro e wn ⟨rfl, hbn⟩; have hbn2 := belowStep hbn (show Below w0.heap.size w0 _ by assumption); obtain ⟨z0, z1, z2, z3, z4⟩ := HQ.out _ hbn2))
    all_goals
      go_ret
      refine ⟨ret_bool ?_, belowStep (show Below w0.heap.size w0 _ by assumption) HB0.out⟩
      rw [HE.out]
      first | rfl | (simp_all; done) | (simp_all; intros; omega)
  · obtain ⟨op, nn, ss, mm, ll⟩ := t
    dsimp only at hop
    subst hop
    dsimp only at *
    have HE := Lib.hid (show Pl.patF ⟨13, nn, ss, mm, ll⟩ = _ by unfold Pl.patF; rw [if_neg (by simp), if_neg (by simp), if_pos rfl])
    dsimp only at HE
    (try rw [nat_z] at HE)
    (try rw [nat_le1] at HE)
    (try rw [nat_ne1, nat_le9] at HE)
    go_enter Try.func81, Try.ntmps81
    go_wp2_with fail
    generalize w.alloc (.cells #[.int .i64 13, .int .i64 nn, .string ss, .slice na mm.length nc, .slice la ll.length lc] 25) = w0 at *
    go_wp2_with (first
      | (go_at_call 93; refine (HBA.out _ _ _ _ (by assumption)).mono ?_; rintro e wn ⟨rfl, hbn⟩; have hbn2 := belowStep hbn (show Below w0.heap.size w0 _ by assumption); obtain ⟨z0, z1, z2, z3, z4⟩ := HQ.out _ hbn2)
      | (go_at_call 98; refine (HLO.out _).mono ?_; rintro e wn ⟨rfl, hbn⟩; have hbn2 := belowStep hbn (show Below w0.heap.size w0 _ by assumption); obtain ⟨z0, z1, z2, z3, z4⟩ := HQ.out _ hbn2)
      | (go_at_call 95; refine (HPA.out _ _ (by assumption)).mono ?_; rintro e wn ⟨rfl, hbn⟩; have hbn2 := belowStep hbn (show Below w0.heap.size w0 _ by assumption); obtain ⟨z0, z1, z2, z3, z4⟩ := HQ.out _ hbn2)
      | (go_at_call 96; refine (HAL.out _ (by assumption)).mono ?_; rintro e wn ⟨rfl, hbn⟩; have hbn2 := belowStep hbn (show Below w0.heap.size w0 _ by assumption); obtain ⟨z0, z1, z2, z3, z4⟩ := HQ.out _ hbn2))
    all_goals
      go_ret
      refine ⟨ret_bool ?_, belowStep (show Below w0.heap.size w0 _ by assumption) HB0.out⟩
      rw [HE.out]
      first | rfl | (simp_all; done) | (simp_all; intros; omega)
  · obtain ⟨op, nn, ss, mm, ll⟩ := t
    dsimp only at hop
    subst hop
    dsimp only at *
    have HE := Lib.hid (show Pl.patF ⟨14, nn, ss, mm, ll⟩ = _ by unfold Pl.patF; rw [if_neg (by simp), if_neg (by simp), if_neg (by simp), if_pos rfl])
    dsimp only at HE
    (try rw [nat_z] at HE)
    (try rw [nat_le1] at HE)
    (try rw [nat_ne1, nat_le9] at HE)
    go_enter Try.func81, Try.ntmps81
    go_wp2_with fail
    generalize w.alloc (.cells #[.int .i64 14, .int .i64 nn, .string ss, .slice na mm.length nc, .slice la ll.length lc] 25) = w0 at *
    go_wp2_with (first
      | (go_at_call 93; refine (HBA.out _ _ _ _ (by assumption)).mono ?_; rintro e wn ⟨rfl, hbn⟩; have hbn2 := belowStep hbn (show Below w0.heap.size w0 _ by assumption); obtain ⟨z0, z1, z2, z3, z4⟩ := HQ.out _ hbn2)
      | (go_at_call 98; refine (HLO.out _).mono ?_; rintro e wn ⟨rfl, hbn⟩; have hbn2 := belowStep hbn (show Below w0.heap.size w0 _ by assumption); obtain ⟨z0, z1, z2, z3, z4⟩ := HQ.out _ hbn2)
      | (go_at_call 95; refine (HPA.out _ _ (by assumption)).mono ?_; rintro e wn ⟨rfl, hbn⟩; have hbn2 := belowStep hbn (show Below w0.heap.size w0 _ by assumption); obtain ⟨z0, z1, z2, z3, z4⟩ := HQ.out _ hbn2)
      | (go_at_call 96; refine (HAL.out _ (by assumption)).mono ?_; rintro e wn ⟨rfl, hbn⟩; have hbn2 := belowStep hbn (show Below w0.heap.size w0 _ by assumption); obtain ⟨z0, z1, z2, z3, z4⟩ := HQ.out _ hbn2))
    all_goals
      go_ret
      refine ⟨ret_bool ?_, belowStep (show Below w0.heap.size w0 _ by assumption) HB0.out⟩
      rw [HE.out]
      first | rfl | (simp_all; done) | (simp_all; intros; omega)
  · obtain ⟨op, nn, ss, mm, ll⟩ := t
    dsimp only at hop
    subst hop
    dsimp only at *
    have HE := Lib.hid (show Pl.patF ⟨15, nn, ss, mm, ll⟩ = _ by unfold Pl.patF; rw [if_neg (by simp), if_neg (by simp), if_neg (by simp), if_neg (by simp)])
    dsimp only at HE
    (try rw [nat_z] at HE)
    (try rw [nat_le1] at HE)
    (try rw [nat_ne1, nat_le9] at HE)
    go_enter Try.func81, Try.ntmps81
    go_wp2_with fail
    generalize w.alloc (.cells #[.int .i64 15, .int .i64 nn, .string ss, .slice na mm.length nc, .slice la ll.length lc] 25) = w0 at *
    go_wp2_with (first
      | (go_at_call 93; refine (HBA.out _ _ _ _ (by assumption)).mono ?_; rintro e wn ⟨rfl, hbn⟩; have hbn2 := belowStep hbn (show Below w0.heap.size w0 _ by assumption); obtain ⟨z0, z1, z2, z3, z4⟩ := HQ.out _ hbn2)
      | (go_at_call 98; refine (HLO.out _).mono ?_; rintro e wn ⟨rfl, hbn⟩; have hbn2 := belowStep hbn (show Below w0.heap.size w0 _ by assumption); obtain ⟨z0, z1, z2, z3, z4⟩ := HQ.out _ hbn2)
      | (go_at_call 95; refine (HPA.out _ _ (by assumption)).mono ?_; rintro e wn ⟨rfl, hbn⟩; have hbn2 := belowStep hbn (show Below w0.heap.size w0 _ by assumption); obtain ⟨z0, z1, z2, z3, z4⟩ := HQ.out _ hbn2)
      | (go_at_call 96; refine (HAL.out _ (by assumption)).mono ?_; rintro e wn ⟨rfl, hbn⟩; have hbn2 := belowStep hbn (show Below w0.heap.size w0 _ by assumption); obtain ⟨z0, z1, z2, z3, z4⟩ := HQ.out _ hbn2))
    all_goals
      go_ret
      refine ⟨ret_bool ?_, belowStep (show Below w0.heap.size w0 _ by assumption) HB0.out⟩
      rw [HE.out]
      first | rfl | (simp_all; done) | (simp_all; intros; omega)
end Go.Proofs.Ytkhpihacjhhklaa

/-
  Walks of layer 3: the reference's forms of modules.
-/
namespace Go.Proofs.Ytkhpihacjhhklaa
open Go Go.RowKit
open Pl (Syn)
set_option linter.unusedSimpArgs false

theorem cat_mod (op : Int) (h : Pl.cat op = 7) (h87 : op ≠ 87) (h83 : op ≠ 83) : op = 81 ∨ op = 82 ∨ op = 84 ∨ op = 85 ∨ op = 86 ∨ op = 88 := by
  unfold Pl.cat at h
  repeat' split at h
  all_goals omega
set_option maxRecDepth 100000 in
set_option maxHeartbeats 8000000 in
theorem rmodF_most (P : Nat → Prop) (t : Syn) (w : World) (v : Value) (hP : ∀ b, P b → b < w.heap.size) (ht : SynV w P t v) (hc : Pl.cat t.op = 7) (h87 : t.op ≠ 87) (h83 : t.op ≠ 83) :
    Calls Try.prog 85 #[v] w fun e w' => e = .returned (.bool (Pl.modF t)) ∧ Below w.heap.size w w' := by
  have hop := cat_mod _ hc h87 h83
  have hlm : t.l.length ≤ maxLen := by
    obtain ⟨_, nv, lv, _, _, a, c, _, h1, h2, _⟩ := (synV_iff _ _ _ _).1 ht
    omega
  unfold maxLen at hlm
  have HT := Lib.hid ht
  rw [synV_iff] at ht
  obtain ⟨hs, nv, lv, rfl, hn, hl⟩ := ht
  have HNM := Lib.hid hn
  obtain ⟨na, nc, rfl, hnm⟩ := hn.form
  obtain ⟨la, lc, rfl, hlmm⟩ := hl.form
  have hb0 : Below w.heap.size w (w.alloc (.cells #[.int .i64 t.op, .int .i64 t.n, .string t.s, .slice na t.names.length nc, .slice la t.l.length lc] 25)) := (Below.refl _ _).alloc (Nat.le_refl _) _
  have bx := blk_new w #[.int .i64 t.op, .int .i64 t.n, .string t.s, .slice na t.names.length nc, .slice la t.l.length lc] 25
  have hsame := Same.of_below hb0 hP
  have HND := Lib.hid (node_of P t (w.alloc (.cells #[.int .i64 t.op, .int .i64 t.n, .string t.s, .slice na t.names.length nc, .slice la t.l.length lc] 25)) 0 _ (fun b h => Nat.lt_of_lt_of_le (hP b h) hb0.size) (HT.out.keep hsame))
  have HPA := Lib.hid (fun W low (h : Below (w.alloc (.cells #[.int .i64 t.op, .int .i64 t.n, .string t.s, .slice na t.names.length nc, .slice la t.l.length lc] 25)).heap.size (w.alloc (.cells #[.int .i64 t.op, .int .i64 t.n, .string t.s, .slice na t.names.length nc, .slice la t.l.length lc] 25)) W) => rpath_any low P _ t.names W (HNM.out.keep (Same.of_below (belowStep h hb0) hP)) (fun b hb => Nat.lt_of_lt_of_le (hP b hb) (belowStep h hb0).size))
  have HBX := Lib.hid bx
  have HB0 := Lib.hid hb0
  have HAL := Lib.hid (fun W h => show Calls Try.prog 96 #[_, .int .i64 0, .int .i64 (t.l.length : Int), .int .i64 4] W fun e w' => e = .returned (.bool (Pl.rall t.l 4)) ∧ Below W.heap.size W w' from (HND.out.all W 0 t.l.length 4 h (Nat.zero_le _) (Nat.le_refl _)).mono fun e w' ⟨h1, h2⟩ => ⟨by rw [h1, rallR_all], h2⟩)
  have HBA := Lib.hid HND.out.bare
  have HUP := Lib.hid HND.out.up
  have HX2 := Lib.hid HND.out.ex2
  obtain ⟨y0, y1, y2, y3, y4⟩ := box_cells bx
  clear h87 h83 hs hn hl hnm hlmm hc bx hsame hb0 hP HND
  have HQ := Lib.hid (fun W (hW : Below (w.alloc (.cells #[.int .i64 t.op, .int .i64 t.n, .string t.s, .slice na t.names.length nc, .slice la t.l.length lc] 25)).heap.size (w.alloc (.cells #[.int .i64 t.op, .int .i64 t.n, .string t.s, .slice na t.names.length nc, .slice la t.l.length lc] 25)) W) => box_cells (Blk.of_eq HBX.out (hW.block _ (Blk.lt HBX.out))))
  have hbn0 := Below.refl (w.alloc (.cells #[.int .i64 t.op, .int .i64 t.n, .string t.s, .slice na t.names.length nc, .slice la t.l.length lc] 25)).heap.size (w.alloc (.cells #[.int .i64 t.op, .int .i64 t.n, .string t.s, .slice na t.names.length nc, .slice la t.l.length lc] 25))
  rcases hop with hop | hop | hop | hop | hop | hop
  · obtain ⟨op, nn, ss, mm, ll⟩ := t
    dsimp only at hop
    subst hop
    dsimp only at *
    have HE := Lib.hid (show Pl.modF ⟨81, nn, ss, mm, ll⟩ = _ by unfold Pl.modF; rw [if_pos (by simp)])
    dsimp only at HE
    (try rw [nat_z] at HE)
    go_enter Try.func85, Try.ntmps85
    go_wp2_with fail
    generalize w.alloc (.cells #[.int .i64 81, .int .i64 nn, .string ss, .slice na mm.length nc, .slice la ll.length lc] 25) = w0 at *
    go_wp2_with (first
      | (go_at_call 93; refine (HBA.out _ _ _ _ (by assumption)).mono ?_; rintro e wn ⟨rfl, hbn⟩; have hbn2 := belowStep hbn (show Below w0.heap.size w0 _ by assumption); obtain ⟨z0, z1, z2, z3, z4⟩ := HQ.out _ hbn2)
      | (go_at_call 101; refine (HUP.out _).mono ?_; rintro e wn ⟨rfl, rfl⟩)
      | (go_at_call 95; refine (HPA.out _ _ (by assumption)).mono ?_; rintro e wn ⟨rfl, hbn⟩; have hbn2 := belowStep hbn (show Below w0.heap.size w0 _ by assumption); obtain ⟨z0, z1, z2, z3, z4⟩ := HQ.out _ hbn2)
      | (go_at_call 96; refine (HAL.out _ (by assumption)).mono ?_; rintro e wn ⟨rfl, hbn⟩; have hbn2 := belowStep hbn (show Below w0.heap.size w0 _ by assumption); obtain ⟨z0, z1, z2, z3, z4⟩ := HQ.out _ hbn2)
      | (go_at_call 97; refine (HX2.out _ _ _ _ (by assumption)).mono ?_; rintro e wn ⟨rfl, hbn⟩; have hbn2 := belowStep hbn (show Below w0.heap.size w0 _ by assumption); obtain ⟨z0, z1, z2, z3, z4⟩ := HQ.out _ hbn2))
    all_goals
      go_ret
      refine ⟨ret_bool ?_, belowStep (show Below w0.heap.size w0 _ by assumption) HB0.out⟩
      rw [HE.out]
      first | rfl | (simp_all; done) | (simp_all; intros; omega)
  · obtain ⟨op, nn, ss, mm, ll⟩ := t
    dsimp only at hop
    subst hop
    dsimp only at *
    have HE := Lib.hid (show Pl.modF ⟨82, nn, ss, mm, ll⟩ = _ by unfold Pl.modF; rw [if_neg (by simp), if_pos (by simp)])
    dsimp only at HE
    (try rw [nat_z] at HE)
    go_enter Try.func85, Try.ntmps85
    go_wp2_with fail
    generalize w.alloc (.cells #[.int .i64 82, .int .i64 nn, .string ss, .slice na mm.length nc, .slice la ll.length lc] 25) = w0 at *
    go_wp2_with (first
      | (go_at_call 93; refine (HBA.out _ _ _ _ (by assumption)).mono ?_; rintro e wn ⟨rfl, hbn⟩; have hbn2 := belowStep hbn (show Below w0.heap.size w0 _ by assumption); obtain ⟨z0, z1, z2, z3, z4⟩ := HQ.out _ hbn2)
      | (go_at_call 101; refine (HUP.out _).mono ?_; rintro e wn ⟨rfl, rfl⟩)
      | (go_at_call 95; refine (HPA.out _ _ (by assumption)).mono ?_; rintro e wn ⟨rfl, hbn⟩; have hbn2 := belowStep hbn (show Below w0.heap.size w0 _ by assumption); obtain ⟨z0, z1, z2, z3, z4⟩ := HQ.out _ hbn2)
      | (go_at_call 96; refine (HAL.out _ (by assumption)).mono ?_; rintro e wn ⟨rfl, hbn⟩; have hbn2 := belowStep hbn (show Below w0.heap.size w0 _ by assumption); obtain ⟨z0, z1, z2, z3, z4⟩ := HQ.out _ hbn2)
      | (go_at_call 97; refine (HX2.out _ _ _ _ (by assumption)).mono ?_; rintro e wn ⟨rfl, hbn⟩; have hbn2 := belowStep hbn (show Below w0.heap.size w0 _ by assumption); obtain ⟨z0, z1, z2, z3, z4⟩ := HQ.out _ hbn2))
    all_goals
      go_ret
      refine ⟨ret_bool ?_, belowStep (show Below w0.heap.size w0 _ by assumption) HB0.out⟩
      rw [HE.out]
      first | rfl | (simp_all; done) | (simp_all; intros; omega)
  · obtain ⟨op, nn, ss, mm, ll⟩ := t
    dsimp only at hop
    subst hop
    dsimp only at *
    have HE := Lib.hid (show Pl.modF ⟨84, nn, ss, mm, ll⟩ = _ by unfold Pl.modF; rw [if_neg (by simp), if_neg (by simp), if_neg (by simp), if_pos (by simp)])
    dsimp only at HE
    (try rw [nat_z] at HE)
    go_enter Try.func85, Try.ntmps85
    go_wp2_with fail
    generalize w.alloc (.cells #[.int .i64 84, .int .i64 nn, .string ss, .slice na mm.length nc, .slice la ll.length lc] 25) = w0 at *
    go_wp2_with (first
      | (go_at_call 93; refine (HBA.out _ _ _ _ (by assumption)).mono ?_; rintro e wn ⟨rfl, hbn⟩; have hbn2 := belowStep hbn (show Below w0.heap.size w0 _ by assumption); obtain ⟨z0, z1, z2, z3, z4⟩ := HQ.out _ hbn2)
      | (go_at_call 101; refine (HUP.out _).mono ?_; rintro e wn ⟨rfl, rfl⟩)
      | (go_at_call 95; refine (HPA.out _ _ (by assumption)).mono ?_; rintro e wn ⟨rfl, hbn⟩; have hbn2 := belowStep hbn (show Below w0.heap.size w0 _ by assumption); obtain ⟨z0, z1, z2, z3, z4⟩ := HQ.out _ hbn2)
      | (go_at_call 96; refine (HAL.out _ (by assumption)).mono ?_; rintro e wn ⟨rfl, hbn⟩; have hbn2 := belowStep hbn (show Below w0.heap.size w0 _ by assumption); obtain ⟨z0, z1, z2, z3, z4⟩ := HQ.out _ hbn2)
      | (go_at_call 97; refine (HX2.out _ _ _ _ (by assumption)).mono ?_; rintro e wn ⟨rfl, hbn⟩; have hbn2 := belowStep hbn (show Below w0.heap.size w0 _ by assumption); obtain ⟨z0, z1, z2, z3, z4⟩ := HQ.out _ hbn2))
    all_goals
      go_ret
      refine ⟨ret_bool ?_, belowStep (show Below w0.heap.size w0 _ by assumption) HB0.out⟩
      rw [HE.out]
      first | rfl | (simp_all; done) | (simp_all; intros; omega)
  · obtain ⟨op, nn, ss, mm, ll⟩ := t
    dsimp only at hop
    subst hop
    dsimp only at *
    have HE := Lib.hid (show Pl.modF ⟨85, nn, ss, mm, ll⟩ = _ by unfold Pl.modF; rw [if_neg (by simp), if_neg (by simp), if_neg (by simp), if_neg (by simp), if_pos (by simp)])
    dsimp only at HE
    (try rw [nat_z] at HE)
    go_enter Try.func85, Try.ntmps85
    go_wp2_with fail
    generalize w.alloc (.cells #[.int .i64 85, .int .i64 nn, .string ss, .slice na mm.length nc, .slice la ll.length lc] 25) = w0 at *
    go_wp2_with (first
      | (go_at_call 93; refine (HBA.out _ _ _ _ (by assumption)).mono ?_; rintro e wn ⟨rfl, hbn⟩; have hbn2 := belowStep hbn (show Below w0.heap.size w0 _ by assumption); obtain ⟨z0, z1, z2, z3, z4⟩ := HQ.out _ hbn2)
      | (go_at_call 101; refine (HUP.out _).mono ?_; rintro e wn ⟨rfl, rfl⟩)
      | (go_at_call 95; refine (HPA.out _ _ (by assumption)).mono ?_; rintro e wn ⟨rfl, hbn⟩; have hbn2 := belowStep hbn (show Below w0.heap.size w0 _ by assumption); obtain ⟨z0, z1, z2, z3, z4⟩ := HQ.out _ hbn2)
      | (go_at_call 96; refine (HAL.out _ (by assumption)).mono ?_; rintro e wn ⟨rfl, hbn⟩; have hbn2 := belowStep hbn (show Below w0.heap.size w0 _ by assumption); obtain ⟨z0, z1, z2, z3, z4⟩ := HQ.out _ hbn2)
      | (go_at_call 97; refine (HX2.out _ _ _ _ (by assumption)).mono ?_; rintro e wn ⟨rfl, hbn⟩; have hbn2 := belowStep hbn (show Below w0.heap.size w0 _ by assumption); obtain ⟨z0, z1, z2, z3, z4⟩ := HQ.out _ hbn2))
    all_goals
      go_ret
      refine ⟨ret_bool ?_, belowStep (show Below w0.heap.size w0 _ by assumption) HB0.out⟩
      rw [HE.out]
      first | rfl | (simp_all; done) | (simp_all; intros; omega)
  · obtain ⟨op, nn, ss, mm, ll⟩ := t
    dsimp only at hop
    subst hop
    dsimp only at *
    have HE := Lib.hid (show Pl.modF ⟨86, nn, ss, mm, ll⟩ = _ by unfold Pl.modF; rw [if_neg (by simp), if_neg (by simp), if_neg (by simp), if_neg (by simp), if_pos (by simp)])
    dsimp only at HE
    (try rw [nat_z] at HE)
    go_enter Try.func85, Try.ntmps85
    go_wp2_with fail
    generalize w.alloc (.cells #[.int .i64 86, .int .i64 nn, .string ss, .slice na mm.length nc, .slice la ll.length lc] 25) = w0 at *
    go_wp2_with (first
      | (go_at_call 93; refine (HBA.out _ _ _ _ (by assumption)).mono ?_; rintro e wn ⟨rfl, hbn⟩; have hbn2 := belowStep hbn (show Below w0.heap.size w0 _ by assumption); obtain ⟨z0, z1, z2, z3, z4⟩ := HQ.out _ hbn2)
      | (go_at_call 101; refine (HUP.out _).mono ?_; rintro e wn ⟨rfl, rfl⟩)
      | (go_at_call 95; refine (HPA.out _ _ (by assumption)).mono ?_; rintro e wn ⟨rfl, hbn⟩; have hbn2 := belowStep hbn (show Below w0.heap.size w0 _ by assumption); obtain ⟨z0, z1, z2, z3, z4⟩ := HQ.out _ hbn2)
      | (go_at_call 96; refine (HAL.out _ (by assumption)).mono ?_; rintro e wn ⟨rfl, hbn⟩; have hbn2 := belowStep hbn (show Below w0.heap.size w0 _ by assumption); obtain ⟨z0, z1, z2, z3, z4⟩ := HQ.out _ hbn2)
      | (go_at_call 97; refine (HX2.out _ _ _ _ (by assumption)).mono ?_; rintro e wn ⟨rfl, hbn⟩; have hbn2 := belowStep hbn (show Below w0.heap.size w0 _ by assumption); obtain ⟨z0, z1, z2, z3, z4⟩ := HQ.out _ hbn2))
    all_goals
      go_ret
      refine ⟨ret_bool ?_, belowStep (show Below w0.heap.size w0 _ by assumption) HB0.out⟩
      rw [HE.out]
      first | rfl | (simp_all; done) | (simp_all; intros; omega)
  · obtain ⟨op, nn, ss, mm, ll⟩ := t
    dsimp only at hop
    subst hop
    dsimp only at *
    have HE := Lib.hid (show Pl.modF ⟨88, nn, ss, mm, ll⟩ = _ by unfold Pl.modF; rw [if_neg (by simp), if_neg (by simp), if_neg (by simp), if_neg (by simp), if_neg (by simp), if_neg (by simp)])
    dsimp only at HE
    (try rw [nat_z] at HE)
    go_enter Try.func85, Try.ntmps85
    go_wp2_with fail
    generalize w.alloc (.cells #[.int .i64 88, .int .i64 nn, .string ss, .slice na mm.length nc, .slice la ll.length lc] 25) = w0 at *
    go_wp2_with (first
      | (go_at_call 93; refine (HBA.out _ _ _ _ (by assumption)).mono ?_; rintro e wn ⟨rfl, hbn⟩; have hbn2 := belowStep hbn (show Below w0.heap.size w0 _ by assumption); obtain ⟨z0, z1, z2, z3, z4⟩ := HQ.out _ hbn2)
      | (go_at_call 101; refine (HUP.out _).mono ?_; rintro e wn ⟨rfl, rfl⟩)
      | (go_at_call 95; refine (HPA.out _ _ (by assumption)).mono ?_; rintro e wn ⟨rfl, hbn⟩; have hbn2 := belowStep hbn (show Below w0.heap.size w0 _ by assumption); obtain ⟨z0, z1, z2, z3, z4⟩ := HQ.out _ hbn2)
      | (go_at_call 96; refine (HAL.out _ (by assumption)).mono ?_; rintro e wn ⟨rfl, hbn⟩; have hbn2 := belowStep hbn (show Below w0.heap.size w0 _ by assumption); obtain ⟨z0, z1, z2, z3, z4⟩ := HQ.out _ hbn2)
      | (go_at_call 97; refine (HX2.out _ _ _ _ (by assumption)).mono ?_; rintro e wn ⟨rfl, hbn⟩; have hbn2 := belowStep hbn (show Below w0.heap.size w0 _ by assumption); obtain ⟨z0, z1, z2, z3, z4⟩ := HQ.out _ hbn2))
    all_goals
      go_ret
      refine ⟨ret_bool ?_, belowStep (show Below w0.heap.size w0 _ by assumption) HB0.out⟩
      rw [HE.out]
      first | rfl | (simp_all; done) | (simp_all; intros; omega)
end Go.Proofs.Ytkhpihacjhhklaa

/-
  Walks of layer 3: the reference's forms of modules.
-/
namespace Go.Proofs.Ytkhpihacjhhklaa
open Go Go.RowKit
open Pl (Syn)
set_option linter.unusedSimpArgs false

set_option maxRecDepth 100000 in
set_option maxHeartbeats 8000000 in
theorem rmodF_83 (P : Nat → Prop) (t : Syn) (w : World) (v : Value) (hP : ∀ b, P b → b < w.heap.size) (ht : SynV w P t v) (hop : t.op = 83) :
    Calls Try.prog 85 #[v] w fun e w' => e = .returned (.bool (Pl.modF t)) ∧ Below w.heap.size w w' := by
  have hlm : t.l.length ≤ maxLen := by
    obtain ⟨_, nv, lv, _, _, a, c, _, h1, h2, _⟩ := (synV_iff _ _ _ _).1 ht
    omega
  unfold maxLen at hlm
  have HT := Lib.hid ht
  rw [synV_iff] at ht
  obtain ⟨hs, nv, lv, rfl, hn, hl⟩ := ht
  have HNM := Lib.hid hn
  obtain ⟨na, nc, rfl, hnm⟩ := hn.form
  obtain ⟨la, lc, rfl, hlmm⟩ := hl.form
  have hb0 : Below w.heap.size w (w.alloc (.cells #[.int .i64 t.op, .int .i64 t.n, .string t.s, .slice na t.names.length nc, .slice la t.l.length lc] 25)) := (Below.refl _ _).alloc (Nat.le_refl _) _
  have bx := blk_new w #[.int .i64 t.op, .int .i64 t.n, .string t.s, .slice na t.names.length nc, .slice la t.l.length lc] 25
  have hsame := Same.of_below hb0 hP
  have HND := Lib.hid (node_of P t (w.alloc (.cells #[.int .i64 t.op, .int .i64 t.n, .string t.s, .slice na t.names.length nc, .slice la t.l.length lc] 25)) 0 _ (fun b h => Nat.lt_of_lt_of_le (hP b h) hb0.size) (HT.out.keep hsame))
  have HPA := Lib.hid (fun W low (h : Below (w.alloc (.cells #[.int .i64 t.op, .int .i64 t.n, .string t.s, .slice na t.names.length nc, .slice la t.l.length lc] 25)).heap.size (w.alloc (.cells #[.int .i64 t.op, .int .i64 t.n, .string t.s, .slice na t.names.length nc, .slice la t.l.length lc] 25)) W) => rpath_any low P _ t.names W (HNM.out.keep (Same.of_below (belowStep h hb0) hP)) (fun b hb => Nat.lt_of_lt_of_le (hP b hb) (belowStep h hb0).size))
  have HBX := Lib.hid bx
  have HB0 := Lib.hid hb0
  have HAL := Lib.hid (fun W h => show Calls Try.prog 96 #[_, .int .i64 0, .int .i64 (t.l.length : Int), .int .i64 4] W fun e w' => e = .returned (.bool (Pl.rall t.l 4)) ∧ Below W.heap.size W w' from (HND.out.all W 0 t.l.length 4 h (Nat.zero_le _) (Nat.le_refl _)).mono fun e w' ⟨h1, h2⟩ => ⟨by rw [h1, rallR_all], h2⟩)
  have HBA := Lib.hid HND.out.bare
  have HUP := Lib.hid HND.out.up
  have HX2 := Lib.hid HND.out.ex2
  obtain ⟨y0, y1, y2, y3, y4⟩ := box_cells bx
  clear hs hn hl hnm hlmm bx hsame hb0 hP HND
  have HQ := Lib.hid (fun W (hW : Below (w.alloc (.cells #[.int .i64 t.op, .int .i64 t.n, .string t.s, .slice na t.names.length nc, .slice la t.l.length lc] 25)).heap.size (w.alloc (.cells #[.int .i64 t.op, .int .i64 t.n, .string t.s, .slice na t.names.length nc, .slice la t.l.length lc] 25)) W) => box_cells (Blk.of_eq HBX.out (hW.block _ (Blk.lt HBX.out))))
  have hbn0 := Below.refl (w.alloc (.cells #[.int .i64 t.op, .int .i64 t.n, .string t.s, .slice na t.names.length nc, .slice la t.l.length lc] 25)).heap.size (w.alloc (.cells #[.int .i64 t.op, .int .i64 t.n, .string t.s, .slice na t.names.length nc, .slice la t.l.length lc] 25))
  obtain ⟨op, nn, ss, mm, ll⟩ := t
  dsimp only at hop
  subst hop
  dsimp only at *
  have HE := Lib.hid (show Pl.modF ⟨83, nn, ss, mm, ll⟩ = _ by unfold Pl.modF; rw [if_neg (by simp), if_neg (by simp), if_pos (by simp)])
  dsimp only at HE
  by_cases hn0 : nn = 0
  · subst hn0
    rw [decide_eq_true (Or.inl rfl)] at HE
    go_enter Try.func85, Try.ntmps85
    go_wp2_with fail
    generalize w.alloc (.cells #[.int .i64 83, .int .i64 0, .string ss, .slice na mm.length nc, .slice la ll.length lc] 25) = w0 at *
    go_wp2_with (first
      | (go_at_call 93; refine (HBA.out _ _ _ _ (by assumption)).mono ?_; rintro e wn ⟨rfl, hbn⟩; have hbn2 := belowStep hbn (show Below w0.heap.size w0 _ by assumption); obtain ⟨z0, z1, z2, z3, z4⟩ := HQ.out _ hbn2)
      | (go_at_call 101; refine (HUP.out _).mono ?_; rintro e wn ⟨rfl, rfl⟩)
      | (go_at_call 95; refine (HPA.out _ _ (by assumption)).mono ?_; rintro e wn ⟨rfl, hbn⟩; have hbn2 := belowStep hbn (show Below w0.heap.size w0 _ by assumption); obtain ⟨z0, z1, z2, z3, z4⟩ := HQ.out _ hbn2)
      | (go_at_call 96; refine (HAL.out _ (by assumption)).mono ?_; rintro e wn ⟨rfl, hbn⟩; have hbn2 := belowStep hbn (show Below w0.heap.size w0 _ by assumption); obtain ⟨z0, z1, z2, z3, z4⟩ := HQ.out _ hbn2)
      | (go_at_call 97; refine (HX2.out _ _ _ _ (by assumption)).mono ?_; rintro e wn ⟨rfl, hbn⟩; have hbn2 := belowStep hbn (show Below w0.heap.size w0 _ by assumption); obtain ⟨z0, z1, z2, z3, z4⟩ := HQ.out _ hbn2))
    all_goals
      go_ret
      refine ⟨ret_bool ?_, belowStep (show Below w0.heap.size w0 _ by assumption) HB0.out⟩
      rw [HE.out]
      first | rfl | (simp_all; done) | (simp_all; intros; omega)

  by_cases hn1 : nn = 1
  · subst hn1
    rw [decide_eq_true (Or.inr rfl)] at HE
    go_enter Try.func85, Try.ntmps85
    go_wp2_with fail
    generalize w.alloc (.cells #[.int .i64 83, .int .i64 1, .string ss, .slice na mm.length nc, .slice la ll.length lc] 25) = w0 at *
    go_wp2_with (first
      | (go_at_call 93; refine (HBA.out _ _ _ _ (by assumption)).mono ?_; rintro e wn ⟨rfl, hbn⟩; have hbn2 := belowStep hbn (show Below w0.heap.size w0 _ by assumption); obtain ⟨z0, z1, z2, z3, z4⟩ := HQ.out _ hbn2)
      | (go_at_call 101; refine (HUP.out _).mono ?_; rintro e wn ⟨rfl, rfl⟩)
      | (go_at_call 95; refine (HPA.out _ _ (by assumption)).mono ?_; rintro e wn ⟨rfl, hbn⟩; have hbn2 := belowStep hbn (show Below w0.heap.size w0 _ by assumption); obtain ⟨z0, z1, z2, z3, z4⟩ := HQ.out _ hbn2)
      | (go_at_call 96; refine (HAL.out _ (by assumption)).mono ?_; rintro e wn ⟨rfl, hbn⟩; have hbn2 := belowStep hbn (show Below w0.heap.size w0 _ by assumption); obtain ⟨z0, z1, z2, z3, z4⟩ := HQ.out _ hbn2)
      | (go_at_call 97; refine (HX2.out _ _ _ _ (by assumption)).mono ?_; rintro e wn ⟨rfl, hbn⟩; have hbn2 := belowStep hbn (show Below w0.heap.size w0 _ by assumption); obtain ⟨z0, z1, z2, z3, z4⟩ := HQ.out _ hbn2))
    all_goals
      go_ret
      refine ⟨ret_bool ?_, belowStep (show Below w0.heap.size w0 _ by assumption) HB0.out⟩
      rw [HE.out]
      first | rfl | (simp_all; done) | (simp_all; intros; omega)

  · rw [decide_eq_false (not_or.2 ⟨hn0, hn1⟩)] at HE
    have q0 : (nn == 0) = false := beq_eq_false_iff_ne.2 hn0
    have q1 : (nn == 1) = false := beq_eq_false_iff_ne.2 hn1
    clear hn0 hn1
    go_enter Try.func85, Try.ntmps85
    go_wp2_with fail
    generalize w.alloc (.cells #[.int .i64 83, .int .i64 nn, .string ss, .slice na mm.length nc, .slice la ll.length lc] 25) = w0 at *
    go_wp2_with (first
      | (go_at_call 93; refine (HBA.out _ _ _ _ (by assumption)).mono ?_; rintro e wn ⟨rfl, hbn⟩; have hbn2 := belowStep hbn (show Below w0.heap.size w0 _ by assumption); obtain ⟨z0, z1, z2, z3, z4⟩ := HQ.out _ hbn2)
      | (go_at_call 101; refine (HUP.out _).mono ?_; rintro e wn ⟨rfl, rfl⟩)
      | (go_at_call 95; refine (HPA.out _ _ (by assumption)).mono ?_; rintro e wn ⟨rfl, hbn⟩; have hbn2 := belowStep hbn (show Below w0.heap.size w0 _ by assumption); obtain ⟨z0, z1, z2, z3, z4⟩ := HQ.out _ hbn2)
      | (go_at_call 96; refine (HAL.out _ (by assumption)).mono ?_; rintro e wn ⟨rfl, hbn⟩; have hbn2 := belowStep hbn (show Below w0.heap.size w0 _ by assumption); obtain ⟨z0, z1, z2, z3, z4⟩ := HQ.out _ hbn2)
      | (go_at_call 97; refine (HX2.out _ _ _ _ (by assumption)).mono ?_; rintro e wn ⟨rfl, hbn⟩; have hbn2 := belowStep hbn (show Below w0.heap.size w0 _ by assumption); obtain ⟨z0, z1, z2, z3, z4⟩ := HQ.out _ hbn2))
    all_goals
      go_ret
      refine ⟨ret_bool ?_, belowStep (show Below w0.heap.size w0 _ by assumption) HB0.out⟩
      rw [HE.out]
      first | rfl | (simp_all; done) | (simp_all; intros; omega)

end Go.Proofs.Ytkhpihacjhhklaa

/-
  Walks of layer 3: the reference's forms of modules.
-/
namespace Go.Proofs.Ytkhpihacjhhklaa
open Go Go.RowKit
open Pl (Syn)
set_option linter.unusedSimpArgs false

set_option maxRecDepth 100000 in
set_option maxHeartbeats 8000000 in
theorem rmodF_87 (P : Nat → Prop) (t : Syn) (w : World) (v : Value) (hP : ∀ b, P b → b < w.heap.size) (ht : SynV w P t v) (hop : t.op = 87) :
    Calls Try.prog 85 #[v] w fun e w' => e = .returned (.bool (Pl.modF t)) ∧ Below w.heap.size w w' := by
  have hlm : t.l.length ≤ maxLen := by
    obtain ⟨_, nv, lv, _, _, a, c, _, h1, h2, _⟩ := (synV_iff _ _ _ _).1 ht
    omega
  unfold maxLen at hlm
  have HT := Lib.hid ht
  rw [synV_iff] at ht
  obtain ⟨hs, nv, lv, rfl, hn, hl⟩ := ht
  have HNM := Lib.hid hn
  obtain ⟨na, nc, rfl, hnm⟩ := hn.form
  obtain ⟨la, lc, rfl, hlmm⟩ := hl.form
  have hb0 : Below w.heap.size w (w.alloc (.cells #[.int .i64 t.op, .int .i64 t.n, .string t.s, .slice na t.names.length nc, .slice la t.l.length lc] 25)) := (Below.refl _ _).alloc (Nat.le_refl _) _
  have bx := blk_new w #[.int .i64 t.op, .int .i64 t.n, .string t.s, .slice na t.names.length nc, .slice la t.l.length lc] 25
  have hsame := Same.of_below hb0 hP
  have HND := Lib.hid (node_of P t (w.alloc (.cells #[.int .i64 t.op, .int .i64 t.n, .string t.s, .slice na t.names.length nc, .slice la t.l.length lc] 25)) 0 _ (fun b h => Nat.lt_of_lt_of_le (hP b h) hb0.size) (HT.out.keep hsame))
  have HPA := Lib.hid (fun W low (h : Below (w.alloc (.cells #[.int .i64 t.op, .int .i64 t.n, .string t.s, .slice na t.names.length nc, .slice la t.l.length lc] 25)).heap.size (w.alloc (.cells #[.int .i64 t.op, .int .i64 t.n, .string t.s, .slice na t.names.length nc, .slice la t.l.length lc] 25)) W) => rpath_any low P _ t.names W (HNM.out.keep (Same.of_below (belowStep h hb0) hP)) (fun b hb => Nat.lt_of_lt_of_le (hP b hb) (belowStep h hb0).size))
  have HBX := Lib.hid bx
  have HB0 := Lib.hid hb0
  have HALL := Lib.hid HND.out.all
  have HBA := Lib.hid HND.out.bare
  have HUP := Lib.hid HND.out.up
  have HX2 := Lib.hid HND.out.ex2
  obtain ⟨y0, y1, y2, y3, y4⟩ := box_cells bx
  clear hs hn hl hnm hlmm bx hsame hb0 hP HND
  have HQ := Lib.hid (fun W (hW : Below (w.alloc (.cells #[.int .i64 t.op, .int .i64 t.n, .string t.s, .slice na t.names.length nc, .slice la t.l.length lc] 25)).heap.size (w.alloc (.cells #[.int .i64 t.op, .int .i64 t.n, .string t.s, .slice na t.names.length nc, .slice la t.l.length lc] 25)) W) => box_cells (Blk.of_eq HBX.out (hW.block _ (Blk.lt HBX.out))))
  have hbn0 := Below.refl (w.alloc (.cells #[.int .i64 t.op, .int .i64 t.n, .string t.s, .slice na t.names.length nc, .slice la t.l.length lc] 25)).heap.size (w.alloc (.cells #[.int .i64 t.op, .int .i64 t.n, .string t.s, .slice na t.names.length nc, .slice la t.l.length lc] 25))
  obtain ⟨op, nn, ss, mm, ll⟩ := t
  dsimp only at hop
  subst hop
  dsimp only at *
  have HE := Lib.hid (show Pl.modF ⟨87, nn, ss, mm, ll⟩ = _ by unfold Pl.modF; rw [if_neg (by simp), if_neg (by simp), if_neg (by simp), if_neg (by simp), if_neg (by simp), if_pos (by simp)])
  dsimp only at HE
  by_cases hn0 : ll.length = 0
  · rw [decide_eq_false (show ¬ 1 ≤ ll.length by omega)] at HE
    rw [Bool.and_false, Bool.false_and, Bool.false_and] at HE
    generalize ll.length = ln at *
    subst hn0
    go_enter Try.func85, Try.ntmps85
    go_wp2_with fail
    generalize w.alloc (.cells #[.int .i64 87, .int .i64 nn, .string ss, .slice na mm.length nc, .slice la 0 lc] 25) = w0 at *
    go_wp2_with (first
      | (go_at_call 93; refine (HBA.out _ _ _ _ (by assumption)).mono ?_; rintro e wn ⟨rfl, hbn⟩; have hbn2 := belowStep hbn (show Below w0.heap.size w0 _ by assumption); obtain ⟨z0, z1, z2, z3, z4⟩ := HQ.out _ hbn2)
      | (go_at_call 101; refine (HUP.out _).mono ?_; rintro e wn ⟨rfl, rfl⟩)
      | (go_at_call 95; refine (HPA.out _ _ (by assumption)).mono ?_; rintro e wn ⟨rfl, hbn⟩; have hbn2 := belowStep hbn (show Below w0.heap.size w0 _ by assumption); obtain ⟨z0, z1, z2, z3, z4⟩ := HQ.out _ hbn2)
      | (go_at_call 97; refine (HX2.out _ _ _ _ (by assumption)).mono ?_; rintro e wn ⟨rfl, hbn⟩; have hbn2 := belowStep hbn (show Below w0.heap.size w0 _ by assumption); obtain ⟨z0, z1, z2, z3, z4⟩ := HQ.out _ hbn2))
    all_goals
      go_ret
      refine ⟨ret_bool ?_, belowStep (show Below w0.heap.size w0 _ by assumption) HB0.out⟩
      first | (rw [HE.out]; done) | (rw [HE.out]; rfl) | (rw [HE.out]; simp_all; done) | (rw [HE.out]; simp_all; intros; omega)
  · rw [decide_eq_true (show 1 ≤ ll.length by omega)] at HE
    have q0 : (1 : Int) ≤ ll.length := by omega
    have e1 : ((ll.length - 1 : Nat) : Int) = (ll.length : Int) - 1 := by omega
    have r1 : Pl.rallR ll 0 (ll.length - 1) 4 = Pl.rall (ll.take (ll.length - 1)) 4 := by unfold Pl.rallR Pl.rall; rw [List.drop_zero]
    have r2 : Pl.rallR ll (ll.length - 1) ll.length 7 = Pl.rall (ll.drop (ll.length - 1)) 7 := by unfold Pl.rallR Pl.rall; rw [List.take_length]
    have HA1 := Lib.hid (fun W h => show Calls Try.prog 96 #[_, .int .i64 0, .int .i64 ((ll.length : Int) - 1), .int .i64 4] W fun e w' => e = .returned (.bool (Pl.rall (ll.take (ll.length - 1)) 4)) ∧ Below W.heap.size W w' from by
      have := HALL.out W 0 (ll.length - 1) 4 h (Nat.zero_le _) (Nat.sub_le _ _)
      rw [e1, r1] at this
      exact this)
    have HA2 := Lib.hid (fun W h => show Calls Try.prog 96 #[_, .int .i64 ((ll.length : Int) - 1), .int .i64 (ll.length : Int), .int .i64 7] W fun e w' => e = .returned (.bool (Pl.rall (ll.drop (ll.length - 1)) 7)) ∧ Below W.heap.size W w' from by
      have := HALL.out W (ll.length - 1) ll.length 7 h (Nat.sub_le _ _) (Nat.le_refl _)
      rw [e1, r2] at this
      exact this)
    clear e1 r1 r2 hn0 HALL
    rw [Bool.and_true] at HE
    generalize Pl.rall (ll.take (ll.length - 1)) 4 = ra at *
    generalize Pl.rall (ll.drop (ll.length - 1)) 7 = rb at *
    generalize ll.length = ln at *
    go_enter Try.func85, Try.ntmps85
    go_wp2_with fail
    generalize w.alloc (.cells #[.int .i64 87, .int .i64 nn, .string ss, .slice na mm.length nc, .slice la ln lc] 25) = w0 at *
    go_wp2_with (first
      | (go_at_call 93; refine (HBA.out _ _ _ _ (by assumption)).mono ?_; rintro e wn ⟨rfl, hbn⟩; have hbn2 := belowStep hbn (show Below w0.heap.size w0 _ by assumption); obtain ⟨z0, z1, z2, z3, z4⟩ := HQ.out _ hbn2)
      | (go_at_call 101; refine (HUP.out _).mono ?_; rintro e wn ⟨rfl, rfl⟩)
      | (go_at_call 95; refine (HPA.out _ _ (by assumption)).mono ?_; rintro e wn ⟨rfl, hbn⟩; have hbn2 := belowStep hbn (show Below w0.heap.size w0 _ by assumption); obtain ⟨z0, z1, z2, z3, z4⟩ := HQ.out _ hbn2)
      | (go_at_call 96; (first | (with_reducible refine (HA1.out _ (by assumption)).mono ?_) | (with_reducible refine (HA2.out _ (by assumption)).mono ?_)); rintro e wn ⟨rfl, hbn⟩; have hbn2 := belowStep hbn (show Below w0.heap.size w0 _ by assumption); obtain ⟨z0, z1, z2, z3, z4⟩ := HQ.out _ hbn2)
      | (go_at_call 97; refine (HX2.out _ _ _ _ (by assumption)).mono ?_; rintro e wn ⟨rfl, hbn⟩; have hbn2 := belowStep hbn (show Below w0.heap.size w0 _ by assumption); obtain ⟨z0, z1, z2, z3, z4⟩ := HQ.out _ hbn2))
    all_goals
      go_ret
      refine ⟨ret_bool ?_, belowStep (show Below w0.heap.size w0 _ by assumption) HB0.out⟩
      first | (rw [HE.out]; done) | (rw [HE.out]; rfl) | (rw [HE.out]; simp_all; done) | (rw [HE.out]; simp_all; intros; omega)
theorem rmodF_any (P : Nat → Prop) (t : Syn) (w : World) (v : Value) (hP : ∀ b, P b → b < w.heap.size) (ht : SynV w P t v) (hc : Pl.cat t.op = 7) :
    Calls Try.prog 85 #[v] w fun e w' => e = .returned (.bool (Pl.modF t)) ∧ Below w.heap.size w w' := by
  by_cases h87 : t.op = 87
  · exact rmodF_87 P t w v hP ht h87
  by_cases h83 : t.op = 83
  · exact rmodF_83 P t w v hP ht h83
  exact rmodF_most P t w v hP ht hc h87 h83
end Go.Proofs.Ytkhpihacjhhklaa
