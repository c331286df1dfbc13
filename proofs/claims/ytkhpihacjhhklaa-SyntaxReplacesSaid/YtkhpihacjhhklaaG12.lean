/-
  Walks and plain mathematics, several texts in one (Xk Xn Xo Xp).
-/
import Derived.Test.YtkhpihacjhhklaaG11
/-
  Walks of layer 3: the reference's forms of specifications and signatures.
-/
namespace Go.Proofs.Ytkhpihacjhhklaa
open Go Go.RowKit
open Pl (Syn)
set_option linter.unusedSimpArgs false

set_option maxRecDepth 100000 in
set_option maxHeartbeats 8000000 in
theorem rspecF_most (P : Nat → Prop) (t : Syn) (w : World) (v : Value) (hP : ∀ b, P b → b < w.heap.size) (ht : SynV w P t v) (hop : t.op = 61 ∨ t.op = 62 ∨ t.op = 63 ∨ t.op = 64 ∨ t.op = 65 ∨ t.op = 71 ∨ t.op = 72) :
    Calls Try.prog 84 #[v] w fun e w' => e = .returned (.bool (Pl.specF t)) ∧ Below w.heap.size w w' := by
  have hlm : t.l.length ≤ maxLen := by
    obtain ⟨_, nv, lv, _, _, a, c, _, h1, h2, _⟩ := (synV_iff _ _ _ _).1 ht
    omega
  have hnm9 : t.names.length ≤ maxLen := by
    obtain ⟨_, nv, lv, _, hn, _⟩ := (synV_iff _ _ _ _).1 ht
    obtain ⟨_, _, _, h⟩ := hn.form
    exact h
  unfold maxLen at hlm hnm9
  have HT := Lib.hid ht
  rw [synV_iff] at ht
  obtain ⟨hs, nv, lv, rfl, hn, hl⟩ := ht
  have HSZ := Lib.hid hs
  have HNM := Lib.hid hn
  have HLL := Lib.hid hl
  obtain ⟨na, nc, rfl, hnm⟩ := hn.form
  obtain ⟨la, lc, rfl, hlmm⟩ := hl.form
  have hb0 : Below w.heap.size w (w.alloc (.cells #[.int .i64 t.op, .int .i64 t.n, .string t.s, .slice na t.names.length nc, .slice la t.l.length lc] 25)) := (Below.refl _ _).alloc (Nat.le_refl _) _
  have bx := blk_new w #[.int .i64 t.op, .int .i64 t.n, .string t.s, .slice na t.names.length nc, .slice la t.l.length lc] 25
  have hsame := Same.of_below hb0 hP
  have HND := Lib.hid (node_of P t (w.alloc (.cells #[.int .i64 t.op, .int .i64 t.n, .string t.s, .slice na t.names.length nc, .slice la t.l.length lc] 25)) 0 _ (fun b h => Nat.lt_of_lt_of_le (hP b h) hb0.size) (HT.out.keep hsame))
  have HPA := Lib.hid (fun W low (h : Below (w.alloc (.cells #[.int .i64 t.op, .int .i64 t.n, .string t.s, .slice na t.names.length nc, .slice la t.l.length lc] 25)).heap.size (w.alloc (.cells #[.int .i64 t.op, .int .i64 t.n, .string t.s, .slice na t.names.length nc, .slice la t.l.length lc] 25)) W) => rpath_any low P _ t.names W (HNM.out.keep (Same.of_below (belowStep h hb0) hP)) (fun b hb => Nat.lt_of_lt_of_le (hP b hb) (belowStep h hb0).size))
  have HPR := Lib.hid (fun W (h : Below (w.alloc (.cells #[.int .i64 t.op, .int .i64 t.n, .string t.s, .slice na t.names.length nc, .slice la t.l.length lc] 25)).heap.size (w.alloc (.cells #[.int .i64 t.op, .int .i64 t.n, .string t.s, .slice na t.names.length nc, .slice la t.l.length lc] 25)) W) => rparams_any P _ t.names W (HNM.out.keep (Same.of_below (belowStep h hb0) hP)) (fun b hb => Nat.lt_of_lt_of_le (hP b hb) (belowStep h hb0).size))
  have HTX := Lib.hid (fun W => rtext_any t.s W HSZ.out)
  have HKL := Lib.hid (fun W (h : Below (w.alloc (.cells #[.int .i64 t.op, .int .i64 t.n, .string t.s, .slice na t.names.length nc, .slice la t.l.length lc] 25)).heap.size (w.alloc (.cells #[.int .i64 t.op, .int .i64 t.n, .string t.s, .slice na t.names.length nc, .slice la t.l.length lc] 25)) W) => HLL.out.keep (Same.of_below (belowStep h hb0) hP))
  have HKN := Lib.hid (fun W (h : Below (w.alloc (.cells #[.int .i64 t.op, .int .i64 t.n, .string t.s, .slice na t.names.length nc, .slice la t.l.length lc] 25)).heap.size (w.alloc (.cells #[.int .i64 t.op, .int .i64 t.n, .string t.s, .slice na t.names.length nc, .slice la t.l.length lc] 25)) W) => HNM.out.keep (Same.of_below (belowStep h hb0) hP))
  have HBX := Lib.hid bx
  have HB0 := Lib.hid hb0
  have HALL := Lib.hid HND.out.all
  have HAL := Lib.hid (fun W h => show Calls Try.prog 96 #[_, .int .i64 0, .int .i64 (t.l.length : Int), .int .i64 5] W fun e w' => e = .returned (.bool (Pl.rall t.l 5)) ∧ Below W.heap.size W w' from (HND.out.all W 0 t.l.length 5 h (Nat.zero_le _) (Nat.le_refl _)).mono fun e w' ⟨h1, h2⟩ => ⟨by rw [h1, rallR_all], h2⟩)
  have HBA := Lib.hid HND.out.bare
  have HLO := Lib.hid HND.out.low
  have HUP := Lib.hid HND.out.up
  have HX1 := Lib.hid HND.out.ex1
  have HX2 := Lib.hid HND.out.ex2
  have HX3 := Lib.hid HND.out.ex3
  obtain ⟨y0, y1, y2, y3, y4⟩ := box_cells bx
  clear hs hn hl hnm hlmm bx hsame hb0 hP HND HT
  have HQ := Lib.hid (fun W (hW : Below (w.alloc (.cells #[.int .i64 t.op, .int .i64 t.n, .string t.s, .slice na t.names.length nc, .slice la t.l.length lc] 25)).heap.size (w.alloc (.cells #[.int .i64 t.op, .int .i64 t.n, .string t.s, .slice na t.names.length nc, .slice la t.l.length lc] 25)) W) => box_cells (Blk.of_eq HBX.out (hW.block _ (Blk.lt HBX.out))))
  have hbn0 := Below.refl (w.alloc (.cells #[.int .i64 t.op, .int .i64 t.n, .string t.s, .slice na t.names.length nc, .slice la t.l.length lc] 25)).heap.size (w.alloc (.cells #[.int .i64 t.op, .int .i64 t.n, .string t.s, .slice na t.names.length nc, .slice la t.l.length lc] 25))
  rcases hop with hop | hop | hop | hop | hop | hop | hop
  · obtain ⟨op, nn, ss, mm, ll⟩ := t
    dsimp only at hop
    subst hop
    dsimp only at *
    have HE := Lib.hid (show Pl.specF ⟨61, nn, ss, mm, ll⟩ = _ by unfold Pl.specF; rw [if_pos (by simp)])
    dsimp only at HE
    go_enter Try.func84, Try.ntmps84
    go_wp2_with fail
    generalize w.alloc (.cells #[.int .i64 61, .int .i64 nn, .string ss, .slice na mm.length nc, .slice la ll.length lc] 25) = w0 at *
    go_wp2_with (first
      | (go_at_call 93; refine (HBA.out _ _ _ _ (by assumption)).mono ?_; rintro e wn ⟨rfl, hbn⟩; have hbn2 := belowStep hbn (show Below w0.heap.size w0 _ by assumption); obtain ⟨z0, z1, z2, z3, z4⟩ := HQ.out _ hbn2)
      | (go_at_call 98; refine (HLO.out _).mono ?_; rintro e wn ⟨rfl, hbn⟩; have hbn2 := belowStep hbn (show Below w0.heap.size w0 _ by assumption); obtain ⟨z0, z1, z2, z3, z4⟩ := HQ.out _ hbn2)
      | (go_at_call 97; refine (HX1.out _ _ _ (by assumption)).mono ?_; rintro e wn ⟨rfl, hbn⟩; have hbn2 := belowStep hbn (show Below w0.heap.size w0 _ by assumption); obtain ⟨z0, z1, z2, z3, z4⟩ := HQ.out _ hbn2))
    all_goals
      go_ret
      refine ⟨ret_bool ?_, belowStep (show Below w0.heap.size w0 _ by assumption) HB0.out⟩
      rw [HE.out]
      first | rfl | (simp_all; done) | (simp_all; intros; omega)
  · obtain ⟨op, nn, ss, mm, ll⟩ := t
    dsimp only at hop
    subst hop
    dsimp only at *
    have HE := Lib.hid (show Pl.specF ⟨62, nn, ss, mm, ll⟩ = _ by unfold Pl.specF; rw [if_neg (by simp), if_pos (by simp)])
    dsimp only at HE
    (try rw [nat_z] at HE)
    go_enter Try.func84, Try.ntmps84
    go_wp2_with fail
    generalize w.alloc (.cells #[.int .i64 62, .int .i64 nn, .string ss, .slice na mm.length nc, .slice la ll.length lc] 25) = w0 at *
    go_wp2_with (first
      | (go_at_call 93; refine (HBA.out _ _ _ _ (by assumption)).mono ?_; rintro e wn ⟨rfl, hbn⟩; have hbn2 := belowStep hbn (show Below w0.heap.size w0 _ by assumption); obtain ⟨z0, z1, z2, z3, z4⟩ := HQ.out _ hbn2)
      | (go_at_call 98; refine (HLO.out _).mono ?_; rintro e wn ⟨rfl, hbn⟩; have hbn2 := belowStep hbn (show Below w0.heap.size w0 _ by assumption); obtain ⟨z0, z1, z2, z3, z4⟩ := HQ.out _ hbn2)
      | (go_at_call 100; refine (HPR.out _ (by assumption)).mono ?_; rintro e wn ⟨rfl, hbn⟩; have hbn2 := belowStep hbn (show Below w0.heap.size w0 _ by assumption); obtain ⟨z0, z1, z2, z3, z4⟩ := HQ.out _ hbn2))
    all_goals
      go_ret
      refine ⟨ret_bool ?_, belowStep (show Below w0.heap.size w0 _ by assumption) HB0.out⟩
      rw [HE.out]
      first | rfl | (simp_all; done) | (simp_all; intros; omega)
  · obtain ⟨op, nn, ss, mm, ll⟩ := t
    dsimp only at hop
    subst hop
    dsimp only at *
    have HE := Lib.hid (show Pl.specF ⟨63, nn, ss, mm, ll⟩ = _ by unfold Pl.specF; rw [if_neg (by simp), if_neg (by simp), if_pos (by simp)])
    dsimp only at HE
    go_enter Try.func84, Try.ntmps84
    go_wp2_with fail
    generalize w.alloc (.cells #[.int .i64 63, .int .i64 nn, .string ss, .slice na mm.length nc, .slice la ll.length lc] 25) = w0 at *
    go_wp2_with (first
      | (go_at_call 93; refine (HBA.out _ _ _ _ (by assumption)).mono ?_; rintro e wn ⟨rfl, hbn⟩; have hbn2 := belowStep hbn (show Below w0.heap.size w0 _ by assumption); obtain ⟨z0, z1, z2, z3, z4⟩ := HQ.out _ hbn2)
      | (go_at_call 101; refine (HUP.out _).mono ?_; rintro e wn ⟨rfl, rfl⟩)
      | (go_at_call 97; refine (HX1.out _ _ _ (by assumption)).mono ?_; rintro e wn ⟨rfl, hbn⟩; have hbn2 := belowStep hbn (show Below w0.heap.size w0 _ by assumption); obtain ⟨z0, z1, z2, z3, z4⟩ := HQ.out _ hbn2))
    all_goals
      go_ret
      refine ⟨ret_bool ?_, belowStep (show Below w0.heap.size w0 _ by assumption) HB0.out⟩
      rw [HE.out]
      first | rfl | (simp_all; done) | (simp_all; intros; omega)
  · obtain ⟨op, nn, ss, mm, ll⟩ := t
    dsimp only at hop
    subst hop
    dsimp only at *
    have HE := Lib.hid (show Pl.specF ⟨64, nn, ss, mm, ll⟩ = _ by unfold Pl.specF; rw [if_neg (by simp), if_neg (by simp), if_pos (by simp)])
    dsimp only at HE
    go_enter Try.func84, Try.ntmps84
    go_wp2_with fail
    generalize w.alloc (.cells #[.int .i64 64, .int .i64 nn, .string ss, .slice na mm.length nc, .slice la ll.length lc] 25) = w0 at *
    go_wp2_with (first
      | (go_at_call 93; refine (HBA.out _ _ _ _ (by assumption)).mono ?_; rintro e wn ⟨rfl, hbn⟩; have hbn2 := belowStep hbn (show Below w0.heap.size w0 _ by assumption); obtain ⟨z0, z1, z2, z3, z4⟩ := HQ.out _ hbn2)
      | (go_at_call 101; refine (HUP.out _).mono ?_; rintro e wn ⟨rfl, rfl⟩)
      | (go_at_call 97; refine (HX1.out _ _ _ (by assumption)).mono ?_; rintro e wn ⟨rfl, hbn⟩; have hbn2 := belowStep hbn (show Below w0.heap.size w0 _ by assumption); obtain ⟨z0, z1, z2, z3, z4⟩ := HQ.out _ hbn2))
    all_goals
      go_ret
      refine ⟨ret_bool ?_, belowStep (show Below w0.heap.size w0 _ by assumption) HB0.out⟩
      rw [HE.out]
      first | rfl | (simp_all; done) | (simp_all; intros; omega)
  · obtain ⟨op, nn, ss, mm, ll⟩ := t
    dsimp only at hop
    subst hop
    dsimp only at *
    have HE := Lib.hid (show Pl.specF ⟨65, nn, ss, mm, ll⟩ = _ by unfold Pl.specF; rw [if_neg (by simp), if_neg (by simp), if_neg (by simp), if_pos (by simp)])
    dsimp only at HE
    go_enter Try.func84, Try.ntmps84
    go_wp2_with fail
    generalize w.alloc (.cells #[.int .i64 65, .int .i64 nn, .string ss, .slice na mm.length nc, .slice la ll.length lc] 25) = w0 at *
    go_wp2_with (first
      | (go_at_call 93; refine (HBA.out _ _ _ _ (by assumption)).mono ?_; rintro e wn ⟨rfl, hbn⟩; have hbn2 := belowStep hbn (show Below w0.heap.size w0 _ by assumption); obtain ⟨z0, z1, z2, z3, z4⟩ := HQ.out _ hbn2)
      | (go_at_call 97; refine (HX1.out _ _ _ (by assumption)).mono ?_; rintro e wn ⟨rfl, hbn⟩; have hbn2 := belowStep hbn (show Below w0.heap.size w0 _ by assumption); obtain ⟨z0, z1, z2, z3, z4⟩ := HQ.out _ hbn2))
    all_goals
      go_ret
      refine ⟨ret_bool ?_, belowStep (show Below w0.heap.size w0 _ by assumption) HB0.out⟩
      rw [HE.out]
      first | rfl | (simp_all; done) | (simp_all; intros; omega)
  · obtain ⟨op, nn, ss, mm, ll⟩ := t
    dsimp only at hop
    subst hop
    dsimp only at *
    have HE := Lib.hid (show Pl.specF ⟨71, nn, ss, mm, ll⟩ = _ by unfold Pl.specF; rw [if_neg (by simp), if_neg (by simp), if_neg (by simp), if_neg (by simp), if_neg (by simp), if_pos (by simp)])
    dsimp only at HE
    go_enter Try.func84, Try.ntmps84
    go_wp2_with fail
    generalize w.alloc (.cells #[.int .i64 71, .int .i64 nn, .string ss, .slice na mm.length nc, .slice la ll.length lc] 25) = w0 at *
    go_wp2_with (first
      | (go_at_call 93; refine (HBA.out _ _ _ _ (by assumption)).mono ?_; rintro e wn ⟨rfl, hbn⟩; have hbn2 := belowStep hbn (show Below w0.heap.size w0 _ by assumption); obtain ⟨z0, z1, z2, z3, z4⟩ := HQ.out _ hbn2)
      | (go_at_call 96; refine (HAL.out _ (by assumption)).mono ?_; rintro e wn ⟨rfl, hbn⟩; have hbn2 := belowStep hbn (show Below w0.heap.size w0 _ by assumption); obtain ⟨z0, z1, z2, z3, z4⟩ := HQ.out _ hbn2))
    all_goals
      go_ret
      refine ⟨ret_bool ?_, belowStep (show Below w0.heap.size w0 _ by assumption) HB0.out⟩
      rw [HE.out]
      first | rfl | (simp_all; done) | (simp_all; intros; omega)
  · obtain ⟨op, nn, ss, mm, ll⟩ := t
    dsimp only at hop
    subst hop
    dsimp only at *
    have HE := Lib.hid (show Pl.specF ⟨72, nn, ss, mm, ll⟩ = _ by unfold Pl.specF; rw [if_neg (by simp), if_neg (by simp), if_neg (by simp), if_neg (by simp), if_neg (by simp), if_neg (by simp), if_pos (by simp)])
    dsimp only at HE
    (try rw [nat_z] at HE)
    go_enter Try.func84, Try.ntmps84
    go_wp2_with fail
    generalize w.alloc (.cells #[.int .i64 72, .int .i64 nn, .string ss, .slice na mm.length nc, .slice la ll.length lc] 25) = w0 at *
    go_wp2_with (first
      | (go_at_call 93; refine (HBA.out _ _ _ _ (by assumption)).mono ?_; rintro e wn ⟨rfl, hbn⟩; have hbn2 := belowStep hbn (show Below w0.heap.size w0 _ by assumption); obtain ⟨z0, z1, z2, z3, z4⟩ := HQ.out _ hbn2)
      | (go_at_call 95; refine (HPA.out _ _ (by assumption)).mono ?_; rintro e wn ⟨rfl, hbn⟩; have hbn2 := belowStep hbn (show Below w0.heap.size w0 _ by assumption); obtain ⟨z0, z1, z2, z3, z4⟩ := HQ.out _ hbn2))
    all_goals
      go_ret
      refine ⟨ret_bool ?_, belowStep (show Below w0.heap.size w0 _ by assumption) HB0.out⟩
      rw [HE.out]
      first | rfl | (simp_all; done) | (simp_all; intros; omega)
end Go.Proofs.Ytkhpihacjhhklaa

/-
  Walks of layer 3: the reference's forms of specifications, expressions: single kinds.
-/
namespace Go.Proofs.Ytkhpihacjhhklaa
open Go Go.RowKit
open Pl (Syn)
set_option linter.unusedSimpArgs false

theorem kids_of {w : World} {P : Nat → Prop} {la : Option Addr} {n c : Nat} {l : List Syn} (h : SynSl w P (.slice la n c) l) (hne : l ≠ []) {Q : World → Prop} (hk : ∀ W, Q W → Same P w W) : ∃ b off, la = some ⟨b, off, none⟩ ∧ ∀ W, Q W → KidsAt W P l b off := by
  rcases h.cases with ⟨h0, -⟩ | ⟨b, off, n', c', hv, hnl, hn0, hnc, hcm, hPb, hka⟩
  · exact absurd h0 hne
  · injection hv with hv1 hv2 hv3
    exact ⟨b, off, hv1, fun W hW => hka.keep (hk W hW) hPb⟩
theorem kid_cells {w : World} {P : Nat → Prop} {l : List Syn} {b off : Nat} (h : KidsAt w P l b off) (k : Nat) (hk : k < l.length) : w.cell? ⟨b, off + k * 5, none⟩ = some (.int .i64 l[k].op) ∧ w.cell? ⟨b, off + k * 5 + 2, none⟩ = some (.string l[k].s) ∧ ∃ la lc, w.cell? ⟨b, off + k * 5 + 4, none⟩ = some (.slice la l[k].l.length lc) := by
  obtain ⟨xv, ⟨x0, x1, x2, x3, x4, hxv, a0, a1, a2, a3, a4⟩, hxs⟩ := (kidsAt_iff _ _ _ _ _).1 h k hk
  subst hxv
  rw [synV_iff] at hxs
  obtain ⟨-, nv, lv, e, -, hl⟩ := hxs
  obtain ⟨la, lc, rfl, -⟩ := hl.form
  simp only [Value.agg.injEq, Array.mk.injEq, List.cons.injEq, and_true] at e
  obtain ⟨rfl, rfl, rfl, rfl, rfl⟩ := e
  exact ⟨a0, a2, la, lc, a4⟩
set_option maxRecDepth 100000 in
set_option maxHeartbeats 8000000 in
theorem rspecF_73 (P : Nat → Prop) (t : Syn) (w : World) (v : Value) (hP : ∀ b, P b → b < w.heap.size) (ht : SynV w P t v) (hop : t.op = 73) :
    Calls Try.prog 84 #[v] w fun e w' => e = .returned (.bool (Pl.specF t)) ∧ Below w.heap.size w w' := by
  have hlm : t.l.length ≤ maxLen := by
    obtain ⟨_, nv, lv, _, _, a, c, _, h1, h2, _⟩ := (synV_iff _ _ _ _).1 ht
    omega
  have hnm9 : t.names.length ≤ maxLen := by
    obtain ⟨_, nv, lv, _, hn, _⟩ := (synV_iff _ _ _ _).1 ht
    obtain ⟨_, _, _, h⟩ := hn.form
    exact h
  unfold maxLen at hlm hnm9
  have HT := Lib.hid ht
  rw [synV_iff] at ht
  obtain ⟨hs, nv, lv, rfl, hn, hl⟩ := ht
  have HSZ := Lib.hid hs
  have HNM := Lib.hid hn
  have HLL := Lib.hid hl
  obtain ⟨na, nc, rfl, hnm⟩ := hn.form
  obtain ⟨la, lc, rfl, hlmm⟩ := hl.form
  have hb0 : Below w.heap.size w (w.alloc (.cells #[.int .i64 t.op, .int .i64 t.n, .string t.s, .slice na t.names.length nc, .slice la t.l.length lc] 25)) := (Below.refl _ _).alloc (Nat.le_refl _) _
  have bx := blk_new w #[.int .i64 t.op, .int .i64 t.n, .string t.s, .slice na t.names.length nc, .slice la t.l.length lc] 25
  have hsame := Same.of_below hb0 hP
  have HND := Lib.hid (node_of P t (w.alloc (.cells #[.int .i64 t.op, .int .i64 t.n, .string t.s, .slice na t.names.length nc, .slice la t.l.length lc] 25)) 0 _ (fun b h => Nat.lt_of_lt_of_le (hP b h) hb0.size) (HT.out.keep hsame))
  have HPA := Lib.hid (fun W low (h : Below (w.alloc (.cells #[.int .i64 t.op, .int .i64 t.n, .string t.s, .slice na t.names.length nc, .slice la t.l.length lc] 25)).heap.size (w.alloc (.cells #[.int .i64 t.op, .int .i64 t.n, .string t.s, .slice na t.names.length nc, .slice la t.l.length lc] 25)) W) => rpath_any low P _ t.names W (HNM.out.keep (Same.of_below (belowStep h hb0) hP)) (fun b hb => Nat.lt_of_lt_of_le (hP b hb) (belowStep h hb0).size))
  have HPR := Lib.hid (fun W (h : Below (w.alloc (.cells #[.int .i64 t.op, .int .i64 t.n, .string t.s, .slice na t.names.length nc, .slice la t.l.length lc] 25)).heap.size (w.alloc (.cells #[.int .i64 t.op, .int .i64 t.n, .string t.s, .slice na t.names.length nc, .slice la t.l.length lc] 25)) W) => rparams_any P _ t.names W (HNM.out.keep (Same.of_below (belowStep h hb0) hP)) (fun b hb => Nat.lt_of_lt_of_le (hP b hb) (belowStep h hb0).size))
  have HTX := Lib.hid (fun W => rtext_any t.s W HSZ.out)
  have HKL := Lib.hid (fun W (h : Below (w.alloc (.cells #[.int .i64 t.op, .int .i64 t.n, .string t.s, .slice na t.names.length nc, .slice la t.l.length lc] 25)).heap.size (w.alloc (.cells #[.int .i64 t.op, .int .i64 t.n, .string t.s, .slice na t.names.length nc, .slice la t.l.length lc] 25)) W) => HLL.out.keep (Same.of_below (belowStep h hb0) hP))
  have HKN := Lib.hid (fun W (h : Below (w.alloc (.cells #[.int .i64 t.op, .int .i64 t.n, .string t.s, .slice na t.names.length nc, .slice la t.l.length lc] 25)).heap.size (w.alloc (.cells #[.int .i64 t.op, .int .i64 t.n, .string t.s, .slice na t.names.length nc, .slice la t.l.length lc] 25)) W) => HNM.out.keep (Same.of_below (belowStep h hb0) hP))
  have HBX := Lib.hid bx
  have HB0 := Lib.hid hb0
  have HALL := Lib.hid HND.out.all
  have HBA := Lib.hid HND.out.bare
  have HLO := Lib.hid HND.out.low
  have HUP := Lib.hid HND.out.up
  have HX1 := Lib.hid HND.out.ex1
  have HX2 := Lib.hid HND.out.ex2
  have HX3 := Lib.hid HND.out.ex3
  obtain ⟨y0, y1, y2, y3, y4⟩ := box_cells bx
  clear hs hn hl hnm hlmm bx hsame hb0 hP HND HT
  have HQ := Lib.hid (fun W (hW : Below (w.alloc (.cells #[.int .i64 t.op, .int .i64 t.n, .string t.s, .slice na t.names.length nc, .slice la t.l.length lc] 25)).heap.size (w.alloc (.cells #[.int .i64 t.op, .int .i64 t.n, .string t.s, .slice na t.names.length nc, .slice la t.l.length lc] 25)) W) => box_cells (Blk.of_eq HBX.out (hW.block _ (Blk.lt HBX.out))))
  have hbn0 := Below.refl (w.alloc (.cells #[.int .i64 t.op, .int .i64 t.n, .string t.s, .slice na t.names.length nc, .slice la t.l.length lc] 25)).heap.size (w.alloc (.cells #[.int .i64 t.op, .int .i64 t.n, .string t.s, .slice na t.names.length nc, .slice la t.l.length lc] 25))
  obtain ⟨op, nn, ss, mm, ll⟩ := t
  dsimp only at hop
  subst hop
  dsimp only at *
  have HE := Lib.hid (show Pl.specF ⟨73, nn, ss, mm, ll⟩ = _ by unfold Pl.specF; rw [if_neg (by simp), if_neg (by simp), if_neg (by simp), if_neg (by simp), if_neg (by simp), if_neg (by simp), if_neg (by simp), if_pos (by simp)])
  dsimp only at HE
  by_cases hn0 : nn = 0
  · subst hn0
    rw [decide_eq_true (Or.inl rfl)] at HE
    go_enter Try.func84, Try.ntmps84
    go_wp2_with fail
    generalize w.alloc (.cells #[.int .i64 73, .int .i64 0, .string ss, .slice na mm.length nc, .slice la ll.length lc] 25) = w0 at *
    go_wp2_with (first
      | (go_at_call 93; refine (HBA.out _ _ _ _ (by assumption)).mono ?_; rintro e wn ⟨rfl, hbn⟩; have hbn2 := belowStep hbn (show Below w0.heap.size w0 _ by assumption); obtain ⟨z0, z1, z2, z3, z4⟩ := HQ.out _ hbn2)
      | (go_at_call 101; refine (HUP.out _).mono ?_; rintro e wn ⟨rfl, rfl⟩)
      | (go_at_call 97; refine (HX2.out _ _ _ _ (by assumption)).mono ?_; rintro e wn ⟨rfl, hbn⟩; have hbn2 := belowStep hbn (show Below w0.heap.size w0 _ by assumption); obtain ⟨z0, z1, z2, z3, z4⟩ := HQ.out _ hbn2))
    all_goals
      go_ret
      refine ⟨ret_bool ?_, belowStep (show Below w0.heap.size w0 _ by assumption) HB0.out⟩
      rw [HE.out]
      first | rfl | (simp_all; done) | (simp_all; intros; omega)
  by_cases hn1 : nn = 1
  · subst hn1
    rw [decide_eq_true (Or.inr rfl)] at HE
    go_enter Try.func84, Try.ntmps84
    go_wp2_with fail
    generalize w.alloc (.cells #[.int .i64 73, .int .i64 1, .string ss, .slice na mm.length nc, .slice la ll.length lc] 25) = w0 at *
    go_wp2_with (first
      | (go_at_call 93; refine (HBA.out _ _ _ _ (by assumption)).mono ?_; rintro e wn ⟨rfl, hbn⟩; have hbn2 := belowStep hbn (show Below w0.heap.size w0 _ by assumption); obtain ⟨z0, z1, z2, z3, z4⟩ := HQ.out _ hbn2)
      | (go_at_call 101; refine (HUP.out _).mono ?_; rintro e wn ⟨rfl, rfl⟩)
      | (go_at_call 97; refine (HX2.out _ _ _ _ (by assumption)).mono ?_; rintro e wn ⟨rfl, hbn⟩; have hbn2 := belowStep hbn (show Below w0.heap.size w0 _ by assumption); obtain ⟨z0, z1, z2, z3, z4⟩ := HQ.out _ hbn2))
    all_goals
      go_ret
      refine ⟨ret_bool ?_, belowStep (show Below w0.heap.size w0 _ by assumption) HB0.out⟩
      rw [HE.out]
      first | rfl | (simp_all; done) | (simp_all; intros; omega)
  · rw [decide_eq_false (not_or.2 ⟨hn0, hn1⟩)] at HE
    have q0 : (nn == 0) = false := beq_eq_false_iff_ne.2 hn0
    have q1 : (nn == 1) = false := beq_eq_false_iff_ne.2 hn1
    clear hn0 hn1
    go_enter Try.func84, Try.ntmps84
    go_wp2_with fail
    generalize w.alloc (.cells #[.int .i64 73, .int .i64 nn, .string ss, .slice na mm.length nc, .slice la ll.length lc] 25) = w0 at *
    go_wp2_with (first
      | (go_at_call 93; refine (HBA.out _ _ _ _ (by assumption)).mono ?_; rintro e wn ⟨rfl, hbn⟩; have hbn2 := belowStep hbn (show Below w0.heap.size w0 _ by assumption); obtain ⟨z0, z1, z2, z3, z4⟩ := HQ.out _ hbn2)
      | (go_at_call 101; refine (HUP.out _).mono ?_; rintro e wn ⟨rfl, rfl⟩)
      | (go_at_call 97; refine (HX2.out _ _ _ _ (by assumption)).mono ?_; rintro e wn ⟨rfl, hbn⟩; have hbn2 := belowStep hbn (show Below w0.heap.size w0 _ by assumption); obtain ⟨z0, z1, z2, z3, z4⟩ := HQ.out _ hbn2))
    all_goals
      go_ret
      refine ⟨ret_bool ?_, belowStep (show Below w0.heap.size w0 _ by assumption) HB0.out⟩
      rw [HE.out]
      first | rfl | (simp_all; done) | (simp_all; intros; omega)
set_option maxRecDepth 100000 in
set_option maxHeartbeats 8000000 in
theorem rexprF_32 (P : Nat → Prop) (t : Syn) (w : World) (v : Value) (hP : ∀ b, P b → b < w.heap.size) (ht : SynV w P t v) (hop : t.op = 32) :
    Calls Try.prog 82 #[v] w fun e w' => e = .returned (.bool (Pl.exprF t)) ∧ Below w.heap.size w w' := by
  have hlm : t.l.length ≤ maxLen := by
    obtain ⟨_, nv, lv, _, _, a, c, _, h1, h2, _⟩ := (synV_iff _ _ _ _).1 ht
    omega
  have hnm9 : t.names.length ≤ maxLen := by
    obtain ⟨_, nv, lv, _, hn, _⟩ := (synV_iff _ _ _ _).1 ht
    obtain ⟨_, _, _, h⟩ := hn.form
    exact h
  unfold maxLen at hlm hnm9
  have HT := Lib.hid ht
  rw [synV_iff] at ht
  obtain ⟨hs, nv, lv, rfl, hn, hl⟩ := ht
  have HSZ := Lib.hid hs
  have HNM := Lib.hid hn
  have HLL := Lib.hid hl
  obtain ⟨na, nc, rfl, hnm⟩ := hn.form
  obtain ⟨la, lc, rfl, hlmm⟩ := hl.form
  have hb0 : Below w.heap.size w (w.alloc (.cells #[.int .i64 t.op, .int .i64 t.n, .string t.s, .slice na t.names.length nc, .slice la t.l.length lc] 25)) := (Below.refl _ _).alloc (Nat.le_refl _) _
  have bx := blk_new w #[.int .i64 t.op, .int .i64 t.n, .string t.s, .slice na t.names.length nc, .slice la t.l.length lc] 25
  have hsame := Same.of_below hb0 hP
  have HND := Lib.hid (node_of P t (w.alloc (.cells #[.int .i64 t.op, .int .i64 t.n, .string t.s, .slice na t.names.length nc, .slice la t.l.length lc] 25)) 0 _ (fun b h => Nat.lt_of_lt_of_le (hP b h) hb0.size) (HT.out.keep hsame))
  have HPA := Lib.hid (fun W low (h : Below (w.alloc (.cells #[.int .i64 t.op, .int .i64 t.n, .string t.s, .slice na t.names.length nc, .slice la t.l.length lc] 25)).heap.size (w.alloc (.cells #[.int .i64 t.op, .int .i64 t.n, .string t.s, .slice na t.names.length nc, .slice la t.l.length lc] 25)) W) => rpath_any low P _ t.names W (HNM.out.keep (Same.of_below (belowStep h hb0) hP)) (fun b hb => Nat.lt_of_lt_of_le (hP b hb) (belowStep h hb0).size))
  have HPR := Lib.hid (fun W (h : Below (w.alloc (.cells #[.int .i64 t.op, .int .i64 t.n, .string t.s, .slice na t.names.length nc, .slice la t.l.length lc] 25)).heap.size (w.alloc (.cells #[.int .i64 t.op, .int .i64 t.n, .string t.s, .slice na t.names.length nc, .slice la t.l.length lc] 25)) W) => rparams_any P _ t.names W (HNM.out.keep (Same.of_below (belowStep h hb0) hP)) (fun b hb => Nat.lt_of_lt_of_le (hP b hb) (belowStep h hb0).size))
  have HTX := Lib.hid (fun W => rtext_any t.s W HSZ.out)
  have HKL := Lib.hid (fun W (h : Below (w.alloc (.cells #[.int .i64 t.op, .int .i64 t.n, .string t.s, .slice na t.names.length nc, .slice la t.l.length lc] 25)).heap.size (w.alloc (.cells #[.int .i64 t.op, .int .i64 t.n, .string t.s, .slice na t.names.length nc, .slice la t.l.length lc] 25)) W) => HLL.out.keep (Same.of_below (belowStep h hb0) hP))
  have HKN := Lib.hid (fun W (h : Below (w.alloc (.cells #[.int .i64 t.op, .int .i64 t.n, .string t.s, .slice na t.names.length nc, .slice la t.l.length lc] 25)).heap.size (w.alloc (.cells #[.int .i64 t.op, .int .i64 t.n, .string t.s, .slice na t.names.length nc, .slice la t.l.length lc] 25)) W) => HNM.out.keep (Same.of_below (belowStep h hb0) hP))
  have HBX := Lib.hid bx
  have HB0 := Lib.hid hb0
  have HALL := Lib.hid HND.out.all
  have HBA := Lib.hid HND.out.bare
  have HLO := Lib.hid HND.out.low
  have HUP := Lib.hid HND.out.up
  have HX1 := Lib.hid HND.out.ex1
  have HX2 := Lib.hid HND.out.ex2
  have HX3 := Lib.hid HND.out.ex3
  obtain ⟨y0, y1, y2, y3, y4⟩ := box_cells bx
  clear hs hn hl hnm hlmm bx hsame hb0 hP HND HT
  have HQ := Lib.hid (fun W (hW : Below (w.alloc (.cells #[.int .i64 t.op, .int .i64 t.n, .string t.s, .slice na t.names.length nc, .slice la t.l.length lc] 25)).heap.size (w.alloc (.cells #[.int .i64 t.op, .int .i64 t.n, .string t.s, .slice na t.names.length nc, .slice la t.l.length lc] 25)) W) => box_cells (Blk.of_eq HBX.out (hW.block _ (Blk.lt HBX.out))))
  have hbn0 := Below.refl (w.alloc (.cells #[.int .i64 t.op, .int .i64 t.n, .string t.s, .slice na t.names.length nc, .slice la t.l.length lc] 25)).heap.size (w.alloc (.cells #[.int .i64 t.op, .int .i64 t.n, .string t.s, .slice na t.names.length nc, .slice la t.l.length lc] 25))
  obtain ⟨op, nn, ss, mm, ll⟩ := t
  dsimp only at hop
  subst hop
  dsimp only at *
  have HE := Lib.hid (show Pl.exprF ⟨32, nn, ss, mm, ll⟩ = _ by unfold Pl.exprF; rw [if_neg (by simp), if_neg (by simp), if_neg (by simp), if_neg (by simp), if_neg (by simp), if_neg (by simp), if_neg (by simp), if_neg (by simp), if_neg (by simp), if_neg (by simp), if_neg (by simp), if_pos (by simp)])
  dsimp only at HE
  by_cases hn0 : nn = 12
  · subst hn0
    rw [if_pos rfl] at HE
    go_enter Try.func82, Try.ntmps82
    go_wp2_with fail
    generalize w.alloc (.cells #[.int .i64 32, .int .i64 12, .string ss, .slice na mm.length nc, .slice la ll.length lc] 25) = w0 at *
    go_wp2_with (first
      | (go_at_call 93; refine (HBA.out _ _ _ _ (by assumption)).mono ?_; rintro e wn ⟨rfl, hbn⟩; have hbn2 := belowStep hbn (show Below w0.heap.size w0 _ by assumption); obtain ⟨z0, z1, z2, z3, z4⟩ := HQ.out _ hbn2)
      | (go_at_call 97; refine (HX1.out _ _ _ (by assumption)).mono ?_; rintro e wn ⟨rfl, hbn⟩; have hbn2 := belowStep hbn (show Below w0.heap.size w0 _ by assumption); obtain ⟨z0, z1, z2, z3, z4⟩ := HQ.out _ hbn2))
    all_goals
      go_ret
      refine ⟨ret_bool ?_, belowStep (show Below w0.heap.size w0 _ by assumption) HB0.out⟩
      rw [HE.out]
      first | rfl | (simp_all; done) | (simp_all; intros; omega)
  · rw [if_neg hn0] at HE
    have q0 : (nn == 12) = false := beq_eq_false_iff_ne.2 hn0
    clear hn0
    go_enter Try.func82, Try.ntmps82
    go_wp2_with fail
    generalize w.alloc (.cells #[.int .i64 32, .int .i64 nn, .string ss, .slice na mm.length nc, .slice la ll.length lc] 25) = w0 at *
    go_wp2_with (first
      | (go_at_call 93; refine (HBA.out _ _ _ _ (by assumption)).mono ?_; rintro e wn ⟨rfl, hbn⟩; have hbn2 := belowStep hbn (show Below w0.heap.size w0 _ by assumption); obtain ⟨z0, z1, z2, z3, z4⟩ := HQ.out _ hbn2)
      | (go_at_call 97; refine (HX2.out _ _ _ _ (by assumption)).mono ?_; rintro e wn ⟨rfl, hbn⟩; have hbn2 := belowStep hbn (show Below w0.heap.size w0 _ by assumption); obtain ⟨z0, z1, z2, z3, z4⟩ := HQ.out _ hbn2))
    all_goals
      go_ret
      refine ⟨ret_bool ?_, belowStep (show Below w0.heap.size w0 _ by assumption) HB0.out⟩
      rw [HE.out]
      first | rfl | (simp_all; done) | (simp_all; intros; omega)
end Go.Proofs.Ytkhpihacjhhklaa

/-
  Walks of layer 3: the reference's forms of specifications: sharing.
-/
namespace Go.Proofs.Ytkhpihacjhhklaa
open Go Go.RowKit
open Pl (Syn)
set_option linter.unusedSimpArgs false

set_option maxRecDepth 100000 in
set_option maxHeartbeats 8000000 in
theorem rspecF_66 (P : Nat → Prop) (t : Syn) (w : World) (v : Value) (hP : ∀ b, P b → b < w.heap.size) (ht : SynV w P t v) (hop : t.op = 66) :
    Calls Try.prog 84 #[v] w fun e w' => e = .returned (.bool (Pl.specF t)) ∧ Below w.heap.size w w' := by
  have hlm : t.l.length ≤ maxLen := by
    obtain ⟨_, nv, lv, _, _, a, c, _, h1, h2, _⟩ := (synV_iff _ _ _ _).1 ht
    omega
  have hnm9 : t.names.length ≤ maxLen := by
    obtain ⟨_, nv, lv, _, hn, _⟩ := (synV_iff _ _ _ _).1 ht
    obtain ⟨_, _, _, h⟩ := hn.form
    exact h
  unfold maxLen at hlm hnm9
  have HT := Lib.hid ht
  rw [synV_iff] at ht
  obtain ⟨hs, nv, lv, rfl, hn, hl⟩ := ht
  have HSZ := Lib.hid hs
  have HNM := Lib.hid hn
  have HLL := Lib.hid hl
  obtain ⟨na, nc, rfl, hnm⟩ := hn.form
  obtain ⟨la, lc, rfl, hlmm⟩ := hl.form
  have hb0 : Below w.heap.size w (w.alloc (.cells #[.int .i64 t.op, .int .i64 t.n, .string t.s, .slice na t.names.length nc, .slice la t.l.length lc] 25)) := (Below.refl _ _).alloc (Nat.le_refl _) _
  have bx := blk_new w #[.int .i64 t.op, .int .i64 t.n, .string t.s, .slice na t.names.length nc, .slice la t.l.length lc] 25
  have hsame := Same.of_below hb0 hP
  have HND := Lib.hid (node_of P t (w.alloc (.cells #[.int .i64 t.op, .int .i64 t.n, .string t.s, .slice na t.names.length nc, .slice la t.l.length lc] 25)) 0 _ (fun b h => Nat.lt_of_lt_of_le (hP b h) hb0.size) (HT.out.keep hsame))
  have HPA := Lib.hid (fun W low (h : Below (w.alloc (.cells #[.int .i64 t.op, .int .i64 t.n, .string t.s, .slice na t.names.length nc, .slice la t.l.length lc] 25)).heap.size (w.alloc (.cells #[.int .i64 t.op, .int .i64 t.n, .string t.s, .slice na t.names.length nc, .slice la t.l.length lc] 25)) W) => rpath_any low P _ t.names W (HNM.out.keep (Same.of_below (belowStep h hb0) hP)) (fun b hb => Nat.lt_of_lt_of_le (hP b hb) (belowStep h hb0).size))
  have HPR := Lib.hid (fun W (h : Below (w.alloc (.cells #[.int .i64 t.op, .int .i64 t.n, .string t.s, .slice na t.names.length nc, .slice la t.l.length lc] 25)).heap.size (w.alloc (.cells #[.int .i64 t.op, .int .i64 t.n, .string t.s, .slice na t.names.length nc, .slice la t.l.length lc] 25)) W) => rparams_any P _ t.names W (HNM.out.keep (Same.of_below (belowStep h hb0) hP)) (fun b hb => Nat.lt_of_lt_of_le (hP b hb) (belowStep h hb0).size))
  have HTX := Lib.hid (fun W => rtext_any t.s W HSZ.out)
  have HKL := Lib.hid (fun W (h : Below (w.alloc (.cells #[.int .i64 t.op, .int .i64 t.n, .string t.s, .slice na t.names.length nc, .slice la t.l.length lc] 25)).heap.size (w.alloc (.cells #[.int .i64 t.op, .int .i64 t.n, .string t.s, .slice na t.names.length nc, .slice la t.l.length lc] 25)) W) => HLL.out.keep (Same.of_below (belowStep h hb0) hP))
  have HKN := Lib.hid (fun W (h : Below (w.alloc (.cells #[.int .i64 t.op, .int .i64 t.n, .string t.s, .slice na t.names.length nc, .slice la t.l.length lc] 25)).heap.size (w.alloc (.cells #[.int .i64 t.op, .int .i64 t.n, .string t.s, .slice na t.names.length nc, .slice la t.l.length lc] 25)) W) => HNM.out.keep (Same.of_below (belowStep h hb0) hP))
  have HBX := Lib.hid bx
  have HB0 := Lib.hid hb0
  have HALL := Lib.hid HND.out.all
  have HBA := Lib.hid HND.out.bare
  have HLO := Lib.hid HND.out.low
  have HUP := Lib.hid HND.out.up
  have HX1 := Lib.hid HND.out.ex1
  have HX2 := Lib.hid HND.out.ex2
  have HX3 := Lib.hid HND.out.ex3
  obtain ⟨y0, y1, y2, y3, y4⟩ := box_cells bx
  have HPP := Lib.hid hP
  clear hs hn hl hnm hlmm bx hsame hb0 hP HND HT
  have HQ := Lib.hid (fun W (hW : Below (w.alloc (.cells #[.int .i64 t.op, .int .i64 t.n, .string t.s, .slice na t.names.length nc, .slice la t.l.length lc] 25)).heap.size (w.alloc (.cells #[.int .i64 t.op, .int .i64 t.n, .string t.s, .slice na t.names.length nc, .slice la t.l.length lc] 25)) W) => box_cells (Blk.of_eq HBX.out (hW.block _ (Blk.lt HBX.out))))
  have hbn0 := Below.refl (w.alloc (.cells #[.int .i64 t.op, .int .i64 t.n, .string t.s, .slice na t.names.length nc, .slice la t.l.length lc] 25)).heap.size (w.alloc (.cells #[.int .i64 t.op, .int .i64 t.n, .string t.s, .slice na t.names.length nc, .slice la t.l.length lc] 25))
  have HKK := Lib.hid (show t.l ≠ [] → ∃ b off, la = some ⟨b, off, none⟩ ∧ ∀ W, Below (w.alloc (.cells #[.int .i64 t.op, .int .i64 t.n, .string t.s, .slice na t.names.length nc, .slice la t.l.length lc] 25)).heap.size (w.alloc (.cells #[.int .i64 t.op, .int .i64 t.n, .string t.s, .slice na t.names.length nc, .slice la t.l.length lc] 25)) W → KidsAt W P t.l b off from fun hne => kids_of HLL.out hne (fun W h => Same.of_below (belowStep h HB0.out) HPP.out))
  obtain ⟨op, nn, ss, mm, ll⟩ := t
  dsimp only at hop
  subst hop
  dsimp only at *
  have HE := Lib.hid (show Pl.specF ⟨66, nn, ss, mm, ll⟩ = _ by unfold Pl.specF; rw [if_neg (by simp), if_neg (by simp), if_neg (by simp), if_neg (by simp), if_pos (by simp)])
  dsimp only at HE
  by_cases h1 : ll.length = 1
  · obtain ⟨x, rfl⟩ := List.length_eq_one_iff.1 h1
    obtain ⟨b, off, rfl, hkk⟩ := HKK.out (by simp)
    have HKP := Lib.hid (fun W h => kid_cells (hkk W h) 0 (by simp))
    simp only [Nat.zero_mul, Nat.add_zero, List.getElem_cons_zero] at HKP
    have HE2 := Lib.hid (HE.out.trans (show _ = (Pl.bare ⟨66, nn, ss, mm, [x]⟩ false false true && Pl.pathOk true mm && true && decide (x.op = 2) && decide (x.l.length = 0)) from rfl))
    clear HE h1 hkk HKK HKL HLL
    generalize Pl.specF ⟨66, nn, ss, mm, [x]⟩ = res at *
    generalize x.op = xo at *
    generalize x.l.length = xl at *
    generalize x.s = xs at *
    rw [nat_z] at HE2
    obtain ⟨k0, k2, kla, klc, k4⟩ := HKP.out _ hbn0
    go_enter Try.func84, Try.ntmps84
    go_wp2_with fail
    generalize w.alloc (.cells #[.int .i64 66, .int .i64 nn, .string ss, .slice na mm.length nc, .slice (some ⟨b, off, none⟩) [x].length lc] 25) = w0 at *
    go_wp2_with (first
      | (go_at_call 93; refine (HBA.out _ _ _ _ (by assumption)).mono ?_; rintro e wn ⟨rfl, hbn⟩; have hbn2 := belowStep hbn (show Below w0.heap.size w0 _ by assumption); obtain ⟨z0, z1, z2, z3, z4⟩ := HQ.out _ hbn2; obtain ⟨k0, k2, kla, klc, k4⟩ := HKP.out _ hbn2)
      | (go_at_call 95; refine (HPA.out _ _ (by assumption)).mono ?_; rintro e wn ⟨rfl, hbn⟩; have hbn2 := belowStep hbn (show Below w0.heap.size w0 _ by assumption); obtain ⟨z0, z1, z2, z3, z4⟩ := HQ.out _ hbn2; obtain ⟨k0, k2, kla, klc, k4⟩ := HKP.out _ hbn2))
    all_goals
      go_ret
      refine ⟨ret_bool ?_, belowStep (show Below w0.heap.size w0 _ by assumption) HB0.out⟩
      rw [HE2.out]
      first | rfl | (simp_all; done) | (simp_all; intros; omega)
  · rw [decide_eq_false h1] at HE
    have q0 : ((ll.length : Int) == 1) = false := beq_eq_false_iff_ne.2 (by omega)
    clear h1
    generalize ll.length = ln at *
    go_enter Try.func84, Try.ntmps84
    go_wp2_with fail
    generalize w.alloc (.cells #[.int .i64 66, .int .i64 nn, .string ss, .slice na mm.length nc, .slice la ln lc] 25) = w0 at *
    go_wp2_with (first
      | (go_at_call 93; refine (HBA.out _ _ _ _ (by assumption)).mono ?_; rintro e wn ⟨rfl, hbn⟩; have hbn2 := belowStep hbn (show Below w0.heap.size w0 _ by assumption); obtain ⟨z0, z1, z2, z3, z4⟩ := HQ.out _ hbn2)
      | (go_at_call 95; refine (HPA.out _ _ (by assumption)).mono ?_; rintro e wn ⟨rfl, hbn⟩; have hbn2 := belowStep hbn (show Below w0.heap.size w0 _ by assumption); obtain ⟨z0, z1, z2, z3, z4⟩ := HQ.out _ hbn2))
    all_goals
      go_ret
      refine ⟨ret_bool ?_, belowStep (show Below w0.heap.size w0 _ by assumption) HB0.out⟩
      rw [HE.out]
      first | rfl | (simp_all; done) | (simp_all; intros; omega)
end Go.Proofs.Ytkhpihacjhhklaa

/-
  Walks of layer 3: the reference's forms of refinements.
-/
namespace Go.Proofs.Ytkhpihacjhhklaa
open Go Go.RowKit
open Pl (Syn)
set_option linter.unusedSimpArgs false

theorem len_two {l : List Syn} (h : l.length = 2) : ∃ x y, l = [x, y] := by
  match l, h with
  | [x, y], _ => exact ⟨x, y, rfl⟩
set_option maxRecDepth 100000 in
set_option maxHeartbeats 8000000 in
theorem rspecF_74 (P : Nat → Prop) (t : Syn) (w : World) (v : Value) (hP : ∀ b, P b → b < w.heap.size) (ht : SynV w P t v) (hop : t.op = 74) :
    Calls Try.prog 84 #[v] w fun e w' => e = .returned (.bool (Pl.specF t)) ∧ Below w.heap.size w w' := by
  have hlm : t.l.length ≤ maxLen := by
    obtain ⟨_, nv, lv, _, _, a, c, _, h1, h2, _⟩ := (synV_iff _ _ _ _).1 ht
    omega
  have hnm9 : t.names.length ≤ maxLen := by
    obtain ⟨_, nv, lv, _, hn, _⟩ := (synV_iff _ _ _ _).1 ht
    obtain ⟨_, _, _, h⟩ := hn.form
    exact h
  unfold maxLen at hlm hnm9
  have HT := Lib.hid ht
  rw [synV_iff] at ht
  obtain ⟨hs, nv, lv, rfl, hn, hl⟩ := ht
  have HSZ := Lib.hid hs
  have HNM := Lib.hid hn
  have HLL := Lib.hid hl
  obtain ⟨na, nc, rfl, hnm⟩ := hn.form
  obtain ⟨la, lc, rfl, hlmm⟩ := hl.form
  have hb0 : Below w.heap.size w (w.alloc (.cells #[.int .i64 t.op, .int .i64 t.n, .string t.s, .slice na t.names.length nc, .slice la t.l.length lc] 25)) := (Below.refl _ _).alloc (Nat.le_refl _) _
  have bx := blk_new w #[.int .i64 t.op, .int .i64 t.n, .string t.s, .slice na t.names.length nc, .slice la t.l.length lc] 25
  have hsame := Same.of_below hb0 hP
  have HND := Lib.hid (node_of P t (w.alloc (.cells #[.int .i64 t.op, .int .i64 t.n, .string t.s, .slice na t.names.length nc, .slice la t.l.length lc] 25)) 0 _ (fun b h => Nat.lt_of_lt_of_le (hP b h) hb0.size) (HT.out.keep hsame))
  have HPA := Lib.hid (fun W low (h : Below (w.alloc (.cells #[.int .i64 t.op, .int .i64 t.n, .string t.s, .slice na t.names.length nc, .slice la t.l.length lc] 25)).heap.size (w.alloc (.cells #[.int .i64 t.op, .int .i64 t.n, .string t.s, .slice na t.names.length nc, .slice la t.l.length lc] 25)) W) => rpath_any low P _ t.names W (HNM.out.keep (Same.of_below (belowStep h hb0) hP)) (fun b hb => Nat.lt_of_lt_of_le (hP b hb) (belowStep h hb0).size))
  have HPR := Lib.hid (fun W (h : Below (w.alloc (.cells #[.int .i64 t.op, .int .i64 t.n, .string t.s, .slice na t.names.length nc, .slice la t.l.length lc] 25)).heap.size (w.alloc (.cells #[.int .i64 t.op, .int .i64 t.n, .string t.s, .slice na t.names.length nc, .slice la t.l.length lc] 25)) W) => rparams_any P _ t.names W (HNM.out.keep (Same.of_below (belowStep h hb0) hP)) (fun b hb => Nat.lt_of_lt_of_le (hP b hb) (belowStep h hb0).size))
  have HTX := Lib.hid (fun W => rtext_any t.s W HSZ.out)
  have HKL := Lib.hid (fun W (h : Below (w.alloc (.cells #[.int .i64 t.op, .int .i64 t.n, .string t.s, .slice na t.names.length nc, .slice la t.l.length lc] 25)).heap.size (w.alloc (.cells #[.int .i64 t.op, .int .i64 t.n, .string t.s, .slice na t.names.length nc, .slice la t.l.length lc] 25)) W) => HLL.out.keep (Same.of_below (belowStep h hb0) hP))
  have HKN := Lib.hid (fun W (h : Below (w.alloc (.cells #[.int .i64 t.op, .int .i64 t.n, .string t.s, .slice na t.names.length nc, .slice la t.l.length lc] 25)).heap.size (w.alloc (.cells #[.int .i64 t.op, .int .i64 t.n, .string t.s, .slice na t.names.length nc, .slice la t.l.length lc] 25)) W) => HNM.out.keep (Same.of_below (belowStep h hb0) hP))
  have HBX := Lib.hid bx
  have HB0 := Lib.hid hb0
  have HALL := Lib.hid HND.out.all
  have HBA := Lib.hid HND.out.bare
  have HLO := Lib.hid HND.out.low
  have HUP := Lib.hid HND.out.up
  have HX1 := Lib.hid HND.out.ex1
  have HX2 := Lib.hid HND.out.ex2
  have HX3 := Lib.hid HND.out.ex3
  obtain ⟨y0, y1, y2, y3, y4⟩ := box_cells bx
  have HPP := Lib.hid hP
  clear hs hn hl hnm hlmm bx hsame hb0 hP HND HT
  have HQ := Lib.hid (fun W (hW : Below (w.alloc (.cells #[.int .i64 t.op, .int .i64 t.n, .string t.s, .slice na t.names.length nc, .slice la t.l.length lc] 25)).heap.size (w.alloc (.cells #[.int .i64 t.op, .int .i64 t.n, .string t.s, .slice na t.names.length nc, .slice la t.l.length lc] 25)) W) => box_cells (Blk.of_eq HBX.out (hW.block _ (Blk.lt HBX.out))))
  have hbn0 := Below.refl (w.alloc (.cells #[.int .i64 t.op, .int .i64 t.n, .string t.s, .slice na t.names.length nc, .slice la t.l.length lc] 25)).heap.size (w.alloc (.cells #[.int .i64 t.op, .int .i64 t.n, .string t.s, .slice na t.names.length nc, .slice la t.l.length lc] 25))
  have HKK := Lib.hid (show t.l ≠ [] → ∃ b off, la = some ⟨b, off, none⟩ ∧ ∀ W, Below (w.alloc (.cells #[.int .i64 t.op, .int .i64 t.n, .string t.s, .slice na t.names.length nc, .slice la t.l.length lc] 25)).heap.size (w.alloc (.cells #[.int .i64 t.op, .int .i64 t.n, .string t.s, .slice na t.names.length nc, .slice la t.l.length lc] 25)) W → KidsAt W P t.l b off from fun hne => kids_of HLL.out hne (fun W h => Same.of_below (belowStep h HB0.out) HPP.out))
  obtain ⟨op, nn, ss, mm, ll⟩ := t
  dsimp only at hop
  subst hop
  dsimp only at *
  have HE := Lib.hid (show Pl.specF ⟨74, nn, ss, mm, ll⟩ = _ by unfold Pl.specF; rw [if_neg (by simp), if_neg (by simp), if_neg (by simp), if_neg (by simp), if_neg (by simp), if_neg (by simp), if_neg (by simp), if_neg (by simp)])
  dsimp only at HE
  by_cases h1 : ll.length = 2
  · obtain ⟨x, y, rfl⟩ := len_two h1
    obtain ⟨b, off, rfl, hkk⟩ := HKK.out (by simp)
    have HKP := Lib.hid (fun W h => kid_cells (hkk W h) 1 (by simp))
    simp only [Nat.one_mul, List.getElem_cons_succ, List.getElem_cons_zero] at HKP
    have HA1 := Lib.hid (fun W h => show Calls Try.prog 96 #[_, .int .i64 0, .int .i64 1, .int .i64 6] W fun e w' => e = .returned (.bool (Pl.rall [x] 6)) ∧ Below W.heap.size W w' from (HALL.out W 0 1 6 h (Nat.zero_le _) (by simp)).mono fun e w' ⟨h1, h2⟩ => ⟨by rw [h1]; rfl, h2⟩)
    have HE2 := Lib.hid (HE.out.trans (show _ = (Pl.bare ⟨74, nn, ss, mm, [x, y]⟩ false false true && Pl.pathOk true mm && true && Pl.rall [x] 6 && decide (y.op = 43) && y.s.toList.isEmpty) from rfl))
    clear HE h1 hkk HKK HKL HLL HALL
    generalize Pl.specF ⟨74, nn, ss, mm, [x, y]⟩ = res at *
    generalize Pl.rall [x] 6 = ra at *
    generalize y.op = yo at *
    generalize y.l.length = yl at *
    generalize y.s = ys at *
    obtain ⟨k0, k2, kla, klc, k4⟩ := HKP.out _ hbn0
    go_enter Try.func84, Try.ntmps84
    go_wp2_with fail
    generalize w.alloc (.cells #[.int .i64 74, .int .i64 nn, .string ss, .slice na mm.length nc, .slice (some ⟨b, off, none⟩) [x, y].length lc] 25) = w0 at *
    go_wp2_with (first
      | (go_at_call 93; refine (HBA.out _ _ _ _ (by assumption)).mono ?_; rintro e wn ⟨rfl, hbn⟩; have hbn2 := belowStep hbn (show Below w0.heap.size w0 _ by assumption); obtain ⟨z0, z1, z2, z3, z4⟩ := HQ.out _ hbn2; obtain ⟨k0, k2, kla, klc, k4⟩ := HKP.out _ hbn2)
      | (go_at_call 95; refine (HPA.out _ _ (by assumption)).mono ?_; rintro e wn ⟨rfl, hbn⟩; have hbn2 := belowStep hbn (show Below w0.heap.size w0 _ by assumption); obtain ⟨z0, z1, z2, z3, z4⟩ := HQ.out _ hbn2; obtain ⟨k0, k2, kla, klc, k4⟩ := HKP.out _ hbn2)
      | (go_at_call 96; refine (HA1.out _ (by assumption)).mono ?_; rintro e wn ⟨rfl, hbn⟩; have hbn2 := belowStep hbn (show Below w0.heap.size w0 _ by assumption); obtain ⟨z0, z1, z2, z3, z4⟩ := HQ.out _ hbn2; obtain ⟨k0, k2, kla, klc, k4⟩ := HKP.out _ hbn2))
    all_goals
      go_ret
      refine ⟨ret_bool ?_, belowStep (show Below w0.heap.size w0 _ by assumption) HB0.out⟩
      rw [HE2.out]
      first | rfl | (simp_all; done) | (simp_all; intros; omega)
  · rw [decide_eq_false h1] at HE
    have q0 : ((ll.length : Int) == 2) = false := beq_eq_false_iff_ne.2 (by omega)
    clear h1
    generalize ll.length = ln at *
    go_enter Try.func84, Try.ntmps84
    go_wp2_with fail
    generalize w.alloc (.cells #[.int .i64 74, .int .i64 nn, .string ss, .slice na mm.length nc, .slice la ln lc] 25) = w0 at *
    go_wp2_with (first
      | (go_at_call 93; refine (HBA.out _ _ _ _ (by assumption)).mono ?_; rintro e wn ⟨rfl, hbn⟩; have hbn2 := belowStep hbn (show Below w0.heap.size w0 _ by assumption); obtain ⟨z0, z1, z2, z3, z4⟩ := HQ.out _ hbn2)
      | (go_at_call 95; refine (HPA.out _ _ (by assumption)).mono ?_; rintro e wn ⟨rfl, hbn⟩; have hbn2 := belowStep hbn (show Below w0.heap.size w0 _ by assumption); obtain ⟨z0, z1, z2, z3, z4⟩ := HQ.out _ hbn2))
    all_goals
      go_ret
      refine ⟨ret_bool ?_, belowStep (show Below w0.heap.size w0 _ by assumption) HB0.out⟩
      rw [HE.out]
      first | rfl | (simp_all; done) | (simp_all; intros; omega)
theorem rspecF_any (P : Nat → Prop) (t : Syn) (w : World) (v : Value) (hP : ∀ b, P b → b < w.heap.size) (ht : SynV w P t v) (hc : Pl.cat t.op = 5 ∨ Pl.cat t.op = 6) :
    Calls Try.prog 84 #[v] w fun e w' => e = .returned (.bool (Pl.specF t)) ∧ Below w.heap.size w w' := by
  have hop : t.op = 66 ∨ t.op = 73 ∨ t.op = 74 ∨ (t.op = 61 ∨ t.op = 62 ∨ t.op = 63 ∨ t.op = 64 ∨ t.op = 65 ∨ t.op = 71 ∨ t.op = 72) := by
    generalize t.op = op at *
    unfold Pl.cat at hc
    repeat' split at hc
    all_goals omega
  rcases hop with h | h | h | h
  · exact rspecF_66 P t w v hP ht h
  · exact rspecF_73 P t w v hP ht h
  · exact rspecF_74 P t w v hP ht h
  · exact rspecF_most P t w v hP ht h
end Go.Proofs.Ytkhpihacjhhklaa
