/-
  Walks and plain mathematics, several texts in one (Dh Di Dj Dk Dl).
-/
import Derived.Test.YtjedahcpkcgpeaaGreatDoorH10
import Derived.Deep.AppendLies
import Derived.Laws.OwnMore
/-
  Walks of layer 4: what begins an argument, an atom, a type's path; the operator that a token is.
-/
namespace Go.Proofs.YtjedahcpkcgpeaaGreatDoor
open Go Go.RowKit
set_option linter.unusedSimpArgs false
def fixV (k : Int) (t : Pl.Bytes) : ByteArray := if k = 6 ∨ k = 7 then Pl.mk t else ⟨#[]⟩
theorem fixV_toList (k l c : Int) (t : Pl.Bytes) : (fixV k t).toList = Pl.fixedT ⟨k, t, l, c⟩ := by
  unfold fixV Pl.fixedT
  show (if k = 6 ∨ k = 7 then Pl.mk t else (⟨#[]⟩ : ByteArray)).toList = if k = 6 ∨ k = 7 then t else []
  split
  · exact mk_toList _
  · exact mk_toList []
theorem fixV_is (k l c : Int) (t b : Pl.Bytes) : ((fixV k t).toList == b) = (Pl.fixedT ⟨k, t, l, c⟩ == b) := by rw [fixV_toList k l c]
set_option maxRecDepth 100000 in
set_option maxHeartbeats 8000000 in
theorem pbegArg_any (k li co l c : Int) (t : Pl.Bytes) (w : World) : Calls Tryz.prog 72 #[.agg #[.int .i64 k, .string (Pl.mk t), .int .i64 li, .int .i64 co]] w fun e w' => e = .returned (.bool (Pl.begArg ⟨k, t, l, c⟩)) ∧ Below w.heap.size w w' := by
  have HB0 := Lib.hid (show Below w.heap.size w (w.alloc (.cells #[.int .i64 k, .string (Pl.mk t), .int .i64 li, .int .i64 co] 45)) from (Below.refl _ _).alloc (Nat.le_refl _) _)
  obtain ⟨c0, c1, c2, c3⟩ := four_cells (blk_new w #[.int .i64 k, .string (Pl.mk t), .int .i64 li, .int .i64 co] 45)
  have HF := Lib.hid (fun W => pfixed_any k (Pl.mk t) li co W)
  have hfx : (if k = 6 ∨ k = 7 then Pl.mk t else (⟨#[]⟩ : ByteArray)) = fixV k t := rfl
  rw [hfx] at HF
  clear hfx
  have e0 : ((fixV k t).toList == [95]) = (Pl.fixedT ⟨k, t, l, c⟩ == [95]) := fixV_is k l c t [95]
  have e1 : ((fixV k t).toList == [126]) = (Pl.fixedT ⟨k, t, l, c⟩ == [126]) := fixV_is k l c t [126]
  have e2 : ((fixV k t).toList == [40]) = (Pl.fixedT ⟨k, t, l, c⟩ == [40]) := fixV_is k l c t [40]
  have HE := Lib.hid (show (Pl.begArg ⟨k, t, l, c⟩) = (decide (k = 1) || decide (k = 2) || decide (k = 4) || Pl.fixedT ⟨k, t, l, c⟩ == [95] || Pl.fixedT ⟨k, t, l, c⟩ == [126] || Pl.fixedT ⟨k, t, l, c⟩ == [40]) from rfl)
  rw [HE.out]
  clear HE
  have d1 : (k == 1) = decide (k = 1) := by by_cases h : k = 1 <;> simp [h]
  generalize decide (k = 1) = b1 at *
  have d2 : (k == 2) = decide (k = 2) := by by_cases h : k = 2 <;> simp [h]
  generalize decide (k = 2) = b2 at *
  have d4 : (k == 4) = decide (k = 4) := by by_cases h : k = 4 <;> simp [h]
  generalize decide (k = 4) = b4 at *
  generalize (Pl.fixedT ⟨k, t, l, c⟩ == [95]) = q0 at *
  generalize (Pl.fixedT ⟨k, t, l, c⟩ == [126]) = q1 at *
  generalize (Pl.fixedT ⟨k, t, l, c⟩ == [40]) = q2 at *
  generalize fixV k t = fx at *
  generalize Pl.mk t = tt at *
  go_enter Tryz.func72, Tryz.ntmps72
  cases b1
  · cases b2
    · cases b4
      · go_wp2_with fail
        refine (HF.out _).mono ?_
        rintro e w2 ⟨rfl, hb2⟩
        have HB2 := Lib.hid (show Below w.heap.size w w2 from HB0.out.trans (hb2.mono HB0.out.size))
        clear hb2
        cases q0
        · cases q1
          · cases q2
            · go_wp2
              go_ret
              exact ⟨by first | rfl | simp, HB2.out⟩
            · go_wp2
              go_ret
              exact ⟨by first | rfl | simp, HB2.out⟩
          · go_wp2
            go_ret
            exact ⟨by first | rfl | simp, HB2.out⟩
        · go_wp2
          go_ret
          exact ⟨by first | rfl | simp, HB2.out⟩
      · go_wp2
        go_ret
        exact ⟨by first | rfl | simp, HB0.out⟩
    · go_wp2
      go_ret
      exact ⟨by first | rfl | simp, HB0.out⟩
  · go_wp2
    go_ret
    exact ⟨by first | rfl | simp, HB0.out⟩
set_option maxRecDepth 100000 in
set_option maxHeartbeats 8000000 in
theorem pbegAtom_any (k li co l c : Int) (t : Pl.Bytes) (w : World) : Calls Tryz.prog 148 #[.agg #[.int .i64 k, .string (Pl.mk t), .int .i64 li, .int .i64 co]] w fun e w' => e = .returned (.bool (Pl.begAtom ⟨k, t, l, c⟩)) ∧ Below w.heap.size w w' := by
  have HB0 := Lib.hid (show Below w.heap.size w (w.alloc (.cells #[.int .i64 k, .string (Pl.mk t), .int .i64 li, .int .i64 co] 45)) from (Below.refl _ _).alloc (Nat.le_refl _) _)
  obtain ⟨c0, c1, c2, c3⟩ := four_cells (blk_new w #[.int .i64 k, .string (Pl.mk t), .int .i64 li, .int .i64 co] 45)
  have HF := Lib.hid (fun W => pfixed_any k (Pl.mk t) li co W)
  have hfx : (if k = 6 ∨ k = 7 then Pl.mk t else (⟨#[]⟩ : ByteArray)) = fixV k t := rfl
  rw [hfx] at HF
  clear hfx
  have e0 : ((fixV k t).toList == [40]) = (Pl.fixedT ⟨k, t, l, c⟩ == [40]) := fixV_is k l c t [40]
  have e1 : ((fixV k t).toList == [108, 101, 116]) = (Pl.fixedT ⟨k, t, l, c⟩ == [108, 101, 116]) := fixV_is k l c t [108, 101, 116]
  have e2 : ((fixV k t).toList == [99, 97, 115, 101]) = (Pl.fixedT ⟨k, t, l, c⟩ == [99, 97, 115, 101]) := fixV_is k l c t [99, 97, 115, 101]
  have HE := Lib.hid (show (Pl.begAtom ⟨k, t, l, c⟩) = (decide (k = 1) || decide (k = 2) || decide (k = 4) || decide (k = 5) || Pl.fixedT ⟨k, t, l, c⟩ == [40] || Pl.fixedT ⟨k, t, l, c⟩ == [108, 101, 116] || Pl.fixedT ⟨k, t, l, c⟩ == [99, 97, 115, 101]) from rfl)
  rw [HE.out]
  clear HE
  have d1 : (k == 1) = decide (k = 1) := by by_cases h : k = 1 <;> simp [h]
  generalize decide (k = 1) = b1 at *
  have d2 : (k == 2) = decide (k = 2) := by by_cases h : k = 2 <;> simp [h]
  generalize decide (k = 2) = b2 at *
  have d4 : (k == 4) = decide (k = 4) := by by_cases h : k = 4 <;> simp [h]
  generalize decide (k = 4) = b4 at *
  have d5 : (k == 5) = decide (k = 5) := by by_cases h : k = 5 <;> simp [h]
  generalize decide (k = 5) = b5 at *
  generalize (Pl.fixedT ⟨k, t, l, c⟩ == [40]) = q0 at *
  generalize (Pl.fixedT ⟨k, t, l, c⟩ == [108, 101, 116]) = q1 at *
  generalize (Pl.fixedT ⟨k, t, l, c⟩ == [99, 97, 115, 101]) = q2 at *
  generalize fixV k t = fx at *
  generalize Pl.mk t = tt at *
  go_enter Tryz.func148, Tryz.ntmps148
  cases b1
  · cases b2
    · cases b4
      · cases b5
        · go_wp2_with fail
          refine (HF.out _).mono ?_
          rintro e w2 ⟨rfl, hb2⟩
          have HB2 := Lib.hid (show Below w.heap.size w w2 from HB0.out.trans (hb2.mono HB0.out.size))
          clear hb2
          cases q0
          · cases q1
            · cases q2
              · go_wp2
                go_ret
                exact ⟨by first | rfl | simp, HB2.out⟩
              · go_wp2
                go_ret
                exact ⟨by first | rfl | simp, HB2.out⟩
            · go_wp2
              go_ret
              exact ⟨by first | rfl | simp, HB2.out⟩
          · go_wp2
            go_ret
            exact ⟨by first | rfl | simp, HB2.out⟩
        · go_wp2
          go_ret
          exact ⟨by first | rfl | simp, HB0.out⟩
      · go_wp2
        go_ret
        exact ⟨by first | rfl | simp, HB0.out⟩
    · go_wp2
      go_ret
      exact ⟨by first | rfl | simp, HB0.out⟩
  · go_wp2
    go_ret
    exact ⟨by first | rfl | simp, HB0.out⟩
set_option maxRecDepth 100000 in
set_option maxHeartbeats 8000000 in
theorem pbegPath_any (k li co : Int) (t : Pl.Bytes) (w : World) : Calls Tryz.prog 139 #[.agg #[.int .i64 k, .string (Pl.mk t), .int .i64 li, .int .i64 co]] w fun e w' => e = .returned (.bool (decide (k = 1) || decide (k = 2))) ∧ Below w.heap.size w w' := by
  have HB0 := Lib.hid (show Below w.heap.size w (w.alloc (.cells #[.int .i64 k, .string (Pl.mk t), .int .i64 li, .int .i64 co] 45)) from (Below.refl _ _).alloc (Nat.le_refl _) _)
  obtain ⟨c0, c1, c2, c3⟩ := four_cells (blk_new w #[.int .i64 k, .string (Pl.mk t), .int .i64 li, .int .i64 co] 45)
  have HE := Lib.hid (show (decide (k = 1) || decide (k = 2)) = (decide (k = 1) || decide (k = 2)) from rfl)
  rw [HE.out]
  clear HE
  have d1 : (k == 1) = decide (k = 1) := by by_cases h : k = 1 <;> simp [h]
  generalize decide (k = 1) = b1 at *
  have d2 : (k == 2) = decide (k = 2) := by by_cases h : k = 2 <;> simp [h]
  generalize decide (k = 2) = b2 at *
  generalize Pl.mk t = tt at *
  go_enter Tryz.func139, Tryz.ntmps139
  cases b1
  · cases b2
    · go_wp2
      go_ret
      exact ⟨by first | rfl | simp, HB0.out⟩
    · go_wp2
      go_ret
      exact ⟨by first | rfl | simp, HB0.out⟩
  · go_wp2
    go_ret
    exact ⟨by first | rfl | simp, HB0.out⟩
set_option maxRecDepth 100000 in
set_option maxHeartbeats 8000000 in
theorem poperator_any (k li co l c : Int) (t : Pl.Bytes) (w : World) : Calls Tryz.prog 111 #[.agg #[.int .i64 k, .string (Pl.mk t), .int .i64 li, .int .i64 co]] w fun e w' => e = .returned (.tuple #[.int .i64 (Pl.opOf ⟨k, t, l, c⟩).1, .int .i64 (Pl.opOf ⟨k, t, l, c⟩).2]) ∧ Below w.heap.size w w' := by
  have HF := Lib.hid (fun W => pfixed_any k (Pl.mk t) li co W)
  have hfx : (if k = 6 ∨ k = 7 then Pl.mk t else (⟨#[]⟩ : ByteArray)) = fixV k t := rfl
  rw [hfx] at HF
  clear hfx
  have e0 : ((fixV k t).toList == [111, 114, 101, 108, 115, 101]) = (Pl.fixedT ⟨k, t, l, c⟩ == [111, 114, 101, 108, 115, 101]) := fixV_is k l c t [111, 114, 101, 108, 115, 101]
  have e1 : ((fixV k t).toList == [97, 110, 100, 97, 108, 115, 111]) = (Pl.fixedT ⟨k, t, l, c⟩ == [97, 110, 100, 97, 108, 115, 111]) := fixV_is k l c t [97, 110, 100, 97, 108, 115, 111]
  have e2 : ((fixV k t).toList == [61]) = (Pl.fixedT ⟨k, t, l, c⟩ == [61]) := fixV_is k l c t [61]
  have e3 : ((fixV k t).toList == [60]) = (Pl.fixedT ⟨k, t, l, c⟩ == [60]) := fixV_is k l c t [60]
  have e4 : ((fixV k t).toList == [60, 61]) = (Pl.fixedT ⟨k, t, l, c⟩ == [60, 61]) := fixV_is k l c t [60, 61]
  have e5 : ((fixV k t).toList == [94]) = (Pl.fixedT ⟨k, t, l, c⟩ == [94]) := fixV_is k l c t [94]
  have e6 : ((fixV k t).toList == [43]) = (Pl.fixedT ⟨k, t, l, c⟩ == [43]) := fixV_is k l c t [43]
  have e7 : ((fixV k t).toList == [45]) = (Pl.fixedT ⟨k, t, l, c⟩ == [45]) := fixV_is k l c t [45]
  have e8 : ((fixV k t).toList == [42]) = (Pl.fixedT ⟨k, t, l, c⟩ == [42]) := fixV_is k l c t [42]
  have e9 : ((fixV k t).toList == [100, 105, 118]) = (Pl.fixedT ⟨k, t, l, c⟩ == [100, 105, 118]) := fixV_is k l c t [100, 105, 118]
  have e10 : ((fixV k t).toList == [109, 111, 100]) = (Pl.fixedT ⟨k, t, l, c⟩ == [109, 111, 100]) := fixV_is k l c t [109, 111, 100]
  have HE := Lib.hid (show Pl.opOf ⟨k, t, l, c⟩ = if (Pl.fixedT ⟨k, t, l, c⟩ == [111, 114, 101, 108, 115, 101]) = true then (1, 1) else if (Pl.fixedT ⟨k, t, l, c⟩ == [97, 110, 100, 97, 108, 115, 111]) = true then (2, 2) else if (Pl.fixedT ⟨k, t, l, c⟩ == [61]) = true then (3, 3) else if (Pl.fixedT ⟨k, t, l, c⟩ == [60]) = true then (4, 3) else if (Pl.fixedT ⟨k, t, l, c⟩ == [60, 61]) = true then (5, 3) else if (Pl.fixedT ⟨k, t, l, c⟩ == [94]) = true then (6, 4) else if (Pl.fixedT ⟨k, t, l, c⟩ == [43]) = true then (7, 5) else if (Pl.fixedT ⟨k, t, l, c⟩ == [45]) = true then (8, 5) else if (Pl.fixedT ⟨k, t, l, c⟩ == [42]) = true then (9, 6) else if (Pl.fixedT ⟨k, t, l, c⟩ == [100, 105, 118]) = true then (10, 6) else if (Pl.fixedT ⟨k, t, l, c⟩ == [109, 111, 100]) = true then (11, 6) else (0, 0) from by unfold Pl.opOf; simp only [beq_iff_eq])
  generalize Pl.opOf ⟨k, t, l, c⟩ = oo at *
  generalize (Pl.fixedT ⟨k, t, l, c⟩ == [111, 114, 101, 108, 115, 101]) = q0 at *
  generalize (Pl.fixedT ⟨k, t, l, c⟩ == [97, 110, 100, 97, 108, 115, 111]) = q1 at *
  generalize (Pl.fixedT ⟨k, t, l, c⟩ == [61]) = q2 at *
  generalize (Pl.fixedT ⟨k, t, l, c⟩ == [60]) = q3 at *
  generalize (Pl.fixedT ⟨k, t, l, c⟩ == [60, 61]) = q4 at *
  generalize (Pl.fixedT ⟨k, t, l, c⟩ == [94]) = q5 at *
  generalize (Pl.fixedT ⟨k, t, l, c⟩ == [43]) = q6 at *
  generalize (Pl.fixedT ⟨k, t, l, c⟩ == [45]) = q7 at *
  generalize (Pl.fixedT ⟨k, t, l, c⟩ == [42]) = q8 at *
  generalize (Pl.fixedT ⟨k, t, l, c⟩ == [100, 105, 118]) = q9 at *
  generalize (Pl.fixedT ⟨k, t, l, c⟩ == [109, 111, 100]) = q10 at *
  generalize fixV k t = fx at *
  generalize Pl.mk t = tt at *
  go_enter Tryz.func111, Tryz.ntmps111
  go_wp2_with fail
  have HB0 := Lib.hid (show Below w.heap.size w (w.alloc (.cells #[.int .i64 k, .string tt, .int .i64 li, .int .i64 co] 45)) from (Below.refl _ _).alloc (Nat.le_refl _) _)
  refine (HF.out _).mono ?_
  rintro e w2 ⟨rfl, hb2⟩
  have HB2 := Lib.hid (show Below w.heap.size w w2 from HB0.out.trans (hb2.mono HB0.out.size))
  clear hb2
  cases q0
  · cases q1
    · cases q2
      · cases q3
        · cases q4
          · cases q5
            · cases q6
              · cases q7
                · cases q8
                  · cases q9
                    · cases q10
                      · go_wp2
                        refine bodyPost_ret (v := .tuple #[.int .i64 0, .int .i64 0]) (by simp [results, Tryz.results111, go_sem]) rfl ?_
                        rw [HE.out]
                        exact ⟨by first | rfl | simp, HB2.out⟩
                      · go_wp2
                        refine bodyPost_ret (v := .tuple #[.int .i64 11, .int .i64 6]) (by simp [results, Tryz.results111, go_sem]) rfl ?_
                        rw [HE.out]
                        exact ⟨by first | rfl | simp, HB2.out⟩
                    · go_wp2
                      refine bodyPost_ret (v := .tuple #[.int .i64 10, .int .i64 6]) (by simp [results, Tryz.results111, go_sem]) rfl ?_
                      rw [HE.out]
                      exact ⟨by first | rfl | simp, HB2.out⟩
                  · go_wp2
                    refine bodyPost_ret (v := .tuple #[.int .i64 9, .int .i64 6]) (by simp [results, Tryz.results111, go_sem]) rfl ?_
                    rw [HE.out]
                    exact ⟨by first | rfl | simp, HB2.out⟩
                · go_wp2
                  refine bodyPost_ret (v := .tuple #[.int .i64 8, .int .i64 5]) (by simp [results, Tryz.results111, go_sem]) rfl ?_
                  rw [HE.out]
                  exact ⟨by first | rfl | simp, HB2.out⟩
              · go_wp2
                refine bodyPost_ret (v := .tuple #[.int .i64 7, .int .i64 5]) (by simp [results, Tryz.results111, go_sem]) rfl ?_
                rw [HE.out]
                exact ⟨by first | rfl | simp, HB2.out⟩
            · go_wp2
              refine bodyPost_ret (v := .tuple #[.int .i64 6, .int .i64 4]) (by simp [results, Tryz.results111, go_sem]) rfl ?_
              rw [HE.out]
              exact ⟨by first | rfl | simp, HB2.out⟩
          · go_wp2
            refine bodyPost_ret (v := .tuple #[.int .i64 5, .int .i64 3]) (by simp [results, Tryz.results111, go_sem]) rfl ?_
            rw [HE.out]
            exact ⟨by first | rfl | simp, HB2.out⟩
        · go_wp2
          refine bodyPost_ret (v := .tuple #[.int .i64 4, .int .i64 3]) (by simp [results, Tryz.results111, go_sem]) rfl ?_
          rw [HE.out]
          exact ⟨by first | rfl | simp, HB2.out⟩
      · go_wp2
        refine bodyPost_ret (v := .tuple #[.int .i64 3, .int .i64 3]) (by simp [results, Tryz.results111, go_sem]) rfl ?_
        rw [HE.out]
        exact ⟨by first | rfl | simp, HB2.out⟩
    · go_wp2
      refine bodyPost_ret (v := .tuple #[.int .i64 2, .int .i64 2]) (by simp [results, Tryz.results111, go_sem]) rfl ?_
      rw [HE.out]
      exact ⟨by first | rfl | simp, HB2.out⟩
  · go_wp2
    refine bodyPost_ret (v := .tuple #[.int .i64 1, .int .i64 1]) (by simp [results, Tryz.results111, go_sem]) rfl ?_
    rw [HE.out]
    exact ⟨by first | rfl | simp, HB2.out⟩
end Go.Proofs.YtjedahcpkcgpeaaGreatDoor

/-
  Memory of layer 4: a list of trees that a reader makes.
-/
namespace Go.Proofs.YtjedahcpkcgpeaaGreatDoor
open Go Go.RowKit
set_option linter.unusedSimpArgs false
def CellsAt (us : List Value) (o : Nat) (v : Value) : Prop := ∃ x0 x1 x2 x3 x4, v = .agg #[x0, x1, x2, x3, x4] ∧ us[o]? = some x0 ∧ us[o + 1]? = some x1 ∧ us[o + 2]? = some x2 ∧ us[o + 3]? = some x3 ∧ us[o + 4]? = some x4
def TreesAt (w : World) (base : Nat) (v : Value) (ts : List Pl.Syn) : Prop :=
  ∃ us R, w.ownsRow base 27 5 v ts.length us ∧ (∀ b, R b → base ≤ b ∧ b < w.heap.size ∧ v.ownBlock ≠ some b) ∧ ∀ j (h : j < ts.length), ∃ x, CellsAt us (j * 5) x ∧ SynV w R ts[j] x
theorem TreesAt.nil (w : World) (base : Nat) : TreesAt w base (.slice none 0 0) [] :=
  ⟨[], fun _ => False, World.ownsRow_nil _ _ _ _, fun _ h => h.elim, fun _ h => absurd h (Nat.not_lt_zero _)⟩
theorem TreesAt.keep {w w' : World} {base g : Nat} {v : Value} {ts : List Pl.Syn} (h : TreesAt w base v ts) (hg : g < base) (hf : Fr (· = g) (· = g) w w') : TreesAt w' base v ts := by
  obtain ⟨us, R, h1, h2, h3⟩ := h
  refine ⟨us, R, h1.kept (row := some g) ⟨hf.1, hf.2.1, hf.2.2.1, hf.size, fun k hk hn => hf.block hk (fun e => hn (by rw [e]))⟩ (.inr fun e => ?_), fun b hb => ⟨(h2 b hb).1, Nat.lt_of_lt_of_le (h2 b hb).2.1 hf.size, (h2 b hb).2.2⟩, fun j hj => ?_⟩
  · have := (h1.lt g e).1
    omega
  · obtain ⟨x, hx, hs⟩ := h3 j hj
    exact ⟨x, hx, hs.keep (fun b hb => hf.block (h2 b hb).2.1 (fun e => by have := (h2 b hb).1; omega))⟩
theorem TreesAt.syns {w : World} {base : Nat} {v : Value} {ts : List Pl.Syn} (h : TreesAt w base v ts) : SynSl w (fun b => base ≤ b ∧ b < w.heap.size) v ts := by
  obtain ⟨us, R, h1, h2, h3⟩ := h
  have hc : ∀ {g : Nat}, v.ownBlock = some g → ∀ j u, us[j]? = some u → w.cell? ((⟨g, 0, none⟩ : Addr).add j) = some u := fun h => h1.cells h
  rcases h1.2 with ⟨rfl, h0⟩ | ⟨g, cap, cur, rfl, hbg, hg, hnc, hcm, -, -⟩
  · obtain rfl := List.eq_nil_of_length_eq_zero h0
    exact ⟨none, 0, rfl, Nat.le_refl _, Nat.zero_le _, fun _ => rfl, .inl rfl⟩
  · refine ⟨_, cap, rfl, hnc, hcm, fun h => (by cases h), .inr ⟨g, 0, rfl, ⟨hbg, h1.lt g rfl |>.2⟩, (kidsAt_iff _ _ _ _ _).2 fun j hj => ?_⟩⟩
    obtain ⟨x, ⟨x0, x1, x2, x3, x4, rfl, c0, c1, c2, c3, c4⟩, hs⟩ := h3 j hj
    have each : ∀ i u, us[i]? = some u → w.cell? ⟨g, 0 + i, none⟩ = some u := fun i u hu => by
      have := hc rfl i u hu
      by_cases h0 : i = 0
      · subst h0
        simpa [Addr.add] using this
      · simpa [Addr.add, h0] using this
    refine ⟨_, ⟨x0, x1, x2, x3, x4, rfl, each _ _ c0, ?_, ?_, ?_, ?_⟩, hs.mono fun b hb => ⟨(h2 b hb).1, (h2 b hb).2.1⟩⟩
    · rw [Nat.add_assoc]; exact each _ _ c1
    · rw [Nat.add_assoc]; exact each _ _ c2
    · rw [Nat.add_assoc]; exact each _ _ c3
    · rw [Nat.add_assoc]; exact each _ _ c4
theorem CellsAt.left {us vs : List Value} {o : Nat} {v : Value} (h : CellsAt us o v) : CellsAt (us ++ vs) o v := by
  obtain ⟨x0, x1, x2, x3, x4, rfl, h0, h1, h2, h3, h4⟩ := h
  have each : ∀ (i : Nat) (x : Value), us[i]? = some x → (us ++ vs)[i]? = some x := by
    intro i x hx
    rw [List.getElem?_append_left (by
      rcases Nat.lt_or_ge i us.length with hlt | hge
      · exact hlt
      · rw [List.getElem?_eq_none hge] at hx; cases hx)]
    exact hx
  exact ⟨x0, x1, x2, x3, x4, rfl, each _ _ h0, each _ _ h1, each _ _ h2, each _ _ h3, each _ _ h4⟩
theorem CellsAt.last (us : List Value) (x0 x1 x2 x3 x4 : Value) : CellsAt (us ++ [x0, x1, x2, x3, x4]) us.length (.agg #[x0, x1, x2, x3, x4]) :=
  ⟨x0, x1, x2, x3, x4, rfl, by simp, by simp, by simp, by simp, by simp⟩
theorem trees_push {w w' : World} {base : Nat} {v v' : Value} {ts : List Pl.Syn} {us : List Value} {R S : Nat → Prop} {y : Pl.Syn} {y0 y1 y2 y3 y4 : Value}
    (h1 : w.ownsRow base 27 5 v ts.length us) (h2 : ∀ b, R b → base ≤ b ∧ b < w.heap.size ∧ v.ownBlock ≠ some b) (h3 : ∀ j (h : j < ts.length), ∃ x, CellsAt us (j * 5) x ∧ SynV w R ts[j] x)
    (hy : SynV w S y (.agg #[y0, y1, y2, y3, y4])) (hS : ∀ b, S b → base ≤ b ∧ b < w.heap.size ∧ v.ownBlock ≠ some b)
    (ho : w'.ownsRow base 27 5 v' (ts ++ [y]).length (us ++ [y0, y1, y2, y3, y4])) (hg : w.grownBy w' v.ownBlock) (hb : ∀ k, v'.ownBlock = some k → v.ownBlock = some k ∨ w.heap.size ≤ k) : TreesAt w' base v' (ts ++ [y]) := by
  have hall : ∀ b, R b ∨ S b → base ≤ b ∧ b < w.heap.size ∧ v.ownBlock ≠ some b := fun b h => h.elim (h2 b) (hS b)
  have hsame : Same (fun b => R b ∨ S b) w w' := fun b h => hg.block b (hall b h).2.1 (fun e => (hall b h).2.2 e.symm)
  refine ⟨_, fun b => R b ∨ S b, ho, fun b h => ⟨(hall b h).1, Nat.lt_of_lt_of_le (hall b h).2.1 hg.size, fun e => ?_⟩, fun j hj => ?_⟩
  · rcases hb b e with e | e
    · exact (hall b h).2.2 e
    · have := (hall b h).2.1
      omega
  · rcases Nat.lt_or_ge j ts.length with hlt | hge
    · obtain ⟨x, hx, hs⟩ := h3 j hlt
      refine ⟨x, hx.left, ?_⟩
      rw [List.getElem_append_left hlt]
      exact (hs.mono (fun b hb => Or.inl hb)).keep hsame
    · have e : j = ts.length := by simp at hj; omega
      subst e
      refine ⟨.agg #[y0, y1, y2, y3, y4], ?_, ?_⟩
      · rw [← h1.1]
        exact CellsAt.last us y0 y1 y2 y3 y4
      · rw [List.getElem_append_right (Nat.le_refl _)]
        simp only [Nat.sub_self, List.getElem_cons_zero]
        exact (hy.mono (fun b hb => Or.inr hb)).keep hsame
end Go.Proofs.YtjedahcpkcgpeaaGreatDoor

/-
  Walks of layer 4: one or more trees with a key word or a symbol between them.
-/
namespace Go.Proofs.YtjedahcpkcgpeaaGreatDoor
open Go Go.RowKit
set_option linter.unusedSimpArgs false
theorem infoTree : (Tryz.prog.info? 27).map (fun i => (i.zero, i.size, i.bytes)) = some (some (.agg #[.int .i64 0, .int .i64 0, .string ⟨#[]⟩, .slice none 0 0, .slice none 0 0]), 5, 80) := by kernel_rfl
theorem tree_open {w : World} {P : Nat → Prop} {t : Pl.Syn} {v : Value} (h : SynV w P t v) : ∃ x0 x1 x2 na nl nc la ll lc, v = .agg #[.int .i64 x0, .int .i64 x1, .string x2, .slice na nl nc, .slice la ll lc] := by
  obtain ⟨-, nv, lv, rfl, hnv, hlv⟩ := (synV_iff _ _ _ _).1 h
  obtain ⟨na, nc, rfl, -⟩ := hnv
  obtain ⟨la, lc, rfl, -⟩ := hlv
  exact ⟨_, _, _, _, _, _, _, _, _, rfl⟩
def TreesOut (s : Src) (g : Nat) (r : Pl.PR (List Pl.Syn)) (w : World) (e : Ending) (w' : World) : Prop :=
  (match r with
    | .ok ts j => ∃ v, e = .returned v ∧ TreesAt w' w.heap.size v ts ∧ PAt w' g s j
    | .bad j => e = faultAt s j) ∧ Fr (· = g) (· = g) w w'
theorem trees_one {w w1 : World} {y : Pl.Syn} {y0 y1 y2 y3 y4 : Value} (hle : w.heap.size ≤ w1.heap.size) (hy : SynV w1 (fun b => w.heap.size ≤ b ∧ b < w1.heap.size) y (.agg #[y0, y1, y2, y3, y4])) :
    TreesAt (w1.alloc (.cells #[y0, y1, y2, y3, y4] 27)) w.heap.size (.slice (some ⟨w1.heap.size, 0, none⟩) 1 1) [y] := by
  have hb : Below w1.heap.size w1 (w1.alloc (.cells #[y0, y1, y2, y3, y4] 27)) := (Below.refl _ _).alloc (Nat.le_refl _) _
  refine ⟨[y0, y1, y2, y3, y4], fun b => w.heap.size ≤ b ∧ b < w1.heap.size, World.ownsRow_lit (base := w.heap.size) (e := 27) (size := 5) w1 #[y0, y1, y2, y3, y4] 1 hle (by unfold maxLen; omega) rfl, fun b h => ⟨h.1, Nat.lt_of_lt_of_le h.2 hb.size, fun e => ?_⟩, fun j hj => ?_⟩
  · have e : some w1.heap.size = some b := e
    injection e with e
    omega
  · have e : j = 0 := by simp at hj; omega
    subst e
    exact ⟨_, ⟨y0, y1, y2, y3, y4, rfl, rfl, rfl, rfl, rfl, rfl⟩, hy.keep (fun b h => hb.block b h.2)⟩
set_option maxRecDepth 100000 in
set_option maxHeartbeats 8000000 in
theorem pseparated_any (s : Src) (g i k : Nat) (b : Pl.Bytes) (hb : b ≠ []) (read : Nat → Pl.PR Pl.Syn) (hgo : ∀ j t m, read j = .ok t m → j < m) (hread : ∀ W j, i ≤ j → PAt W g s j → Calls Tryz.prog k #[.pointer (some ⟨g, 0, none⟩)] W (TreeOut s g (read j) W)) (hen : ∀ W, Sem.run Tryz.prog (callFunc k #[.pointer (some ⟨g, 0, none⟩)]) W = .ok (.enter k #[.pointer (some ⟨g, 0, none⟩)]) W) (w : World) (h : PAt w g s i) (hbig : s.ts.length ≤ 536870912) :
    Calls Tryz.prog 113 #[.pointer (some ⟨g, 0, none⟩), .string (Pl.mk b), .func (.func k) #[.pointer (some ⟨g, 0, none⟩)] #[]] w (TreesOut s g (Pl.sepd s.ts b read i) w) := by
  obtain ⟨i28, hi0, hz0, hz1, hz2⟩ := info3 infoTree
  have HP := Lib.hid h
  have HGL := Lib.hid h.blk.lt
  have HRD := Lib.hid hread
  have HGO := Lib.hid hgo
  have HPS := Lib.hid (fun W j (hW : PAt W g s j) => ppass_any s g j b hb W hW)
  have HMP := Lib.hid (show Pl.sepd s.ts b read i = (read i).then fun t j => Pl.sepMore s.ts b read (s.ts.length + 1) [t] j from rfl)
  generalize Pl.sepd s.ts b read i = r at *
  have HMM := Lib.hid (fun n ts j => show Pl.sepMore s.ts b read (n + 1) ts j = if Pl.passes s.ts j b then (read (j + 1)).then fun t k => Pl.sepMore s.ts b read n (ts ++ [t]) k else .ok ts j from rfl)
  generalize Pl.mk b = bb at *
  clear hread hgo h
  go_enter Tryz.func113, Tryz.ntmps113
  go_wp2_with fail
  refine (HRD.out _ _ (Nat.le_refl _) HP.out).mono ?_
  rintro e w1 ⟨ht, hf1⟩
  cases hri : read i with
  | bad j =>
    rw [hri] at ht HMP
    have hq : e = faultAt s j := ht
    subst hq
    refine ⟨rfl, ?_⟩
    unfold TreesOut
    rw [HMP.out, Pl.PR.then_bad]
    exact ⟨rfl, hf1⟩
  | ok t j =>
    rw [hri] at ht HMP
    have hij := HGO.out _ _ _ hri
    rw [Pl.PR.then_ok] at HMP
    obtain ⟨v, rfl, hs, hp1⟩ := ht
    obtain ⟨x0, x1, x2, na, nl, nc, la, ll, lc, rfl⟩ := tree_open hs
    have HF1 := Lib.hid hf1
    have HB1 := Lib.hid (show Below w1.heap.size w1 (w1.alloc (.cells #[.int .i64 x0, .int .i64 x1, .string x2, .slice na nl nc, .slice la ll lc] 27)) from (Below.refl _ _).alloc (Nat.le_refl _) _)
    have HN0 := Lib.hid (trees_one hf1.size hs)
    have HP1 := Lib.hid (hp1.below HB1.out)
    clear hf1 hp1 hs hri
    go_wp2_with fail
    go_loopg [7] (s.ts.length + 1) (fun gk v wr => ∃ (j : Nat) (ts : List Pl.Syn), PAt wr g s j ∧ Fr (· = g) (· = g) w wr ∧ TreesAt wr w.heap.size v ts ∧ r = Pl.sepMore s.ts b read gk ts j ∧ s.ts.length + 2 ≤ gk + j ∧ ts.length ≤ j ∧ i ≤ j)
    case atStart => exact ⟨j, [t], HP1.out, HF1.out.trans (fr_below HB1.out), HN0.out, HMP.out, by omega, by simp; omega, by omega⟩
    case round =>
      obtain ⟨j, ts, hp, hf, hn, hr, hj, hnl, hij2⟩ := hrel
      have hjn := hp.inn
      have HP2 := Lib.hid hp
      have HF2 := Lib.hid hf
      have HN2 := Lib.hid hn
      have HRR := Lib.hid hr
      obtain ⟨G, hG⟩ : ∃ G, gk = G + 1 := ⟨gk - 1, by omega⟩
      clear hf hn hr
      go_wp2_with fail
      refine (HPS.out _ _ hp).mono ?_
      rintro e w2 ⟨rfl, hp2, hf2⟩
      have hmm := HMM.out G ts j
      have hrr := HRR.out
      rw [hG, hmm] at hrr
      generalize Pl.passes s.ts j b = pb at *
      clear hp hmm
      cases pb
      · have HR2 := Lib.hid (show r = .ok ts j from hrr)
        have HS := Lib.hid (HN2.out.keep HGL.out hf2)
        have HPE := Lib.hid (show PAt w2 g s j from hp2)
        have HFE := Lib.hid (HF2.out.trans hf2)
        clear hrr hp2 hf2 hG
        go_wp2
        go_ret
        unfold TreesOut
        rw [HR2.out]
        exact ⟨⟨_, rfl, HS.out, HPE.out⟩, HFE.out⟩
      · have HR2 := Lib.hid (show r = (read (j + 1)).then fun t k => Pl.sepMore s.ts b read G (ts ++ [t]) k from hrr)
        have HP3 := Lib.hid (show PAt w2 g s (j + 1) from hp2)
        have HF3 := Lib.hid (HF2.out.trans hf2)
        have HN3 := Lib.hid (HN2.out.keep HGL.out hf2)
        clear hrr hp2 hf2
        go_wp2_with fail
        refine (HRD.out _ _ (by omega) HP3.out).mono ?_
        rintro e w3 ⟨ht, hf3⟩
        have hin3 := HP3.out.inn
        cases hri : read (j + 1) with
        | bad q =>
          rw [hri] at ht HR2
          have hq : e = faultAt s q := ht
          subst hq
          refine ⟨rfl, ?_⟩
          unfold TreesOut
          rw [HR2.out, Pl.PR.then_bad]
          exact ⟨rfl, HF3.out.trans hf3⟩
        | ok y q =>
          rw [hri] at ht HR2
          have hjq := HGO.out _ _ _ hri
          rw [Pl.PR.then_ok] at HR2
          obtain ⟨v, rfl, hs, hp3⟩ := ht
          obtain ⟨x0, x1, x2, na, nl, nc, la, ll, lc, rfl⟩ := tree_open hs
          have HBA := Lib.hid (show Below w3.heap.size w3 (w3.alloc (.cells #[.int .i64 x0, .int .i64 x1, .string x2, .slice na nl nc, .slice la ll lc] 27)) from (Below.refl _ _).alloc (Nat.le_refl _) _)
          have HF4 := Lib.hid ((HF3.out.trans hf3).trans (fr_below HBA.out))
          have HN4 := Lib.hid ((HN3.out.keep HGL.out hf3).keep HGL.out (fr_below HBA.out))
          have HP4 := Lib.hid (hp3.below HBA.out)
          have hqn := hp3.inn
          have HSY := Lib.hid (hs.keep (fun b h => HBA.out.block b h.2))
          have HW2 := Lib.hid (HF3.out.size)
          have HW3 := Lib.hid (show w2.heap.size ≤ w3.heap.size from hf3.size)
          have HWA := Lib.hid (show (w3.alloc (.cells #[.int .i64 x0, .int .i64 x1, .string x2, .slice na nl nc, .slice la ll lc] 27)).heap.size = w3.heap.size + 1 from by simp)
          have HOL := Lib.hid (fun k hk => (show w.heap.size ≤ k ∧ k < w2.heap.size from by obtain ⟨us, R, h1, -, -⟩ := HN3.out; exact h1.lt k hk))
          have HGJ := Lib.hid hG
          clear hf3 hp3 hri hs hG
          obtain ⟨us, R, hown0, hR, hnd⟩ := HN4.out
          have HR := Lib.hid hR
          have HND := Lib.hid hnd
          have HOWN := Lib.hid hown0
          obtain ⟨ln, hln⟩ : ∃ ln, ln = ts.length := ⟨_, rfl⟩
          have HROW := Lib.hid (show (w3.alloc (.cells #[.int .i64 x0, .int .i64 x1, .string x2, .slice na nl nc, .slice la ll lc] 27)).ownsRow w.heap.size 27 5 u7 ln us from by rw [hln]; exact hown0)
          have HNL := Lib.hid hln
          rw [← hln] at hnl
          clear hln hown0 hnd hR
          go_wp2_with (at_builtin; refine wpList_append_lies _ rfl _ _ 25 rfl w.heap.size 27 i28 (.agg #[.int .i64 0, .int .i64 0, .string ⟨#[]⟩, .slice none 0 0, .slice none 0 0]) 5 80 Tryz.underlying25 hi0 hz0 hz1 hz2 rfl (by decide) _ _ _ rfl HROW.out ⟨w3.heap.size, 0, none⟩ 1 1 [.int .i64 x0, .int .i64 x1, .string x2, .slice na nl nc, .slice la ll lc] rfl rfl ?c1 ?c2 (by decide) ?c3 ?c4 ?c5 (w3.heap.size + 1) (by simp) ?_)
          case c1 => exact World.news_of_block (cs := #[.int .i64 x0, .int .i64 x1, .string x2, .slice na nl nc, .slice la ll lc]) (t := 27) (fr := (0, 0)) (heap_alloc_new w3 _)
          case c2 => simp [Value.oneCell']
          case c3 => unfold maxLen; omega
          case c4 => omega
          case c5 => have := HW2.out; have := HW3.out; simp; omega
          intro gg cap w4 hown hgrow hat hlt
          have hob : ∀ k, u7.ownBlock = some k → w.heap.size ≤ k := fun k hk => (HOL.out k hk).1
          have HN5 := Lib.hid (trees_push (y := y) HOWN.out HR.out HND.out HSY.out (fun b hb => ⟨Nat.le_trans HW2.out hb.1, by rw [HWA.out]; omega, fun e => by have := (HOL.out b e).2; omega⟩) (by
            rw [List.length_append, ← HNL.out]
            exact hown) hgrow (fun k hk => by
            have e : some gg = some k := hk
            injection e with e
            subst e
            rcases hat with hat | hat
            · exact .inl hat
            · right; rw [HWA.out, hat]; exact Nat.le_refl _))
          have HP5 := Lib.hid (HP4.out.grown hgrow (fun k hk => Nat.lt_of_lt_of_le HGL.out (hob k hk)))
          have HF5 := Lib.hid (fr_grown HF4.out hgrow hob)
          have HNN := Lib.hid (show (ts ++ [y]).length ≤ q from by rw [List.length_append, ← HNL.out]; simp; omega)
          clear hown hgrow hob hat hlt
          go_wp2
          go_roundg G
          case measure => have := HGJ.out; omega
          case rel => exact ⟨q, ts ++ [y], HP5.out, HF5.out, HN5.out, HR2.out, by have := HGJ.out; omega, HNN.out, by omega⟩
end Go.Proofs.YtjedahcpkcgpeaaGreatDoor

/-
  Walks of layer 4: a product of types.
-/
namespace Go.Proofs.YtjedahcpkcgpeaaGreatDoor
open Go Go.RowKit
set_option linter.unusedSimpArgs false
theorem tree_fin {w w1 : World} {B : Nat} {s : Src} {g j : Nat} {v : Value} {t : Pl.Syn} (hg : g < w.heap.size) (hf : Fr (· = g) (· = g) w w1) (hs : SynV w1 (fun b => B ≤ b ∧ b < w1.heap.size) t v) (h0 : w.heap.size < B) (hp : PAt w1 g s j) (x0 x1 x2 x3 x4 : Value) :
    (∃ u, Ending.returned v = .returned u ∧ SynV (putFive w1 w.heap.size x0 x1 x2 x3 x4) (fun b => w.heap.size ≤ b ∧ b < (putFive w1 w.heap.size x0 x1 x2 x3 x4).heap.size) t u ∧ PAt (putFive w1 w.heap.size x0 x1 x2 x3 x4) g s j) ∧ Fr (· = g) (· = g) w (putFive w1 w.heap.size x0 x1 x2 x3 x4) := by
  have hb := putFive_below (Below.refl w.heap.size w1) (Nat.le_refl _) x0 x1 x2 x3 x4
  refine ⟨⟨_, rfl, (hs.keep ?_).mono ?_, hp.under hb hg⟩, fr_under hf hb (Nat.le_refl _)⟩
  · intro b hb
    exact putFive_other _ _ _ (by omega) _ _ _ _ _
  · intro b hb1
    have := hb.size
    omega
set_option maxRecDepth 100000 in
set_option maxHeartbeats 8000000 in
theorem pproduct_any (s : Src) (g i : Nat) (post : Nat → Pl.PR Pl.Syn) (hgo : ∀ j t m, post j = .ok t m → j < m) (hpost : ∀ W j, i ≤ j → PAt W g s j → Calls Tryz.prog 114 #[.pointer (some ⟨g, 0, none⟩)] W (TreeOut s g (post j) W)) (w : World) (h : PAt w g s i) (hbig : s.ts.length ≤ 536870912) :
    Calls Tryz.prog 68 #[.pointer (some ⟨g, 0, none⟩)] w (TreeOut s g ((Pl.sepd s.ts [42] post i).then fun ts j => .ok (Pl.tupleOf 4 ts) j) w) := by
  have HP := Lib.hid h
  have HG := Lib.hid h.blk.lt
  have HS := Lib.hid (fun W (hW : PAt W g s i) => pseparated_any s g i 114 [42] (by decide) post hgo hpost (fun _ => rfl) W hW hbig)
  have hmk : (Pl.mk [42] : ByteArray) = ⟨#[42]⟩ := rfl
  rw [hmk] at HS
  have HTU := Lib.hid (fun P l v W (hP : ∀ b, P b → b < W.heap.size) (hl : SynSl W P v l) => ptuple_any 4 P l v W hP hl)
  obtain ⟨r, hr⟩ : ∃ r, r = ((Pl.sepd s.ts [42] post i).then fun ts j => (.ok (Pl.tupleOf 4 ts) j : Pl.PR Pl.Syn)) := ⟨_, rfl⟩
  rw [← hr]
  have HE := Lib.hid hr
  clear hr
  generalize Pl.sepd s.ts [42] post i = m at *
  have hmf : ∀ (fn : Fn) (first cap : Array Value) (w : World), (Instr.makeFunc fn first cap).run Tryz.prog w = .ok (.func fn first cap) w := fun _ _ _ _ => rfl
  have HB0 := Lib.hid (show Below w.heap.size w (w.alloc (.cells #[.int .i64 0, .int .i64 0, .string ⟨#[]⟩, .slice none 0 0, .slice none 0 0] 27)) from (Below.refl _ _).alloc (Nat.le_refl _) _)
  have HX0 := Lib.hid (blk_new w #[.int .i64 0, .int .i64 0, .string ⟨#[]⟩, .slice none 0 0, .slice none 0 0] 27)
  have HP0 := Lib.hid (HP.out.below HB0.out)
  clear h hmk hpost hgo
  go_enter Tryz.func68, Tryz.ntmps68
  go_wp2_with fail
  have hmc := HS.out _ HP0.out
  generalize w.alloc (.cells #[.int .i64 0, .int .i64 0, .string ⟨#[]⟩, .slice none 0 0, .slice none 0 0] 27) = w0 at *
  refine hmc.mono ?_
  rintro e w1 ⟨hq, hf⟩
  have HF := Lib.hid ((fr_below (o := (· = g)) HB0.out).trans hf)
  have HX1 := Lib.hid (HX0.out.of_eq (hf.block HX0.out.lt (fun e => by have := HG.out; omega)))
  cases m with
  | bad j =>
    have hq' : e = faultAt s j := hq
    subst hq'
    refine ⟨rfl, ?_⟩
    unfold TreeOut
    rw [HE.out, Pl.PR.then_bad]
    exact ⟨rfl, HF.out⟩
  | ok ts j =>
    obtain ⟨v, rfl, hs, hp⟩ := hq
    have HT := Lib.hid hs.syns
    have HP1 := Lib.hid hp
    have h0lt := HX0.out.lt
    have H0LT := Lib.hid h0lt
    clear hs hp hf hmc h0lt
    go_wp2_with fail
    refine (HTU.out _ _ _ _ (fun b h => h.2) HT.out).mono ?_
    rintro e w2 ⟨⟨u, rfl, hu⟩, hb2⟩
    obtain ⟨x0, x1, x2, na, nl, nc, la, ll, lc, rfl⟩ := tree_open hu
    have HU := Lib.hid (hu.mono (Q := fun b => w0.heap.size ≤ b ∧ b < w2.heap.size) (fun b h => ⟨h.1, Nat.lt_of_lt_of_le h.2 hb2.size⟩))
    have HX2 := Lib.hid (HX1.out.of_eq (hb2.block _ HX1.out.lt))
    have HP2 := Lib.hid (HP1.out.below hb2)
    have HF2 := Lib.hid (HF.out.trans (fr_below hb2))
    obtain ⟨c0, c1, c2, c3, c4⟩ := five_cells HX2.out
    have y0 := HX2.out.thaw 0
    have y1 := HX2.out.thaw 1
    have y2 := HX2.out.thaw 2
    have y3 := HX2.out.thaw 3
    have y4 := HX2.out.thaw 4
    clear hu hb2
    go_wp2_with fail
    have HEN := putFive_blk HX2.out (.int .i64 x0) (.int .i64 x1) (.string x2) (.slice na nl nc) (.slice la ll lc)
    have HFI := tree_fin HG.out HF2.out HU.out H0LT.out HP2.out (.int .i64 x0) (.int .i64 x1) (.string x2) (.slice na nl nc) (.slice la ll lc)
    unfold putFive at HEN HFI
    obtain ⟨k0, k1, k2, k3, k4⟩ := five_cells HEN
    refine bodyPost_ret (v := .agg #[.int .i64 x0, .int .i64 x1, .string x2, .slice na nl nc, .slice la ll lc]) (by simp [results, Tryz.results68, go_sem, k0, k1, k2, k3, k4]) rfl ?_
    unfold TreeOut
    rw [HE.out, Pl.PR.then_ok]
    exact HFI
end Go.Proofs.YtjedahcpkcgpeaaGreatDoor

/-
  Walks of layer 4: a negation.
-/
namespace Go.Proofs.YtjedahcpkcgpeaaGreatDoor
open Go Go.RowKit
set_option linter.unusedSimpArgs false
theorem synV_make {w : World} {P : Nat → Prop} {op n : Int} {tx : ByteArray} {ns : List ByteArray} {l : List Pl.Syn} {nv lv : Value} (ht : tx.size ≤ maxLen) (hn : StrSl w P nv ns) (hl : SynSl w P lv l) : SynV w P ⟨op, n, tx, ns, l⟩ (.agg #[.int .i64 op, .int .i64 n, .string tx, nv, lv]) :=
  (synV_iff _ _ _ _).2 ⟨ht, nv, lv, rfl, hn, hl⟩
theorem strs_none (w : World) (P : Nat → Prop) : StrSl w P (.slice none 0 0) [] := ⟨none, 0, rfl, Nat.le_refl _, Nat.zero_le _, fun _ => rfl, fun z hz => (by cases hz), Or.inl rfl⟩
set_option maxRecDepth 100000 in
set_option maxHeartbeats 8000000 in
theorem pnegation_any (s : Src) (g i : Nat) (neg app : Nat → Pl.PR Pl.Syn) (hneg : ∀ W, PAt W g s (i + 1) → Calls Tryz.prog 110 #[.pointer (some ⟨g, 0, none⟩)] W (TreeOut s g (neg (i + 1)) W)) (happ : ∀ W, PAt W g s i → Calls Tryz.prog 137 #[.pointer (some ⟨g, 0, none⟩)] W (TreeOut s g (app i) W)) (w : World) (h : PAt w g s i) :
    Calls Tryz.prog 110 #[.pointer (some ⟨g, 0, none⟩)] w (TreeOut s g (if Pl.passes s.ts i [126] then (neg (i + 1)).then fun t j => .ok ⟨32, 12, ByteArray.empty, [], [t]⟩ j else app i) w) := by
  have HP := Lib.hid h
  have HG := Lib.hid h.blk.lt
  have HPS := Lib.hid (fun W (hW : PAt W g s i) => ppass_any s g i [126] (by decide) W hW)
  have hmk : (Pl.mk [126] : ByteArray) = ⟨#[126]⟩ := rfl
  rw [hmk] at HPS
  have HNE := Lib.hid hneg
  have HAP := Lib.hid happ
  obtain ⟨r, hr⟩ : ∃ r, r = (if Pl.passes s.ts i [126] then (neg (i + 1)).then fun t j => (.ok ⟨32, 12, ByteArray.empty, [], [t]⟩ j : Pl.PR Pl.Syn) else app i) := ⟨_, rfl⟩
  rw [← hr]
  generalize neg (i + 1) = rn at *
  generalize app i = ra at *
  generalize Pl.passes s.ts i [126] = pb at *
  have HR := Lib.hid hr
  have HB0 := Lib.hid (show Below w.heap.size w (w.alloc (.cells #[.int .i64 0, .int .i64 0, .string ⟨#[]⟩, .slice none 0 0, .slice none 0 0] 27)) from (Below.refl _ _).alloc (Nat.le_refl _) _)
  have HX0 := Lib.hid (blk_new w #[.int .i64 0, .int .i64 0, .string ⟨#[]⟩, .slice none 0 0, .slice none 0 0] 27)
  have HP0 := Lib.hid (HP.out.below HB0.out)
  have H0LT := Lib.hid HX0.out.lt
  clear h hr hmk hneg happ
  go_enter Tryz.func110, Tryz.ntmps110
  go_wp2_with fail
  have hmc := HPS.out _ HP0.out
  generalize w.alloc (.cells #[.int .i64 0, .int .i64 0, .string ⟨#[]⟩, .slice none 0 0, .slice none 0 0] 27) = w0 at *
  refine hmc.mono ?_
  rintro e w1 ⟨rfl, hp1, hf⟩
  have HF := Lib.hid ((fr_below (o := (· = g)) HB0.out).trans hf)
  have HX1 := Lib.hid (HX0.out.of_eq (hf.block HX0.out.lt (fun e => by have := HG.out; omega)))
  have HW1 := Lib.hid hf.size
  clear hmc hf
  cases pb
  · have HP1 := Lib.hid (show PAt w1 g s i from hp1)
    clear hp1
    go_wp2_with fail
    refine (HAP.out _ HP1.out).mono ?_
    rintro e w2 ⟨hq, hf2⟩
    have HF2 := Lib.hid (HF.out.trans hf2)
    have HX2 := Lib.hid (HX1.out.of_eq (hf2.block HX1.out.lt (fun e => by have := HG.out; omega)))
    have HW2 := Lib.hid hf2.size
    cases ra with
    | bad j =>
      have hq' : e = faultAt s j := hq
      subst hq'
      refine ⟨rfl, ?_⟩
      unfold TreeOut
      rw [show r = .bad j from HR.out]
      exact ⟨rfl, HF2.out⟩
    | ok t j =>
      obtain ⟨v, rfl, hu, hp2⟩ := hq
      obtain ⟨x0, x1, x2, na, nl, nc, la, ll, lc, rfl⟩ := tree_open hu
      have HU := Lib.hid (hu.mono (Q := fun b => w0.heap.size ≤ b ∧ b < w2.heap.size) (fun b h => ⟨Nat.le_trans HW1.out h.1, h.2⟩))
      have HP2 := Lib.hid hp2
      have HR2 := Lib.hid (show r = .ok t j from HR.out)
      clear hu hp2 hf2
      obtain ⟨c0, c1, c2, c3, c4⟩ := five_cells HX2.out
      have y0 := HX2.out.thaw 0
      have y1 := HX2.out.thaw 1
      have y2 := HX2.out.thaw 2
      have y3 := HX2.out.thaw 3
      have y4 := HX2.out.thaw 4
      go_wp2_with fail
      have HEN := putFive_blk HX2.out (.int .i64 x0) (.int .i64 x1) (.string x2) (.slice na nl nc) (.slice la ll lc)
      have HFI := tree_fin HG.out HF2.out HU.out H0LT.out HP2.out (.int .i64 x0) (.int .i64 x1) (.string x2) (.slice na nl nc) (.slice la ll lc)
      unfold putFive at HEN HFI
      obtain ⟨k0, k1, k2, k3, k4⟩ := five_cells HEN
      refine bodyPost_ret (v := .agg #[.int .i64 x0, .int .i64 x1, .string x2, .slice na nl nc, .slice la ll lc]) (by simp [results, Tryz.results110, go_sem, k0, k1, k2, k3, k4]) rfl ?_
      unfold TreeOut
      rw [HR2.out]
      exact HFI
  · have HP1 := Lib.hid (show PAt w1 g s (i + 1) from hp1)
    clear hp1
    go_wp2_with fail
    refine (HNE.out _ HP1.out).mono ?_
    rintro e w2 ⟨hq, hf2⟩
    have HF2 := Lib.hid (HF.out.trans hf2)
    have HX2 := Lib.hid (HX1.out.of_eq (hf2.block HX1.out.lt (fun e => by have := HG.out; omega)))
    have HW2 := Lib.hid hf2.size
    cases rn with
    | bad j =>
      have hq' : e = faultAt s j := hq
      subst hq'
      refine ⟨rfl, ?_⟩
      unfold TreeOut
      rw [show r = .bad j from HR.out]
      exact ⟨rfl, HF2.out⟩
    | ok t j =>
      obtain ⟨v, rfl, hu, hp2⟩ := hq
      obtain ⟨x0, x1, x2, na, nl, nc, la, ll, lc, rfl⟩ := tree_open hu
      have HBA := Lib.hid (show Below w2.heap.size w2 (w2.alloc (.cells #[.int .i64 x0, .int .i64 x1, .string x2, .slice na nl nc, .slice la ll lc] 27)) from (Below.refl _ _).alloc (Nat.le_refl _) _)
      have HU := Lib.hid ((synV_make (op := 32) (n := 12) (tx := ByteArray.empty) (Nat.zero_le _) (strs_none _ _) (trees_one HW2.out hu).syns).mono (Q := fun b => w0.heap.size ≤ b ∧ b < (w2.alloc (.cells #[.int .i64 x0, .int .i64 x1, .string x2, .slice na nl nc, .slice la ll lc] 27)).heap.size) (fun b h => ⟨Nat.le_trans HW1.out h.1, h.2⟩))
      have HP3 := Lib.hid (hp2.below HBA.out)
      have HX3 := Lib.hid (HX2.out.of_eq (HBA.out.block _ HX2.out.lt))
      have HF3 := Lib.hid (HF2.out.trans (fr_below HBA.out))
      have HR2 := Lib.hid (show r = .ok ⟨32, 12, ByteArray.empty, [], [t]⟩ j from HR.out)
      clear hu hp2 hf2
      obtain ⟨c0, c1, c2, c3, c4⟩ := five_cells HX3.out
      have y0 := HX3.out.thaw 0
      have y1 := HX3.out.thaw 1
      have y2 := HX3.out.thaw 2
      have y3 := HX3.out.thaw 3
      have y4 := HX3.out.thaw 4
      go_wp2_with fail
      have HEN := putFive_blk HX3.out (.int .i64 32) (.int .i64 12) (.string ⟨#[]⟩) (.slice none 0 0) (.slice (some ⟨w2.heap.size, 0, none⟩) 1 1)
      have HFI := tree_fin HG.out HF3.out HU.out H0LT.out HP3.out (.int .i64 32) (.int .i64 12) (.string ⟨#[]⟩) (.slice none 0 0) (.slice (some ⟨w2.heap.size, 0, none⟩) 1 1)
      unfold putFive at HEN HFI
      obtain ⟨k0, k1, k2, k3, k4⟩ := five_cells HEN
      refine bodyPost_ret (v := .agg #[.int .i64 32, .int .i64 12, .string ⟨#[]⟩, .slice none 0 0, .slice (some ⟨w2.heap.size, 0, none⟩) 1 1]) (by simp [results, Tryz.results110, go_sem, k0, k1, k2, k3, k4]) rfl ?_
      unfold TreeOut
      rw [HR2.out]
      exact HFI
end Go.Proofs.YtjedahcpkcgpeaaGreatDoor
