/-
  Walks and plain mathematics, several texts in one (Dh Di).
-/
import Derived.Test.YtkmgnibopmpcjaaGreatDoorH15
/-
  Walks of layer 4: what begins an argument, an atom, a type's path; the operator that a token is.
-/
namespace Go.Proofs.YtkmgnibopmpcjaaGreatDoor
open Go Go.RowKit
set_option linter.unusedSimpArgs false
def fixV (k : Int) (t : Pl.Bytes) : ByteArray := if k = 6 ∨ k = 7 then Pl.mk t else ⟨#[]⟩
theorem fixV_toList (k l c : Int) (t : Pl.Bytes) : (fixV k t).toList = Pl.fixedT ⟨k, t, l, c⟩ := by
  unfold fixV Pl.fixedT
  show (if k = 6 ∨ k = 7 then Pl.mk t else (⟨#[]⟩ : ByteArray)).toList = if k = 6 ∨ k = 7 then t else []
  split
  · exact mk_toList _
  · exact mk_toList []
theorem fixV_is (k l c : Int) (t b : Pl.Bytes) : ((fixV k t).toList == b) = (Pl.fixedT ⟨k, t, l, c⟩ == b) := by rw [fixV_toList k l c]
set_option maxRecDepth 100000 in
set_option maxHeartbeats 8000000 in
theorem pbegArg_any (k li co l c : Int) (t : Pl.Bytes) (w : World) : Calls Tryz.prog 124 #[.agg #[.int .i64 k, .string (Pl.mk t), .int .i64 li, .int .i64 co]] w fun e w' => e = .returned (.bool (Pl.begArg ⟨k, t, l, c⟩)) ∧ Below w.heap.size w w' := by
  have HB0 := Lib.hid (show Below w.heap.size w (w.alloc (.cells #[.int .i64 k, .string (Pl.mk t), .int .i64 li, .int .i64 co] 41)) from (Below.refl _ _).alloc (Nat.le_refl _) _)
  obtain ⟨c0, c1, c2, c3⟩ := four_cells (blk_new w #[.int .i64 k, .string (Pl.mk t), .int .i64 li, .int .i64 co] 41)
  have HF := Lib.hid (fun W => pfixed_any k (Pl.mk t) li co W)
  have hfx : (if k = 6 ∨ k = 7 then Pl.mk t else (⟨#[]⟩ : ByteArray)) = fixV k t := rfl
  rw [hfx] at HF
  clear hfx
  have e0 : ((fixV k t).toList == [95]) = (Pl.fixedT ⟨k, t, l, c⟩ == [95]) := fixV_is k l c t [95]
  have e1 : ((fixV k t).toList == [126]) = (Pl.fixedT ⟨k, t, l, c⟩ == [126]) := fixV_is k l c t [126]
  have e2 : ((fixV k t).toList == [40]) = (Pl.fixedT ⟨k, t, l, c⟩ == [40]) := fixV_is k l c t [40]
  have HE := Lib.hid (show (Pl.begArg ⟨k, t, l, c⟩) = (decide (k = 1) || decide (k = 2) || decide (k = 4) || Pl.fixedT ⟨k, t, l, c⟩ == [95] || Pl.fixedT ⟨k, t, l, c⟩ == [126] || Pl.fixedT ⟨k, t, l, c⟩ == [40]) from rfl)
  rw [HE.out]
  clear HE
  have d1 : (k == 1) = decide (k = 1) := by by_cases h : k = 1 <;> simp [h]
  generalize decide (k = 1) = b1 at *
  have d2 : (k == 2) = decide (k = 2) := by by_cases h : k = 2 <;> simp [h]
  generalize decide (k = 2) = b2 at *
  have d4 : (k == 4) = decide (k = 4) := by by_cases h : k = 4 <;> simp [h]
  generalize decide (k = 4) = b4 at *
  generalize (Pl.fixedT ⟨k, t, l, c⟩ == [95]) = q0 at *
  generalize (Pl.fixedT ⟨k, t, l, c⟩ == [126]) = q1 at *
  generalize (Pl.fixedT ⟨k, t, l, c⟩ == [40]) = q2 at *
  generalize fixV k t = fx at *
  generalize Pl.mk t = tt at *
  go_enter Tryz.func124, Tryz.ntmps124
  cases b1
  · cases b2
    · cases b4
      · go_wp2_with fail
        refine (HF.out _).mono ?_
        rintro e w2 ⟨rfl, hb2⟩
        have HB2 := Lib.hid (show Below w.heap.size w w2 from HB0.out.trans (hb2.mono HB0.out.size))
        clear hb2
        cases q0
        · cases q1
          · cases q2
            · go_wp2
              go_ret
              exact ⟨by first | rfl | simp, HB2.out⟩
            · go_wp2
              go_ret
              exact ⟨by first | rfl | simp, HB2.out⟩
          · go_wp2
            go_ret
            exact ⟨by first | rfl | simp, HB2.out⟩
        · go_wp2
          go_ret
          exact ⟨by first | rfl | simp, HB2.out⟩
      · go_wp2
        go_ret
        exact ⟨by first | rfl | simp, HB0.out⟩
    · go_wp2
      go_ret
      exact ⟨by first | rfl | simp, HB0.out⟩
  · go_wp2
    go_ret
    exact ⟨by first | rfl | simp, HB0.out⟩
set_option maxRecDepth 100000 in
set_option maxHeartbeats 8000000 in
theorem pbegAtom_any (k li co l c : Int) (t : Pl.Bytes) (w : World) : Calls Tryz.prog 237 #[.agg #[.int .i64 k, .string (Pl.mk t), .int .i64 li, .int .i64 co]] w fun e w' => e = .returned (.bool (Pl.begAtom ⟨k, t, l, c⟩)) ∧ Below w.heap.size w w' := by
  have HB0 := Lib.hid (show Below w.heap.size w (w.alloc (.cells #[.int .i64 k, .string (Pl.mk t), .int .i64 li, .int .i64 co] 41)) from (Below.refl _ _).alloc (Nat.le_refl _) _)
  obtain ⟨c0, c1, c2, c3⟩ := four_cells (blk_new w #[.int .i64 k, .string (Pl.mk t), .int .i64 li, .int .i64 co] 41)
  have HF := Lib.hid (fun W => pfixed_any k (Pl.mk t) li co W)
  have hfx : (if k = 6 ∨ k = 7 then Pl.mk t else (⟨#[]⟩ : ByteArray)) = fixV k t := rfl
  rw [hfx] at HF
  clear hfx
  have e0 : ((fixV k t).toList == [40]) = (Pl.fixedT ⟨k, t, l, c⟩ == [40]) := fixV_is k l c t [40]
  have e1 : ((fixV k t).toList == [108, 101, 116]) = (Pl.fixedT ⟨k, t, l, c⟩ == [108, 101, 116]) := fixV_is k l c t [108, 101, 116]
  have e2 : ((fixV k t).toList == [99, 97, 115, 101]) = (Pl.fixedT ⟨k, t, l, c⟩ == [99, 97, 115, 101]) := fixV_is k l c t [99, 97, 115, 101]
  have HE := Lib.hid (show (Pl.begAtom ⟨k, t, l, c⟩) = (decide (k = 1) || decide (k = 2) || decide (k = 4) || decide (k = 5) || Pl.fixedT ⟨k, t, l, c⟩ == [40] || Pl.fixedT ⟨k, t, l, c⟩ == [108, 101, 116] || Pl.fixedT ⟨k, t, l, c⟩ == [99, 97, 115, 101]) from rfl)
  rw [HE.out]
  clear HE
  have d1 : (k == 1) = decide (k = 1) := by by_cases h : k = 1 <;> simp [h]
  generalize decide (k = 1) = b1 at *
  have d2 : (k == 2) = decide (k = 2) := by by_cases h : k = 2 <;> simp [h]
  generalize decide (k = 2) = b2 at *
  have d4 : (k == 4) = decide (k = 4) := by by_cases h : k = 4 <;> simp [h]
  generalize decide (k = 4) = b4 at *
  have d5 : (k == 5) = decide (k = 5) := by by_cases h : k = 5 <;> simp [h]
  generalize decide (k = 5) = b5 at *
  generalize (Pl.fixedT ⟨k, t, l, c⟩ == [40]) = q0 at *
  generalize (Pl.fixedT ⟨k, t, l, c⟩ == [108, 101, 116]) = q1 at *
  generalize (Pl.fixedT ⟨k, t, l, c⟩ == [99, 97, 115, 101]) = q2 at *
  generalize fixV k t = fx at *
  generalize Pl.mk t = tt at *
  go_enter Tryz.func237, Tryz.ntmps237
  cases b1
  · cases b2
    · cases b4
      · cases b5
        · go_wp2_with fail
          refine (HF.out _).mono ?_
          rintro e w2 ⟨rfl, hb2⟩
          have HB2 := Lib.hid (show Below w.heap.size w w2 from HB0.out.trans (hb2.mono HB0.out.size))
          clear hb2
          cases q0
          · cases q1
            · cases q2
              · go_wp2
                go_ret
                exact ⟨by first | rfl | simp, HB2.out⟩
              · go_wp2
                go_ret
                exact ⟨by first | rfl | simp, HB2.out⟩
            · go_wp2
              go_ret
              exact ⟨by first | rfl | simp, HB2.out⟩
          · go_wp2
            go_ret
            exact ⟨by first | rfl | simp, HB2.out⟩
        · go_wp2
          go_ret
          exact ⟨by first | rfl | simp, HB0.out⟩
      · go_wp2
        go_ret
        exact ⟨by first | rfl | simp, HB0.out⟩
    · go_wp2
      go_ret
      exact ⟨by first | rfl | simp, HB0.out⟩
  · go_wp2
    go_ret
    exact ⟨by first | rfl | simp, HB0.out⟩
set_option maxRecDepth 100000 in
set_option maxHeartbeats 8000000 in
theorem pbegPath_any (k li co : Int) (t : Pl.Bytes) (w : World) : Calls Tryz.prog 200 #[.agg #[.int .i64 k, .string (Pl.mk t), .int .i64 li, .int .i64 co]] w fun e w' => e = .returned (.bool (decide (k = 1) || decide (k = 2))) ∧ Below w.heap.size w w' := by
  have HB0 := Lib.hid (show Below w.heap.size w (w.alloc (.cells #[.int .i64 k, .string (Pl.mk t), .int .i64 li, .int .i64 co] 41)) from (Below.refl _ _).alloc (Nat.le_refl _) _)
  obtain ⟨c0, c1, c2, c3⟩ := four_cells (blk_new w #[.int .i64 k, .string (Pl.mk t), .int .i64 li, .int .i64 co] 41)
  have HE := Lib.hid (show (decide (k = 1) || decide (k = 2)) = (decide (k = 1) || decide (k = 2)) from rfl)
  rw [HE.out]
  clear HE
  have d1 : (k == 1) = decide (k = 1) := by by_cases h : k = 1 <;> simp [h]
  generalize decide (k = 1) = b1 at *
  have d2 : (k == 2) = decide (k = 2) := by by_cases h : k = 2 <;> simp [h]
  generalize decide (k = 2) = b2 at *
  generalize Pl.mk t = tt at *
  go_enter Tryz.func200, Tryz.ntmps200
  cases b1
  · cases b2
    · go_wp2
      go_ret
      exact ⟨by first | rfl | simp, HB0.out⟩
    · go_wp2
      go_ret
      exact ⟨by first | rfl | simp, HB0.out⟩
  · go_wp2
    go_ret
    exact ⟨by first | rfl | simp, HB0.out⟩
set_option maxRecDepth 100000 in
set_option maxHeartbeats 8000000 in
theorem poperator_any (k li co l c : Int) (t : Pl.Bytes) (w : World) : Calls Tryz.prog 148 #[.agg #[.int .i64 k, .string (Pl.mk t), .int .i64 li, .int .i64 co]] w fun e w' => e = .returned (.tuple #[.int .i64 (Pl.opOf ⟨k, t, l, c⟩).1, .int .i64 (Pl.opOf ⟨k, t, l, c⟩).2]) ∧ Below w.heap.size w w' := by
  have HF := Lib.hid (fun W => pfixed_any k (Pl.mk t) li co W)
  have hfx : (if k = 6 ∨ k = 7 then Pl.mk t else (⟨#[]⟩ : ByteArray)) = fixV k t := rfl
  rw [hfx] at HF
  clear hfx
  have e0 : ((fixV k t).toList == [111, 114, 101, 108, 115, 101]) = (Pl.fixedT ⟨k, t, l, c⟩ == [111, 114, 101, 108, 115, 101]) := fixV_is k l c t [111, 114, 101, 108, 115, 101]
  have e1 : ((fixV k t).toList == [97, 110, 100, 97, 108, 115, 111]) = (Pl.fixedT ⟨k, t, l, c⟩ == [97, 110, 100, 97, 108, 115, 111]) := fixV_is k l c t [97, 110, 100, 97, 108, 115, 111]
  have e2 : ((fixV k t).toList == [61]) = (Pl.fixedT ⟨k, t, l, c⟩ == [61]) := fixV_is k l c t [61]
  have e3 : ((fixV k t).toList == [60]) = (Pl.fixedT ⟨k, t, l, c⟩ == [60]) := fixV_is k l c t [60]
  have e4 : ((fixV k t).toList == [60, 61]) = (Pl.fixedT ⟨k, t, l, c⟩ == [60, 61]) := fixV_is k l c t [60, 61]
  have e5 : ((fixV k t).toList == [94]) = (Pl.fixedT ⟨k, t, l, c⟩ == [94]) := fixV_is k l c t [94]
  have e6 : ((fixV k t).toList == [43]) = (Pl.fixedT ⟨k, t, l, c⟩ == [43]) := fixV_is k l c t [43]
  have e7 : ((fixV k t).toList == [45]) = (Pl.fixedT ⟨k, t, l, c⟩ == [45]) := fixV_is k l c t [45]
  have e8 : ((fixV k t).toList == [42]) = (Pl.fixedT ⟨k, t, l, c⟩ == [42]) := fixV_is k l c t [42]
  have e9 : ((fixV k t).toList == [100, 105, 118]) = (Pl.fixedT ⟨k, t, l, c⟩ == [100, 105, 118]) := fixV_is k l c t [100, 105, 118]
  have e10 : ((fixV k t).toList == [109, 111, 100]) = (Pl.fixedT ⟨k, t, l, c⟩ == [109, 111, 100]) := fixV_is k l c t [109, 111, 100]
  have HE := Lib.hid (show Pl.opOf ⟨k, t, l, c⟩ = if (Pl.fixedT ⟨k, t, l, c⟩ == [111, 114, 101, 108, 115, 101]) = true then (1, 1) else if (Pl.fixedT ⟨k, t, l, c⟩ == [97, 110, 100, 97, 108, 115, 111]) = true then (2, 2) else if (Pl.fixedT ⟨k, t, l, c⟩ == [61]) = true then (3, 3) else if (Pl.fixedT ⟨k, t, l, c⟩ == [60]) = true then (4, 3) else if (Pl.fixedT ⟨k, t, l, c⟩ == [60, 61]) = true then (5, 3) else if (Pl.fixedT ⟨k, t, l, c⟩ == [94]) = true then (6, 4) else if (Pl.fixedT ⟨k, t, l, c⟩ == [43]) = true then (7, 5) else if (Pl.fixedT ⟨k, t, l, c⟩ == [45]) = true then (8, 5) else if (Pl.fixedT ⟨k, t, l, c⟩ == [42]) = true then (9, 6) else if (Pl.fixedT ⟨k, t, l, c⟩ == [100, 105, 118]) = true then (10, 6) else if (Pl.fixedT ⟨k, t, l, c⟩ == [109, 111, 100]) = true then (11, 6) else (0, 0) from by unfold Pl.opOf; simp only [beq_iff_eq])
  generalize Pl.opOf ⟨k, t, l, c⟩ = oo at *
  generalize (Pl.fixedT ⟨k, t, l, c⟩ == [111, 114, 101, 108, 115, 101]) = q0 at *
  generalize (Pl.fixedT ⟨k, t, l, c⟩ == [97, 110, 100, 97, 108, 115, 111]) = q1 at *
  generalize (Pl.fixedT ⟨k, t, l, c⟩ == [61]) = q2 at *
  generalize (Pl.fixedT ⟨k, t, l, c⟩ == [60]) = q3 at *
  generalize (Pl.fixedT ⟨k, t, l, c⟩ == [60, 61]) = q4 at *
  generalize (Pl.fixedT ⟨k, t, l, c⟩ == [94]) = q5 at *
  generalize (Pl.fixedT ⟨k, t, l, c⟩ == [43]) = q6 at *
  generalize (Pl.fixedT ⟨k, t, l, c⟩ == [45]) = q7 at *
  generalize (Pl.fixedT ⟨k, t, l, c⟩ == [42]) = q8 at *
  generalize (Pl.fixedT ⟨k, t, l, c⟩ == [100, 105, 118]) = q9 at *
  generalize (Pl.fixedT ⟨k, t, l, c⟩ == [109, 111, 100]) = q10 at *
  generalize fixV k t = fx at *
  generalize Pl.mk t = tt at *
  go_enter Tryz.func148, Tryz.ntmps148
  go_wp2_with fail
  have HB0 := Lib.hid (show Below w.heap.size w (w.alloc (.cells #[.int .i64 k, .string tt, .int .i64 li, .int .i64 co] 41)) from (Below.refl _ _).alloc (Nat.le_refl _) _)
  refine (HF.out _).mono ?_
  rintro e w2 ⟨rfl, hb2⟩
  have HB2 := Lib.hid (show Below w.heap.size w w2 from HB0.out.trans (hb2.mono HB0.out.size))
  clear hb2
  cases q0
  · cases q1
    · cases q2
      · cases q3
        · cases q4
          · cases q5
            · cases q6
              · cases q7
                · cases q8
                  · cases q9
                    · cases q10
                      · go_wp2
                        refine bodyPost_ret (v := .tuple #[.int .i64 0, .int .i64 0]) (by simp [results, Tryz.results148, go_sem]) rfl ?_
                        rw [HE.out]
                        exact ⟨by first | rfl | simp, HB2.out⟩
                      · go_wp2
                        refine bodyPost_ret (v := .tuple #[.int .i64 11, .int .i64 6]) (by simp [results, Tryz.results148, go_sem]) rfl ?_
                        rw [HE.out]
                        exact ⟨by first | rfl | simp, HB2.out⟩
                    · go_wp2
                      refine bodyPost_ret (v := .tuple #[.int .i64 10, .int .i64 6]) (by simp [results, Tryz.results148, go_sem]) rfl ?_
                      rw [HE.out]
                      exact ⟨by first | rfl | simp, HB2.out⟩
                  · go_wp2
                    refine bodyPost_ret (v := .tuple #[.int .i64 9, .int .i64 6]) (by simp [results, Tryz.results148, go_sem]) rfl ?_
                    rw [HE.out]
                    exact ⟨by first | rfl | simp, HB2.out⟩
                · go_wp2
                  refine bodyPost_ret (v := .tuple #[.int .i64 8, .int .i64 5]) (by simp [results, Tryz.results148, go_sem]) rfl ?_
                  rw [HE.out]
                  exact ⟨by first | rfl | simp, HB2.out⟩
              · go_wp2
                refine bodyPost_ret (v := .tuple #[.int .i64 7, .int .i64 5]) (by simp [results, Tryz.results148, go_sem]) rfl ?_
                rw [HE.out]
                exact ⟨by first | rfl | simp, HB2.out⟩
            · go_wp2
              refine bodyPost_ret (v := .tuple #[.int .i64 6, .int .i64 4]) (by simp [results, Tryz.results148, go_sem]) rfl ?_
              rw [HE.out]
              exact ⟨by first | rfl | simp, HB2.out⟩
          · go_wp2
            refine bodyPost_ret (v := .tuple #[.int .i64 5, .int .i64 3]) (by simp [results, Tryz.results148, go_sem]) rfl ?_
            rw [HE.out]
            exact ⟨by first | rfl | simp, HB2.out⟩
        · go_wp2
          refine bodyPost_ret (v := .tuple #[.int .i64 4, .int .i64 3]) (by simp [results, Tryz.results148, go_sem]) rfl ?_
          rw [HE.out]
          exact ⟨by first | rfl | simp, HB2.out⟩
      · go_wp2
        refine bodyPost_ret (v := .tuple #[.int .i64 3, .int .i64 3]) (by simp [results, Tryz.results148, go_sem]) rfl ?_
        rw [HE.out]
        exact ⟨by first | rfl | simp, HB2.out⟩
    · go_wp2
      refine bodyPost_ret (v := .tuple #[.int .i64 2, .int .i64 2]) (by simp [results, Tryz.results148, go_sem]) rfl ?_
      rw [HE.out]
      exact ⟨by first | rfl | simp, HB2.out⟩
  · go_wp2
    refine bodyPost_ret (v := .tuple #[.int .i64 1, .int .i64 1]) (by simp [results, Tryz.results148, go_sem]) rfl ?_
    rw [HE.out]
    exact ⟨by first | rfl | simp, HB2.out⟩
end Go.Proofs.YtkmgnibopmpcjaaGreatDoor

/-
  Memory of layer 4: a list of trees that a reader makes.
-/
namespace Go.Proofs.YtkmgnibopmpcjaaGreatDoor
open Go Go.RowKit
set_option linter.unusedSimpArgs false
def CellsAt (us : List Value) (o : Nat) (v : Value) : Prop := ∃ x0 x1 x2 x3 x4, v = .agg #[x0, x1, x2, x3, x4] ∧ us[o]? = some x0 ∧ us[o + 1]? = some x1 ∧ us[o + 2]? = some x2 ∧ us[o + 3]? = some x3 ∧ us[o + 4]? = some x4
def TreesAt (w : World) (base : Nat) (v : Value) (ts : List Pl.Syn) : Prop :=
  ∃ us R, w.ownsRow base 28 5 v ts.length us ∧ (∀ b, R b → base ≤ b ∧ b < w.heap.size ∧ v.ownBlock ≠ some b) ∧ ∀ j (h : j < ts.length), ∃ x, CellsAt us (j * 5) x ∧ SynV w R ts[j] x
theorem TreesAt.nil (w : World) (base : Nat) : TreesAt w base (.slice none 0 0) [] :=
  ⟨[], fun _ => False, World.ownsRow_nil _ _ _ _, fun _ h => h.elim, fun _ h => absurd h (Nat.not_lt_zero _)⟩
theorem TreesAt.keep {w w' : World} {base g : Nat} {v : Value} {ts : List Pl.Syn} (h : TreesAt w base v ts) (hg : g < base) (hf : Fr (· = g) (· = g) w w') : TreesAt w' base v ts := by
  obtain ⟨us, R, h1, h2, h3⟩ := h
  refine ⟨us, R, h1.kept (row := some g) ⟨hf.1, hf.2.1, hf.2.2.1, hf.size, fun k hk hn => hf.block hk (fun e => hn (by rw [e]))⟩ (.inr fun e => ?_), fun b hb => ⟨(h2 b hb).1, Nat.lt_of_lt_of_le (h2 b hb).2.1 hf.size, (h2 b hb).2.2⟩, fun j hj => ?_⟩
  · have := (h1.lt g e).1
    omega
  · obtain ⟨x, hx, hs⟩ := h3 j hj
    exact ⟨x, hx, hs.keep (fun b hb => hf.block (h2 b hb).2.1 (fun e => by have := (h2 b hb).1; omega))⟩
theorem TreesAt.syns {w : World} {base : Nat} {v : Value} {ts : List Pl.Syn} (h : TreesAt w base v ts) : SynSl w (fun b => base ≤ b ∧ b < w.heap.size) v ts := by
  obtain ⟨us, R, h1, h2, h3⟩ := h
  have hc : ∀ {g : Nat}, v.ownBlock = some g → ∀ j u, us[j]? = some u → w.cell? ((⟨g, 0, none⟩ : Addr).add j) = some u := fun h => h1.cells h
  rcases h1.2 with ⟨rfl, h0⟩ | ⟨g, cap, cur, rfl, hbg, hg, hnc, hcm, -, -⟩
  · obtain rfl := List.eq_nil_of_length_eq_zero h0
    exact ⟨none, 0, rfl, Nat.le_refl _, Nat.zero_le _, fun _ => rfl, .inl rfl⟩
  · refine ⟨_, cap, rfl, hnc, hcm, fun h => (by cases h), .inr ⟨g, 0, rfl, ⟨hbg, h1.lt g rfl |>.2⟩, (kidsAt_iff _ _ _ _ _).2 fun j hj => ?_⟩⟩
    obtain ⟨x, ⟨x0, x1, x2, x3, x4, rfl, c0, c1, c2, c3, c4⟩, hs⟩ := h3 j hj
    have each : ∀ i u, us[i]? = some u → w.cell? ⟨g, 0 + i, none⟩ = some u := fun i u hu => by
      have := hc rfl i u hu
      by_cases h0 : i = 0
      · subst h0
        simpa [Addr.add] using this
      · simpa [Addr.add, h0] using this
    refine ⟨_, ⟨x0, x1, x2, x3, x4, rfl, each _ _ c0, ?_, ?_, ?_, ?_⟩, hs.mono fun b hb => ⟨(h2 b hb).1, (h2 b hb).2.1⟩⟩
    · rw [Nat.add_assoc]; exact each _ _ c1
    · rw [Nat.add_assoc]; exact each _ _ c2
    · rw [Nat.add_assoc]; exact each _ _ c3
    · rw [Nat.add_assoc]; exact each _ _ c4
theorem CellsAt.left {us vs : List Value} {o : Nat} {v : Value} (h : CellsAt us o v) : CellsAt (us ++ vs) o v := by
  obtain ⟨x0, x1, x2, x3, x4, rfl, h0, h1, h2, h3, h4⟩ := h
  have each : ∀ (i : Nat) (x : Value), us[i]? = some x → (us ++ vs)[i]? = some x := by
    intro i x hx
    rw [List.getElem?_append_left (by
      rcases Nat.lt_or_ge i us.length with hlt | hge
      · exact hlt
      · rw [List.getElem?_eq_none hge] at hx; cases hx)]
    exact hx
  exact ⟨x0, x1, x2, x3, x4, rfl, each _ _ h0, each _ _ h1, each _ _ h2, each _ _ h3, each _ _ h4⟩
theorem CellsAt.last (us : List Value) (x0 x1 x2 x3 x4 : Value) : CellsAt (us ++ [x0, x1, x2, x3, x4]) us.length (.agg #[x0, x1, x2, x3, x4]) :=
  ⟨x0, x1, x2, x3, x4, rfl, by simp, by simp, by simp, by simp, by simp⟩
theorem trees_push {w w' : World} {base : Nat} {v v' : Value} {ts : List Pl.Syn} {us : List Value} {R S : Nat → Prop} {y : Pl.Syn} {y0 y1 y2 y3 y4 : Value}
    (h1 : w.ownsRow base 28 5 v ts.length us) (h2 : ∀ b, R b → base ≤ b ∧ b < w.heap.size ∧ v.ownBlock ≠ some b) (h3 : ∀ j (h : j < ts.length), ∃ x, CellsAt us (j * 5) x ∧ SynV w R ts[j] x)
    (hy : SynV w S y (.agg #[y0, y1, y2, y3, y4])) (hS : ∀ b, S b → base ≤ b ∧ b < w.heap.size ∧ v.ownBlock ≠ some b)
    (ho : w'.ownsRow base 28 5 v' (ts ++ [y]).length (us ++ [y0, y1, y2, y3, y4])) (hg : w.grownBy w' v.ownBlock) (hb : ∀ k, v'.ownBlock = some k → v.ownBlock = some k ∨ w.heap.size ≤ k) : TreesAt w' base v' (ts ++ [y]) := by
  have hall : ∀ b, R b ∨ S b → base ≤ b ∧ b < w.heap.size ∧ v.ownBlock ≠ some b := fun b h => h.elim (h2 b) (hS b)
  have hsame : Same (fun b => R b ∨ S b) w w' := fun b h => hg.block b (hall b h).2.1 (fun e => (hall b h).2.2 e.symm)
  refine ⟨_, fun b => R b ∨ S b, ho, fun b h => ⟨(hall b h).1, Nat.lt_of_lt_of_le (hall b h).2.1 hg.size, fun e => ?_⟩, fun j hj => ?_⟩
  · rcases hb b e with e | e
    · exact (hall b h).2.2 e
    · have := (hall b h).2.1
      omega
  · rcases Nat.lt_or_ge j ts.length with hlt | hge
    · obtain ⟨x, hx, hs⟩ := h3 j hlt
      refine ⟨x, hx.left, ?_⟩
      rw [List.getElem_append_left hlt]
      exact (hs.mono (fun b hb => Or.inl hb)).keep hsame
    · have e : j = ts.length := by simp at hj; omega
      subst e
      refine ⟨.agg #[y0, y1, y2, y3, y4], ?_, ?_⟩
      · rw [← h1.1]
        exact CellsAt.last us y0 y1 y2 y3 y4
      · rw [List.getElem_append_right (Nat.le_refl _)]
        simp only [Nat.sub_self, List.getElem_cons_zero]
        exact (hy.mono (fun b hb => Or.inr hb)).keep hsame
end Go.Proofs.YtkmgnibopmpcjaaGreatDoor
