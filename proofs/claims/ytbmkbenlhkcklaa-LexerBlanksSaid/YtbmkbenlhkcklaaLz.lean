/-
  Walks of layer 2: the reference's Next, the whole.
-/
import Derived.Test.YtbmkbenlhkcklaaLy
import Derived.Deep.RegionWith
namespace Go.Proofs.Ytbmkbenlhkcklaa
open Go.RowKit

set_option maxRecDepth 100000 in
set_option maxHeartbeats 4000000 in
theorem next_digits (s : ByteArray) (w : World) (h0 : 0 < s.size) (hs : s.size ≤ 100000) (hn : ∀ W, Calls Try.prog 57 #[.string s] W fun e w' => e = .returned (.int .i64 0) ∧ W = w') (q0 : ((s[0].toNat : Int) == 39) = false) (q1 : Pl.digit (s[0].toNat : Int) = true) :
    Calls Try.prog 32 #[.string s] w (RNext w (Pl.numTok s.toList)) := by
  obtain ⟨hk0, hb0⟩ := next_start w
  have hdg := fun W => rdigit_any (s[0].toNat : Int) W
  rw [q1] at hdg
  generalize hJ : Pl.run Pl.digitB s.toList = J
  have hJ1 : 1 ≤ J := by
    have := Pl.run_hit Pl.digitB s 0 h0 q1
    rw [List.drop_zero, hJ] at this; omega
  have hJs : J ≤ s.size := by
    have := Pl.run_bound Pl.digitB s 0 (by omega)
    rw [List.drop_zero, hJ] at this; omega
  have hx := extract_take s 0 J
  rw [Nat.zero_add, List.drop_zero] at hx
  have hsz : (s.extract 0 J).size = J := by rw [ByteArray.size_extract]; omega
  have hdd : Pl.digits (s.extract 0 J).toList = true := by
    rw [hx, Pl.mk_toList, ← hJ]; exact List.all_eq_true.2 (Pl.run_all _ _)
  have hnum := fun W => rNumber_any (s.extract 0 J) W (by unfold maxLen; omega) (by omega) hdd
  have hT : Pl.numTok s.toList = if (Pl.number (s.extract 0 J).toList).2 = 0 then Pl.good 4 (s.toList.take J) J else Pl.bad (Pl.number (s.extract 0 J).toList).2 0 := by
    unfold Pl.numTok; rw [hJ, hx, Pl.mk_toList]
  generalize (Pl.number (s.extract 0 J).toList).2 = er at hnum hT
  have HK0 := Lib.hid hk0
  have HB0 := Lib.hid hb0
  have HN := Lib.hid hn
  have HDG := Lib.hid hdg
  have HNUM := Lib.hid hnum
  have HT := Lib.hid hT
  have HX := Lib.hid hx
  have HJ := Lib.hid hJ
  clear hk0 hb0 hn hdg hnum hT hx hJ hdd hsz q1
  go_enter Try.func32, Try.ntmps32
  go_wp2_with fail
  generalize w.alloc (.cells #[.int .i64 0, .string ⟨#[]⟩, .int .i64 0, .int .i64 0] 43) = w0 at HK0 HB0 ⊢
  refine (HN.out _).mono ?_
  rintro e w' ⟨rfl, rfl⟩
  go_wp2_with fail
  refine (HDG.out _).mono ?_
  rintro e w' ⟨rfl, rfl⟩
  go_wp2_with fail
  go_loop [9] (fun i => ∃ k : Nat, k ≤ J ∧ i = .int .i64 k ∧ k + Pl.run Pl.digitB (s.toList.drop k) = J) (fun i => s.size - (intOf i).toNat)
  case atStart => exact ⟨0, by omega, rfl, by rw [List.drop_zero, Nat.zero_add]; exact HJ.out⟩
  case round =>
    obtain ⟨k, hk, rfl, hin⟩ := hrel
    by_cases hlt : k < s.size
    · cases hp : Pl.digit (s[k].toNat : Int)
      · have HKJ := Lib.hid (show k = J from by rw [Pl.run_miss _ s k hlt hp] at hin; omega)
        have HP := Lib.hid (fun W => rdigit_any (s[k].toNat : Int) W)
        clear hin
        go_wp2_with (go_at_call 59; refine (HP.out _).mono ?_; rintro e w' ⟨rfl, rfl⟩)
        have hkj := HKJ.out
        subst hkj
        obtain ⟨d0, d1, d2, d3, e0, e1, e2, e3⟩ := tkAt_of HK0.out
        go_region_with (go_at_call 60; refine (HNUM.out _).mono ?_; rintro e w' ⟨rfl, rfl⟩)
        all_goals
          go_wp2
          obtain ⟨f0, f1, f2, f3, -, -, -, -⟩ := tkAt_of (tk_put HK0.out (.int .i64 4) (.string (s.extract 0 k)) (.int .i64 0) (.int .i64 0))
          refine bodyPost_ret (v := .tuple #[.agg (tkc 4 (s.extract 0 k) 0 0), .int .i64 k, .int .i64 er, .int .i64 0]) (by simp [results, Try.results32, go_sem, f0, f1, f2, f3, tkc]) rfl ?_
          rw [HT.out]
          split
          next h => subst h; rw [HX.out]; exact rNext_good rfl (below_put HB0.out (Nat.le_refl _) _ _ _ _).drew
          next h => exact rNext_bad rfl h (below_put HB0.out (Nat.le_refl _) _ _ _ _).drew
      · have HI := Lib.hid (show k + 1 + Pl.run Pl.digitB (s.toList.drop (k + 1)) = J from by rw [Pl.run_hit _ s k hlt hp] at hin; omega)
        clear hin
        go_wp2_with (go_at_call 59; refine (rdigit_any _ _).mono ?_; rintro e w' ⟨rfl, rfl⟩)
        go_round
        case rel => exact ⟨k + 1, by have := HI.out; omega, by go_num, HI.out⟩
        case measure => simp [intOf]; omega
    · have HKJ := Lib.hid (show k = J from by omega)
      clear hin
      go_wp2_with fail
      have hkj := HKJ.out
      subst hkj
      obtain ⟨d0, d1, d2, d3, e0, e1, e2, e3⟩ := tkAt_of HK0.out
      go_region_with (go_at_call 60; refine (HNUM.out _).mono ?_; rintro e w' ⟨rfl, rfl⟩)
      all_goals
        go_wp2
        obtain ⟨f0, f1, f2, f3, -, -, -, -⟩ := tkAt_of (tk_put HK0.out (.int .i64 4) (.string (s.extract 0 k)) (.int .i64 0) (.int .i64 0))
        refine bodyPost_ret (v := .tuple #[.agg (tkc 4 (s.extract 0 k) 0 0), .int .i64 k, .int .i64 er, .int .i64 0]) (by simp [results, Try.results32, go_sem, f0, f1, f2, f3, tkc]) rfl ?_
        rw [HT.out]
        split
        next h => subst h; rw [HX.out]; exact rNext_good rfl (below_put HB0.out (Nat.le_refl _) _ _ _ _).drew
        next h => exact rNext_bad rfl h (below_put HB0.out (Nat.le_refl _) _ _ _ _).drew
end Go.Proofs.Ytbmkbenlhkcklaa
