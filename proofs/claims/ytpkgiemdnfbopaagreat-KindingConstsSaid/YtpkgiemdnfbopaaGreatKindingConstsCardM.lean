/-
  KindingConsts holds: constants are variables with names: if the constants of a constructor become the last variables, with their kinds in the scope, it keeps its kind, or fault, and the other way round. Conditions: none.
-/
import Derived.Test.YtpkgiemdnfbopaaGreatFr9
import Derived.Test.YtpkgiemdnfbopaaGreatMKh
namespace Go.Proofs.YtpkgiemdnfbopaaGreat
open Go Go.ChangeShapes Go.WideShapes Go.ChangeAt Go.RowKit
open Go.ChangeMaps (open_string shut_string)

set_option maxRecDepth 100000 in
theorem kindingConsts_lifted (os : Os) (started : os.Started) (H : Type) (enc : TypeId × Value → H) :
    ReturnsInHanded {} Tryz.checked os 5 .any (fun w args => Rows.kindingConstsSpec.pre enc Tryz.prog Tryz.f5 [] false w args ∧ sizedMet enc Tryz.prog Tryz.f5 (OpenSpec.ofChange Rows.kindingConstsSpec) false w args)
      (Rows.kindingConstsSpec.post enc Tryz.prog Tryz.f5 false true false false) := by
  refine handed_plain (C := Tryz.checked) own started (by kernel_rfl) Tryz.func5
    (ChangeSpec.witness_shaped (enc := enc) (C := Tryz.checked) (os := os) (X := fun _ _ => True) false (World.laidAll Tryz.prog os []) #[.slice none 0 0, .agg #[.int .i64 0, .int .i64 0, .string ByteArray.empty, .slice none 0 0, .slice none 0 0, .slice none 0 0]] 8 (World.laidAll_os _ _ _)
      (World.shaped_of_ZipB (by kernel_rfl) (by kernel_rfl)) (by kernel_rfl) (by kernel_rfl) (by kernel_rfl)
      trivial) ?_
  intro W base args ds gs before hval0 hW _ _
  have hval : ∀ (j : Nat) t v, Tryz.f5.params[j]? = some t → args[j]? = some v → Value.okWide Tryz.prog W .any base t v := hval0
  have hW' := hW
  obtain ⟨p, q, hA0, hV, rfl, _, _⟩ := hW
  have hA : DataW.TrodAll enc Tryz.prog W 0 (fun _ => true) true Tryz.f5.params.toList args.toList ds p := hA0
  rw [Tryz.params5] at hA hval
  obtain ⟨v0, v1, d0, d1, p0, p1, rfl, rfl, rfl, h0, h1⟩ := trodAll_two hA
  obtain ⟨rfl, rfl⟩ := trodVars_none hV
  obtain ⟨t0, ht0⟩ := open_kinds (hval 0 22 v0 rfl rfl) h0
  obtain ⟨t1, ht1⟩ := open_con (hval 1 28 v1 rfl rfl) h1
  simp only [List.append_nil] at hW'
  refine (kconsts_any t0 t1 W v0 v1 ht0 ht1).mono fun e W' ⟨he, hb⟩ => ?_
  subst he
  exact ⟨_, rfl, _, _, _, [], _, [], hW', trodAll_mk1 (shut_bool Tryz.underlying4 _), trodAll_mk2 (stay_kinds h0 hb) (stay_con h1 hb), rfl, hb.frame _, fun h => by cases h⟩

theorem kindingConsts_holds : Rows.KindingConstsSaid :=
  OpenClaim.holds_of_wide 5 Tryz.f5 rfl rfl rfl rfl rfl rfl rfl ⟨rfl, rfl, rfl, rfl, rfl⟩ rfl rfl rfl rfl rfl (by kernel_rfl) Tryz.func5 (by kernel_rfl)
    (of_decide_eq_true (by kernel_rfl)) (by unfold Func.isWrapper; first | (rw [if_pos (by decide +kernel)]; kernel_rfl) | (rw [if_neg (by decide +kernel)]; exact ⟨rfl, rfl⟩))
    (fun os started H enc _ => kindingConsts_lifted os started H enc)
#print axioms kindingConsts_holds
end Go.Proofs.YtpkgiemdnfbopaaGreat
