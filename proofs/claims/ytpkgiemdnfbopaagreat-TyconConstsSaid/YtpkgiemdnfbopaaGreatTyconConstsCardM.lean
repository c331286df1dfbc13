/-
  TyconConsts holds: Consts, Bind, and Unbind return what the reference returns, or the specified errors. Conditions: none.
-/
import Derived.Test.YtpkgiemdnfbopaaGreatFr9
import Derived.Test.YtpkgiemdnfbopaaGreatMGh
namespace Go.Proofs.YtpkgiemdnfbopaaGreat
open Go Go.ChangeShapes Go.WideShapes Go.ChangeAt Go.RowKit
open Go.ChangeMaps (open_string shut_string)

set_option maxRecDepth 100000 in
theorem tyconConsts_lifted (os : Os) (started : os.Started) (H : Type) (enc : TypeId × Value → H) :
    ReturnsInHanded {} Tryz.checked os 3 .any (fun w args => Rows.tyconConstsSpec.pre enc Tryz.prog Tryz.f3 [] false w args ∧ sizedMet enc Tryz.prog Tryz.f3 (OpenSpec.ofChange Rows.tyconConstsSpec) false w args)
      (Rows.tyconConstsSpec.post enc Tryz.prog Tryz.f3 false true false false) := by
  refine handed_plain (C := Tryz.checked) own started (by kernel_rfl) Tryz.func3
    (ChangeSpec.witness_shaped (enc := enc) (C := Tryz.checked) (os := os) (X := fun _ _ => True) false (World.laidAll Tryz.prog os []) #[.agg #[.int .i64 0, .int .i64 0, .string ByteArray.empty, .slice none 0 0, .slice none 0 0, .slice none 0 0], .slice none 0 0, .slice none 0 0] 8 (World.laidAll_os _ _ _)
      (World.shaped_of_ZipB (by kernel_rfl) (by kernel_rfl)) (by kernel_rfl) (by kernel_rfl) (by kernel_rfl)
      trivial) ?_
  intro W base args ds gs before hval0 hW _ _
  have hval : ∀ (j : Nat) t v, Tryz.f3.params[j]? = some t → args[j]? = some v → Value.okWide Tryz.prog W .any base t v := hval0
  have hW' := hW
  obtain ⟨p, q, hA0, hV, rfl, _, _⟩ := hW
  have hA : DataW.TrodAll enc Tryz.prog W 0 (fun _ => true) true Tryz.f3.params.toList args.toList ds p := hA0
  rw [Tryz.params3] at hA hval
  obtain ⟨v0, v1, v2, d0, d1, d2, p0, p1, p2, rfl, rfl, rfl, h0, h1, h2⟩ := trodAll_three hA
  obtain ⟨rfl, rfl⟩ := trodVars_none hV
  obtain ⟨t0, ht0⟩ := open_con (hval 0 28 v0 rfl rfl) h0
  obtain ⟨t1, ht1⟩ := open_strs9 (hval 1 25 v1 rfl rfl) h1
  obtain ⟨t2, ht2⟩ := open_csts (hval 2 29 v2 rfl rfl) h2
  simp only [List.append_nil] at hW'
  refine (consts_walk t0 t1 t2 W v0 v1 v2 ht0 ht1 ht2).mono fun e W' ⟨he, hb⟩ => ?_
  subst he
  exact ⟨_, rfl, _, _, _, [], _, [], hW', trodAll_mk1 (shut_bool Tryz.underlying4 _), trodAll_mk3 (stay_con h0 hb) (stay_strs h1 hb) (stay_csts h2 hb), rfl, hb.frame _, fun h => by cases h⟩

theorem tyconConsts_holds : Rows.TyconConstsSaid :=
  OpenClaim.holds_of_wide 3 Tryz.f3 rfl rfl rfl rfl rfl rfl rfl ⟨rfl, rfl, rfl, rfl, rfl⟩ rfl rfl rfl rfl rfl (by kernel_rfl) Tryz.func3 (by kernel_rfl)
    (of_decide_eq_true (by kernel_rfl)) (by unfold Func.isWrapper; first | (rw [if_pos (by decide +kernel)]; kernel_rfl) | (rw [if_neg (by decide +kernel)]; exact ⟨rfl, rfl⟩))
    (fun os started H enc _ => tyconConsts_lifted os started H enc)
#print axioms tyconConsts_holds
end Go.Proofs.YtpkgiemdnfbopaaGreat
