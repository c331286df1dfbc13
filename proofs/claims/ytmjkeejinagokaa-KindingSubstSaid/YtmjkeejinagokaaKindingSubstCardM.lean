/-
  KindingSubst holds: for every scope, every constructor and every row of constructors, substitution keeps kinds. Conditions: none.
-/
import Derived.Test.YtmjkeejinagokaaFr9M
import Derived.Test.YtmjkeejinagokaaHm
namespace Go.Proofs.Ytmjkeejinagokaa
open Go Go.ChangeShapes Go.WideShapes Go.ChangeAt Go.RowKit
open Go.ChangeMaps (open_string shut_string)

set_option maxRecDepth 100000 in
theorem kindingSubst_lifted (os : Os) (started : os.Started) (H : Type) (enc : TypeId × Value → H) :
    ReturnsInHanded {} Try.checked os 5 .any (fun w args => Rows.kindingSubstSpec.pre enc Try.prog Try.f5 [] false w args ∧ sizedMet enc Try.prog Try.f5 (OpenSpec.ofChange Rows.kindingSubstSpec) false w args)
      (Rows.kindingSubstSpec.post enc Try.prog Try.f5 false true false false) := by
  refine handed_plain (C := Try.checked) own started (by kernel_rfl) Try.func5
    (ChangeSpec.witness_shaped (enc := enc) (C := Try.checked) (os := os) (X := fun _ _ => True) false (World.laidAll Try.prog os []) #[.slice none 0 0, .agg #[.int .i64 0, .int .i64 0, .string ByteArray.empty, .slice none 0 0, .slice none 0 0, .slice none 0 0], .slice none 0 0] 8 (World.laidAll_os _ _ _)
      (World.shaped_of_ZipB (by kernel_rfl) (by kernel_rfl)) (by kernel_rfl) (by kernel_rfl) (by kernel_rfl)
      trivial) ?_
  intro W base args ds gs before hval0 hW _ _
  have hval : ∀ (j : Nat) t v, Try.f5.params[j]? = some t → args[j]? = some v → Value.okWide Try.prog W .any base t v := hval0
  have hW' := hW
  obtain ⟨p, q, hA0, hV, rfl, _, _⟩ := hW
  have hA : DataW.TrodAll enc Try.prog W 0 (fun _ => true) true Try.f5.params.toList args.toList ds p := hA0
  rw [Try.params5] at hA hval
  obtain ⟨v0, v1, v2, d0, d1, d2, p0, p1, p2, rfl, rfl, rfl, h0, h1, h2⟩ := trodAll_three hA
  obtain ⟨rfl, rfl⟩ := trodVars_none hV
  obtain ⟨t0, ht0⟩ := open_kinds (hval 0 22 v0 rfl rfl) h0
  obtain ⟨t1, ht1⟩ := open_con (hval 1 28 v1 rfl rfl) h1
  obtain ⟨t2, ht2⟩ := open_cons (hval 2 26 v2 rfl rfl) h2
  simp only [List.append_nil] at hW'
  refine (ksubst_any t0 t1 t2 W v0 v1 v2 ht0 ht1 ht2).mono fun e W' ⟨he, hb⟩ => ?_
  subst he
  exact ⟨_, rfl, _, _, _, [], _, [], hW', trodAll_mk1 (shut_bool Try.underlying4 _), trodAll_mk3 (stay_kinds h0 hb) (stay_con h1 hb) (stay_cons h2 hb), rfl, hb.frame _, fun h => by cases h⟩

theorem kindingSubst_holds : Rows.KindingSubstSaid :=
  OpenClaim.holds_of_wide 5 Try.f5 rfl rfl rfl rfl rfl rfl rfl ⟨rfl, rfl, rfl, rfl, rfl⟩ rfl rfl rfl rfl rfl (by kernel_rfl) Try.func5 (by kernel_rfl)
    (of_decide_eq_true (by kernel_rfl)) (by unfold Func.isWrapper; first | (rw [if_pos (by decide +kernel)]; kernel_rfl) | (rw [if_neg (by decide +kernel)]; exact ⟨rfl, rfl⟩))
    (fun os started H enc _ => kindingSubst_lifted os started H enc)
#print axioms kindingSubst_holds
end Go.Proofs.Ytmjkeejinagokaa
