/-
  KindingWeaken holds: for every scope, every constructor, every place and every kind, a further kind changes nothing. Conditions: none.
-/
import Derived.Test.YtmjkeejinagokaaFr9M
import Derived.Test.YtmjkeejinagokaaHn
namespace Go.Proofs.Ytmjkeejinagokaa
open Go Go.ChangeShapes Go.WideShapes Go.ChangeAt Go.RowKit
open Go.ChangeMaps (open_string shut_string)

set_option maxRecDepth 100000 in
theorem kindingWeaken_lifted (os : Os) (started : os.Started) (H : Type) (enc : TypeId × Value → H) :
    ReturnsInHanded {} Try.checked os 4 .any (fun w args => Rows.kindingWeakenSpec.pre enc Try.prog Try.f4 [] false w args ∧ sizedMet enc Try.prog Try.f4 (OpenSpec.ofChange Rows.kindingWeakenSpec) false w args)
      (Rows.kindingWeakenSpec.post enc Try.prog Try.f4 false true false false) := by
  refine handed_plain (C := Try.checked) own started (by kernel_rfl) Try.func4
    (ChangeSpec.witness_shaped (enc := enc) (C := Try.checked) (os := os) (X := fun _ _ => True) false (World.laidAll Try.prog os []) #[.slice none 0 0, .agg #[.int .i64 0, .int .i64 0, .string ByteArray.empty, .slice none 0 0, .slice none 0 0, .slice none 0 0], .int .u8 0, .agg #[.slice none 0 0]] 8 (World.laidAll_os _ _ _)
      (World.shaped_of_ZipB (by kernel_rfl) (by kernel_rfl)) (by kernel_rfl) (by kernel_rfl) (by kernel_rfl)
      trivial) ?_
  intro W base args ds gs before hval0 hW _ _
  have hval : ∀ (j : Nat) t v, Try.f4.params[j]? = some t → args[j]? = some v → Value.okWide Try.prog W .any base t v := hval0
  have hW' := hW
  obtain ⟨p, q, hA0, hV, rfl, _, _⟩ := hW
  have hA : DataW.TrodAll enc Try.prog W 0 (fun _ => true) true Try.f4.params.toList args.toList ds p := hA0
  rw [Try.params4] at hA hval
  obtain ⟨v0, v1, v2, v3, d0, d1, d2, d3, p0, p1, p2, p3, rfl, rfl, rfl, h0, h1, h2, h3⟩ := trodAll_four hA
  obtain ⟨rfl, rfl⟩ := trodVars_none hV
  obtain ⟨t0, ht0⟩ := open_kinds (hval 0 22 v0 rfl rfl) h0
  obtain ⟨t1, ht1⟩ := open_con (hval 1 28 v1 rfl rfl) h1
  obtain ⟨t2, rfl, rfl, rfl, ht2⟩ := open_int Try.underlying5 (hval 2 5 v2 rfl rfl) h2
  obtain ⟨t3, ht3⟩ := open_kind (hval 3 24 v3 rfl rfl) h3
  simp only [List.append_nil] at hW'
  refine (kweaken_any t0 t1 t2 t3 W v0 v1 v3 ht0 ht1 ht2 ht3).mono fun e W' ⟨he, hb⟩ => ?_
  subst he
  exact ⟨_, rfl, _, _, _, [], _, [], hW', trodAll_mk1 (shut_bool Try.underlying4 _), trodAll_mk4 (stay_kinds h0 hb) (stay_con h1 hb) (shut_int Try.underlying5 ht2) (stay_kind h3 hb), rfl, hb.frame _, fun h => by cases h⟩

theorem kindingWeaken_holds : Rows.KindingWeakenSaid :=
  OpenClaim.holds_of_wide 4 Try.f4 rfl rfl rfl rfl rfl rfl rfl ⟨rfl, rfl, rfl, rfl, rfl⟩ rfl rfl rfl rfl rfl (by kernel_rfl) Try.func4 (by kernel_rfl)
    (of_decide_eq_true (by kernel_rfl)) (by unfold Func.isWrapper; first | (rw [if_pos (by decide +kernel)]; kernel_rfl) | (rw [if_neg (by decide +kernel)]; exact ⟨rfl, rfl⟩))
    (fun os started H enc _ => kindingWeaken_lifted os started H enc)
#print axioms kindingWeaken_holds
end Go.Proofs.Ytmjkeejinagokaa
