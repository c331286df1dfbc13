/-
  SyntaxReplaces holds: Replace answers with the tree with another one at a place, or the error, as the document says, at every tree, place and part. Conditions: none.
-/
import Derived.Test.YtkhpihacjhhklaaYpM
import Derived.Test.YtkhpihacjhhklaaYvM
namespace Go.Proofs.Ytkhpihacjhhklaa
open Go Go.ChangeShapes Go.WideShapes Go.ChangeAt Go.RowKit
open Go.ChangeMaps (open_string shut_string)

set_option maxRecDepth 100000 in
theorem syntaxReplaces_lifted (os : Os) (started : os.Started) (H : Type) (enc : TypeId × Value → H) :
    ReturnsInHanded {} Try.checked os 6 .any (fun w args => Rows.syntaxReplacesSpec.pre enc Try.prog Try.f6 [] false w args ∧ sizedMet enc Try.prog Try.f6 (OpenSpec.ofChange Rows.syntaxReplacesSpec) false w args)
      (Rows.syntaxReplacesSpec.post enc Try.prog Try.f6 false true false false) := by
  refine handed_plain (C := Try.checked) own started (by kernel_rfl) Try.func6
    (ChangeSpec.witness_shaped (enc := enc) (C := Try.checked) (os := os) (X := fun _ _ => True) false (World.laidAll Try.prog os []) #[.agg #[.int .i64 0, .int .i64 0, .string ByteArray.empty, .slice none 0 0, .slice none 0 0], .slice none 0 0, .agg #[.int .i64 0, .int .i64 0, .string ByteArray.empty, .slice none 0 0, .slice none 0 0]] 8 (World.laidAll_os _ _ _)
      (World.shaped_of_ZipB (by kernel_rfl) (by kernel_rfl)) (by kernel_rfl) (by kernel_rfl) (by kernel_rfl)
      trivial) ?_
  intro W base args ds gs before hval0 hW _ _
  have hval : ∀ (j : Nat) t v, Try.f6.params[j]? = some t → args[j]? = some v → Value.okWide Try.prog W .any base t v := hval0
  have hW' := hW
  obtain ⟨p, q, hA0, hV, rfl, _, _⟩ := hW
  have hA : DataW.TrodAll enc Try.prog W 0 (fun _ => true) true Try.f6.params.toList args.toList ds p := hA0
  rw [Try.params6] at hA hval
  obtain ⟨v0, v1, v2, d0, d1, d2, p0, p1, p2, rfl, rfl, rfl, h0, h1, h2⟩ := trodAll_three hA
  obtain ⟨rfl, rfl⟩ := trodVars_none hV
  obtain ⟨a, ha⟩ := open_syn (hval 0 25 v0 rfl rfl) h0
  obtain ⟨ks, hk⟩ := open_ints_at (hval 1 39 v1 rfl rfl) h1
  obtain ⟨b, hb0⟩ := open_syn (hval 2 25 v2 rfl rfl) h2
  simp only [List.append_nil, List.append_assoc] at hW'
  refine (replaces_any _ a ks b W v0 v1 v2 (fun _ h => h) ha hk hb0).mono fun e W' ⟨he, hb⟩ => ?_
  subst he
  exact ⟨_, rfl, _, _, _, [], _, [], hW', trodAll_mk1 (shut_bool Try.underlying4 _), trodAll_mk3 (stay_syn h0 hb) (stay_ints h1 hb) (stay_syn h2 hb), rfl, hb.frame _, fun h => by cases h⟩

theorem syntaxReplaces_holds : Rows.SyntaxReplacesSaid :=
  OpenClaim.holds_of_wide 6 Try.f6 rfl rfl rfl rfl rfl rfl rfl ⟨rfl, rfl, rfl, rfl, rfl⟩ rfl rfl rfl rfl rfl (by kernel_rfl) Try.func6 (by kernel_rfl)
    (of_decide_eq_true (by kernel_rfl)) (by unfold Func.isWrapper; first | (rw [if_pos (by decide +kernel)]; kernel_rfl) | (rw [if_neg (by decide +kernel)]; exact ⟨rfl, rfl⟩))
    (fun os started H enc _ => syntaxReplaces_lifted os started H enc)
#print axioms syntaxReplaces_holds
end Go.Proofs.Ytkhpihacjhhklaa
