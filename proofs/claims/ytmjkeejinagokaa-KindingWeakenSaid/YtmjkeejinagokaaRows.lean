/-
  NARROWER THAN 'FOR EVERY INPUT', by the rows' own cells (each row's printed sentence says how): KindingWhere: loops · KindingWeaken: loops · KindingSubst: loops · KindingFaults: loops.
  DERIVED. THE GIVEN ROWS OF THIS SEAT. 4 by the template 'for every input the law returns true; each argument reads behind the call as it read before'; 0 by the template 'total and deterministic' (their statements: YtmjkeejinagokaaTotals.lean).
  GIVEN WITH THE SEED: the statements are not yours to turn. If you find one false, say at which input.
  Laid BY PROGRAM, IN A SANDBOX (cutbox-rows.mjs): the forced cells as the released guide's own fill.sh prints them over the translation 66a2bf3a5a4ef673… (all of the seat's roots in one cut). By AI agents, Wed Nov 11 2026. No macro, syntax, notation, axiom, sorry.
-/
import Derived.Test.YtmjkeejinagokaaChecked
import GoSem.Claim
import GoSem.ClaimJoined
import GoSem.ClaimMapViews
import Derived.JoinedTies
import Derived.KernelRfl
namespace Go.Proofs.Ytmjkeejinagokaa
/- THE CELL 'sum', in the pinned program and in every row, IS THE sha256 OF THE DUMP (.gsa) THAT YtmjkeejinagokaaProg.lean LOADS. Nothing in Lean hashes anything: it is a label: what it is worth is what the hold of that sum in a sandbox is worth. -/
noncomputable def Try.pinned : Pinned := { name := "ytmjkeejinagokaa", sum := "66a2bf3a5a4ef673601e48759d8421807e540c3a201707119f28374111df3739", checked := Try.checked }
namespace Rows
def none {H : Type} : Left H := { results := [], args := [] }

/-- 'pilasterlaw10.KindingWhere': WHATEVER THE INPUT: true; the input reads as it did. -/
def kindingWhereSpec : ChangeSpec := { name := "kindingWhere", fn := fun _ => fun
  | [d1, d2] => { results := [.lit (.bool true)], args := [d1, d2] }
  | _ => none }
def kindingWhereRow : OpenClaim := { program := "ytmjkeejinagokaa", sum := "66a2bf3a5a4ef673601e48759d8421807e540c3a201707119f28374111df3739", func := "pilaster/pilasterlaw10.KindingWhere", spec := "kindingWhere", inPlace := ["internal/bytealg.IndexByteString", "internal/bytealg.IndexString"], unfollowed := true, recurses := true, named := ["internal/bytealg.MaxLen"], loops := true, apart := false }
def KindingWhereSaid : Prop := kindingWhereRow.holds Try.pinned (OpenSpec.ofChange kindingWhereSpec)

/-- ITS FALSE NEIGHBOUR: 'it returns false'. Refute it at one input. -/
def kindingWhereWrong : ChangeSpec := { name := "kindingWhere", fn := fun _ => fun
  | [d1, d2] => { results := [.lit (.bool false)], args := [d1, d2] }
  | _ => none }
def KindingWhereWrongFalsely : Prop := kindingWhereRow.holds Try.pinned (OpenSpec.ofChange kindingWhereWrong)

/-- 'pilasterlaw10.KindingWeaken': WHATEVER THE INPUT: true; the input reads as it did. -/
def kindingWeakenSpec : ChangeSpec := { name := "kindingWeaken", fn := fun _ => fun
  | [d1, d2, d3, d4] => { results := [.lit (.bool true)], args := [d1, d2, d3, d4] }
  | _ => none }
def kindingWeakenRow : OpenClaim := { program := "ytmjkeejinagokaa", sum := "66a2bf3a5a4ef673601e48759d8421807e540c3a201707119f28374111df3739", func := "pilaster/pilasterlaw10.KindingWeaken", spec := "kindingWeaken", inPlace := ["internal/bytealg.IndexByteString", "internal/bytealg.IndexString", "slices.overlaps[pilaster/api.Kind]"], unfollowed := true, recurses := true, named := ["internal/bytealg.MaxLen"], loops := true, apart := false }
def KindingWeakenSaid : Prop := kindingWeakenRow.holds Try.pinned (OpenSpec.ofChange kindingWeakenSpec)

/-- ITS FALSE NEIGHBOUR: 'it returns false'. Refute it at one input. -/
def kindingWeakenWrong : ChangeSpec := { name := "kindingWeaken", fn := fun _ => fun
  | [d1, d2, d3, d4] => { results := [.lit (.bool false)], args := [d1, d2, d3, d4] }
  | _ => none }
def KindingWeakenWrongFalsely : Prop := kindingWeakenRow.holds Try.pinned (OpenSpec.ofChange kindingWeakenWrong)

/-- 'pilasterlaw10.KindingSubst': WHATEVER THE INPUT: true; the input reads as it did. -/
def kindingSubstSpec : ChangeSpec := { name := "kindingSubst", fn := fun _ => fun
  | [d1, d2, d3] => { results := [.lit (.bool true)], args := [d1, d2, d3] }
  | _ => none }
def kindingSubstRow : OpenClaim := { program := "ytmjkeejinagokaa", sum := "66a2bf3a5a4ef673601e48759d8421807e540c3a201707119f28374111df3739", func := "pilaster/pilasterlaw10.KindingSubst", spec := "kindingSubst", inPlace := ["internal/bytealg.IndexByteString", "internal/bytealg.IndexString"], unfollowed := true, recurses := true, named := ["internal/bytealg.MaxLen"], loops := true, apart := false }
def KindingSubstSaid : Prop := kindingSubstRow.holds Try.pinned (OpenSpec.ofChange kindingSubstSpec)

/-- ITS FALSE NEIGHBOUR: 'it returns false'. Refute it at one input. -/
def kindingSubstWrong : ChangeSpec := { name := "kindingSubst", fn := fun _ => fun
  | [d1, d2, d3] => { results := [.lit (.bool false)], args := [d1, d2, d3] }
  | _ => none }
def KindingSubstWrongFalsely : Prop := kindingSubstRow.holds Try.pinned (OpenSpec.ofChange kindingSubstWrong)

/-- 'pilasterlaw10.KindingFaults': WHATEVER THE INPUT: true; the input reads as it did. -/
def kindingFaultsSpec : ChangeSpec := { name := "kindingFaults", fn := fun _ => fun
  | [d1, d2] => { results := [.lit (.bool true)], args := [d1, d2] }
  | _ => none }
def kindingFaultsRow : OpenClaim := { program := "ytmjkeejinagokaa", sum := "66a2bf3a5a4ef673601e48759d8421807e540c3a201707119f28374111df3739", func := "pilaster/pilasterlaw10.KindingFaults", spec := "kindingFaults", inPlace := ["internal/bytealg.IndexByteString", "internal/bytealg.IndexString"], unfollowed := true, recurses := true, named := ["internal/bytealg.MaxLen"], loops := true, apart := false }
def KindingFaultsSaid : Prop := kindingFaultsRow.holds Try.pinned (OpenSpec.ofChange kindingFaultsSpec)

/-- ITS FALSE NEIGHBOUR: 'it returns false'. Refute it at one input. -/
def kindingFaultsWrong : ChangeSpec := { name := "kindingFaults", fn := fun _ => fun
  | [d1, d2] => { results := [.lit (.bool false)], args := [d1, d2] }
  | _ => none }
def KindingFaultsWrongFalsely : Prop := kindingFaultsRow.holds Try.pinned (OpenSpec.ofChange kindingFaultsWrong)

/- THE SECOND FORM. 'bulk': how many values and letters a reading holds, each counted each time it is reached (what is shared counts as often as it is met; a slice's spare places count too). A statement '..UptoSaid' is the law's where the arguments, and the package variables that the reading takes, are together of bulk at most 1048576: NARROWER than '..Said'. Prove '..Said' where nothing that the law and all that it calls make is longer than what came in: it says more and counts as full. Else prove '..UptoSaid'. A law counts once. -/
mutual
def uptoBulk {H : Type} : DataW H → Nat
  | .lit (.string bytes) => bytes.length + 1
  | .lit _ => 1
  | .nil => 1
  | .ptr d => uptoBulk d + 1
  | .slice elems spare => uptoBulkAll elems + uptoBulkAll spare + 1
  | .agg parts => uptoBulkAll parts + 1
  | .iface _ d => uptoBulk d + 1
  | .map entries => uptoBulkEntries entries + 1
  | .held _ => 1
def uptoBulkAll {H : Type} : List (DataW H) → Nat
  | [] => 0
  | d :: r => uptoBulk d + uptoBulkAll r
def uptoBulkEntries {H : Type} : List (Lit × DataW H) → Nat
  | [] => 0
  | x :: r => uptoBulkEntry x + uptoBulkEntries r
def uptoBulkEntry {H : Type} : Lit × DataW H → Nat
  | (.string bytes, d) => bytes.length + uptoBulk d + 1
  | (_, d) => uptoBulk d + 1
 end
def uptoSmall : (H : Type) → List (DataW H) → Bool := fun _ ds => decide (uptoBulkAll ds ≤ 1048576)
def OpenSpec.upto (s : _root_.Go.ChangeSpec) : _root_.Go.OpenSpec := { _root_.Go.OpenSpec.ofChange s with cond := some uptoSmall }

/-- 'pilasterlaw10.KindingWhere', WHERE WHAT IT READS IS OF BULK AT MOST 1048576: true; the input reads as it did. -/
def kindingWhereUptoRow : OpenClaim := { program := "ytmjkeejinagokaa", sum := "66a2bf3a5a4ef673601e48759d8421807e540c3a201707119f28374111df3739", func := "pilaster/pilasterlaw10.KindingWhere", spec := "kindingWhere", inPlace := ["internal/bytealg.IndexByteString", "internal/bytealg.IndexString"], unfollowed := true, recurses := true, named := ["internal/bytealg.MaxLen"], loops := true, apart := false, narrowed := true }
def KindingWhereUptoSaid : Prop := kindingWhereUptoRow.holds Try.pinned (OpenSpec.upto kindingWhereSpec)

/-- 'pilasterlaw10.KindingWeaken', WHERE WHAT IT READS IS OF BULK AT MOST 1048576: true; the input reads as it did. -/
def kindingWeakenUptoRow : OpenClaim := { program := "ytmjkeejinagokaa", sum := "66a2bf3a5a4ef673601e48759d8421807e540c3a201707119f28374111df3739", func := "pilaster/pilasterlaw10.KindingWeaken", spec := "kindingWeaken", inPlace := ["internal/bytealg.IndexByteString", "internal/bytealg.IndexString", "slices.overlaps[pilaster/api.Kind]"], unfollowed := true, recurses := true, named := ["internal/bytealg.MaxLen"], loops := true, apart := false, narrowed := true }
def KindingWeakenUptoSaid : Prop := kindingWeakenUptoRow.holds Try.pinned (OpenSpec.upto kindingWeakenSpec)

/-- 'pilasterlaw10.KindingSubst', WHERE WHAT IT READS IS OF BULK AT MOST 1048576: true; the input reads as it did. -/
def kindingSubstUptoRow : OpenClaim := { program := "ytmjkeejinagokaa", sum := "66a2bf3a5a4ef673601e48759d8421807e540c3a201707119f28374111df3739", func := "pilaster/pilasterlaw10.KindingSubst", spec := "kindingSubst", inPlace := ["internal/bytealg.IndexByteString", "internal/bytealg.IndexString"], unfollowed := true, recurses := true, named := ["internal/bytealg.MaxLen"], loops := true, apart := false, narrowed := true }
def KindingSubstUptoSaid : Prop := kindingSubstUptoRow.holds Try.pinned (OpenSpec.upto kindingSubstSpec)

/-- 'pilasterlaw10.KindingFaults', WHERE WHAT IT READS IS OF BULK AT MOST 1048576: true; the input reads as it did. -/
def kindingFaultsUptoRow : OpenClaim := { program := "ytmjkeejinagokaa", sum := "66a2bf3a5a4ef673601e48759d8421807e540c3a201707119f28374111df3739", func := "pilaster/pilasterlaw10.KindingFaults", spec := "kindingFaults", inPlace := ["internal/bytealg.IndexByteString", "internal/bytealg.IndexString"], unfollowed := true, recurses := true, named := ["internal/bytealg.MaxLen"], loops := true, apart := false, narrowed := true }
def KindingFaultsUptoSaid : Prop := kindingFaultsUptoRow.holds Try.pinned (OpenSpec.upto kindingFaultsSpec)

end Rows
end Go.Proofs.Ytmjkeejinagokaa
