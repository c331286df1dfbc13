/-
  NARROWER THAN 'FOR EVERY INPUT', by the rows' own cells (each row's printed sentence says how): TyconShifts: loops · TyconSubsts: loops · TyconConsts: loops · TyconCommute: loops · TyconBinds: loops.
  DERIVED. THE GIVEN ROWS OF THIS SEAT. 5 by the template 'for every input the law returns true; each argument reads behind the call as it read before'; 0 by the template 'total and deterministic' (their statements: YtkjaicmfegpjdaaGreatTotals.lean).
  GIVEN WITH THE SEED: the statements are not yours to turn. If you find one false, say at which input.
  Laid BY PROGRAM, IN A SANDBOX (cutbox-rows.mjs): the forced cells as the released guide's own fill.sh prints them over the translation bc4ffa64b84485ab… (all of the seat's roots in one cut). By AI agents, Wed Nov 11 2026. No macro, syntax, notation, axiom, sorry.
-/
import Derived.Test.YtkjaicmfegpjdaaGreatChecked
import GoSem.Claim
import GoSem.ClaimJoined
import GoSem.ClaimMapViews
import Derived.JoinedTies
import Derived.KernelRfl
namespace Go.Proofs.YtkjaicmfegpjdaaGreat
/- THE CELL 'sum', in the pinned program and in every row, IS THE sha256 OF THE DUMP (.gsa) THAT YtkjaicmfegpjdaaGreatProg.lean LOADS. Nothing in Lean hashes anything: it is a label: what it is worth is what the hold of that sum in a sandbox is worth. -/
noncomputable def Tryz.pinned : Pinned := { name := "ytkjaicmfegpjdaagreat", sum := "bc4ffa64b84485ab9ecde2dc622297ce381541df739317ad5b0be5c1f8e964f1", checked := Tryz.checked }
namespace Rows
def none {H : Type} : Left H := { results := [], args := [] }

/-- 'pilasterlaw09.TyconShifts': WHATEVER THE INPUT: true; the input reads as it did. -/
def tyconShiftsSpec : ChangeSpec := { name := "tyconShifts", fn := fun _ => fun
  | [d1, d2, d3] => { results := [.lit (.bool true)], args := [d1, d2, d3] }
  | _ => none }
def tyconShiftsRow : OpenClaim := { program := "ytkjaicmfegpjdaagreat", sum := "bc4ffa64b84485ab9ecde2dc622297ce381541df739317ad5b0be5c1f8e964f1", func := "pilaster/pilasterlaw09.TyconShifts", spec := "tyconShifts", inPlace := ["internal/bytealg.IndexByteString", "internal/bytealg.IndexString"], unfollowed := true, recurses := true, named := ["internal/bytealg.MaxLen"], loops := true, apart := false }
def TyconShiftsSaid : Prop := tyconShiftsRow.holds Tryz.pinned (OpenSpec.ofChange tyconShiftsSpec)

/-- ITS FALSE NEIGHBOUR: 'it returns false'. Refute it at one input. -/
def tyconShiftsWrong : ChangeSpec := { name := "tyconShifts", fn := fun _ => fun
  | [d1, d2, d3] => { results := [.lit (.bool false)], args := [d1, d2, d3] }
  | _ => none }
def TyconShiftsWrongFalsely : Prop := tyconShiftsRow.holds Tryz.pinned (OpenSpec.ofChange tyconShiftsWrong)

/-- 'pilasterlaw09.TyconSubsts': WHATEVER THE INPUT: true; the input reads as it did. -/
def tyconSubstsSpec : ChangeSpec := { name := "tyconSubsts", fn := fun _ => fun
  | [d1, d2] => { results := [.lit (.bool true)], args := [d1, d2] }
  | _ => none }
def tyconSubstsRow : OpenClaim := { program := "ytkjaicmfegpjdaagreat", sum := "bc4ffa64b84485ab9ecde2dc622297ce381541df739317ad5b0be5c1f8e964f1", func := "pilaster/pilasterlaw09.TyconSubsts", spec := "tyconSubsts", inPlace := ["internal/bytealg.IndexByteString", "internal/bytealg.IndexString"], unfollowed := true, recurses := true, named := ["internal/bytealg.MaxLen"], loops := true, apart := false }
def TyconSubstsSaid : Prop := tyconSubstsRow.holds Tryz.pinned (OpenSpec.ofChange tyconSubstsSpec)

/-- ITS FALSE NEIGHBOUR: 'it returns false'. Refute it at one input. -/
def tyconSubstsWrong : ChangeSpec := { name := "tyconSubsts", fn := fun _ => fun
  | [d1, d2] => { results := [.lit (.bool false)], args := [d1, d2] }
  | _ => none }
def TyconSubstsWrongFalsely : Prop := tyconSubstsRow.holds Tryz.pinned (OpenSpec.ofChange tyconSubstsWrong)

/-- 'pilasterlaw09.TyconConsts': WHATEVER THE INPUT: true; the input reads as it did. -/
def tyconConstsSpec : ChangeSpec := { name := "tyconConsts", fn := fun _ => fun
  | [d1, d2, d3] => { results := [.lit (.bool true)], args := [d1, d2, d3] }
  | _ => none }
def tyconConstsRow : OpenClaim := { program := "ytkjaicmfegpjdaagreat", sum := "bc4ffa64b84485ab9ecde2dc622297ce381541df739317ad5b0be5c1f8e964f1", func := "pilaster/pilasterlaw09.TyconConsts", spec := "tyconConsts", inPlace := ["internal/bytealg.IndexByteString", "internal/bytealg.IndexString"], unfollowed := true, recurses := true, named := ["internal/bytealg.MaxLen"], loops := true, apart := false }
def TyconConstsSaid : Prop := tyconConstsRow.holds Tryz.pinned (OpenSpec.ofChange tyconConstsSpec)

/-- ITS FALSE NEIGHBOUR: 'it returns false'. Refute it at one input. -/
def tyconConstsWrong : ChangeSpec := { name := "tyconConsts", fn := fun _ => fun
  | [d1, d2, d3] => { results := [.lit (.bool false)], args := [d1, d2, d3] }
  | _ => none }
def TyconConstsWrongFalsely : Prop := tyconConstsRow.holds Tryz.pinned (OpenSpec.ofChange tyconConstsWrong)

/-- 'pilasterlaw09.TyconCommute': WHATEVER THE INPUT: true; the input reads as it did. -/
def tyconCommuteSpec : ChangeSpec := { name := "tyconCommute", fn := fun _ => fun
  | [d1, d2, d3] => { results := [.lit (.bool true)], args := [d1, d2, d3] }
  | _ => none }
def tyconCommuteRow : OpenClaim := { program := "ytkjaicmfegpjdaagreat", sum := "bc4ffa64b84485ab9ecde2dc622297ce381541df739317ad5b0be5c1f8e964f1", func := "pilaster/pilasterlaw09.TyconCommute", spec := "tyconCommute", inPlace := ["internal/bytealg.IndexByteString", "internal/bytealg.IndexString"], unfollowed := true, recurses := true, named := ["internal/bytealg.MaxLen"], loops := true, apart := false }
def TyconCommuteSaid : Prop := tyconCommuteRow.holds Tryz.pinned (OpenSpec.ofChange tyconCommuteSpec)

/-- ITS FALSE NEIGHBOUR: 'it returns false'. Refute it at one input. -/
def tyconCommuteWrong : ChangeSpec := { name := "tyconCommute", fn := fun _ => fun
  | [d1, d2, d3] => { results := [.lit (.bool false)], args := [d1, d2, d3] }
  | _ => none }
def TyconCommuteWrongFalsely : Prop := tyconCommuteRow.holds Tryz.pinned (OpenSpec.ofChange tyconCommuteWrong)

/-- 'pilasterlaw09.TyconBinds': WHATEVER THE INPUT: true; the input reads as it did. -/
def tyconBindsSpec : ChangeSpec := { name := "tyconBinds", fn := fun _ => fun
  | [d1, d2] => { results := [.lit (.bool true)], args := [d1, d2] }
  | _ => none }
def tyconBindsRow : OpenClaim := { program := "ytkjaicmfegpjdaagreat", sum := "bc4ffa64b84485ab9ecde2dc622297ce381541df739317ad5b0be5c1f8e964f1", func := "pilaster/pilasterlaw09.TyconBinds", spec := "tyconBinds", inPlace := ["internal/bytealg.IndexByteString", "internal/bytealg.IndexString"], unfollowed := true, recurses := true, named := ["internal/bytealg.MaxLen"], loops := true, apart := false }
def TyconBindsSaid : Prop := tyconBindsRow.holds Tryz.pinned (OpenSpec.ofChange tyconBindsSpec)

/-- ITS FALSE NEIGHBOUR: 'it returns false'. Refute it at one input. -/
def tyconBindsWrong : ChangeSpec := { name := "tyconBinds", fn := fun _ => fun
  | [d1, d2] => { results := [.lit (.bool false)], args := [d1, d2] }
  | _ => none }
def TyconBindsWrongFalsely : Prop := tyconBindsRow.holds Tryz.pinned (OpenSpec.ofChange tyconBindsWrong)

/- THE SECOND FORM. 'bulk': how many values and letters a reading holds, each counted each time it is reached (what is shared counts as often as it is met; a slice's spare places count too). A statement '..UptoSaid' is the law's where the arguments, and the package variables that the reading takes, are together of bulk at most 1048576: NARROWER than '..Said'. Prove '..Said' where nothing that the law and all that it calls make is longer than what came in: it says more and counts as full. Else prove '..UptoSaid'. A law counts once. -/
mutual
def uptoBulk {H : Type} : DataW H → Nat
  | .lit (.string bytes) => bytes.length + 1
  | .lit _ => 1
  | .nil => 1
  | .ptr d => uptoBulk d + 1
  | .slice elems spare => uptoBulkAll elems + uptoBulkAll spare + 1
  | .agg parts => uptoBulkAll parts + 1
  | .iface _ d => uptoBulk d + 1
  | .map entries => uptoBulkEntries entries + 1
  | .held _ => 1
def uptoBulkAll {H : Type} : List (DataW H) → Nat
  | [] => 0
  | d :: r => uptoBulk d + uptoBulkAll r
def uptoBulkEntries {H : Type} : List (Lit × DataW H) → Nat
  | [] => 0
  | x :: r => uptoBulkEntry x + uptoBulkEntries r
def uptoBulkEntry {H : Type} : Lit × DataW H → Nat
  | (.string bytes, d) => bytes.length + uptoBulk d + 1
  | (_, d) => uptoBulk d + 1
 end
def uptoSmall : (H : Type) → List (DataW H) → Bool := fun _ ds => decide (uptoBulkAll ds ≤ 1048576)
def OpenSpec.upto (s : _root_.Go.ChangeSpec) : _root_.Go.OpenSpec := { _root_.Go.OpenSpec.ofChange s with cond := some uptoSmall }

/-- 'pilasterlaw09.TyconShifts', WHERE WHAT IT READS IS OF BULK AT MOST 1048576: true; the input reads as it did. -/
def tyconShiftsUptoRow : OpenClaim := { program := "ytkjaicmfegpjdaagreat", sum := "bc4ffa64b84485ab9ecde2dc622297ce381541df739317ad5b0be5c1f8e964f1", func := "pilaster/pilasterlaw09.TyconShifts", spec := "tyconShifts", inPlace := ["internal/bytealg.IndexByteString", "internal/bytealg.IndexString"], unfollowed := true, recurses := true, named := ["internal/bytealg.MaxLen"], loops := true, apart := false, narrowed := true }
def TyconShiftsUptoSaid : Prop := tyconShiftsUptoRow.holds Tryz.pinned (OpenSpec.upto tyconShiftsSpec)

/-- 'pilasterlaw09.TyconSubsts', WHERE WHAT IT READS IS OF BULK AT MOST 1048576: true; the input reads as it did. -/
def tyconSubstsUptoRow : OpenClaim := { program := "ytkjaicmfegpjdaagreat", sum := "bc4ffa64b84485ab9ecde2dc622297ce381541df739317ad5b0be5c1f8e964f1", func := "pilaster/pilasterlaw09.TyconSubsts", spec := "tyconSubsts", inPlace := ["internal/bytealg.IndexByteString", "internal/bytealg.IndexString"], unfollowed := true, recurses := true, named := ["internal/bytealg.MaxLen"], loops := true, apart := false, narrowed := true }
def TyconSubstsUptoSaid : Prop := tyconSubstsUptoRow.holds Tryz.pinned (OpenSpec.upto tyconSubstsSpec)

/-- 'pilasterlaw09.TyconConsts', WHERE WHAT IT READS IS OF BULK AT MOST 1048576: true; the input reads as it did. -/
def tyconConstsUptoRow : OpenClaim := { program := "ytkjaicmfegpjdaagreat", sum := "bc4ffa64b84485ab9ecde2dc622297ce381541df739317ad5b0be5c1f8e964f1", func := "pilaster/pilasterlaw09.TyconConsts", spec := "tyconConsts", inPlace := ["internal/bytealg.IndexByteString", "internal/bytealg.IndexString"], unfollowed := true, recurses := true, named := ["internal/bytealg.MaxLen"], loops := true, apart := false, narrowed := true }
def TyconConstsUptoSaid : Prop := tyconConstsUptoRow.holds Tryz.pinned (OpenSpec.upto tyconConstsSpec)

/-- 'pilasterlaw09.TyconCommute', WHERE WHAT IT READS IS OF BULK AT MOST 1048576: true; the input reads as it did. -/
def tyconCommuteUptoRow : OpenClaim := { program := "ytkjaicmfegpjdaagreat", sum := "bc4ffa64b84485ab9ecde2dc622297ce381541df739317ad5b0be5c1f8e964f1", func := "pilaster/pilasterlaw09.TyconCommute", spec := "tyconCommute", inPlace := ["internal/bytealg.IndexByteString", "internal/bytealg.IndexString"], unfollowed := true, recurses := true, named := ["internal/bytealg.MaxLen"], loops := true, apart := false, narrowed := true }
def TyconCommuteUptoSaid : Prop := tyconCommuteUptoRow.holds Tryz.pinned (OpenSpec.upto tyconCommuteSpec)

/-- 'pilasterlaw09.TyconBinds', WHERE WHAT IT READS IS OF BULK AT MOST 1048576: true; the input reads as it did. -/
def tyconBindsUptoRow : OpenClaim := { program := "ytkjaicmfegpjdaagreat", sum := "bc4ffa64b84485ab9ecde2dc622297ce381541df739317ad5b0be5c1f8e964f1", func := "pilaster/pilasterlaw09.TyconBinds", spec := "tyconBinds", inPlace := ["internal/bytealg.IndexByteString", "internal/bytealg.IndexString"], unfollowed := true, recurses := true, named := ["internal/bytealg.MaxLen"], loops := true, apart := false, narrowed := true }
def TyconBindsUptoSaid : Prop := tyconBindsUptoRow.holds Tryz.pinned (OpenSpec.upto tyconBindsSpec)

end Rows
end Go.Proofs.YtkjaicmfegpjdaaGreat
