/-
  NARROWER THAN 'FOR EVERY INPUT', by the rows' own cells (each row's printed sentence says how): TyconConsts: loops · TyconBinds: loops · KindingConsts: loops.
  DERIVED. THE GIVEN ROWS OF THIS SEAT. 3 by the template 'for every input the law returns true; each argument reads behind the call as it read before'; 0 by the template 'total and deterministic' (their statements: YtpkgiemdnfbopaaGreatTotals.lean).
  GIVEN WITH THE SEED: the statements are not yours to turn. If you find one false, say at which input.
  Laid BY PROGRAM, IN A SANDBOX (cutbox-rows.mjs): the forced cells as the released guide's own fill.sh prints them over the translation 2a1e71cee5b3fcce… (all of the seat's roots in one cut). By AI agents, Wed Nov 11 2026. No macro, syntax, notation, axiom, sorry.
-/
import Derived.Test.YtpkgiemdnfbopaaGreatChecked
import GoSem.Claim
import GoSem.ClaimJoined
import GoSem.ClaimMapViews
import Derived.JoinedTies
import Derived.KernelRfl
namespace Go.Proofs.YtpkgiemdnfbopaaGreat
/- THE CELL 'sum', in the pinned program and in every row, IS THE sha256 OF THE DUMP (.gsa) THAT YtpkgiemdnfbopaaGreatProg.lean LOADS. Nothing in Lean hashes anything: it is a label: what it is worth is what the hold of that sum in a sandbox is worth. -/
noncomputable def Tryz.pinned : Pinned := { name := "ytpkgiemdnfbopaagreat", sum := "2a1e71cee5b3fcce6577e29fe9d58de2d83102edbb23d1821de55cedd398b1c3", checked := Tryz.checked }
namespace Rows
def none {H : Type} : Left H := { results := [], args := [] }

/-- 'pilasterlaw09.TyconConsts': WHATEVER THE INPUT: true; the input reads as it did. -/
def tyconConstsSpec : ChangeSpec := { name := "tyconConsts", fn := fun _ => fun
  | [d1, d2, d3] => { results := [.lit (.bool true)], args := [d1, d2, d3] }
  | _ => none }
def tyconConstsRow : OpenClaim := { program := "ytpkgiemdnfbopaagreat", sum := "2a1e71cee5b3fcce6577e29fe9d58de2d83102edbb23d1821de55cedd398b1c3", func := "pilaster/pilasterlaw09.TyconConsts", spec := "tyconConsts", inPlace := ["internal/bytealg.IndexByteString", "internal/bytealg.IndexString"], unfollowed := true, recurses := true, named := ["internal/bytealg.MaxLen"], loops := true, apart := false }
def TyconConstsSaid : Prop := tyconConstsRow.holds Tryz.pinned (OpenSpec.ofChange tyconConstsSpec)

/-- ITS FALSE NEIGHBOUR: 'it returns false'. Refute it at one input. -/
def tyconConstsWrong : ChangeSpec := { name := "tyconConsts", fn := fun _ => fun
  | [d1, d2, d3] => { results := [.lit (.bool false)], args := [d1, d2, d3] }
  | _ => none }
def TyconConstsWrongFalsely : Prop := tyconConstsRow.holds Tryz.pinned (OpenSpec.ofChange tyconConstsWrong)

/-- 'pilasterlaw09.TyconBinds': WHATEVER THE INPUT: true; the input reads as it did. -/
def tyconBindsSpec : ChangeSpec := { name := "tyconBinds", fn := fun _ => fun
  | [d1, d2] => { results := [.lit (.bool true)], args := [d1, d2] }
  | _ => none }
def tyconBindsRow : OpenClaim := { program := "ytpkgiemdnfbopaagreat", sum := "2a1e71cee5b3fcce6577e29fe9d58de2d83102edbb23d1821de55cedd398b1c3", func := "pilaster/pilasterlaw09.TyconBinds", spec := "tyconBinds", inPlace := ["internal/bytealg.IndexByteString", "internal/bytealg.IndexString"], unfollowed := true, recurses := true, named := ["internal/bytealg.MaxLen"], loops := true, apart := false }
def TyconBindsSaid : Prop := tyconBindsRow.holds Tryz.pinned (OpenSpec.ofChange tyconBindsSpec)

/-- ITS FALSE NEIGHBOUR: 'it returns false'. Refute it at one input. -/
def tyconBindsWrong : ChangeSpec := { name := "tyconBinds", fn := fun _ => fun
  | [d1, d2] => { results := [.lit (.bool false)], args := [d1, d2] }
  | _ => none }
def TyconBindsWrongFalsely : Prop := tyconBindsRow.holds Tryz.pinned (OpenSpec.ofChange tyconBindsWrong)

/-- 'pilasterlaw10.KindingConsts': WHATEVER THE INPUT: true; the input reads as it did. -/
def kindingConstsSpec : ChangeSpec := { name := "kindingConsts", fn := fun _ => fun
  | [d1, d2] => { results := [.lit (.bool true)], args := [d1, d2] }
  | _ => none }
def kindingConstsRow : OpenClaim := { program := "ytpkgiemdnfbopaagreat", sum := "2a1e71cee5b3fcce6577e29fe9d58de2d83102edbb23d1821de55cedd398b1c3", func := "pilaster/pilasterlaw10.KindingConsts", spec := "kindingConsts", inPlace := ["internal/bytealg.IndexByteString", "internal/bytealg.IndexString"], unfollowed := true, recurses := true, named := ["internal/bytealg.MaxLen"], loops := true, apart := false }
def KindingConstsSaid : Prop := kindingConstsRow.holds Tryz.pinned (OpenSpec.ofChange kindingConstsSpec)

/-- ITS FALSE NEIGHBOUR: 'it returns false'. Refute it at one input. -/
def kindingConstsWrong : ChangeSpec := { name := "kindingConsts", fn := fun _ => fun
  | [d1, d2] => { results := [.lit (.bool false)], args := [d1, d2] }
  | _ => none }
def KindingConstsWrongFalsely : Prop := kindingConstsRow.holds Tryz.pinned (OpenSpec.ofChange kindingConstsWrong)

/- THE SECOND FORM. 'bulk': how many values and letters a reading holds, each counted each time it is reached (what is shared counts as often as it is met; a slice's spare places count too). A statement '..UptoSaid' is the law's where the arguments, and the package variables that the reading takes, are together of bulk at most 1048576: NARROWER than '..Said'. Prove '..Said' where nothing that the law and all that it calls make is longer than what came in: it says more and counts as full. Else prove '..UptoSaid'. A law counts once. -/
mutual
def uptoBulk {H : Type} : DataW H → Nat
  | .lit (.string bytes) => bytes.length + 1
  | .lit _ => 1
  | .nil => 1
  | .ptr d => uptoBulk d + 1
  | .slice elems spare => uptoBulkAll elems + uptoBulkAll spare + 1
  | .agg parts => uptoBulkAll parts + 1
  | .iface _ d => uptoBulk d + 1
  | .map entries => uptoBulkEntries entries + 1
  | .held _ => 1
def uptoBulkAll {H : Type} : List (DataW H) → Nat
  | [] => 0
  | d :: r => uptoBulk d + uptoBulkAll r
def uptoBulkEntries {H : Type} : List (Lit × DataW H) → Nat
  | [] => 0
  | x :: r => uptoBulkEntry x + uptoBulkEntries r
def uptoBulkEntry {H : Type} : Lit × DataW H → Nat
  | (.string bytes, d) => bytes.length + uptoBulk d + 1
  | (_, d) => uptoBulk d + 1
 end
def uptoSmall : (H : Type) → List (DataW H) → Bool := fun _ ds => decide (uptoBulkAll ds ≤ 1048576)
def OpenSpec.upto (s : _root_.Go.ChangeSpec) : _root_.Go.OpenSpec := { _root_.Go.OpenSpec.ofChange s with cond := some uptoSmall }

/-- 'pilasterlaw09.TyconConsts', WHERE WHAT IT READS IS OF BULK AT MOST 1048576: true; the input reads as it did. -/
def tyconConstsUptoRow : OpenClaim := { program := "ytpkgiemdnfbopaagreat", sum := "2a1e71cee5b3fcce6577e29fe9d58de2d83102edbb23d1821de55cedd398b1c3", func := "pilaster/pilasterlaw09.TyconConsts", spec := "tyconConsts", inPlace := ["internal/bytealg.IndexByteString", "internal/bytealg.IndexString"], unfollowed := true, recurses := true, named := ["internal/bytealg.MaxLen"], loops := true, apart := false, narrowed := true }
def TyconConstsUptoSaid : Prop := tyconConstsUptoRow.holds Tryz.pinned (OpenSpec.upto tyconConstsSpec)

/-- 'pilasterlaw09.TyconBinds', WHERE WHAT IT READS IS OF BULK AT MOST 1048576: true; the input reads as it did. -/
def tyconBindsUptoRow : OpenClaim := { program := "ytpkgiemdnfbopaagreat", sum := "2a1e71cee5b3fcce6577e29fe9d58de2d83102edbb23d1821de55cedd398b1c3", func := "pilaster/pilasterlaw09.TyconBinds", spec := "tyconBinds", inPlace := ["internal/bytealg.IndexByteString", "internal/bytealg.IndexString"], unfollowed := true, recurses := true, named := ["internal/bytealg.MaxLen"], loops := true, apart := false, narrowed := true }
def TyconBindsUptoSaid : Prop := tyconBindsUptoRow.holds Tryz.pinned (OpenSpec.upto tyconBindsSpec)

/-- 'pilasterlaw10.KindingConsts', WHERE WHAT IT READS IS OF BULK AT MOST 1048576: true; the input reads as it did. -/
def kindingConstsUptoRow : OpenClaim := { program := "ytpkgiemdnfbopaagreat", sum := "2a1e71cee5b3fcce6577e29fe9d58de2d83102edbb23d1821de55cedd398b1c3", func := "pilaster/pilasterlaw10.KindingConsts", spec := "kindingConsts", inPlace := ["internal/bytealg.IndexByteString", "internal/bytealg.IndexString"], unfollowed := true, recurses := true, named := ["internal/bytealg.MaxLen"], loops := true, apart := false, narrowed := true }
def KindingConstsUptoSaid : Prop := kindingConstsUptoRow.holds Tryz.pinned (OpenSpec.upto kindingConstsSpec)

end Rows
end Go.Proofs.YtpkgiemdnfbopaaGreat
