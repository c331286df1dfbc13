/-
  NARROWER THAN 'FOR EVERY INPUT', by the rows' own cells (each row's printed sentence says how): SyntaxForms: loops · SyntaxSizes: loops · SyntaxPaths: loops · SyntaxReplaces: loops · SyntaxParts: loops · SyntaxAgain: loops.
  DERIVED. THE GIVEN ROWS OF THIS SEAT. 6 by the template 'for every input the law returns true; each argument reads behind the call as it read before'; 0 by the template 'total and deterministic' (their statements: YtkhpihacjhhklaaTotals.lean).
  GIVEN WITH THE SEED: the statements are not yours to turn. If you find one false, say at which input.
  Laid BY PROGRAM, IN A SANDBOX (cutbox-rows.mjs): the forced cells as the released guide's own fill.sh prints them over the translation be13a87d6e2b9896… (all of the seat's roots in one cut). By AI agents, Wed Nov 11 2026. No macro, syntax, notation, axiom, sorry.
-/
import Derived.Test.YtkhpihacjhhklaaChecked
import GoSem.Claim
import GoSem.ClaimJoined
import GoSem.ClaimMapViews
import Derived.JoinedTies
import Derived.KernelRfl
namespace Go.Proofs.Ytkhpihacjhhklaa
/- THE CELL 'sum', in the pinned program and in every row, IS THE sha256 OF THE DUMP (.gsa) THAT YtkhpihacjhhklaaProg.lean LOADS. Nothing in Lean hashes anything: it is a label: what it is worth is what the hold of that sum in a sandbox is worth. -/
noncomputable def Try.pinned : Pinned := { name := "ytkhpihacjhhklaa", sum := "be13a87d6e2b9896a5a87d10d439ec45997881b985867953801010cecd6647da", checked := Try.checked }
namespace Rows
def none {H : Type} : Left H := { results := [], args := [] }

/-- 'pilasterlaw03.SyntaxForms': WHATEVER THE INPUT: true; the input reads as it did. -/
def syntaxFormsSpec : ChangeSpec := { name := "syntaxForms", fn := fun _ => fun
  | [d1, d2, d3] => { results := [.lit (.bool true)], args := [d1, d2, d3] }
  | _ => none }
def syntaxFormsRow : OpenClaim := { program := "ytkhpihacjhhklaa", sum := "be13a87d6e2b9896a5a87d10d439ec45997881b985867953801010cecd6647da", func := "pilaster/pilasterlaw03.SyntaxForms", spec := "syntaxForms", unfollowed := true, recurses := true, loops := true, apart := false }
def SyntaxFormsSaid : Prop := syntaxFormsRow.holds Try.pinned (OpenSpec.ofChange syntaxFormsSpec)

/-- ITS FALSE NEIGHBOUR: 'it returns false'. Refute it at one input. -/
def syntaxFormsWrong : ChangeSpec := { name := "syntaxForms", fn := fun _ => fun
  | [d1, d2, d3] => { results := [.lit (.bool false)], args := [d1, d2, d3] }
  | _ => none }
def SyntaxFormsWrongFalsely : Prop := syntaxFormsRow.holds Try.pinned (OpenSpec.ofChange syntaxFormsWrong)

/-- 'pilasterlaw03.SyntaxSizes': WHATEVER THE INPUT: true; the input reads as it did. -/
def syntaxSizesSpec : ChangeSpec := { name := "syntaxSizes", fn := fun _ => fun
  | [d1, d2] => { results := [.lit (.bool true)], args := [d1, d2] }
  | _ => none }
def syntaxSizesRow : OpenClaim := { program := "ytkhpihacjhhklaa", sum := "be13a87d6e2b9896a5a87d10d439ec45997881b985867953801010cecd6647da", func := "pilaster/pilasterlaw03.SyntaxSizes", spec := "syntaxSizes", unfollowed := true, recurses := true, loops := true, apart := false }
def SyntaxSizesSaid : Prop := syntaxSizesRow.holds Try.pinned (OpenSpec.ofChange syntaxSizesSpec)

/-- ITS FALSE NEIGHBOUR: 'it returns false'. Refute it at one input. -/
def syntaxSizesWrong : ChangeSpec := { name := "syntaxSizes", fn := fun _ => fun
  | [d1, d2] => { results := [.lit (.bool false)], args := [d1, d2] }
  | _ => none }
def SyntaxSizesWrongFalsely : Prop := syntaxSizesRow.holds Try.pinned (OpenSpec.ofChange syntaxSizesWrong)

/-- 'pilasterlaw03.SyntaxPaths': WHATEVER THE INPUT: true; the input reads as it did. -/
def syntaxPathsSpec : ChangeSpec := { name := "syntaxPaths", fn := fun _ => fun
  | [d] => { results := [.lit (.bool true)], args := [d] }
  | _ => none }
def syntaxPathsRow : OpenClaim := { program := "ytkhpihacjhhklaa", sum := "be13a87d6e2b9896a5a87d10d439ec45997881b985867953801010cecd6647da", func := "pilaster/pilasterlaw03.SyntaxPaths", spec := "syntaxPaths", unfollowed := true, recurses := true, loops := true, apart := false }
def SyntaxPathsSaid : Prop := syntaxPathsRow.holds Try.pinned (OpenSpec.ofChange syntaxPathsSpec)

/-- ITS FALSE NEIGHBOUR: 'it returns false'. Refute it at one input. -/
def syntaxPathsWrong : ChangeSpec := { name := "syntaxPaths", fn := fun _ => fun
  | [d] => { results := [.lit (.bool false)], args := [d] }
  | _ => none }
def SyntaxPathsWrongFalsely : Prop := syntaxPathsRow.holds Try.pinned (OpenSpec.ofChange syntaxPathsWrong)

/-- 'pilasterlaw03.SyntaxReplaces': WHATEVER THE INPUT: true; the input reads as it did. -/
def syntaxReplacesSpec : ChangeSpec := { name := "syntaxReplaces", fn := fun _ => fun
  | [d1, d2, d3] => { results := [.lit (.bool true)], args := [d1, d2, d3] }
  | _ => none }
def syntaxReplacesRow : OpenClaim := { program := "ytkhpihacjhhklaa", sum := "be13a87d6e2b9896a5a87d10d439ec45997881b985867953801010cecd6647da", func := "pilaster/pilasterlaw03.SyntaxReplaces", spec := "syntaxReplaces", unfollowed := true, recurses := true, loops := true, apart := false }
def SyntaxReplacesSaid : Prop := syntaxReplacesRow.holds Try.pinned (OpenSpec.ofChange syntaxReplacesSpec)

/-- ITS FALSE NEIGHBOUR: 'it returns false'. Refute it at one input. -/
def syntaxReplacesWrong : ChangeSpec := { name := "syntaxReplaces", fn := fun _ => fun
  | [d1, d2, d3] => { results := [.lit (.bool false)], args := [d1, d2, d3] }
  | _ => none }
def SyntaxReplacesWrongFalsely : Prop := syntaxReplacesRow.holds Try.pinned (OpenSpec.ofChange syntaxReplacesWrong)

/-- 'pilasterlaw03.SyntaxParts': WHATEVER THE INPUT: true; the input reads as it did. -/
def syntaxPartsSpec : ChangeSpec := { name := "syntaxParts", fn := fun _ => fun
  | [d] => { results := [.lit (.bool true)], args := [d] }
  | _ => none }
def syntaxPartsRow : OpenClaim := { program := "ytkhpihacjhhklaa", sum := "be13a87d6e2b9896a5a87d10d439ec45997881b985867953801010cecd6647da", func := "pilaster/pilasterlaw03.SyntaxParts", spec := "syntaxParts", unfollowed := true, recurses := true, loops := true, apart := false }
def SyntaxPartsSaid : Prop := syntaxPartsRow.holds Try.pinned (OpenSpec.ofChange syntaxPartsSpec)

/-- ITS FALSE NEIGHBOUR: 'it returns false'. Refute it at one input. -/
def syntaxPartsWrong : ChangeSpec := { name := "syntaxParts", fn := fun _ => fun
  | [d] => { results := [.lit (.bool false)], args := [d] }
  | _ => none }
def SyntaxPartsWrongFalsely : Prop := syntaxPartsRow.holds Try.pinned (OpenSpec.ofChange syntaxPartsWrong)

/-- 'pilasterlaw03.SyntaxAgain': WHATEVER THE INPUT: true; the input reads as it did. -/
def syntaxAgainSpec : ChangeSpec := { name := "syntaxAgain", fn := fun _ => fun
  | [d1, d2, d3] => { results := [.lit (.bool true)], args := [d1, d2, d3] }
  | _ => none }
def syntaxAgainRow : OpenClaim := { program := "ytkhpihacjhhklaa", sum := "be13a87d6e2b9896a5a87d10d439ec45997881b985867953801010cecd6647da", func := "pilaster/pilasterlaw03.SyntaxAgain", spec := "syntaxAgain", unfollowed := true, recurses := true, loops := true, apart := false }
def SyntaxAgainSaid : Prop := syntaxAgainRow.holds Try.pinned (OpenSpec.ofChange syntaxAgainSpec)

/-- ITS FALSE NEIGHBOUR: 'it returns false'. Refute it at one input. -/
def syntaxAgainWrong : ChangeSpec := { name := "syntaxAgain", fn := fun _ => fun
  | [d1, d2, d3] => { results := [.lit (.bool false)], args := [d1, d2, d3] }
  | _ => none }
def SyntaxAgainWrongFalsely : Prop := syntaxAgainRow.holds Try.pinned (OpenSpec.ofChange syntaxAgainWrong)

/- THE SECOND FORM. 'bulk': how many values and letters a reading holds, each counted each time it is reached (what is shared counts as often as it is met; a slice's spare places count too). A statement '..UptoSaid' is the law's where the arguments, and the package variables that the reading takes, are together of bulk at most 1048576: NARROWER than '..Said'. Prove '..Said' where nothing that the law and all that it calls make is longer than what came in: it says more and counts as full. Else prove '..UptoSaid'. A law counts once. -/
mutual
def uptoBulk {H : Type} : DataW H → Nat
  | .lit (.string bytes) => bytes.length + 1
  | .lit _ => 1
  | .nil => 1
  | .ptr d => uptoBulk d + 1
  | .slice elems spare => uptoBulkAll elems + uptoBulkAll spare + 1
  | .agg parts => uptoBulkAll parts + 1
  | .iface _ d => uptoBulk d + 1
  | .map entries => uptoBulkEntries entries + 1
  | .held _ => 1
def uptoBulkAll {H : Type} : List (DataW H) → Nat
  | [] => 0
  | d :: r => uptoBulk d + uptoBulkAll r
def uptoBulkEntries {H : Type} : List (Lit × DataW H) → Nat
  | [] => 0
  | x :: r => uptoBulkEntry x + uptoBulkEntries r
def uptoBulkEntry {H : Type} : Lit × DataW H → Nat
  | (.string bytes, d) => bytes.length + uptoBulk d + 1
  | (_, d) => uptoBulk d + 1
 end
def uptoSmall : (H : Type) → List (DataW H) → Bool := fun _ ds => decide (uptoBulkAll ds ≤ 1048576)
def OpenSpec.upto (s : _root_.Go.ChangeSpec) : _root_.Go.OpenSpec := { _root_.Go.OpenSpec.ofChange s with cond := some uptoSmall }

/-- 'pilasterlaw03.SyntaxForms', WHERE WHAT IT READS IS OF BULK AT MOST 1048576: true; the input reads as it did. -/
def syntaxFormsUptoRow : OpenClaim := { program := "ytkhpihacjhhklaa", sum := "be13a87d6e2b9896a5a87d10d439ec45997881b985867953801010cecd6647da", func := "pilaster/pilasterlaw03.SyntaxForms", spec := "syntaxForms", unfollowed := true, recurses := true, loops := true, apart := false, narrowed := true }
def SyntaxFormsUptoSaid : Prop := syntaxFormsUptoRow.holds Try.pinned (OpenSpec.upto syntaxFormsSpec)

/-- 'pilasterlaw03.SyntaxSizes', WHERE WHAT IT READS IS OF BULK AT MOST 1048576: true; the input reads as it did. -/
def syntaxSizesUptoRow : OpenClaim := { program := "ytkhpihacjhhklaa", sum := "be13a87d6e2b9896a5a87d10d439ec45997881b985867953801010cecd6647da", func := "pilaster/pilasterlaw03.SyntaxSizes", spec := "syntaxSizes", unfollowed := true, recurses := true, loops := true, apart := false, narrowed := true }
def SyntaxSizesUptoSaid : Prop := syntaxSizesUptoRow.holds Try.pinned (OpenSpec.upto syntaxSizesSpec)

/-- 'pilasterlaw03.SyntaxPaths', WHERE WHAT IT READS IS OF BULK AT MOST 1048576: true; the input reads as it did. -/
def syntaxPathsUptoRow : OpenClaim := { program := "ytkhpihacjhhklaa", sum := "be13a87d6e2b9896a5a87d10d439ec45997881b985867953801010cecd6647da", func := "pilaster/pilasterlaw03.SyntaxPaths", spec := "syntaxPaths", unfollowed := true, recurses := true, loops := true, apart := false, narrowed := true }
def SyntaxPathsUptoSaid : Prop := syntaxPathsUptoRow.holds Try.pinned (OpenSpec.upto syntaxPathsSpec)

/-- 'pilasterlaw03.SyntaxReplaces', WHERE WHAT IT READS IS OF BULK AT MOST 1048576: true; the input reads as it did. -/
def syntaxReplacesUptoRow : OpenClaim := { program := "ytkhpihacjhhklaa", sum := "be13a87d6e2b9896a5a87d10d439ec45997881b985867953801010cecd6647da", func := "pilaster/pilasterlaw03.SyntaxReplaces", spec := "syntaxReplaces", unfollowed := true, recurses := true, loops := true, apart := false, narrowed := true }
def SyntaxReplacesUptoSaid : Prop := syntaxReplacesUptoRow.holds Try.pinned (OpenSpec.upto syntaxReplacesSpec)

/-- 'pilasterlaw03.SyntaxParts', WHERE WHAT IT READS IS OF BULK AT MOST 1048576: true; the input reads as it did. -/
def syntaxPartsUptoRow : OpenClaim := { program := "ytkhpihacjhhklaa", sum := "be13a87d6e2b9896a5a87d10d439ec45997881b985867953801010cecd6647da", func := "pilaster/pilasterlaw03.SyntaxParts", spec := "syntaxParts", unfollowed := true, recurses := true, loops := true, apart := false, narrowed := true }
def SyntaxPartsUptoSaid : Prop := syntaxPartsUptoRow.holds Try.pinned (OpenSpec.upto syntaxPartsSpec)

/-- 'pilasterlaw03.SyntaxAgain', WHERE WHAT IT READS IS OF BULK AT MOST 1048576: true; the input reads as it did. -/
def syntaxAgainUptoRow : OpenClaim := { program := "ytkhpihacjhhklaa", sum := "be13a87d6e2b9896a5a87d10d439ec45997881b985867953801010cecd6647da", func := "pilaster/pilasterlaw03.SyntaxAgain", spec := "syntaxAgain", unfollowed := true, recurses := true, loops := true, apart := false, narrowed := true }
def SyntaxAgainUptoSaid : Prop := syntaxAgainUptoRow.holds Try.pinned (OpenSpec.upto syntaxAgainSpec)

end Rows
end Go.Proofs.Ytkhpihacjhhklaa
