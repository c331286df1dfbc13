/-
  DERIVED. GIVEN WITH THE SEED: THE CARDS: each row of YtjedahcpkcgpeaaGreatDoorRows.lean that lists a variable, with what it lists TIED to the program's text (the seventh form; the later family's looks); each row that meets fmt, with fmt's text TOLD by the authors' own Lean function (tested against real Go, not proved from fmt's source: count such statements apart). THE CARD IS WHAT COUNTS. Prove the row's statement (the work); the ties are given (YtjedahcpkcgpeaaGreatDoorTie.lean); close each card by the builder's one call (the guide's Derived/Test/ToyasCard.lean, 'card_holds'). Laid BY PROGRAM, IN A SANDBOX (cutbox-door.mjs). By AI agents, Wed Nov 11 2026. No macro, syntax, notation, axiom, sorry.
-/
import Derived.Test.YtjedahcpkcgpeaaGreatDoorRows
import GoSem.ClaimSeven
namespace Go.Proofs.YtjedahcpkcgpeaaGreatDoor
namespace Rows

/-- THE TIED CARD OF 'pilasterlaw04.ParsecoreParens'. -/
def parsecoreParensCard : Claim7 := { stood := { row := parsecoreParensRow, standIns := [], harness := (true, "ded0f9f7f005c34a2b504db141674705b04889770560e57135bfec04ecaf6b31"), looks := true }, kinds := [], alts := [], laidByText := true, laidKinds := [.data, .data, .data, .data, .sentinel, .sentinel, .pinned], laidTests := true, laidLooks := .later }
def ParsecoreParensCardSaid : Prop := Claim7.holds Tryz.pinned (.plain (OpenSpec.ofChange parsecoreParensSpec)) parsecoreParensCard

/-- THE TIED CARD OF 'pilasterlaw04.ParsecorePrefix'. -/
def parsecorePrefixCard : Claim7 := { stood := { row := parsecorePrefixRow, standIns := [], harness := (true, "ded0f9f7f005c34a2b504db141674705b04889770560e57135bfec04ecaf6b31"), looks := true }, kinds := [], alts := [], laidByText := true, laidKinds := [.data, .data, .data, .sentinel, .sentinel], laidTests := true, laidLooks := .later }
def ParsecorePrefixCardSaid : Prop := Claim7.holds Tryz.pinned (.plain (OpenSpec.ofChange parsecorePrefixSpec)) parsecorePrefixCard

/-- THE TIED CARD OF 'pilasterlaw04.ParsecoreGroups'. -/
def parsecoreGroupsCard : Claim7 := { stood := { row := parsecoreGroupsRow, standIns := [], harness := (true, "ded0f9f7f005c34a2b504db141674705b04889770560e57135bfec04ecaf6b31"), looks := true }, kinds := [], alts := [], laidByText := true, laidKinds := [.data, .data, .data, .sentinel, .sentinel], laidTests := true, laidLooks := .later }
def ParsecoreGroupsCardSaid : Prop := Claim7.holds Tryz.pinned (.plain (OpenSpec.ofChange parsecoreGroupsSpec)) parsecoreGroupsCard

/-- THE SECOND FORM's CARD OF 'pilasterlaw04.ParsecoreParens'. -/
def parsecoreParensUptoCard : Claim7 := { stood := { row := parsecoreParensUptoRow, standIns := [], harness := (true, "ded0f9f7f005c34a2b504db141674705b04889770560e57135bfec04ecaf6b31"), looks := true }, kinds := [], alts := [], laidByText := true, laidKinds := [.data, .data, .data, .data, .sentinel, .sentinel, .pinned], laidTests := true, laidLooks := .later }
def ParsecoreParensUptoCardSaid : Prop := Claim7.holds Tryz.pinned (.plain (OpenSpec.upto parsecoreParensSpec)) parsecoreParensUptoCard

/-- THE SECOND FORM's CARD OF 'pilasterlaw04.ParsecorePrefix'. -/
def parsecorePrefixUptoCard : Claim7 := { stood := { row := parsecorePrefixUptoRow, standIns := [], harness := (true, "ded0f9f7f005c34a2b504db141674705b04889770560e57135bfec04ecaf6b31"), looks := true }, kinds := [], alts := [], laidByText := true, laidKinds := [.data, .data, .data, .sentinel, .sentinel], laidTests := true, laidLooks := .later }
def ParsecorePrefixUptoCardSaid : Prop := Claim7.holds Tryz.pinned (.plain (OpenSpec.upto parsecorePrefixSpec)) parsecorePrefixUptoCard

/-- THE SECOND FORM's CARD OF 'pilasterlaw04.ParsecoreGroups'. -/
def parsecoreGroupsUptoCard : Claim7 := { stood := { row := parsecoreGroupsUptoRow, standIns := [], harness := (true, "ded0f9f7f005c34a2b504db141674705b04889770560e57135bfec04ecaf6b31"), looks := true }, kinds := [], alts := [], laidByText := true, laidKinds := [.data, .data, .data, .sentinel, .sentinel], laidTests := true, laidLooks := .later }
def ParsecoreGroupsUptoCardSaid : Prop := Claim7.holds Tryz.pinned (.plain (OpenSpec.upto parsecoreGroupsSpec)) parsecoreGroupsUptoCard
end Rows
end Go.Proofs.YtjedahcpkcgpeaaGreatDoor
