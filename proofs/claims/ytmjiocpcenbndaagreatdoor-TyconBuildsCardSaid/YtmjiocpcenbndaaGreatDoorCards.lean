/-
  DERIVED. GIVEN WITH THE SEED: THE CARDS: each row of YtmjiocpcenbndaaGreatDoorRows.lean that lists a variable, with what it lists TIED to the program's text (the seventh form; the later family's looks); each row that meets fmt, with fmt's text TOLD by the authors' own Lean function (tested against real Go, not proved from fmt's source: count such statements apart). THE CARD IS WHAT COUNTS. Prove the row's statement (the work); the ties are given (YtmjiocpcenbndaaGreatDoorTie.lean); close each card by the builder's one call (the guide's Derived/Test/ToyasCard.lean, 'card_holds'). Laid BY PROGRAM, IN A SANDBOX (cutbox-door.mjs). By AI agents, Wed Nov 11 2026. No macro, syntax, notation, axiom, sorry.
-/
import Derived.Test.YtmjiocpcenbndaaGreatDoorRows
import GoSem.ClaimSeven
namespace Go.Proofs.YtmjiocpcenbndaaGreatDoor
namespace Rows

/-- THE TIED CARD OF 'pilasterlaw09.TyconBuilds'. -/
def tyconBuildsCard : Claim7 := { stood := { row := tyconBuildsRow, standIns := [], harness := (true, "0b6e68d955dfb11673733e66cfea14851355e867ceaac662e977b6b70e3d7f98"), looks := false }, kinds := [], alts := [], laidByText := true, laidKinds := [.data, .data, .data], laidTests := true, laidLooks := .later }
def TyconBuildsCardSaid : Prop := Claim7.holds Tryz.pinned (.plain (OpenSpec.ofChange tyconBuildsSpec)) tyconBuildsCard

/-- THE SECOND FORM's CARD OF 'pilasterlaw09.TyconBuilds'. -/
def tyconBuildsUptoCard : Claim7 := { stood := { row := tyconBuildsUptoRow, standIns := [], harness := (true, "0b6e68d955dfb11673733e66cfea14851355e867ceaac662e977b6b70e3d7f98"), looks := false }, kinds := [], alts := [], laidByText := true, laidKinds := [.data, .data, .data], laidTests := true, laidLooks := .later }
def TyconBuildsUptoCardSaid : Prop := Claim7.holds Tryz.pinned (.plain (OpenSpec.upto tyconBuildsSpec)) tyconBuildsUptoCard
end Rows
end Go.Proofs.YtmjiocpcenbndaaGreatDoor
