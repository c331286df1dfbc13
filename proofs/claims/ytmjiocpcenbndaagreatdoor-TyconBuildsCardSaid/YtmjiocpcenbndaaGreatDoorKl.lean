/-
  Walks of layer 8: the reference's Parse.
-/
import Derived.Test.YtmjiocpcenbndaaGreatDoorKk
namespace Go.Proofs.YtmjiocpcenbndaaGreatDoor
open Go Go.RowKit
open Pl (K)
set_option linter.unusedSimpArgs false

/-- what the reference's Parse answers -/
def parseOut (l : List UInt8) : K × Int := match prs l 401 0 with
  | some (k, j) => if j = l.length ∧ K.valid k = true ∧ (k.l.length = 0 → l = [42]) ∧ K.text k = l then (k, 0) else (.mk [], 3)
  | none => (.mk [], 3)
end Go.Proofs.YtmjiocpcenbndaaGreatDoor
