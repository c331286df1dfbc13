/-
  Walks of layer 1, fourth part: labels.
-/
import Derived.Test.YtmjiocpcenbndaaGreatDoorWc
namespace Go.Proofs.YtmjiocpcenbndaaGreatDoor
open Go.RowKit

end Go.Proofs.YtmjiocpcenbndaaGreatDoor
