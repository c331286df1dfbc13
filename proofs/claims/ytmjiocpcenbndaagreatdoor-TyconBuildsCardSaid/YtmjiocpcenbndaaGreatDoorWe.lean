/-
  Walks of layer 1, fifth part: paths.
-/
import Derived.Test.YtmjiocpcenbndaaGreatDoorWd
import Derived.Test.YtmjiocpcenbndaaGreatDoorPm
namespace Go.Proofs.YtmjiocpcenbndaaGreatDoor
open Go.RowKit

end Go.Proofs.YtmjiocpcenbndaaGreatDoor
