/-
  Walks of layer 1, fourth part: labels.
-/
import Derived.Test.YtigedbkifagfeaaGreatWc
namespace Go.Proofs.YtigedbkifagfeaaGreat
open Go.RowKit

end Go.Proofs.YtigedbkifagfeaaGreat
