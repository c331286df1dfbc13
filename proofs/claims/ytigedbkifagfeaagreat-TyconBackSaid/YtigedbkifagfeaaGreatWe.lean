/-
  Walks of layer 1, fifth part: paths.
-/
import Derived.Test.YtigedbkifagfeaaGreatWd
import Derived.Test.YtigedbkifagfeaaGreatPm
namespace Go.Proofs.YtigedbkifagfeaaGreat
open Go.RowKit

end Go.Proofs.YtigedbkifagfeaaGreat
