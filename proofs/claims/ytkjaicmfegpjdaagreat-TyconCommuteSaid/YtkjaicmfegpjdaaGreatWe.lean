/-
  Walks of layer 1, fifth part: paths.
-/
import Derived.Test.YtkjaicmfegpjdaaGreatWd
import Derived.Test.YtkjaicmfegpjdaaGreatPm
namespace Go.Proofs.YtkjaicmfegpjdaaGreat
open Go.RowKit

end Go.Proofs.YtkjaicmfegpjdaaGreat
