/-
  Walks of layer 1, fifth part: paths.
-/
import Derived.Test.YtmjkeejinagokaaGreatWd
import Derived.Test.YtmjkeejinagokaaGreatPm
namespace Go.Proofs.YtmjkeejinagokaaGreat
open Go.RowKit

end Go.Proofs.YtmjkeejinagokaaGreat
