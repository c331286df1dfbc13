/-
  Walks of layer 1, fifth part: paths.
-/
import Derived.Test.YtmjkeejinagokaaWd
import Derived.Test.YtmjkeejinagokaaPm
namespace Go.Proofs.Ytmjkeejinagokaa
open Go.RowKit

end Go.Proofs.Ytmjkeejinagokaa
