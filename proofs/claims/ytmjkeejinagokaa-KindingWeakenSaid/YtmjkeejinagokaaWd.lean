/-
  Walks of layer 1, fourth part: labels.
-/
import Derived.Test.YtmjkeejinagokaaWc
namespace Go.Proofs.Ytmjkeejinagokaa
open Go.RowKit

end Go.Proofs.Ytmjkeejinagokaa
