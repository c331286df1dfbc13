/-
  Walks of layer 1, fourth part: labels.
-/
import Derived.Test.YtmjkeejinagokaaGreatWc
namespace Go.Proofs.YtmjkeejinagokaaGreat
open Go.RowKit

end Go.Proofs.YtmjkeejinagokaaGreat
