/-
  Walks of layer 1, fourth part: labels.
-/
import Derived.Test.YtkjaicmfegpjdaaGreatWc
namespace Go.Proofs.YtkjaicmfegpjdaaGreat
open Go.RowKit

end Go.Proofs.YtkjaicmfegpjdaaGreat
