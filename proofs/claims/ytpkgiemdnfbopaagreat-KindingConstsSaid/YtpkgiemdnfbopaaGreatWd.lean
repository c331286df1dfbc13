/-
  Walks of layer 1, fourth part: labels.
-/
import Derived.Test.YtpkgiemdnfbopaaGreatWc
namespace Go.Proofs.YtpkgiemdnfbopaaGreat
open Go.RowKit

end Go.Proofs.YtpkgiemdnfbopaaGreat
