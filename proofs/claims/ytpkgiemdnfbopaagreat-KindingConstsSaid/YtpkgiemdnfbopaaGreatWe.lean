/-
  Walks of layer 1, fifth part: paths.
-/
import Derived.Test.YtpkgiemdnfbopaaGreatWd
import Derived.Test.YtpkgiemdnfbopaaGreatPm
namespace Go.Proofs.YtpkgiemdnfbopaaGreat
open Go.RowKit

end Go.Proofs.YtpkgiemdnfbopaaGreat
