/-
  Walks of layer 9: how the laws count nodes.
-/
import Derived.Test.YtmjkeejinagokaaQi
namespace Go.Proofs.Ytmjkeejinagokaa
open Go Go.RowKit
open Pl (K Con)
set_option linter.unusedSimpArgs false

/-- a call counts something, up to a limit -/
def Counts (sz : Nat) (most : Int) (w : World) (e : Ending) (w' : World) : Prop := (∃ r : Int, e = .returned (.int .i64 r) ∧ 0 ≤ r ∧ r ≤ most ∧ (r < most → (sz : Int) ≤ r)) ∧ Below w.heap.size w w'
end Go.Proofs.Ytmjkeejinagokaa
