/-
  Layer 8: KindApplies returns true, over the code that landed.
-/
import Derived.Test.YthamhgnhdjahgaaKt
import Derived.Test.YthamhgnhdjahgaaJo
namespace Go.Proofs.Ythamhgnhdjahgaa
open Go Go.RowKit
open Pl (K)

theorem applies_done (t u : K) (w : World) (v x : Value) (ht : KV w (· < w.heap.size) t v) (hu : KV w (· < w.heap.size) u x) :
    Calls Try.prog 5 #[v, x] w fun e w' => e = .returned (.bool true) ∧ Below w.heap.size w w' :=
  applies_walk code8 awake_any _ _ t u w v x (fun _ h => h) (fun _ h => h) ht hu
end Go.Proofs.Ythamhgnhdjahgaa
