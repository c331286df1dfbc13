/-
  Layer 8: KindBack returns true, over the code that landed.
-/
import Derived.Test.YthamhgnhdjahgaaKr
import Derived.Test.YthamhgnhdjahgaaJo
namespace Go.Proofs.Ythamhgnhdjahgaa
open Go Go.RowKit
open Pl (K)

theorem back_done (t : K) (s : ByteArray) (w : World) (v : Value) (ht : KV w (· < w.heap.size) t v) (_ : s.size ≤ maxLen) :
    Calls Try.prog 7 #[v, .string s] w fun e w' => e = .returned (.bool true) ∧ Below w.heap.size w w' :=
  back_walk code8 awake_any _ t s w v (fun _ h => h) ht
end Go.Proofs.Ythamhgnhdjahgaa
