/-
  Layer 8: KindBuilds returns true, over the code that landed.
-/
import Derived.Test.YthamhgnhdjahgaaKv
import Derived.Test.YthamhgnhdjahgaaJo
namespace Go.Proofs.Ythamhgnhdjahgaa
open Go Go.RowKit
open Pl (K)

theorem builds_done (l : List K) (o : K) (n : Int) (w : World) (v x : Value) (hl : KSl w (· < w.heap.size) v l) (ht : KV w (· < w.heap.size) o x) (_ : (Lit.int .i64 n).wf = true) :
    Calls Try.prog 4 #[v, x, .int .i64 n] w fun e w' => e = .returned (.bool true) ∧ Below w.heap.size w w' :=
  builds_walk code8 awake_any _ _ l o n w v x (fun _ h => h) (fun _ h => h) hl ht
end Go.Proofs.Ythamhgnhdjahgaa
