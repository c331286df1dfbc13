/-
  Walks of layer 9: the reference's equality of constructors.
-/
import Derived.Test.YtmjkeejinagokaaQd
namespace Go.Proofs.Ytmjkeejinagokaa
open Go Go.RowKit
open Pl (K Con)
set_option linter.unusedSimpArgs false

theorem con_ext {t u : Con} (h0 : t.op = u.op) (h1 : t.n = u.n) (h2 : t.s = u.s) (h3 : t.kind = u.kind) (h4 : t.names = u.names) (h5 : t.l = u.l) : t = u := by
  obtain ⟨_, _, _, _, _, _⟩ := t
  obtain ⟨_, _, _, _, _, _⟩ := u
  simp only at h0 h1 h2 h3 h4 h5
  subst h0 h1 h2 h3 h4 h5
  rfl
theorem twoN_new (w : World) (T1 T2 : TypeId) (cs ds : Array Value) : Blk ((w.alloc (.cells cs T1)).alloc (.cells ds T2)) w.heap.size T1 cs ∧ Blk ((w.alloc (.cells cs T1)).alloc (.cells ds T2)) (w.heap.size + 1) T2 ds ∧ Below w.heap.size w ((w.alloc (.cells cs T1)).alloc (.cells ds T2)) := by
  have h := blk_new (w.alloc (.cells cs T1)) ds T2
  rw [size_alloc] at h
  exact ⟨(blk_new w cs T1).alloc _, h, ((Below.refl _ _).alloc (Nat.le_refl _) _).alloc (by rw [size_alloc]; omega) _⟩
end Go.Proofs.Ytmjkeejinagokaa
