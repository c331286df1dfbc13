/-
  Walks of layer 2, second part: the words for memory: a block that is known whole, and the reader.
-/
import Derived.Test.YtbmkbenlhkcklaaDoorLb
import Derived.BigQuiet
import Derived.Deep.QuietTactic
import Derived.StillTailTactics
namespace Go.Proofs.YtbmkbenlhkcklaaDoor
open Go.RowKit
/-- A block that is known whole. -/
def Blk (w : World) (g : Nat) (t : TypeId) (cs : Array Value) : Prop := w.heap[g]? = some (.cells cs t (0, 0))
theorem Blk.cell {w : World} {g : Nat} {t : TypeId} {cs : Array Value} (h : Blk w g t cs) (j : Nat) (v : Value) (hv : cs[j]? = some v) : w.cell? ⟨g, j, none⟩ = some v := by
  have h' : w.heap[g]? = some (.cells cs t (0, 0)) := h
  simp [World.cell?, h', hv]
theorem Blk.lt {w : World} {g : Nat} {t : TypeId} {cs : Array Value} (h : Blk w g t cs) : g < w.heap.size := by
  rcases Nat.lt_or_ge g w.heap.size with hlt | hge
  · exact hlt
  · exfalso
    have h' : w.heap[g]? = some (.cells cs t (0, 0)) := h
    have hn : w.heap[g]? = none := by simp; omega
    rw [hn] at h'; cases h'
theorem Blk.drew {w : World} {g : Nat} {t : TypeId} {cs : Array Value} (h : Blk w g t cs) : Blk w.drew g t cs := h
theorem blk_new (w : World) (cs : Array Value) (t : TypeId) : Blk (w.alloc (.cells cs t)) w.heap.size t cs := by
  show (w.heap.push _)[w.heap.size]? = _
  simp
theorem Blk.thaw {w : World} {g : Nat} {t : TypeId} {cs : Array Value} (h : Blk w g t cs) (j : Nat) : w.frozen? ⟨g, j, none⟩ = false := by
  have h' : w.heap[g]? = some (.cells cs t (0, 0)) := h
  simp [World.frozen?, h']
theorem Blk.set {w : World} {g : Nat} {t : TypeId} {cs : Array Value} (h : Blk w g t cs) (j : Nat) (v : Value) : Blk (w.setCell ⟨g, j, none⟩ v) g t (cs.setIfInBounds j v) := by
  have h' : w.heap[g]? = some (.cells cs t (0, 0)) := h
  simp [Blk, World.setCell, Array.getElem?_modify, h']
theorem Blk.other {w : World} {g : Nat} {t : TypeId} {cs : Array Value} (h : Blk w g t cs) (p : Addr) (v : Value) (hp : g ≠ p.block) : Blk (w.setCell p v) g t cs := (Below.heap_setCell w p v g hp).trans h
theorem Blk.alloc {w : World} {g : Nat} {t : TypeId} {cs : Array Value} (h : Blk w g t cs) (o : Obj) : Blk (w.alloc o) g t cs := (Below.heap_alloc w o g h.lt).trans h
theorem Blk.drewN {w : World} {g : Nat} {t : TypeId} {cs : Array Value} (h : Blk w g t cs) (n : Nat) : Blk (w.drewN n) g t cs := h
theorem Blk.below {w w' : World} {g B : Nat} {t : TypeId} {cs : Array Value} (h : Blk w g t cs) (hb : Below B w w') (hB : g < B) : Blk w' g t cs := (hb.block g hB).trans h
theorem below_drewN {B : Nat} {a w : World} (h : Below B a w) (n : Nat) : Below B a (w.drewN n) := ⟨h.os, h.tape, h.output, h.size, h.block⟩

/-- Nothing has turned but block b, and what is new. -/
def Only (b : Nat) (w w' : World) : Prop := w.grownBy w' (some b)
theorem Only.refl (b : Nat) (w : World) : Only b w w := ⟨rfl, rfl, rfl, Nat.le_refl _, fun _ _ _ => rfl⟩
theorem Only.size {b : Nat} {w w' : World} (h : Only b w w') : w.heap.size ≤ w'.heap.size := World.grownBy.size h
theorem Only.trans {b : Nat} {a c d : World} (h : Only b a c) (k : Only b c d) : Only b a d :=
  ⟨(World.grownBy.os k).trans (World.grownBy.os h), (World.grownBy.tape k).trans (World.grownBy.tape h), (World.grownBy.output k).trans (World.grownBy.output h), Nat.le_trans h.size k.size,
   fun i hi hne => (World.grownBy.block k i (Nat.lt_of_lt_of_le hi h.size) hne).trans (World.grownBy.block h i hi hne)⟩
theorem Only.drew {b : Nat} {a w : World} (h : Only b a w) : Only b a w.drew := h.trans ⟨rfl, rfl, rfl, Nat.le_refl _, fun _ _ _ => rfl⟩
theorem Only.drewN {b : Nat} {a w : World} (h : Only b a w) (n : Nat) : Only b a (w.drewN n) := h.trans ⟨rfl, rfl, rfl, Nat.le_refl _, fun _ _ _ => rfl⟩
theorem Only.alloc {b : Nat} {a w : World} (h : Only b a w) (o : Obj) : Only b a (w.alloc o) :=
  h.trans ⟨rfl, rfl, rfl, by simp, fun i hi _ => Below.heap_alloc w o i hi⟩
theorem Only.setCell {b : Nat} {a w : World} (h : Only b a w) {p : Addr} (hp : p.block = b ∨ a.heap.size ≤ p.block) (v : Value) : Only b a (w.setCell p v) := by
  obtain ⟨h1, h2, h3, h4, h5⟩ := (show a.grownBy w (some b) from h)
  refine ⟨h1, h2, h3, by simpa [World.setCell] using h4, fun i hi hne => ?_⟩
  refine (Below.heap_setCell w p v i ?_).trans (h5 i hi hne)
  rintro rfl
  rcases hp with hp | hp
  · exact hne (by rw [hp])
  · omega
theorem Only.below {b : Nat} {a w w' : World} (h : Only b a w) {B : Nat} (hb : Below B w w') (hB : a.heap.size ≤ B) : Only b a w' :=
  ⟨hb.os.trans (World.grownBy.os h), hb.tape.trans (World.grownBy.tape h), hb.output.trans (World.grownBy.output h), Nat.le_trans h.size hb.size, fun i hi hne => (hb.block i (by omega)).trans (World.grownBy.block h i hi hne)⟩
theorem Only.to {b : Nat} {w w' : World} (h : Only b w w') {B : Nat} (hb : B ≤ b) (hB : B ≤ w.heap.size) : Below B w w' :=
  ⟨World.grownBy.os h, World.grownBy.tape h, World.grownBy.output h, h.size, fun i hi => World.grownBy.block h i (by omega) (fun e => by injection e with e; omega)⟩
theorem Only.blk {b : Nat} {w w' : World} (h : Only b w w') {g : Nat} {t : TypeId} {cs : Array Value} (hg : Blk w g t cs) (hne : g ≠ b) : Blk w' g t cs :=
  (World.grownBy.block h g hg.lt (fun e => by injection e with e; exact hne e)).trans hg
/-- The reader: its text, where it stands, the line, where this begins, and the limit. -/
def Rd (w : World) (b : Nat) (s : ByteArray) (n li st lim : Int) : Prop := Blk w b 40 #[.string s, .int .i64 n, .int .i64 li, .int .i64 st, .int .i64 lim]
section
variable {w : World} {b : Nat} {s : ByteArray} {n li st lim : Int} (h : Rd w b s n li st lim)
include h
theorem Rd.c0 : w.cell? ⟨b, 0, none⟩ = some (.string s) := Blk.cell h 0 _ rfl
theorem Rd.c1 : w.cell? ⟨b, 1, none⟩ = some (.int .i64 n) := Blk.cell h 1 _ rfl
theorem Rd.c2 : w.cell? ⟨b, 2, none⟩ = some (.int .i64 li) := Blk.cell h 2 _ rfl
theorem Rd.c3 : w.cell? ⟨b, 3, none⟩ = some (.int .i64 st) := Blk.cell h 3 _ rfl
theorem Rd.c4 : w.cell? ⟨b, 4, none⟩ = some (.int .i64 lim) := Blk.cell h 4 _ rfl
theorem Rd.lt : b < w.heap.size := Blk.lt h
theorem Rd.thaw (j : Nat) : w.frozen? ⟨b, j, none⟩ = false := Blk.thaw h j
theorem Rd.alloc (o : Obj) : Rd (w.alloc o) b s n li st lim := Blk.alloc h o
theorem Rd.drew : Rd w.drew b s n li st lim := h
theorem Rd.drewN (q : Nat) : Rd (w.drewN q) b s n li st lim := h
theorem Rd.other (p : Addr) (v : Value) (hp : b ≠ p.block) : Rd (w.setCell p v) b s n li st lim := Blk.other h p v hp
theorem Rd.below {w' : World} {B : Nat} (hb : Below B w w') (hB : b < B) : Rd w' b s n li st lim := Blk.below h hb hB
theorem Rd.next (x : Int) : Rd (w.setCell ⟨b, 1, none⟩ (.int .i64 x)) b s x li st lim := Blk.set h 1 (.int .i64 x)
theorem Rd.line (x : Int) : Rd (w.setCell ⟨b, 2, none⟩ (.int .i64 x)) b s n x st lim := Blk.set h 2 (.int .i64 x)
theorem Rd.start (x : Int) : Rd (w.setCell ⟨b, 3, none⟩ (.int .i64 x)) b s n li x lim := Blk.set h 3 (.int .i64 x)
end
end Go.Proofs.YtbmkbenlhkcklaaDoor
