/-
  Layer 8: kinds in memory.
-/
import Derived.Test.YtmjiocpcenbndaaGreatDoorProg
import Derived.Test.YtmjiocpcenbndaaGreatDoorKa
import Derived.WalkKit
import Derived.BigQuiet
import Derived.Lib.Hide
import Derived.Deep.Slices
import Derived.Deep.Strs
import Derived.WideKeyArgs
import Derived.ChangeOld
import Derived.ProofKit
namespace Go.Proofs.YtmjiocpcenbndaaGreatDoor
open Go Go.RowKit Go.ChangeShapes Go.WideShapes Go.Deep
open Pl (K)

def Blk (w : World) (g : Nat) (t : TypeId) (cs : Array Value) : Prop := w.heap[g]? = some (.cells cs t (0, 0))
theorem Blk.cell {w : World} {g : Nat} {t : TypeId} {cs : Array Value} (h : Blk w g t cs) (j : Nat) (v : Value) (hv : cs[j]? = some v) : w.cell? ⟨g, j, none⟩ = some v := by
  have h' : w.heap[g]? = some (.cells cs t (0, 0)) := h
  simp [World.cell?, h', hv]
theorem Blk.lt {w : World} {g : Nat} {t : TypeId} {cs : Array Value} (h : Blk w g t cs) : g < w.heap.size := by
  rcases Nat.lt_or_ge g w.heap.size with hlt | hge
  · exact hlt
  · exfalso
    have h' : w.heap[g]? = some (.cells cs t (0, 0)) := h
    have hn : w.heap[g]? = none := by simp; omega
    rw [hn] at h'; cases h'
theorem Blk.drew {w : World} {g : Nat} {t : TypeId} {cs : Array Value} (h : Blk w g t cs) : Blk w.drew g t cs := h
theorem blk_new (w : World) (cs : Array Value) (t : TypeId) : Blk (w.alloc (.cells cs t)) w.heap.size t cs := by
  show (w.heap.push _)[w.heap.size]? = _
  simp
theorem Blk.thaw {w : World} {g : Nat} {t : TypeId} {cs : Array Value} (h : Blk w g t cs) (j : Nat) : w.frozen? ⟨g, j, none⟩ = false := by
  have h' : w.heap[g]? = some (.cells cs t (0, 0)) := h
  simp [World.frozen?, h']
theorem Blk.set {w : World} {g : Nat} {t : TypeId} {cs : Array Value} (h : Blk w g t cs) (j : Nat) (v : Value) : Blk (w.setCell ⟨g, j, none⟩ v) g t (cs.setIfInBounds j v) := by
  have h' : w.heap[g]? = some (.cells cs t (0, 0)) := h
  simp [Blk, World.setCell, Array.getElem?_modify, h']
theorem Blk.other {w : World} {g : Nat} {t : TypeId} {cs : Array Value} (h : Blk w g t cs) (p : Addr) (v : Value) (hp : g ≠ p.block) : Blk (w.setCell p v) g t cs := (Below.heap_setCell w p v g hp).trans h
theorem Blk.alloc {w : World} {g : Nat} {t : TypeId} {cs : Array Value} (h : Blk w g t cs) (o : Obj) : Blk (w.alloc o) g t cs := (Below.heap_alloc w o g h.lt).trans h
theorem Blk.drewN {w : World} {g : Nat} {t : TypeId} {cs : Array Value} (h : Blk w g t cs) (n : Nat) : Blk (w.drewN n) g t cs := h
theorem Blk.below {w w' : World} {g B : Nat} {t : TypeId} {cs : Array Value} (h : Blk w g t cs) (hb : Below B w w') (hB : g < B) : Blk w' g t cs := (hb.block g hB).trans h
theorem Blk.of_eq {w w' : World} {g : Nat} {t : TypeId} {cs : Array Value} (h : Blk w g t cs) (e : w'.heap[g]? = w.heap[g]?) : Blk w' g t cs := e.trans h
theorem belowStep {a b c : World} (h2 : Below b.heap.size b c) (h1 : Below a.heap.size a b) : Below a.heap.size a c := h1.trans (h2.mono h1.size)
theorem below_new {a w : World} {o : Obj} (h : Below a.heap.size a w) : Below a.heap.size a (w.alloc o) := h.alloc h.size o
mutual
/-- a cell holds the parts of a kind, in the blocks P -/
def KidV (w : World) (P : Nat → Prop) : K → Value → Prop
  | .mk l, v => ∃ a c, v = .slice a l.length c ∧ l.length ≤ c ∧ c ≤ maxLen ∧ (a = none → c = 0) ∧ (l = [] ∨ ∃ b off, a = some ⟨b, off, none⟩ ∧ P b ∧ KidsK w P l b off)
def KidsK (w : World) (P : Nat → Prop) : List K → Nat → Nat → Prop
  | [], _, _ => True
  | t :: r, b, off => (∃ v, w.cell? ⟨b, off, none⟩ = some v ∧ KidV w P t v) ∧ KidsK w P r b (off + 1)
end
/-- a value is a kind, in the blocks P -/
def KV (w : World) (P : Nat → Prop) (t : K) (v : Value) : Prop := ∃ x, v = .agg #[x] ∧ KidV w P t x
/-- a slice of kinds -/
def KSl (w : World) (P : Nat → Prop) (v : Value) (l : List K) : Prop := KidV w P (.mk l) v
theorem kidV_iff (w : World) (P : Nat → Prop) (l : List K) (v : Value) : KidV w P (.mk l) v ↔ ∃ a c, v = .slice a l.length c ∧ l.length ≤ c ∧ c ≤ maxLen ∧ (a = none → c = 0) ∧ (l = [] ∨ ∃ b off, a = some ⟨b, off, none⟩ ∧ P b ∧ KidsK w P l b off) := by rw [KidV]
theorem kidsK_iff (w : World) (P : Nat → Prop) (l : List K) : ∀ b off, KidsK w P l b off ↔ ∀ j (h : j < l.length), ∃ v, w.cell? ⟨b, off + j, none⟩ = some v ∧ KidV w P l[j] v := by
  induction l with
  | nil => intro b off; rw [KidsK]; simp
  | cons t r ih =>
    intro b off
    rw [KidsK, ih]
    constructor
    · rintro ⟨h0, h1⟩ j hj
      cases j with
      | zero => simpa using h0
      | succ j =>
        have := h1 j (by simpa using hj)
        rw [show off + 1 + j = off + (j + 1) from by omega] at this
        simpa using this
    · intro h
      refine ⟨by have := h 0 (Nat.zero_lt_succ _); rw [Nat.add_zero] at this; exact this, fun j hj => ?_⟩
      have := h (j + 1) (by simpa using hj)
      rw [show off + (j + 1) = off + 1 + j from by omega] at this
      simpa using this
/-- the blocks P are the same in the two worlds -/
def Same (P : Nat → Prop) (w w' : World) : Prop := ∀ b, P b → w'.heap[b]? = w.heap[b]?
theorem Same.refl (P : Nat → Prop) (w : World) : Same P w w := fun _ _ => rfl
theorem Same.cell {P : Nat → Prop} {w w' : World} (h : Same P w w') {b o : Nat} (hb : P b) : w'.cell? ⟨b, o, none⟩ = w.cell? ⟨b, o, none⟩ := by
  have := h b hb
  simp only [World.cell?, this]
theorem Same.of_below {P : Nat → Prop} {B : Nat} {w w' : World} (h : Below B w w') (hP : ∀ b, P b → b < B) : Same P w w' := fun i hi => h.block i (hP i hi)
theorem KidV.keep {w w' : World} {P : Nat → Prop} (hs : Same P w w') : ∀ {t : K} {v : Value}, KidV w P t v → KidV w' P t v := by
  intro t
  induction t using K.ind with
  | h t ih =>
    obtain ⟨l⟩ := t
    intro v h
    rw [kidV_iff] at h ⊢
    obtain ⟨a, c, h3, h4, h5, h6, h7⟩ := h
    refine ⟨a, c, h3, h4, h5, h6, ?_⟩
    rcases h7 with h7 | ⟨b, off, h7, h8, h9⟩
    · exact .inl h7
    · refine .inr ⟨b, off, h7, h8, ?_⟩
      rw [kidsK_iff] at h9 ⊢
      intro j hj
      obtain ⟨x, hx, hv⟩ := h9 j hj
      exact ⟨x, (hs.cell h8).trans hx, ih _ (List.getElem_mem hj) hv⟩
theorem KidV.mono {w : World} {P Q : Nat → Prop} (hq : ∀ b, P b → Q b) : ∀ {t : K} {v : Value}, KidV w P t v → KidV w Q t v := by
  intro t
  induction t using K.ind with
  | h t ih =>
    obtain ⟨l⟩ := t
    intro v h
    rw [kidV_iff] at h ⊢
    obtain ⟨a, c, h3, h4, h5, h6, h7⟩ := h
    refine ⟨a, c, h3, h4, h5, h6, ?_⟩
    rcases h7 with h7 | ⟨b, off, h7, h8, h9⟩
    · exact .inl h7
    · refine .inr ⟨b, off, h7, hq b h8, ?_⟩
      rw [kidsK_iff] at h9 ⊢
      intro j hj
      obtain ⟨x, hx, hv⟩ := h9 j hj
      exact ⟨x, hx, ih _ (List.getElem_mem hj) hv⟩
theorem KV.keep {w w' : World} {P : Nat → Prop} (hs : Same P w w') {t : K} {v : Value} : KV w P t v → KV w' P t v := fun ⟨x, h1, h2⟩ => ⟨x, h1, h2.keep hs⟩
theorem KV.mono {w : World} {P Q : Nat → Prop} (hq : ∀ b, P b → Q b) {t : K} {v : Value} : KV w P t v → KV w Q t v := fun ⟨x, h1, h2⟩ => ⟨x, h1, h2.mono hq⟩
theorem KSl.keep {w w' : World} {P : Nat → Prop} (hs : Same P w w') {l : List K} {v : Value} (h : KSl w P v l) : KSl w' P v l := KidV.keep hs h
theorem KSl.mono {w : World} {P Q : Nat → Prop} (hq : ∀ b, P b → Q b) {l : List K} {v : Value} (h : KSl w P v l) : KSl w Q v l := KidV.mono hq h
theorem KV.below {w w' : World} {P : Nat → Prop} {t : K} {v : Value} (h : KV w P t v) (hP : ∀ b, P b → b < w.heap.size) (hb : Below w.heap.size w w') : KV w' P t v := h.keep (Same.of_below hb hP)
/-- the kind of types -/
def star : K := .mk []
theorem kidV_none (w : World) (P : Nat → Prop) : KidV w P star (.slice none 0 0) := (kidV_iff _ _ _ _).2 ⟨none, 0, rfl, Nat.le_refl _, Nat.zero_le _, fun _ => rfl, .inl rfl⟩
theorem kV_none (w : World) (P : Nat → Prop) : KV w P star (.agg #[.slice none 0 0]) := ⟨_, rfl, kidV_none w P⟩
/-- a kind's value taken apart -/
theorem KV.open {w : World} {P : Nat → Prop} {t : K} {v : Value} (h : KV w P t v) : ∃ a c, v = .agg #[.slice a t.l.length c] ∧ t.l.length ≤ c ∧ c ≤ maxLen ∧ (∀ j (hj : j < t.l.length), ∃ b off x, a = some ⟨b, off, none⟩ ∧ P b ∧ w.cell? ⟨b, off + j, none⟩ = some x ∧ KidV w P t.l[j] x) := by
  obtain ⟨l⟩ := t
  obtain ⟨x, rfl, h⟩ := h
  rw [kidV_iff] at h
  obtain ⟨a, c, rfl, h4, h5, h6, h7⟩ := h
  refine ⟨a, c, rfl, h4, h5, fun j hj => ?_⟩
  rcases h7 with rfl | ⟨b, off, h7, h8, h9⟩
  · exact absurd hj (Nat.not_lt_zero _)
  · obtain ⟨v, h1, h2⟩ := (kidsK_iff _ _ _ _ _).1 h9 j hj
    exact ⟨b, off, v, h7, h8, h1, h2⟩
theorem below_same {W W' : World} (hb : Below W.heap.size W W') (p : MemPlace) (h : p.block < W.heap.size) : W.sameAt W' p := by
  cases p with
  | cell b o => exact hb.cell (p := ⟨b, o, none⟩) h
  | map b => exact hb.block b h
theorem cellsKind : Tryz.prog.cellsOf 24 = 1 := by kernel_rfl
theorem cellsKinds : Tryz.prog.cellsOf 22 = 1 := by kernel_rfl
section
variable {H : Type} {enc : TypeId × Value → H} {W : World}
theorem trod_struct1 {P : Program} {w : World} {base : Nat} {spare : Nat → Bool} {held : Bool} {t : TypeId} {f0 : Field} {fuel : Nat} {cs : List Value} {x : DataW H × List MemPlace} (ht : P.underlying t = some (.struct #[f0])) (h : DataW.trod enc P w base spare held fuel t cs = some x) :
    ∃ y0 n, fuel = n + 1 ∧ cs.length = P.cellsOf t ∧ DataW.trod enc P w base spare held n f0.type ((cs.drop f0.offset).take (P.cellsOf f0.type)) = some y0 := by
  obtain ⟨xs, n, hn, _, hl, hlen, hf⟩ := DataW.trod_struct ht h
  match xs, hlen with
  | [y0], _ => exact ⟨y0, n, hn, hl, hf 0 f0 rfl⟩
theorem lt_of_cell {W : World} {b o : Nat} {s} {v : Value} (h : W.cell? ⟨b, o, s⟩ = some v) : b < W.heap.size := World.block_lt_of_cell? _ _ h
/-- a cell that holds a slice of kinds, where each of them is one -/
theorem slice_kinds {spare : Nat → Bool} {held : Bool} {n : Nat} {v : Value} {x : DataW H × List MemPlace} (ih : ∀ m, m < n → ∀ (cs : List Value) (x : DataW H × List MemPlace), DataW.trod enc Tryz.prog W 0 spare held m 24 cs = some x → ∃ t, KV W (· < W.heap.size) t (.agg cs.toArray)) (h : DataW.trod enc Tryz.prog W 0 spare held n 22 [v] = some x) : ∃ l, KSl W (· < W.heap.size) v l := by
  rcases DataW.trod_slice Tryz.underlying22 h with ⟨h1, _⟩ | ⟨a, len, cap, elems, rest, q, hq, h1, _, _, hl, hmx, hlen, hel, _⟩
  · injection h1 with h1 _
    exact ⟨[], by rw [h1]; exact kidV_none W _⟩
  · injection h1 with h1 _
    subst h1
    obtain ⟨b, off, spot⟩ := a
    have each : ∀ i, i < len → ∃ t : K, ∃ c0, KidV W (· < W.heap.size) t c0 ∧ W.cell? ((⟨b, off, spot⟩ : Addr).add i) = some c0 := by
      intro i hi
      have g := hel i hi
      rw [cellsKind] at g
      rw [List.getElem?_eq_getElem (by omega), Option.bind_eq_some_iff] at g
      obtain ⟨cs', g1, g2⟩ := g
      obtain ⟨_, hlen', hcell⟩ := World.cells?_some g1
      obtain ⟨t, ht⟩ := ih q (by omega) cs' _ g2
      match cs', hlen' with
      | [c0], _ =>
        have f0 := hcell 0 (by omega)
        rw [Deep.add_add] at f0
        obtain ⟨y, e1, e2⟩ := ht
        have e1 : (Value.agg #[c0]) = .agg #[y] := e1
        injection e1 with e1
        have e1 : c0 = y := by simpa using e1
        subst e1
        exact ⟨t, c0, e2, by simpa using f0⟩
    rcases Nat.eq_zero_or_pos len with h0 | hpos
    · subst h0
      exact ⟨[], (kidV_iff _ _ _ _).2 ⟨_, cap, rfl, by simp, hmx, (fun h => by cases h), .inl rfl⟩⟩
    · have hspot : spot = none := by
        obtain ⟨_, _, _, h⟩ := each 0 hpos
        simpa [Addr.add] using World.cell?_spot h
      subst hspot
      have hb : b < W.heap.size := by
        obtain ⟨_, _, _, h⟩ := each 0 hpos
        exact lt_of_cell h
      obtain ⟨T, hT⟩ := choose_lt each
      refine ⟨(List.range len).map T, (kidV_iff _ _ _ _).2 ⟨_, cap, by simp, by simpa using hl, hmx, (fun h => by cases h), .inr ⟨b, off, rfl, hb, ?_⟩⟩⟩
      rw [kidsK_iff]
      intro j hj
      have hj' : j < len := by simpa using hj
      obtain ⟨c0, g, g0⟩ := hT j hj'
      rw [add_plain] at g0
      rw [List.getElem_map, List.getElem_range]
      exact ⟨_, g0, g⟩
set_option maxRecDepth 100000 in
theorem trod_kind {spare : Nat → Bool} {held : Bool} : ∀ (n : Nat) (cs : List Value) (x : DataW H × List MemPlace), DataW.trod enc Tryz.prog W 0 spare held n 24 cs = some x → ∃ t, KV W (· < W.heap.size) t (.agg cs.toArray) := by
  intro n
  induction n using Nat.strongRecOn with
  | _ n ih =>
    intro cs x h
    obtain ⟨y0, m, hm, hcs, k0⟩ := trod_struct1 Tryz.underlying24 h
    rw [cellsKind] at hcs
    match cs, hcs with
    | [v0], _ =>
      simp only [cellsKinds, List.drop_zero, List.take_succ_cons, List.take_zero] at k0
      obtain ⟨l, hl⟩ := slice_kinds (fun q hq => ih q (by omega)) k0
      exact ⟨.mk l, v0, rfl, hl⟩
set_option maxRecDepth 100000 in
/-- an argument that is a kind -/
theorem open_kind {base : Nat} {v : Value} {d : DataW H} {ps : List MemPlace} (hval : Value.okWide Tryz.prog W .any base 24 v) (h : DataW.Trod enc Tryz.prog W 0 (fun _ => true) true 24 v d ps) : ∃ t, KV W (· < W.heap.size) t v := by
  obtain ⟨cs, rfl, _⟩ := okWide_struct Tryz.underlying24 hval
  obtain ⟨fuel, hf⟩ := h
  obtain ⟨t, ht⟩ := trod_kind fuel _ _ hf
  exact ⟨t, by simpa [Value.cells] using ht⟩
set_option maxRecDepth 100000 in
/-- an argument that is a slice of kinds -/
theorem open_kinds {base : Nat} {v : Value} {d : DataW H} {ps : List MemPlace} (hval : Value.okWide Tryz.prog W .any base 22 v) (h : DataW.Trod enc Tryz.prog W 0 (fun _ => true) true 22 v d ps) : ∃ l, KSl W (· < W.heap.size) v l := by
  obtain ⟨fuel, hf⟩ := h
  obtain ⟨a, n, c, rfl, _⟩ := okWide_slice Tryz.underlying22 hval
  exact slice_kinds (fun m _ => trod_kind m) hf
end
end Go.Proofs.YtmjiocpcenbndaaGreatDoor
