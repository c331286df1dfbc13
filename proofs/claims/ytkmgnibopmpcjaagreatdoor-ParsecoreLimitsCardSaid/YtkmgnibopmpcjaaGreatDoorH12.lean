/-
  Walks and plain mathematics, several texts in one (Sm Sn).
-/
import Derived.Test.YtkmgnibopmpcjaaGreatDoorH11
import Derived.Test.YtkmgnibopmpcjaaGreatDoorProg
import Derived.Test.YtkmgnibopmpcjaaGreatDoorH9
import Derived.WalkKit
import Derived.BigQuiet
import Derived.Lib.Hide
import Derived.Deep.Slices
import Derived.Deep.Strs
import Derived.WideKeyArgs
import Derived.ChangeOld
import Derived.ProofKit
import Derived.Deep.LoopGhost
import Derived.WalkSpells
import Derived.WalkLawsBesides
/-
  Walks of layer 3: trees in memory.
-/
namespace Go.Proofs.YtkmgnibopmpcjaaGreatDoor
open Go Go.RowKit Go.ChangeShapes Go.WideShapes Go.Deep
open Pl (Syn)
def StrsIn (w : World) (b off : Nat) (zs : List ByteArray) : Prop := ∀ j (h : j < zs.length), w.cell? ⟨b, off + j, none⟩ = some (.string zs[j])
def StrSl (w : World) (P : Nat → Prop) (v : Value) (zs : List ByteArray) : Prop :=
  ∃ a c, v = .slice a zs.length c ∧ zs.length ≤ c ∧ c ≤ maxLen ∧ (a = none → c = 0) ∧ (∀ z ∈ zs, z.size ≤ maxLen) ∧ (zs = [] ∨ ∃ b off, a = some ⟨b, off, none⟩ ∧ P b ∧ StrsIn w b off zs)
def NodeAt (w : World) (b o : Nat) (v : Value) : Prop :=
  ∃ x0 x1 x2 x3 x4, v = .agg #[x0, x1, x2, x3, x4] ∧ w.cell? ⟨b, o, none⟩ = some x0 ∧ w.cell? ⟨b, o + 1, none⟩ = some x1 ∧ w.cell? ⟨b, o + 2, none⟩ = some x2 ∧ w.cell? ⟨b, o + 3, none⟩ = some x3 ∧ w.cell? ⟨b, o + 4, none⟩ = some x4
mutual
def SynV (w : World) (P : Nat → Prop) : Syn → Value → Prop
  | ⟨op, n, s, names, l⟩, v => s.size ≤ maxLen ∧ ∃ nv a c, v = .agg #[.int .i64 op, .int .i64 n, .string s, nv, .slice a l.length c] ∧ StrSl w P nv names ∧
      l.length ≤ c ∧ c ≤ maxLen ∧ (a = none → c = 0) ∧ (l = [] ∨ ∃ b off, a = some ⟨b, off, none⟩ ∧ P b ∧ KidsAt w P l b off)
def KidsAt (w : World) (P : Nat → Prop) : List Syn → Nat → Nat → Prop
  | [], _, _ => True
  | t :: r, b, off => (∃ v, NodeAt w b off v ∧ SynV w P t v) ∧ KidsAt w P r b (off + 5)
end
def SynSl (w : World) (P : Nat → Prop) (v : Value) (l : List Syn) : Prop :=
  ∃ a c, v = .slice a l.length c ∧ l.length ≤ c ∧ c ≤ maxLen ∧ (a = none → c = 0) ∧ (l = [] ∨ ∃ b off, a = some ⟨b, off, none⟩ ∧ P b ∧ KidsAt w P l b off)
theorem synV_iff (w : World) (P : Nat → Prop) (t : Syn) (v : Value) : SynV w P t v ↔ t.s.size ≤ maxLen ∧ ∃ nv lv, v = .agg #[.int .i64 t.op, .int .i64 t.n, .string t.s, nv, lv] ∧ StrSl w P nv t.names ∧ SynSl w P lv t.l := by
  obtain ⟨op, n, s, names, l⟩ := t
  rw [SynV]
  constructor
  · rintro ⟨h0, nv, a, c, rfl, h1, h2, h3, h4, h5⟩
    exact ⟨h0, nv, _, rfl, h1, a, c, rfl, h2, h3, h4, h5⟩
  · rintro ⟨h0, nv, lv, rfl, h1, a, c, rfl, h2, h3, h4, h5⟩
    exact ⟨h0, nv, a, c, rfl, h1, h2, h3, h4, h5⟩
theorem kidsAt_iff (w : World) (P : Nat → Prop) (l : List Syn) : ∀ b off, KidsAt w P l b off ↔ ∀ j (h : j < l.length), ∃ v, NodeAt w b (off + j * 5) v ∧ SynV w P l[j] v := by
  induction l with
  | nil => intro b off; rw [KidsAt]; simp
  | cons t r ih =>
    intro b off
    rw [KidsAt, ih]
    constructor
    · rintro ⟨h0, h1⟩ j hj
      cases j with
      | zero => simpa using h0
      | succ j =>
        have := h1 j (by simpa using hj)
        rw [show off + 5 + j * 5 = off + (j + 1) * 5 from by omega] at this
        simpa using this
    · intro h
      refine ⟨by have := h 0 (Nat.zero_lt_succ _); rw [Nat.zero_mul, Nat.add_zero] at this; exact this, fun j hj => ?_⟩
      have := h (j + 1) (by simpa using hj)
      rw [show off + (j + 1) * 5 = off + 5 + j * 5 from by omega] at this
      simpa using this
def Same (P : Nat → Prop) (w w' : World) : Prop := ∀ b, P b → w'.heap[b]? = w.heap[b]?
theorem Same.refl (P : Nat → Prop) (w : World) : Same P w w := fun _ _ => rfl
theorem Same.trans {P : Nat → Prop} {a b c : World} (h : Same P a b) (k : Same P b c) : Same P a c := fun i hi => (k i hi).trans (h i hi)
theorem Same.mono {P Q : Nat → Prop} {w w' : World} (h : Same P w w') (hq : ∀ b, Q b → P b) : Same Q w w' := fun i hi => h i (hq i hi)
theorem Same.cell {P : Nat → Prop} {w w' : World} (h : Same P w w') {b o : Nat} (hb : P b) : w'.cell? ⟨b, o, none⟩ = w.cell? ⟨b, o, none⟩ := by
  have := h b hb
  simp only [World.cell?, this]
theorem Same.of_below {P : Nat → Prop} {B : Nat} {w w' : World} (h : Below B w w') (hP : ∀ b, P b → b < B) : Same P w w' := fun i hi => h.block i (hP i hi)
theorem StrsIn.keep {w w' : World} {P : Nat → Prop} {b off : Nat} {zs : List ByteArray} (h : StrsIn w b off zs) (hs : Same P w w') (hb : P b) : StrsIn w' b off zs := fun j hj => by
  rw [hs.cell hb]; exact h j hj
theorem StrSl.keep {w w' : World} {P : Nat → Prop} {v : Value} {zs : List ByteArray} (h : StrSl w P v zs) (hs : Same P w w') : StrSl w' P v zs := by
  obtain ⟨a, c, h1, h2, h3, h4, h5, h6⟩ := h
  refine ⟨a, c, h1, h2, h3, h4, h5, ?_⟩
  rcases h6 with h6 | ⟨b, off, h6, h7, h8⟩
  · exact .inl h6
  · exact .inr ⟨b, off, h6, h7, h8.keep hs h7⟩
theorem StrSl.mono {w : World} {P Q : Nat → Prop} {v : Value} {zs : List ByteArray} (h : StrSl w P v zs) (hq : ∀ b, P b → Q b) : StrSl w Q v zs := by
  obtain ⟨a, c, h1, h2, h3, h4, h5, h6⟩ := h
  refine ⟨a, c, h1, h2, h3, h4, h5, ?_⟩
  rcases h6 with h6 | ⟨b, off, h6, h7, h8⟩
  · exact .inl h6
  · exact .inr ⟨b, off, h6, hq b h7, h8⟩
theorem NodeAt.keep {w w' : World} {P : Nat → Prop} {b o : Nat} {v : Value} (h : NodeAt w b o v) (hs : Same P w w') (hb : P b) : NodeAt w' b o v := by
  obtain ⟨x0, x1, x2, x3, x4, rfl, h0, h1, h2, h3, h4⟩ := h
  exact ⟨x0, x1, x2, x3, x4, rfl, (hs.cell hb).trans h0, (hs.cell hb).trans h1, (hs.cell hb).trans h2, (hs.cell hb).trans h3, (hs.cell hb).trans h4⟩
theorem SynV.keep {w w' : World} {P : Nat → Prop} (hs : Same P w w') : ∀ {t : Syn} {v : Value}, SynV w P t v → SynV w' P t v := by
  intro t
  induction t using Syn.ind with
  | h t ih =>
    intro v h
    rw [synV_iff] at h ⊢
    obtain ⟨h0, nv, lv, h1, h2, a, c, h3, h4, h5, h6, h7⟩ := h
    refine ⟨h0, nv, lv, h1, h2.keep hs, a, c, h3, h4, h5, h6, ?_⟩
    rcases h7 with h7 | ⟨b, off, h7, h8, h9⟩
    · exact .inl h7
    · refine .inr ⟨b, off, h7, h8, ?_⟩
      rw [kidsAt_iff] at h9 ⊢
      intro j hj
      obtain ⟨x, hx, hv⟩ := h9 j hj
      exact ⟨x, hx.keep hs h8, ih _ (List.getElem_mem hj) hv⟩
theorem SynV.mono {w : World} {P Q : Nat → Prop} (hq : ∀ b, P b → Q b) : ∀ {t : Syn} {v : Value}, SynV w P t v → SynV w Q t v := by
  intro t
  induction t using Syn.ind with
  | h t ih =>
    intro v h
    rw [synV_iff] at h ⊢
    obtain ⟨h0, nv, lv, h1, h2, a, c, h3, h4, h5, h6, h7⟩ := h
    refine ⟨h0, nv, lv, h1, h2.mono hq, a, c, h3, h4, h5, h6, ?_⟩
    rcases h7 with h7 | ⟨b, off, h7, h8, h9⟩
    · exact .inl h7
    · refine .inr ⟨b, off, h7, hq b h8, ?_⟩
      rw [kidsAt_iff] at h9 ⊢
      intro j hj
      obtain ⟨x, hx, hv⟩ := h9 j hj
      exact ⟨x, hx, ih _ (List.getElem_mem hj) hv⟩
theorem KidsAt.keep {w w' : World} {P : Nat → Prop} (hs : Same P w w') {l : List Syn} {b off : Nat} (hb : P b) (h : KidsAt w P l b off) : KidsAt w' P l b off := by
  rw [kidsAt_iff] at h ⊢
  intro j hj
  obtain ⟨x, hx, hv⟩ := h j hj
  exact ⟨x, hx.keep hs hb, hv.keep hs⟩
theorem SynSl.keep {w w' : World} {P : Nat → Prop} (hs : Same P w w') {v : Value} {l : List Syn} (h : SynSl w P v l) : SynSl w' P v l := by
  obtain ⟨a, c, h3, h4, h5, h6, h7⟩ := h
  refine ⟨a, c, h3, h4, h5, h6, ?_⟩
  rcases h7 with h7 | ⟨b, off, h7, h8, h9⟩
  · exact .inl h7
  · exact .inr ⟨b, off, h7, h8, h9.keep hs h8⟩
theorem SynSl.mono {w : World} {P Q : Nat → Prop} (hq : ∀ b, P b → Q b) {v : Value} {l : List Syn} (h : SynSl w P v l) : SynSl w Q v l := by
  obtain ⟨a, c, h3, h4, h5, h6, h7⟩ := h
  refine ⟨a, c, h3, h4, h5, h6, ?_⟩
  rcases h7 with h7 | ⟨b, off, h7, h8, h9⟩
  · exact .inl h7
  · refine .inr ⟨b, off, h7, hq b h8, ?_⟩
    rw [kidsAt_iff] at h9 ⊢
    intro j hj
    obtain ⟨x, hx, hv⟩ := h9 j hj
    exact ⟨x, hx, hv.mono hq⟩
theorem synV_none (w : World) (P : Nat → Prop) : SynV w P Pl.none0 (.agg #[.int .i64 0, .int .i64 0, .string ByteArray.empty, .slice none 0 0, .slice none 0 0]) := by
  rw [synV_iff]
  exact ⟨Nat.zero_le _, _, _, rfl, ⟨none, 0, rfl, Nat.le_refl _, Nat.zero_le _, fun _ => rfl, (fun z hz => by simp [Pl.none0] at hz), .inl rfl⟩, none, 0, rfl, Nat.le_refl _, Nat.zero_le _, fun _ => rfl, .inl rfl⟩
section
variable {H : Type} {enc : TypeId × Value → H} {W : World}
end
end Go.Proofs.YtkmgnibopmpcjaaGreatDoor

/-
  Walks of layer 3: a visit of all nodes, whatever is called at each.
-/
namespace Go.Proofs.YtkmgnibopmpcjaaGreatDoor
open Go Go.RowKit
open Pl (Syn)
theorem Blk.of_eq {w w' : World} {g : Nat} {t : TypeId} {cs : Array Value} (h : Blk w g t cs) (he : w'.heap[g]? = w.heap[g]?) : Blk w' g t cs := he.trans h
theorem size_alloc (w : World) (o : Obj) : (w.alloc o).heap.size = w.heap.size + 1 := by simp
theorem SynV.form {w : World} {P : Nat → Prop} {t : Syn} {v : Value} (h : SynV w P t v) : ∃ na nn nc la ln lc, v = .agg #[.int .i64 t.op, .int .i64 t.n, .string t.s, .slice na nn nc, .slice la ln lc] := by
  rw [synV_iff] at h
  obtain ⟨_, nv, lv, rfl, ⟨na, nc, rfl, _⟩, ⟨la, lc, rfl, _⟩⟩ := h
  exact ⟨na, _, nc, la, _, lc, rfl⟩
def Fr (own own' : Nat → Prop) (w w' : World) : Prop :=
  w'.os = w.os ∧ w'.tape = w.tape ∧ w'.output = w.output ∧ w.heap.size ≤ w'.heap.size ∧ (∀ i, i < w.heap.size → ¬ own i → w'.heap[i]? = w.heap[i]?) ∧ ∀ i, own' i → own i ∨ w.heap.size ≤ i
theorem Fr.size {o o' : Nat → Prop} {w w' : World} (h : Fr o o' w w') : w.heap.size ≤ w'.heap.size := h.2.2.2.1
theorem Fr.block {o o' : Nat → Prop} {w w' : World} (h : Fr o o' w w') {i : Nat} (hi : i < w.heap.size) (hn : ¬ o i) : w'.heap[i]? = w.heap[i]? := h.2.2.2.2.1 i hi hn
theorem Fr.owned {o o' : Nat → Prop} {w w' : World} (h : Fr o o' w w') {i : Nat} (hi : o' i) : o i ∨ w.heap.size ≤ i := h.2.2.2.2.2 i hi
theorem Fr.refl (o : Nat → Prop) (w : World) : Fr o o w w := ⟨rfl, rfl, rfl, Nat.le_refl _, fun _ _ _ => rfl, fun _ h => .inl h⟩
theorem Fr.trans {o1 o2 o3 : Nat → Prop} {a b c : World} (h : Fr o1 o2 a b) (k : Fr o2 o3 b c) : Fr o1 o3 a c := by
  obtain ⟨h1, h2, h3, h4, h5, h6⟩ := h
  obtain ⟨k1, k2, k3, k4, k5, k6⟩ := k
  refine ⟨k1.trans h1, k2.trans h2, k3.trans h3, Nat.le_trans h4 k4, fun i hi hn => ?_, fun i hi => ?_⟩
  · refine (k5 i (by omega) (fun ho => ?_)).trans (h5 i hi hn)
    rcases h6 i ho with h | h
    · exact hn h
    · omega
  · rcases k6 i hi with h | h
    · exact h6 i h
    · exact .inr (by omega)
theorem Fr.of_below {o : Nat → Prop} {w w' : World} (h : Below w.heap.size w w') : Fr o o w w' := ⟨h.os, h.tape, h.output, h.size, fun i hi _ => h.block i hi, fun _ h => .inl h⟩
theorem Fr.alloc {o o' : Nat → Prop} {a w : World} (h : Fr o o' a w) (x : Obj) : Fr o o' a (w.alloc x) := h.trans (Fr.of_below ((Below.refl _ _).alloc (Nat.le_refl _) x))
theorem Fr.same {o o' : Nat → Prop} {w w' : World} (h : Fr o o' w w') {P : Nat → Prop} (hP : ∀ b, P b → b < w.heap.size ∧ ¬ o b) : Same P w w' := fun i hi => h.block (hP i hi).1 (hP i hi).2
theorem Fr.still {o o' : Nat → Prop} {w w' : World} (h : Fr o o' w w') {P : Nat → Prop} (hP : ∀ b, P b → b < w.heap.size ∧ ¬ o b) : ∀ b, P b → b < w'.heap.size ∧ ¬ o' b := fun i hi => by
  obtain ⟨h1, h2⟩ := hP i hi
  refine ⟨Nat.lt_of_lt_of_le h1 h.size, fun ho => ?_⟩
  rcases h.owned ho with g | g
  · exact h2 g
  · omega
structure Visitor where
  St : Type
  G : Type
  fid : FuncId
  g : Nat
  Inv : St → G → World → Prop
  own : G → Nat → Prop
  cnt : St → Nat
  next : St → Syn → Int → Int → St × Bool
namespace Visitor
variable (V : Visitor)
mutual
def run (σ : V.St) : Syn → Int → Int → V.St × Bool
  | ⟨op, n, s, names, l⟩, around, depth =>
    if (V.next σ ⟨op, n, s, names, l⟩ around depth).2 then runs (V.next σ ⟨op, n, s, names, l⟩ around depth).1 l op (depth + 1) else ((V.next σ ⟨op, n, s, names, l⟩ around depth).1, false)
def runs (σ : V.St) : List Syn → Int → Int → V.St × Bool
  | [], _, _ => (σ, true)
  | t :: r, around, depth => if (run σ t around depth).2 then runs (run σ t around depth).1 r around depth else ((run σ t around depth).1, false)
end
def fval : Value := .func (.func V.fid) #[] #[.pointer (some ⟨V.g, 0, none⟩)]
structure Good : Prop where
  enter : ∀ (args : Array Value) (w : World), Sem.run Tryz.prog (callFunc V.fid args) w = .ok (.enter V.fid args) w
  calls : ∀ (σ : V.St) (γ : V.G) (w : World) (P : Nat → Prop) (t : Syn) (v : Value) (around depth : Int), V.Inv σ γ w → SynV w P t v → (∀ b, P b → b < w.heap.size ∧ ¬ V.own γ b) → t.big ≤ 1073741824 → V.cnt σ < 1073741824 → 0 ≤ depth → depth ≤ 2147483648 →
    Calls Tryz.prog V.fid #[v, .int .i64 around, .int .i64 depth, .pointer (some ⟨V.g, 0, none⟩)] w fun e w' => e = .returned (.bool (V.next σ t around depth).2) ∧ ∃ γ', V.Inv (V.next σ t around depth).1 γ' w' ∧ Fr (V.own γ) (V.own γ') w w'
  keep : ∀ (σ : V.St) (γ : V.G) (w w' : World), V.Inv σ γ w → Below w.heap.size w w' → V.Inv σ γ w'
  lt : ∀ (σ : V.St) (γ : V.G) (w : World) (i : Nat), V.Inv σ γ w → V.own γ i → i < w.heap.size
  cnt_le : ∀ (σ : V.St) (t : Syn) (around depth : Int), V.cnt (V.next σ t around depth).1 ≤ V.cnt σ + 1
theorem run_eq (σ : V.St) (t : Syn) (around depth : Int) : V.run σ t around depth = if (V.next σ t around depth).2 then V.runs (V.next σ t around depth).1 t.l t.op (depth + 1) else ((V.next σ t around depth).1, false) := by
  obtain ⟨op, n, s, names, l⟩ := t; rw [run]
theorem runs_nil (σ : V.St) (around depth : Int) : V.runs σ [] around depth = (σ, true) := by rw [runs]
theorem runs_cons (σ : V.St) (t : Syn) (r : List Syn) (around depth : Int) : V.runs σ (t :: r) around depth = if (V.run σ t around depth).2 then V.runs (V.run σ t around depth).1 r around depth else ((V.run σ t around depth).1, false) := by rw [runs]
theorem cnt_runs_of (l : List Syn) (hl : ∀ x ∈ l, ∀ (σ : V.St) (around depth : Int), V.cnt (V.run σ x around depth).1 ≤ V.cnt σ + x.size) :
    ∀ (σ : V.St) (around depth : Int), V.cnt (V.runs σ l around depth).1 ≤ V.cnt σ + Pl.sizes l := by
  induction l with
  | nil => intro σ around depth; rw [runs_nil, Pl.sizes_nil]; exact Nat.le_refl _
  | cons x r ih =>
    intro σ around depth
    have h1 := hl x List.mem_cons_self σ around depth
    have h2 := ih (fun y hy => hl y (List.mem_cons_of_mem _ hy)) (V.run σ x around depth).1 around depth
    rw [runs_cons, Pl.sizes_cons]
    split
    · omega
    · show V.cnt (V.run σ x around depth).1 ≤ _
      omega
theorem cnt_run (h : ∀ (σ : V.St) (t : Syn) (around depth : Int), V.cnt (V.next σ t around depth).1 ≤ V.cnt σ + 1) (t : Syn) : ∀ (σ : V.St) (around depth : Int), V.cnt (V.run σ t around depth).1 ≤ V.cnt σ + t.size := by
  induction t using Syn.ind with
  | h t ih =>
    intro σ around depth
    have h1 := h σ t around depth
    have h2 := cnt_runs_of V t.l ih (V.next σ t around depth).1 t.op (depth + 1)
    rw [run_eq, Pl.size_eq]
    split
    · omega
    · show V.cnt (V.next σ t around depth).1 ≤ _
      omega
def At (hf hd : Nat) (P : Nat → Prop) (σ : V.St) (γ : V.G) (w : World) : Prop :=
  V.Inv σ γ w ∧ Blk w hf 132 #[V.fval] ∧ Blk w hd 132 #[.func (.func 180) #[] #[.pointer (some ⟨hf, 0, none⟩), .pointer (some ⟨hd, 0, none⟩)]] ∧ ¬ V.own γ hf ∧ ¬ V.own γ hd ∧ ∀ b, P b → b < w.heap.size ∧ ¬ V.own γ b
theorem At.go {V : Visitor} {hf hd : Nat} {P : Nat → Prop} {σ σ' : V.St} {γ γ' : V.G} {w w' : World} (h : V.At hf hd P σ γ w) (hi : V.Inv σ' γ' w') (hr : Fr (V.own γ) (V.own γ') w w') : V.At hf hd P σ' γ' w' := by
  obtain ⟨h0, h1, h2, h3, h4, h5⟩ := h
  refine ⟨hi, h1.of_eq (hr.block h1.lt h3), h2.of_eq (hr.block h2.lt h4), fun ho => ?_, fun ho => ?_, hr.still h5⟩
  · rcases hr.owned ho with g | g
    · exact h3 g
    · have := h1.lt; omega
  · rcases hr.owned ho with g | g
    · exact h4 g
    · have := h2.lt; omega
theorem At.below {V : Visitor} (HV : V.Good) {hf hd : Nat} {P : Nat → Prop} {σ : V.St} {γ : V.G} {w w' : World} (h : V.At hf hd P σ γ w) (hb : Below w.heap.size w w') : V.At hf hd P σ γ w' := h.go (HV.keep σ γ w w' h.1 hb) (Fr.of_below hb)
def Post (γ : V.G) (r : V.St × Bool) (w : World) (e : Ending) (w' : World) : Prop := e = .returned (.bool r.2) ∧ ∃ γ', V.Inv r.1 γ' w' ∧ Fr (V.own γ) (V.own γ') w w'
def Rel (hf hd : Nat) (P : Nat → Prop) (γ : V.G) (w0 : World) (l : List Syn) (around depth : Int) (res : V.St × Bool) (k0 : Nat) (bx : Array Value) (k : Nat) (wr : World) : Prop :=
  ∃ σk γk, Blk wr k0 28 bx ∧ ¬ V.own γk k0 ∧ V.runs σk (l.drop k) around depth = res ∧ V.At hf hd P σk γk wr ∧ Fr (V.own γ) (V.own γk) w0 wr ∧ V.cnt σk + Pl.sizes (l.drop k) ≤ 1073741824
end Visitor
theorem getElem_drop_cons (l : List Syn) (k : Nat) (h : k < l.length) : l.drop k = l[k] :: l.drop (k + 1) := List.drop_eq_getElem_cons h
set_option maxRecDepth 100000 in
set_option maxHeartbeats 4000000 in
theorem descend_any (V : Visitor) (HV : V.Good) (hf hd : Nat) (P : Nat → Prop) (t : Syn) : ∀ (σ : V.St) (γ : V.G) (w : World) (v : Value) (around depth : Int), V.At hf hd P σ γ w → SynV w P t v → t.big ≤ 1073741824 → V.cnt σ + t.size ≤ 1073741824 → 0 ≤ depth → depth + t.size ≤ 2147483648 →
    Calls Tryz.prog 180 #[v, .int .i64 around, .int .i64 depth, .pointer (some ⟨hf, 0, none⟩), .pointer (some ⟨hd, 0, none⟩)] w (V.Post γ (V.run σ t around depth) w) := by
  induction t using Syn.ind with
  | h t ih =>
  intro σ γ w v around depth hat ht hbig hcnt hd0 hd1
  have HIH := Lib.hid ih
  clear ih
  have hsz := Pl.size_eq t
  have hbg := Pl.big_eq t
  have hlen := Pl.len_big t
  have hpos := Pl.size_pos t
  have HT := Lib.hid ht
  rw [synV_iff] at ht
  obtain ⟨hs, nv, lv, rfl, hn, hl⟩ := ht
  obtain ⟨a, c, rfl, hlc, hcm, hac, hkids⟩ := hl
  generalize hnl : t.l.length = n at *
  have HNL := Lib.hid hnl
  have hb1 : Below w.heap.size w (w.alloc (.cells #[.int .i64 t.op, .int .i64 t.n, .string t.s, nv, .slice a n c] 28)) := (Below.refl _ _).alloc (Nat.le_refl _) _
  have hat1 := hat.below HV hb1
  have bx := blk_new w #[.int .i64 t.op, .int .i64 t.n, .string t.s, nv, .slice a n c] 28
  have hno : ¬ V.own γ w.heap.size := fun ho => absurd (HV.lt σ γ w _ hat.1 ho) (Nat.lt_irrefl _)
  have HF1 := Lib.hid (Fr.of_below (o := V.own γ) hb1)
  have HC := Lib.hid (HV.calls σ γ _ P t _ around depth hat1.1 (HT.out.keep (Same.of_below hb1 (fun b hb => (hat.2.2.2.2.2 b hb).1))) hat1.2.2.2.2.2 hbig (by omega) hd0 (by omega))
  have c0 := hat1.2.1.cell 0 _ rfl
  unfold Visitor.fval at c0
  have HAT1 := Lib.hid hat1
  have HP := Lib.hid hat.2.2.2.2.2
  have HNO := Lib.hid hno
  have HBX := Lib.hid bx
  have HR := Lib.hid (V.run_eq σ t around depth)
  have HLE := Lib.hid (HV.cnt_le σ t around depth)
  have HENT := Lib.hid HV.enter
  have HSZ := Lib.hid hsz
  have HBG := Lib.hid hbg
  have hsl : Pl.sizes t.l < t.size := by omega
  have hbl : Pl.bigs t.l < t.big := by omega
  have HKIDS := Lib.hid hkids
  clear hs hn hat hat1 bx hb1 hno hac hnl hsz hbg hkids
  go_enter Tryz.func180, Tryz.ntmps180
  go_wp2_with fail
  rw [HENT.out, Oper.upon_enter]
  refine HC.out.mono ?_
  rintro e w1 ⟨rfl, γ1, hi1, hf1⟩
  have HAT2 := Lib.hid (HAT1.out.go hi1 hf1)
  have HF2 := Lib.hid (HF1.out.trans hf1)
  have hbx1 : Blk w1 w.heap.size 28 #[.int .i64 t.op, .int .i64 t.n, .string t.s, nv, .slice a n c] := HBX.out.of_eq (hf1.block HBX.out.lt HNO.out)
  have HNO2 := Lib.hid (show ¬ V.own γ1 w.heap.size from fun ho => by
    rcases hf1.owned ho with g | g
    · exact HNO.out g
    · rw [size_alloc] at g; omega)
  have HBX1 := Lib.hid hbx1
  have c4 := hbx1.cell 4 _ rfl
  clear HC c0
  generalize hnx : V.next σ t around depth = nx at *
  obtain ⟨σ1, ok⟩ := nx
  have HNX := Lib.hid hnx
  clear hnx hf1 hi1 hbx1
  simp only at HR HLE HAT2 HF2 HNO2
  cases ok
  · go_wp2
    go_ret
    have hr := HR.out
    rw [if_neg (by simp)] at hr
    rw [hr]
    exact ⟨rfl, γ1, HAT2.out.1, HF2.out⟩
  · have hr := HR.out
    rw [if_pos rfl] at hr
    generalize hres : V.runs σ1 t.l t.op (depth + 1) = res at hr
    have HRES := Lib.hid hres
    have HRR := Lib.hid hr
    clear hr hres HR
    rcases HKIDS.out with hk0 | ⟨b, off, rfl, hPb, hka⟩
    · have hn0 : n = 0 := by rw [← HNL.out, hk0]; rfl
      subst hn0
      have HK0 := Lib.hid hk0
      clear hk0
      go_wp2_with fail
      go_loopg [20] 1 (fun g v wr => v = .int .i64 0 ∧ wr = w1)
      case atStart => exact ⟨rfl, rfl⟩
      case round =>
        obtain ⟨rfl, rfl⟩ := hrel
        go_wp2
        go_ret
        have hr := HRES.out
        rw [HK0.out, V.runs_nil] at hr
        subst hr
        rw [HRR.out]
        exact ⟨rfl, γ1, HAT2.out.1, HF2.out⟩
    · have HKA := Lib.hid hka
      have HPB := Lib.hid hPb
      clear hka hPb
      go_wp2_with fail
      go_loopg [20] (n + 1) (fun g v wr => ∃ k : Nat, k ≤ n ∧ v = .int .i64 k ∧ g = n + 1 - k ∧ V.Rel hf hd P γ w t.l t.op (depth + 1) res w.heap.size #[.int .i64 t.op, .int .i64 t.n, .string t.s, nv, .slice (some ⟨b, off, none⟩) n c] k wr)
      case atStart =>
        refine ⟨0, by omega, rfl, by omega, σ1, γ1, HBX1.out, HNO2.out, HRES.out, HAT2.out, HF2.out, ?_⟩
        have := HLE.out
        rw [List.drop_zero]
        omega
      case round =>
        obtain ⟨k, hk, rfl, hg, σk, γk, hbk, hnk, hrun, hatk, hfk, hck⟩ := hrel
        by_cases hlt : k < n
        · have hkl : k < t.l.length := by rw [HNL.out]; exact hlt
          have hmem : t.l[k] ∈ t.l := List.getElem_mem hkl
          have hms := Pl.mem_size hmem
          have hmb := Pl.mem_big hmem
          have hsame := hfk.same HP.out
          obtain ⟨xv, ⟨x0, x1, x2, x3, x4, hxv, a0, a1, a2, a3, a4⟩, hxs⟩ := (kidsAt_iff _ _ _ _ _).1 (HKA.out.keep hsame HPB.out) k hkl
          obtain ⟨na, nn, nc, la, ln, lc, hxf⟩ := hxs.form
          rw [hxv] at hxf
          simp only [Value.agg.injEq, Array.mk.injEq, List.cons.injEq, and_true] at hxf
          obtain ⟨rfl, rfl, rfl, rfl, rfl⟩ := hxf
          subst hxv
          generalize t.l[k].op = xo at *
          generalize t.l[k].n = xn at *
          generalize t.l[k].s = xs at *
          rw [getElem_drop_cons _ _ hkl, Pl.sizes_cons] at hck
          rw [getElem_drop_cons _ _ hkl, V.runs_cons] at hrun
          have hb2 : Below wr.heap.size wr (wr.alloc (.cells #[.int .i64 xo, .int .i64 xn, .string xs, .slice na nn nc, .slice la ln lc] 28)) := (Below.refl _ _).alloc (Nat.le_refl _) _
          have hat2 := hatk.below HV hb2
          have d0 := hat2.2.2.1.cell 0 _ rfl
          have d1 := (hb2.cell (p := ⟨w.heap.size, 0, none⟩) hbk.lt).trans (hbk.cell 0 _ rfl)
          have HC := Lib.hid (HIH.out _ hmem σk γk _ (.agg #[.int .i64 xo, .int .i64 xn, .string xs, .slice na nn nc, .slice la ln lc]) t.op (depth + 1) hat2 (hxs.keep (Same.of_below hb2 (fun b hb => (hatk.2.2.2.2.2 b hb).1))) (by omega) (by omega) (by omega) (by omega))
          have HFK := Lib.hid (hfk.trans (Fr.of_below hb2))
          have HATK := Lib.hid hat2
          have HBK := Lib.hid (hbk.of_eq (hb2.block _ hbk.lt))
          have HNK := Lib.hid hnk
          have HRUN := Lib.hid hrun
          have HLX := Lib.hid (V.cnt_run HV.cnt_le t.l[k] σk t.op (depth + 1))
          generalize V.run σk t.l[k] t.op (depth + 1) = rx at *
          obtain ⟨σx, okx⟩ := rx
          generalize t.l[k].size = sx at *
          clear hbk hnk hrun hatk hfk hsame hxs hb2 hat2 hmem hms hmb c4
          go_wp2_with fail
          refine HC.out.mono ?_
          rintro e w3 ⟨rfl, γ3, hi3, hf3⟩
          have HAT3 := Lib.hid (HATK.out.go hi3 hf3)
          have HF3 := Lib.hid (HFK.out.trans hf3)
          have HB3 := Lib.hid (HBK.out.of_eq (hf3.block HBK.out.lt HNK.out))
          have HN3 := Lib.hid (show ¬ V.own γ3 w.heap.size from fun ho => by
            rcases hf3.owned ho with g | g
            · exact HNK.out g
            · have := HBK.out.lt; omega)
          clear hi3 hf3 a0 a1 a2 a3 a4 d0 d1
          cases okx
          · go_wp2
            go_ret
            have hr := HRUN.out
            rw [if_neg (by simp)] at hr
            subst hr
            rw [HRR.out]
            exact ⟨rfl, γ3, HAT3.out.1, HF3.out⟩
          · go_wp2
            go_roundg (gk - 1)
            case measure => omega
            case rel =>
              refine ⟨k + 1, by omega, by go_num, by omega, σx, γ3, HB3.out, HN3.out, ?_, HAT3.out, HF3.out, ?_⟩
              · have hr := HRUN.out
                simpa using hr
              · have := HLX.out
                omega
        · have hkn : t.l.drop k = [] := List.drop_eq_nil_of_le (by rw [HNL.out]; omega)
          rw [hkn, V.runs_nil] at hrun
          have HRUN := Lib.hid hrun
          have HATK := Lib.hid hatk
          have HFK := Lib.hid hfk
          clear hrun hatk hfk hbk hnk hkn hck c4
          go_wp2
          go_ret
          have hr := HRUN.out
          subst hr
          rw [HRR.out]
          exact ⟨rfl, γk, HATK.out.1, HFK.out⟩
end Go.Proofs.YtkmgnibopmpcjaaGreatDoor
