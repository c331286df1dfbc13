/-
  Walks of layer 3: trees in memory.
-/
import Derived.Test.YtkhpihacjhhklaaProg
import Derived.Test.YtkhpihacjhhklaaSa
import Derived.WalkKit
import Derived.BigQuiet
import Derived.Lib.Hide
import Derived.Deep.Slices
import Derived.Deep.Strs
import Derived.WideKeyArgs
import Derived.ChangeOld
import Derived.ProofKit
namespace Go.Proofs.Ytkhpihacjhhklaa
open Go Go.RowKit Go.ChangeShapes Go.WideShapes Go.Deep
open Pl (Syn)

/-- the strings of a slice, at a place -/
def StrsIn (w : World) (b off : Nat) (zs : List ByteArray) : Prop := ∀ j (h : j < zs.length), w.cell? ⟨b, off + j, none⟩ = some (.string zs[j])
/-- a slice of strings, in the blocks P -/
def StrSl (w : World) (P : Nat → Prop) (v : Value) (zs : List ByteArray) : Prop :=
  ∃ a c, v = .slice a zs.length c ∧ zs.length ≤ c ∧ c ≤ maxLen ∧ (a = none → c = 0) ∧ (∀ z ∈ zs, z.size ≤ maxLen) ∧ (zs = [] ∨ ∃ b off, a = some ⟨b, off, none⟩ ∧ P b ∧ StrsIn w b off zs)
/-- the five cells of a node -/
def NodeAt (w : World) (b o : Nat) (v : Value) : Prop :=
  ∃ x0 x1 x2 x3 x4, v = .agg #[x0, x1, x2, x3, x4] ∧ w.cell? ⟨b, o, none⟩ = some x0 ∧ w.cell? ⟨b, o + 1, none⟩ = some x1 ∧ w.cell? ⟨b, o + 2, none⟩ = some x2 ∧ w.cell? ⟨b, o + 3, none⟩ = some x3 ∧ w.cell? ⟨b, o + 4, none⟩ = some x4
mutual
/-- a value is a tree, in the blocks P -/
def SynV (w : World) (P : Nat → Prop) : Syn → Value → Prop
  | ⟨op, n, s, names, l⟩, v => s.size ≤ maxLen ∧ ∃ nv a c, v = .agg #[.int .i64 op, .int .i64 n, .string s, nv, .slice a l.length c] ∧ StrSl w P nv names ∧
      l.length ≤ c ∧ c ≤ maxLen ∧ (a = none → c = 0) ∧ (l = [] ∨ ∃ b off, a = some ⟨b, off, none⟩ ∧ P b ∧ KidsAt w P l b off)
def KidsAt (w : World) (P : Nat → Prop) : List Syn → Nat → Nat → Prop
  | [], _, _ => True
  | t :: r, b, off => (∃ v, NodeAt w b off v ∧ SynV w P t v) ∧ KidsAt w P r b (off + 5)
end
/-- a slice of trees -/
def SynSl (w : World) (P : Nat → Prop) (v : Value) (l : List Syn) : Prop :=
  ∃ a c, v = .slice a l.length c ∧ l.length ≤ c ∧ c ≤ maxLen ∧ (a = none → c = 0) ∧ (l = [] ∨ ∃ b off, a = some ⟨b, off, none⟩ ∧ P b ∧ KidsAt w P l b off)
theorem synV_iff (w : World) (P : Nat → Prop) (t : Syn) (v : Value) : SynV w P t v ↔ t.s.size ≤ maxLen ∧ ∃ nv lv, v = .agg #[.int .i64 t.op, .int .i64 t.n, .string t.s, nv, lv] ∧ StrSl w P nv t.names ∧ SynSl w P lv t.l := by
  obtain ⟨op, n, s, names, l⟩ := t
  rw [SynV]
  constructor
  · rintro ⟨h0, nv, a, c, rfl, h1, h2, h3, h4, h5⟩
    exact ⟨h0, nv, _, rfl, h1, a, c, rfl, h2, h3, h4, h5⟩
  · rintro ⟨h0, nv, lv, rfl, h1, a, c, rfl, h2, h3, h4, h5⟩
    exact ⟨h0, nv, a, c, rfl, h1, h2, h3, h4, h5⟩
theorem kidsAt_iff (w : World) (P : Nat → Prop) (l : List Syn) : ∀ b off, KidsAt w P l b off ↔ ∀ j (h : j < l.length), ∃ v, NodeAt w b (off + j * 5) v ∧ SynV w P l[j] v := by
  induction l with
  | nil => intro b off; rw [KidsAt]; simp
  | cons t r ih =>
    intro b off
    rw [KidsAt, ih]
    constructor
    · rintro ⟨h0, h1⟩ j hj
      cases j with
      | zero => simpa using h0
      | succ j =>
        have := h1 j (by simpa using hj)
        rw [show off + 5 + j * 5 = off + (j + 1) * 5 from by omega] at this
        simpa using this
    · intro h
      refine ⟨by have := h 0 (Nat.zero_lt_succ _); rw [Nat.zero_mul, Nat.add_zero] at this; exact this, fun j hj => ?_⟩
      have := h (j + 1) (by simpa using hj)
      rw [show off + (j + 1) * 5 = off + 5 + j * 5 from by omega] at this
      simpa using this
/-- the blocks P are the same in the two worlds -/
def Same (P : Nat → Prop) (w w' : World) : Prop := ∀ b, P b → w'.heap[b]? = w.heap[b]?
theorem Same.refl (P : Nat → Prop) (w : World) : Same P w w := fun _ _ => rfl
theorem Same.trans {P : Nat → Prop} {a b c : World} (h : Same P a b) (k : Same P b c) : Same P a c := fun i hi => (k i hi).trans (h i hi)
theorem Same.mono {P Q : Nat → Prop} {w w' : World} (h : Same P w w') (hq : ∀ b, Q b → P b) : Same Q w w' := fun i hi => h i (hq i hi)
theorem Same.cell {P : Nat → Prop} {w w' : World} (h : Same P w w') {b o : Nat} (hb : P b) : w'.cell? ⟨b, o, none⟩ = w.cell? ⟨b, o, none⟩ := by
  have := h b hb
  simp only [World.cell?, this]
theorem Same.of_below {P : Nat → Prop} {B : Nat} {w w' : World} (h : Below B w w') (hP : ∀ b, P b → b < B) : Same P w w' := fun i hi => h.block i (hP i hi)
theorem StrsIn.keep {w w' : World} {P : Nat → Prop} {b off : Nat} {zs : List ByteArray} (h : StrsIn w b off zs) (hs : Same P w w') (hb : P b) : StrsIn w' b off zs := fun j hj => by
  rw [hs.cell hb]; exact h j hj
theorem StrSl.keep {w w' : World} {P : Nat → Prop} {v : Value} {zs : List ByteArray} (h : StrSl w P v zs) (hs : Same P w w') : StrSl w' P v zs := by
  obtain ⟨a, c, h1, h2, h3, h4, h5, h6⟩ := h
  refine ⟨a, c, h1, h2, h3, h4, h5, ?_⟩
  rcases h6 with h6 | ⟨b, off, h6, h7, h8⟩
  · exact .inl h6
  · exact .inr ⟨b, off, h6, h7, h8.keep hs h7⟩
theorem StrSl.mono {w : World} {P Q : Nat → Prop} {v : Value} {zs : List ByteArray} (h : StrSl w P v zs) (hq : ∀ b, P b → Q b) : StrSl w Q v zs := by
  obtain ⟨a, c, h1, h2, h3, h4, h5, h6⟩ := h
  refine ⟨a, c, h1, h2, h3, h4, h5, ?_⟩
  rcases h6 with h6 | ⟨b, off, h6, h7, h8⟩
  · exact .inl h6
  · exact .inr ⟨b, off, h6, hq b h7, h8⟩
theorem NodeAt.keep {w w' : World} {P : Nat → Prop} {b o : Nat} {v : Value} (h : NodeAt w b o v) (hs : Same P w w') (hb : P b) : NodeAt w' b o v := by
  obtain ⟨x0, x1, x2, x3, x4, rfl, h0, h1, h2, h3, h4⟩ := h
  exact ⟨x0, x1, x2, x3, x4, rfl, (hs.cell hb).trans h0, (hs.cell hb).trans h1, (hs.cell hb).trans h2, (hs.cell hb).trans h3, (hs.cell hb).trans h4⟩
theorem SynV.keep {w w' : World} {P : Nat → Prop} (hs : Same P w w') : ∀ {t : Syn} {v : Value}, SynV w P t v → SynV w' P t v := by
  intro t
  induction t using Syn.ind with
  | h t ih =>
    intro v h
    rw [synV_iff] at h ⊢
    obtain ⟨h0, nv, lv, h1, h2, a, c, h3, h4, h5, h6, h7⟩ := h
    refine ⟨h0, nv, lv, h1, h2.keep hs, a, c, h3, h4, h5, h6, ?_⟩
    rcases h7 with h7 | ⟨b, off, h7, h8, h9⟩
    · exact .inl h7
    · refine .inr ⟨b, off, h7, h8, ?_⟩
      rw [kidsAt_iff] at h9 ⊢
      intro j hj
      obtain ⟨x, hx, hv⟩ := h9 j hj
      exact ⟨x, hx.keep hs h8, ih _ (List.getElem_mem hj) hv⟩
theorem SynV.mono {w : World} {P Q : Nat → Prop} (hq : ∀ b, P b → Q b) : ∀ {t : Syn} {v : Value}, SynV w P t v → SynV w Q t v := by
  intro t
  induction t using Syn.ind with
  | h t ih =>
    intro v h
    rw [synV_iff] at h ⊢
    obtain ⟨h0, nv, lv, h1, h2, a, c, h3, h4, h5, h6, h7⟩ := h
    refine ⟨h0, nv, lv, h1, h2.mono hq, a, c, h3, h4, h5, h6, ?_⟩
    rcases h7 with h7 | ⟨b, off, h7, h8, h9⟩
    · exact .inl h7
    · refine .inr ⟨b, off, h7, hq b h8, ?_⟩
      rw [kidsAt_iff] at h9 ⊢
      intro j hj
      obtain ⟨x, hx, hv⟩ := h9 j hj
      exact ⟨x, hx, ih _ (List.getElem_mem hj) hv⟩
theorem KidsAt.keep {w w' : World} {P : Nat → Prop} (hs : Same P w w') {l : List Syn} {b off : Nat} (hb : P b) (h : KidsAt w P l b off) : KidsAt w' P l b off := by
  rw [kidsAt_iff] at h ⊢
  intro j hj
  obtain ⟨x, hx, hv⟩ := h j hj
  exact ⟨x, hx.keep hs hb, hv.keep hs⟩
theorem SynSl.keep {w w' : World} {P : Nat → Prop} (hs : Same P w w') {v : Value} {l : List Syn} (h : SynSl w P v l) : SynSl w' P v l := by
  obtain ⟨a, c, h3, h4, h5, h6, h7⟩ := h
  refine ⟨a, c, h3, h4, h5, h6, ?_⟩
  rcases h7 with h7 | ⟨b, off, h7, h8, h9⟩
  · exact .inl h7
  · exact .inr ⟨b, off, h7, h8, h9.keep hs h8⟩
theorem SynSl.mono {w : World} {P Q : Nat → Prop} (hq : ∀ b, P b → Q b) {v : Value} {l : List Syn} (h : SynSl w P v l) : SynSl w Q v l := by
  obtain ⟨a, c, h3, h4, h5, h6, h7⟩ := h
  refine ⟨a, c, h3, h4, h5, h6, ?_⟩
  rcases h7 with h7 | ⟨b, off, h7, h8, h9⟩
  · exact .inl h7
  · refine .inr ⟨b, off, h7, hq b h8, ?_⟩
    rw [kidsAt_iff] at h9 ⊢
    intro j hj
    obtain ⟨x, hx, hv⟩ := h9 j hj
    exact ⟨x, hx, hv.mono hq⟩
/-- the empty tree -/
theorem synV_none (w : World) (P : Nat → Prop) : SynV w P Pl.none0 (.agg #[.int .i64 0, .int .i64 0, .string ByteArray.empty, .slice none 0 0, .slice none 0 0]) := by
  rw [synV_iff]
  exact ⟨Nat.zero_le _, _, _, rfl, ⟨none, 0, rfl, Nat.le_refl _, Nat.zero_le _, fun _ => rfl, (fun z hz => by simp [Pl.none0] at hz), .inl rfl⟩, none, 0, rfl, Nat.le_refl _, Nat.zero_le _, fun _ => rfl, .inl rfl⟩

theorem below_same {W W' : World} (hb : Below W.heap.size W W') (p : MemPlace) (h : p.block < W.heap.size) : W.sameAt W' p := by
  cases p with
  | cell b o => exact hb.cell (p := ⟨b, o, none⟩) h
  | map b => exact hb.block b h
theorem cellsSyn : Try.prog.cellsOf 25 = 5 := by kernel_rfl
theorem cellsString : Try.prog.cellsOf 9 = 1 := by kernel_rfl
theorem cellsInt : Try.prog.cellsOf 3 = 1 := by kernel_rfl
theorem cellsStrs : Try.prog.cellsOf 22 = 1 := by kernel_rfl
theorem cellsSyns : Try.prog.cellsOf 23 = 1 := by kernel_rfl
section
variable {H : Type} {enc : TypeId × Value → H} {W : World}
theorem trod_struct5 {P : Program} {w : World} {base : Nat} {spare : Nat → Bool} {held : Bool} {t : TypeId} {f0 f1 f2 f3 f4 : Field} {fuel : Nat} {cs : List Value} {x : DataW H × List MemPlace} (ht : P.underlying t = some (.struct #[f0, f1, f2, f3, f4])) (h : DataW.trod enc P w base spare held fuel t cs = some x) :
    ∃ y0 y1 y2 y3 y4 n, fuel = n + 1 ∧ cs.length = P.cellsOf t ∧ DataW.trod enc P w base spare held n f0.type ((cs.drop f0.offset).take (P.cellsOf f0.type)) = some y0 ∧ DataW.trod enc P w base spare held n f1.type ((cs.drop f1.offset).take (P.cellsOf f1.type)) = some y1 ∧ DataW.trod enc P w base spare held n f2.type ((cs.drop f2.offset).take (P.cellsOf f2.type)) = some y2 ∧ DataW.trod enc P w base spare held n f3.type ((cs.drop f3.offset).take (P.cellsOf f3.type)) = some y3 ∧ DataW.trod enc P w base spare held n f4.type ((cs.drop f4.offset).take (P.cellsOf f4.type)) = some y4 := by
  obtain ⟨xs, n, hn, _, hl, hlen, hf⟩ := DataW.trod_struct ht h
  match xs, hlen with
  | [y0, y1, y2, y3, y4], _ => exact ⟨y0, y1, y2, y3, y4, n, hn, hl, hf 0 f0 rfl, hf 1 f1 rfl, hf 2 f2 rfl, hf 3 f3 rfl, hf 4 f4 rfl⟩
theorem lt_of_cell {W : World} {b o : Nat} {s} {v : Value} (h : W.cell? ⟨b, o, s⟩ = some v) : b < W.heap.size := World.block_lt_of_cell? _ _ h
theorem trod_strs {spare : Nat → Bool} {held : Bool} {n : Nat} {v : Value} {x : DataW H × List MemPlace} (h : DataW.trod enc Try.prog W 0 spare held n 22 [v] = some x) : ∃ zs, StrSl W (· < W.heap.size) v zs := by
  rcases DataW.trod_slice Try.underlying22 h with ⟨h1, _⟩ | ⟨a, len, cap, elems, rest, m, _, h1, _, _, hl, hm, hlen, hel, _⟩
  · injection h1 with h1 _
    exact ⟨[], none, 0, h1, Nat.le_refl _, Nat.zero_le _, fun _ => rfl, (fun z hz => by cases hz), .inl rfl⟩
  · injection h1 with h1 _
    subst h1
    obtain ⟨b, off, spot⟩ := a
    have each : ∀ i, i < len → ∃ z : ByteArray, W.cell? ((⟨b, off, spot⟩ : Addr).add i) = some (.string z) ∧ z.size ≤ maxLen := by
      intro i hi
      have g := hel i hi
      rw [cellsString] at g
      rw [List.getElem?_eq_getElem (by omega), Option.bind_eq_some_iff] at g
      obtain ⟨cs, g1, g2⟩ := g
      obtain ⟨_, hlen', hcell⟩ := World.cells?_some g1
      obtain ⟨z, e0, _, hz⟩ := DataW.trod_string Try.underlying9 g2
      subst e0
      have := hcell 0 (by omega)
      refine ⟨z, ?_, hz⟩
      simpa [Deep.add_add] using this
    obtain ⟨Z, hZ⟩ := choose_lt each
    rcases Nat.eq_zero_or_pos len with h0 | hpos
    · subst h0
      exact ⟨[], _, cap, rfl, by simp, hm, (fun h => by cases h), (fun z hz => by cases hz), .inl rfl⟩
    · have hspot : spot = none := by
        have := (hZ 0 hpos).1
        simpa [Addr.add] using World.cell?_spot this
      subst hspot
      refine ⟨(List.range len).map Z, _, cap, by simp, by simpa using hl, hm, (fun h => by cases h), fun z hz => ?_, .inr ⟨b, off, rfl, lt_of_cell (hZ 0 hpos).1, fun j hj => ?_⟩⟩
      · rw [List.mem_map] at hz
        obtain ⟨i, hi, rfl⟩ := hz
        exact (hZ i (by simpa using hi)).2
      · have hj' : j < len := by simpa using hj
        have := (hZ j hj').1
        rw [add_plain] at this
        rw [List.getElem_map, List.getElem_range]
        exact this
set_option maxRecDepth 100000 in
theorem trod_syn {spare : Nat → Bool} {held : Bool} : ∀ (n : Nat) (cs : List Value) (x : DataW H × List MemPlace), DataW.trod enc Try.prog W 0 spare held n 25 cs = some x → ∃ t, SynV W (· < W.heap.size) t (.agg cs.toArray) := by
  intro n
  induction n using Nat.strongRecOn with
  | _ n ih =>
    intro cs x h
    obtain ⟨y0, y1, y2, y3, y4, m, hm, hcs, k0, k1, k2, k3, k4⟩ := trod_struct5 Try.underlying25 h
    rw [cellsSyn] at hcs
    match cs, hcs with
    | [v0, v1, v2, v3, v4], _ =>
      simp only [cellsInt, cellsString, cellsStrs, cellsSyns, List.drop_succ_cons, List.drop_zero, List.take_succ_cons, List.take_zero] at k0 k1 k2 k3 k4
      obtain ⟨op, e0, _, _⟩ := DataW.trod_int Try.underlying3 k0
      obtain ⟨nn, e1, _, _⟩ := DataW.trod_int Try.underlying3 k1
      obtain ⟨s, e2, _, hs⟩ := DataW.trod_string Try.underlying9 k2
      obtain ⟨names, hn⟩ := trod_strs k3
      injection e0 with e0 _
      injection e1 with e1 _
      injection e2 with e2 _
      subst e0 e1 e2
      have hl : ∃ l, SynSl W (· < W.heap.size) v4 l := by
        rcases DataW.trod_slice Try.underlying23 k4 with ⟨h1, _⟩ | ⟨a, len, cap, elems, rest, q, hq, h1, _, _, hl, hmx, hlen, hel, _⟩
        · injection h1 with h1 _
          exact ⟨[], none, 0, h1, Nat.le_refl _, Nat.zero_le _, fun _ => rfl, .inl rfl⟩
        · injection h1 with h1 _
          subst h1
          obtain ⟨b, off, spot⟩ := a
          have each : ∀ i, i < len → ∃ t : Syn, ∃ c0 c1 c2 c3 c4, SynV W (· < W.heap.size) t (.agg #[c0, c1, c2, c3, c4]) ∧ W.cell? ((⟨b, off, spot⟩ : Addr).add (i * 5)) = some c0 ∧ W.cell? ((⟨b, off, spot⟩ : Addr).add (i * 5 + 1)) = some c1 ∧ W.cell? ((⟨b, off, spot⟩ : Addr).add (i * 5 + 2)) = some c2 ∧ W.cell? ((⟨b, off, spot⟩ : Addr).add (i * 5 + 3)) = some c3 ∧ W.cell? ((⟨b, off, spot⟩ : Addr).add (i * 5 + 4)) = some c4 := by
            intro i hi
            have g := hel i hi
            rw [cellsSyn] at g
            rw [List.getElem?_eq_getElem (by omega), Option.bind_eq_some_iff] at g
            obtain ⟨cs', g1, g2⟩ := g
            obtain ⟨_, hlen', hcell⟩ := World.cells?_some g1
            obtain ⟨t, ht⟩ := ih q (by omega) cs' _ g2
            match cs', hlen' with
            | [c0, c1, c2, c3, c4], _ =>
              have f0 := hcell 0 (by omega)
              have f1 := hcell 1 (by omega)
              have f2 := hcell 2 (by omega)
              have f3 := hcell 3 (by omega)
              have f4 := hcell 4 (by omega)
              rw [Deep.add_add] at f0 f1 f2 f3 f4
              exact ⟨t, c0, c1, c2, c3, c4, by simpa using ht, by simpa using f0, by simpa using f1, by simpa using f2, by simpa using f3, by simpa using f4⟩
          rcases Nat.eq_zero_or_pos len with h0 | hpos
          · subst h0
            exact ⟨[], _, cap, rfl, by simp, hmx, (fun h => by cases h), .inl rfl⟩
          · have hspot : spot = none := by
              obtain ⟨_, _, _, _, _, _, _, h, _⟩ := each 0 hpos
              simpa [Addr.add] using World.cell?_spot h
            subst hspot
            have hb : b < W.heap.size := by
              obtain ⟨_, _, _, _, _, _, _, h, _⟩ := each 0 hpos
              exact lt_of_cell h
            obtain ⟨T, hT⟩ := choose_lt each
            refine ⟨(List.range len).map T, _, cap, by simp, by simpa using hl, hmx, (fun h => by cases h), .inr ⟨b, off, rfl, hb, ?_⟩⟩
            rw [kidsAt_iff]
            intro j hj
            have hj' : j < len := by simpa using hj
            obtain ⟨c0, c1, c2, c3, c4, g, g0, g1, g2, g3, g4⟩ := hT j hj'
            rw [add_plain] at g0 g1 g2 g3 g4
            rw [List.getElem_map, List.getElem_range]
            exact ⟨_, ⟨c0, c1, c2, c3, c4, rfl, g0, g1, g2, g3, g4⟩, g⟩
      obtain ⟨l, hl⟩ := hl
      refine ⟨⟨op, nn, s, names, l⟩, ?_⟩
      rw [synV_iff]
      exact ⟨hs, v3, v4, rfl, hn, hl⟩
/-- an argument that is a tree -/
theorem open_syn {base : Nat} {v : Value} {d : DataW H} {ps : List MemPlace} (hval : Value.okWide Try.prog W .any base 25 v) (h : DataW.Trod enc Try.prog W 0 (fun _ => true) true 25 v d ps) : ∃ t, SynV W (· < W.heap.size) t v := by
  obtain ⟨cs, rfl, _⟩ := okWide_struct Try.underlying25 hval
  obtain ⟨fuel, hf⟩ := h
  obtain ⟨t, ht⟩ := trod_syn fuel _ _ hf
  exact ⟨t, by simpa [Value.cells] using ht⟩
end
end Go.Proofs.Ytkhpihacjhhklaa
