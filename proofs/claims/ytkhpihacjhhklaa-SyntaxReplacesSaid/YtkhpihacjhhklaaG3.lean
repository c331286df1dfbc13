/-
  Walks and plain mathematics, several texts in one (Sm Sn So Sp Sq).
-/
import Derived.Test.YtkhpihacjhhklaaProg
import Derived.Test.YtkhpihacjhhklaaG1
import Derived.WalkKit
import Derived.BigQuiet
import Derived.Lib.Hide
import Derived.Deep.Slices
import Derived.Deep.Strs
import Derived.WideKeyArgs
import Derived.ChangeOld
import Derived.ProofKit
import Derived.Deep.LoopGhost
import Derived.WalkSpells
import Derived.WalkLawsBesides
import Derived.Laws.EntriesVeiled
/-
  Walks of layer 3: trees in memory.
-/
namespace Go.Proofs.Ytkhpihacjhhklaa
open Go Go.RowKit Go.ChangeShapes Go.WideShapes Go.Deep
open Pl (Syn)

/-- the strings of a slice, at a place -/
def StrsIn (w : World) (b off : Nat) (zs : List ByteArray) : Prop := ∀ j (h : j < zs.length), w.cell? ⟨b, off + j, none⟩ = some (.string zs[j])
/-- a slice of strings, in the blocks P -/
def StrSl (w : World) (P : Nat → Prop) (v : Value) (zs : List ByteArray) : Prop :=
  ∃ a c, v = .slice a zs.length c ∧ zs.length ≤ c ∧ c ≤ maxLen ∧ (a = none → c = 0) ∧ (∀ z ∈ zs, z.size ≤ maxLen) ∧ (zs = [] ∨ ∃ b off, a = some ⟨b, off, none⟩ ∧ P b ∧ StrsIn w b off zs)
/-- the five cells of a node -/
def NodeAt (w : World) (b o : Nat) (v : Value) : Prop :=
  ∃ x0 x1 x2 x3 x4, v = .agg #[x0, x1, x2, x3, x4] ∧ w.cell? ⟨b, o, none⟩ = some x0 ∧ w.cell? ⟨b, o + 1, none⟩ = some x1 ∧ w.cell? ⟨b, o + 2, none⟩ = some x2 ∧ w.cell? ⟨b, o + 3, none⟩ = some x3 ∧ w.cell? ⟨b, o + 4, none⟩ = some x4
mutual
/-- a value is a tree, in the blocks P -/
def SynV (w : World) (P : Nat → Prop) : Syn → Value → Prop
  | ⟨op, n, s, names, l⟩, v => s.size ≤ maxLen ∧ ∃ nv a c, v = .agg #[.int .i64 op, .int .i64 n, .string s, nv, .slice a l.length c] ∧ StrSl w P nv names ∧
      l.length ≤ c ∧ c ≤ maxLen ∧ (a = none → c = 0) ∧ (l = [] ∨ ∃ b off, a = some ⟨b, off, none⟩ ∧ P b ∧ KidsAt w P l b off)
def KidsAt (w : World) (P : Nat → Prop) : List Syn → Nat → Nat → Prop
  | [], _, _ => True
  | t :: r, b, off => (∃ v, NodeAt w b off v ∧ SynV w P t v) ∧ KidsAt w P r b (off + 5)
end
/-- a slice of trees -/
def SynSl (w : World) (P : Nat → Prop) (v : Value) (l : List Syn) : Prop :=
  ∃ a c, v = .slice a l.length c ∧ l.length ≤ c ∧ c ≤ maxLen ∧ (a = none → c = 0) ∧ (l = [] ∨ ∃ b off, a = some ⟨b, off, none⟩ ∧ P b ∧ KidsAt w P l b off)
theorem synV_iff (w : World) (P : Nat → Prop) (t : Syn) (v : Value) : SynV w P t v ↔ t.s.size ≤ maxLen ∧ ∃ nv lv, v = .agg #[.int .i64 t.op, .int .i64 t.n, .string t.s, nv, lv] ∧ StrSl w P nv t.names ∧ SynSl w P lv t.l := by
  obtain ⟨op, n, s, names, l⟩ := t
  rw [SynV]
  constructor
  · rintro ⟨h0, nv, a, c, rfl, h1, h2, h3, h4, h5⟩
    exact ⟨h0, nv, _, rfl, h1, a, c, rfl, h2, h3, h4, h5⟩
  · rintro ⟨h0, nv, lv, rfl, h1, a, c, rfl, h2, h3, h4, h5⟩
    exact ⟨h0, nv, a, c, rfl, h1, h2, h3, h4, h5⟩
theorem kidsAt_iff (w : World) (P : Nat → Prop) (l : List Syn) : ∀ b off, KidsAt w P l b off ↔ ∀ j (h : j < l.length), ∃ v, NodeAt w b (off + j * 5) v ∧ SynV w P l[j] v := by
  induction l with
  | nil => intro b off; rw [KidsAt]; simp
  | cons t r ih =>
    intro b off
    rw [KidsAt, ih]
    constructor
    · rintro ⟨h0, h1⟩ j hj
      cases j with
      | zero => simpa using h0
      | succ j =>
        have := h1 j (by simpa using hj)
        rw [show off + 5 + j * 5 = off + (j + 1) * 5 from by omega] at this
        simpa using this
    · intro h
      refine ⟨by have := h 0 (Nat.zero_lt_succ _); rw [Nat.zero_mul, Nat.add_zero] at this; exact this, fun j hj => ?_⟩
      have := h (j + 1) (by simpa using hj)
      rw [show off + (j + 1) * 5 = off + 5 + j * 5 from by omega] at this
      simpa using this
/-- the blocks P are the same in the two worlds -/
def Same (P : Nat → Prop) (w w' : World) : Prop := ∀ b, P b → w'.heap[b]? = w.heap[b]?
theorem Same.refl (P : Nat → Prop) (w : World) : Same P w w := fun _ _ => rfl
theorem Same.trans {P : Nat → Prop} {a b c : World} (h : Same P a b) (k : Same P b c) : Same P a c := fun i hi => (k i hi).trans (h i hi)
theorem Same.mono {P Q : Nat → Prop} {w w' : World} (h : Same P w w') (hq : ∀ b, Q b → P b) : Same Q w w' := fun i hi => h i (hq i hi)
theorem Same.cell {P : Nat → Prop} {w w' : World} (h : Same P w w') {b o : Nat} (hb : P b) : w'.cell? ⟨b, o, none⟩ = w.cell? ⟨b, o, none⟩ := by
  have := h b hb
  simp only [World.cell?, this]
theorem Same.of_below {P : Nat → Prop} {B : Nat} {w w' : World} (h : Below B w w') (hP : ∀ b, P b → b < B) : Same P w w' := fun i hi => h.block i (hP i hi)
theorem StrsIn.keep {w w' : World} {P : Nat → Prop} {b off : Nat} {zs : List ByteArray} (h : StrsIn w b off zs) (hs : Same P w w') (hb : P b) : StrsIn w' b off zs := fun j hj => by
  rw [hs.cell hb]; exact h j hj
theorem StrSl.keep {w w' : World} {P : Nat → Prop} {v : Value} {zs : List ByteArray} (h : StrSl w P v zs) (hs : Same P w w') : StrSl w' P v zs := by
  obtain ⟨a, c, h1, h2, h3, h4, h5, h6⟩ := h
  refine ⟨a, c, h1, h2, h3, h4, h5, ?_⟩
  rcases h6 with h6 | ⟨b, off, h6, h7, h8⟩
  · exact .inl h6
  · exact .inr ⟨b, off, h6, h7, h8.keep hs h7⟩
theorem StrSl.mono {w : World} {P Q : Nat → Prop} {v : Value} {zs : List ByteArray} (h : StrSl w P v zs) (hq : ∀ b, P b → Q b) : StrSl w Q v zs := by
  obtain ⟨a, c, h1, h2, h3, h4, h5, h6⟩ := h
  refine ⟨a, c, h1, h2, h3, h4, h5, ?_⟩
  rcases h6 with h6 | ⟨b, off, h6, h7, h8⟩
  · exact .inl h6
  · exact .inr ⟨b, off, h6, hq b h7, h8⟩
theorem NodeAt.keep {w w' : World} {P : Nat → Prop} {b o : Nat} {v : Value} (h : NodeAt w b o v) (hs : Same P w w') (hb : P b) : NodeAt w' b o v := by
  obtain ⟨x0, x1, x2, x3, x4, rfl, h0, h1, h2, h3, h4⟩ := h
  exact ⟨x0, x1, x2, x3, x4, rfl, (hs.cell hb).trans h0, (hs.cell hb).trans h1, (hs.cell hb).trans h2, (hs.cell hb).trans h3, (hs.cell hb).trans h4⟩
theorem SynV.keep {w w' : World} {P : Nat → Prop} (hs : Same P w w') : ∀ {t : Syn} {v : Value}, SynV w P t v → SynV w' P t v := by
  intro t
  induction t using Syn.ind with
  | h t ih =>
    intro v h
    rw [synV_iff] at h ⊢
    obtain ⟨h0, nv, lv, h1, h2, a, c, h3, h4, h5, h6, h7⟩ := h
    refine ⟨h0, nv, lv, h1, h2.keep hs, a, c, h3, h4, h5, h6, ?_⟩
    rcases h7 with h7 | ⟨b, off, h7, h8, h9⟩
    · exact .inl h7
    · refine .inr ⟨b, off, h7, h8, ?_⟩
      rw [kidsAt_iff] at h9 ⊢
      intro j hj
      obtain ⟨x, hx, hv⟩ := h9 j hj
      exact ⟨x, hx.keep hs h8, ih _ (List.getElem_mem hj) hv⟩
theorem SynV.mono {w : World} {P Q : Nat → Prop} (hq : ∀ b, P b → Q b) : ∀ {t : Syn} {v : Value}, SynV w P t v → SynV w Q t v := by
  intro t
  induction t using Syn.ind with
  | h t ih =>
    intro v h
    rw [synV_iff] at h ⊢
    obtain ⟨h0, nv, lv, h1, h2, a, c, h3, h4, h5, h6, h7⟩ := h
    refine ⟨h0, nv, lv, h1, h2.mono hq, a, c, h3, h4, h5, h6, ?_⟩
    rcases h7 with h7 | ⟨b, off, h7, h8, h9⟩
    · exact .inl h7
    · refine .inr ⟨b, off, h7, hq b h8, ?_⟩
      rw [kidsAt_iff] at h9 ⊢
      intro j hj
      obtain ⟨x, hx, hv⟩ := h9 j hj
      exact ⟨x, hx, ih _ (List.getElem_mem hj) hv⟩
theorem KidsAt.keep {w w' : World} {P : Nat → Prop} (hs : Same P w w') {l : List Syn} {b off : Nat} (hb : P b) (h : KidsAt w P l b off) : KidsAt w' P l b off := by
  rw [kidsAt_iff] at h ⊢
  intro j hj
  obtain ⟨x, hx, hv⟩ := h j hj
  exact ⟨x, hx.keep hs hb, hv.keep hs⟩
theorem SynSl.keep {w w' : World} {P : Nat → Prop} (hs : Same P w w') {v : Value} {l : List Syn} (h : SynSl w P v l) : SynSl w' P v l := by
  obtain ⟨a, c, h3, h4, h5, h6, h7⟩ := h
  refine ⟨a, c, h3, h4, h5, h6, ?_⟩
  rcases h7 with h7 | ⟨b, off, h7, h8, h9⟩
  · exact .inl h7
  · exact .inr ⟨b, off, h7, h8, h9.keep hs h8⟩
theorem SynSl.mono {w : World} {P Q : Nat → Prop} (hq : ∀ b, P b → Q b) {v : Value} {l : List Syn} (h : SynSl w P v l) : SynSl w Q v l := by
  obtain ⟨a, c, h3, h4, h5, h6, h7⟩ := h
  refine ⟨a, c, h3, h4, h5, h6, ?_⟩
  rcases h7 with h7 | ⟨b, off, h7, h8, h9⟩
  · exact .inl h7
  · refine .inr ⟨b, off, h7, hq b h8, ?_⟩
    rw [kidsAt_iff] at h9 ⊢
    intro j hj
    obtain ⟨x, hx, hv⟩ := h9 j hj
    exact ⟨x, hx, hv.mono hq⟩
/-- the empty tree -/
theorem synV_none (w : World) (P : Nat → Prop) : SynV w P Pl.none0 (.agg #[.int .i64 0, .int .i64 0, .string ByteArray.empty, .slice none 0 0, .slice none 0 0]) := by
  rw [synV_iff]
  exact ⟨Nat.zero_le _, _, _, rfl, ⟨none, 0, rfl, Nat.le_refl _, Nat.zero_le _, fun _ => rfl, (fun z hz => by simp [Pl.none0] at hz), .inl rfl⟩, none, 0, rfl, Nat.le_refl _, Nat.zero_le _, fun _ => rfl, .inl rfl⟩

theorem below_same {W W' : World} (hb : Below W.heap.size W W') (p : MemPlace) (h : p.block < W.heap.size) : W.sameAt W' p := by
  cases p with
  | cell b o => exact hb.cell (p := ⟨b, o, none⟩) h
  | map b => exact hb.block b h
theorem cellsSyn : Try.prog.cellsOf 25 = 5 := by kernel_rfl
theorem cellsString : Try.prog.cellsOf 9 = 1 := by kernel_rfl
theorem cellsInt : Try.prog.cellsOf 3 = 1 := by kernel_rfl
theorem cellsStrs : Try.prog.cellsOf 22 = 1 := by kernel_rfl
theorem cellsSyns : Try.prog.cellsOf 23 = 1 := by kernel_rfl
section
variable {H : Type} {enc : TypeId × Value → H} {W : World}
theorem trod_struct5 {P : Program} {w : World} {base : Nat} {spare : Nat → Bool} {held : Bool} {t : TypeId} {f0 f1 f2 f3 f4 : Field} {fuel : Nat} {cs : List Value} {x : DataW H × List MemPlace} (ht : P.underlying t = some (.struct #[f0, f1, f2, f3, f4])) (h : DataW.trod enc P w base spare held fuel t cs = some x) :
    ∃ y0 y1 y2 y3 y4 n, fuel = n + 1 ∧ cs.length = P.cellsOf t ∧ DataW.trod enc P w base spare held n f0.type ((cs.drop f0.offset).take (P.cellsOf f0.type)) = some y0 ∧ DataW.trod enc P w base spare held n f1.type ((cs.drop f1.offset).take (P.cellsOf f1.type)) = some y1 ∧ DataW.trod enc P w base spare held n f2.type ((cs.drop f2.offset).take (P.cellsOf f2.type)) = some y2 ∧ DataW.trod enc P w base spare held n f3.type ((cs.drop f3.offset).take (P.cellsOf f3.type)) = some y3 ∧ DataW.trod enc P w base spare held n f4.type ((cs.drop f4.offset).take (P.cellsOf f4.type)) = some y4 := by
  obtain ⟨xs, n, hn, _, hl, hlen, hf⟩ := DataW.trod_struct ht h
  match xs, hlen with
  | [y0, y1, y2, y3, y4], _ => exact ⟨y0, y1, y2, y3, y4, n, hn, hl, hf 0 f0 rfl, hf 1 f1 rfl, hf 2 f2 rfl, hf 3 f3 rfl, hf 4 f4 rfl⟩
theorem lt_of_cell {W : World} {b o : Nat} {s} {v : Value} (h : W.cell? ⟨b, o, s⟩ = some v) : b < W.heap.size := World.block_lt_of_cell? _ _ h
theorem trod_strs {spare : Nat → Bool} {held : Bool} {n : Nat} {v : Value} {x : DataW H × List MemPlace} (h : DataW.trod enc Try.prog W 0 spare held n 22 [v] = some x) : ∃ zs, StrSl W (· < W.heap.size) v zs := by
  rcases DataW.trod_slice Try.underlying22 h with ⟨h1, _⟩ | ⟨a, len, cap, elems, rest, m, _, h1, _, _, hl, hm, hlen, hel, _⟩
  · injection h1 with h1 _
    exact ⟨[], none, 0, h1, Nat.le_refl _, Nat.zero_le _, fun _ => rfl, (fun z hz => by cases hz), .inl rfl⟩
  · injection h1 with h1 _
    subst h1
    obtain ⟨b, off, spot⟩ := a
    have each : ∀ i, i < len → ∃ z : ByteArray, W.cell? ((⟨b, off, spot⟩ : Addr).add i) = some (.string z) ∧ z.size ≤ maxLen := by
      intro i hi
      have g := hel i hi
      rw [cellsString] at g
      rw [List.getElem?_eq_getElem (by omega), Option.bind_eq_some_iff] at g
      obtain ⟨cs, g1, g2⟩ := g
      obtain ⟨_, hlen', hcell⟩ := World.cells?_some g1
      obtain ⟨z, e0, _, hz⟩ := DataW.trod_string Try.underlying9 g2
      subst e0
      have := hcell 0 (by omega)
      refine ⟨z, ?_, hz⟩
      simpa [Deep.add_add] using this
    obtain ⟨Z, hZ⟩ := choose_lt each
    rcases Nat.eq_zero_or_pos len with h0 | hpos
    · subst h0
      exact ⟨[], _, cap, rfl, by simp, hm, (fun h => by cases h), (fun z hz => by cases hz), .inl rfl⟩
    · have hspot : spot = none := by
        have := (hZ 0 hpos).1
        simpa [Addr.add] using World.cell?_spot this
      subst hspot
      refine ⟨(List.range len).map Z, _, cap, by simp, by simpa using hl, hm, (fun h => by cases h), fun z hz => ?_, .inr ⟨b, off, rfl, lt_of_cell (hZ 0 hpos).1, fun j hj => ?_⟩⟩
      · rw [List.mem_map] at hz
        obtain ⟨i, hi, rfl⟩ := hz
        exact (hZ i (by simpa using hi)).2
      · have hj' : j < len := by simpa using hj
        have := (hZ j hj').1
        rw [add_plain] at this
        rw [List.getElem_map, List.getElem_range]
        exact this
set_option maxRecDepth 100000 in
theorem trod_syn {spare : Nat → Bool} {held : Bool} : ∀ (n : Nat) (cs : List Value) (x : DataW H × List MemPlace), DataW.trod enc Try.prog W 0 spare held n 25 cs = some x → ∃ t, SynV W (· < W.heap.size) t (.agg cs.toArray) := by
  intro n
  induction n using Nat.strongRecOn with
  | _ n ih =>
    intro cs x h
    obtain ⟨y0, y1, y2, y3, y4, m, hm, hcs, k0, k1, k2, k3, k4⟩ := trod_struct5 Try.underlying25 h
    rw [cellsSyn] at hcs
    match cs, hcs with
    | [v0, v1, v2, v3, v4], _ =>
      simp only [cellsInt, cellsString, cellsStrs, cellsSyns, List.drop_succ_cons, List.drop_zero, List.take_succ_cons, List.take_zero] at k0 k1 k2 k3 k4
      obtain ⟨op, e0, _, _⟩ := DataW.trod_int Try.underlying3 k0
      obtain ⟨nn, e1, _, _⟩ := DataW.trod_int Try.underlying3 k1
      obtain ⟨s, e2, _, hs⟩ := DataW.trod_string Try.underlying9 k2
      obtain ⟨names, hn⟩ := trod_strs k3
      injection e0 with e0 _
      injection e1 with e1 _
      injection e2 with e2 _
      subst e0 e1 e2
      have hl : ∃ l, SynSl W (· < W.heap.size) v4 l := by
        rcases DataW.trod_slice Try.underlying23 k4 with ⟨h1, _⟩ | ⟨a, len, cap, elems, rest, q, hq, h1, _, _, hl, hmx, hlen, hel, _⟩
        · injection h1 with h1 _
          exact ⟨[], none, 0, h1, Nat.le_refl _, Nat.zero_le _, fun _ => rfl, .inl rfl⟩
        · injection h1 with h1 _
          subst h1
          obtain ⟨b, off, spot⟩ := a
          have each : ∀ i, i < len → ∃ t : Syn, ∃ c0 c1 c2 c3 c4, SynV W (· < W.heap.size) t (.agg #[c0, c1, c2, c3, c4]) ∧ W.cell? ((⟨b, off, spot⟩ : Addr).add (i * 5)) = some c0 ∧ W.cell? ((⟨b, off, spot⟩ : Addr).add (i * 5 + 1)) = some c1 ∧ W.cell? ((⟨b, off, spot⟩ : Addr).add (i * 5 + 2)) = some c2 ∧ W.cell? ((⟨b, off, spot⟩ : Addr).add (i * 5 + 3)) = some c3 ∧ W.cell? ((⟨b, off, spot⟩ : Addr).add (i * 5 + 4)) = some c4 := by
            intro i hi
            have g := hel i hi
            rw [cellsSyn] at g
            rw [List.getElem?_eq_getElem (by omega), Option.bind_eq_some_iff] at g
            obtain ⟨cs', g1, g2⟩ := g
            obtain ⟨_, hlen', hcell⟩ := World.cells?_some g1
            obtain ⟨t, ht⟩ := ih q (by omega) cs' _ g2
            match cs', hlen' with
            | [c0, c1, c2, c3, c4], _ =>
              have f0 := hcell 0 (by omega)
              have f1 := hcell 1 (by omega)
              have f2 := hcell 2 (by omega)
              have f3 := hcell 3 (by omega)
              have f4 := hcell 4 (by omega)
              rw [Deep.add_add] at f0 f1 f2 f3 f4
              exact ⟨t, c0, c1, c2, c3, c4, by simpa using ht, by simpa using f0, by simpa using f1, by simpa using f2, by simpa using f3, by simpa using f4⟩
          rcases Nat.eq_zero_or_pos len with h0 | hpos
          · subst h0
            exact ⟨[], _, cap, rfl, by simp, hmx, (fun h => by cases h), .inl rfl⟩
          · have hspot : spot = none := by
              obtain ⟨_, _, _, _, _, _, _, h, _⟩ := each 0 hpos
              simpa [Addr.add] using World.cell?_spot h
            subst hspot
            have hb : b < W.heap.size := by
              obtain ⟨_, _, _, _, _, _, _, h, _⟩ := each 0 hpos
              exact lt_of_cell h
            obtain ⟨T, hT⟩ := choose_lt each
            refine ⟨(List.range len).map T, _, cap, by simp, by simpa using hl, hmx, (fun h => by cases h), .inr ⟨b, off, rfl, hb, ?_⟩⟩
            rw [kidsAt_iff]
            intro j hj
            have hj' : j < len := by simpa using hj
            obtain ⟨c0, c1, c2, c3, c4, g, g0, g1, g2, g3, g4⟩ := hT j hj'
            rw [add_plain] at g0 g1 g2 g3 g4
            rw [List.getElem_map, List.getElem_range]
            exact ⟨_, ⟨c0, c1, c2, c3, c4, rfl, g0, g1, g2, g3, g4⟩, g⟩
      obtain ⟨l, hl⟩ := hl
      refine ⟨⟨op, nn, s, names, l⟩, ?_⟩
      rw [synV_iff]
      exact ⟨hs, v3, v4, rfl, hn, hl⟩
/-- an argument that is a tree -/
theorem open_syn {base : Nat} {v : Value} {d : DataW H} {ps : List MemPlace} (hval : Value.okWide Try.prog W .any base 25 v) (h : DataW.Trod enc Try.prog W 0 (fun _ => true) true 25 v d ps) : ∃ t, SynV W (· < W.heap.size) t v := by
  obtain ⟨cs, rfl, _⟩ := okWide_struct Try.underlying25 hval
  obtain ⟨fuel, hf⟩ := h
  obtain ⟨t, ht⟩ := trod_syn fuel _ _ hf
  exact ⟨t, by simpa [Value.cells] using ht⟩
end
end Go.Proofs.Ytkhpihacjhhklaa

/-
  Walks of layer 3: a visit of all nodes, whatever is called at each.
-/
namespace Go.Proofs.Ytkhpihacjhhklaa
open Go Go.RowKit
open Pl (Syn)

/-- A block that is known whole. -/
def Blk (w : World) (g : Nat) (t : TypeId) (cs : Array Value) : Prop := w.heap[g]? = some (.cells cs t (0, 0))
theorem Blk.cell {w : World} {g : Nat} {t : TypeId} {cs : Array Value} (h : Blk w g t cs) (j : Nat) (v : Value) (hv : cs[j]? = some v) : w.cell? ⟨g, j, none⟩ = some v := by
  have h' : w.heap[g]? = some (.cells cs t (0, 0)) := h
  simp [World.cell?, h', hv]
theorem Blk.lt {w : World} {g : Nat} {t : TypeId} {cs : Array Value} (h : Blk w g t cs) : g < w.heap.size := by
  rcases Nat.lt_or_ge g w.heap.size with hlt | hge
  · exact hlt
  · exfalso
    have h' : w.heap[g]? = some (.cells cs t (0, 0)) := h
    have hn : w.heap[g]? = none := by simp; omega
    rw [hn] at h'; cases h'
theorem blk_new (w : World) (cs : Array Value) (t : TypeId) : Blk (w.alloc (.cells cs t)) w.heap.size t cs := by
  show (w.heap.push _)[w.heap.size]? = _
  simp
theorem Blk.thaw {w : World} {g : Nat} {t : TypeId} {cs : Array Value} (h : Blk w g t cs) (j : Nat) : w.frozen? ⟨g, j, none⟩ = false := by
  have h' : w.heap[g]? = some (.cells cs t (0, 0)) := h
  simp [World.frozen?, h']
theorem Blk.set {w : World} {g : Nat} {t : TypeId} {cs : Array Value} (h : Blk w g t cs) (j : Nat) (v : Value) : Blk (w.setCell ⟨g, j, none⟩ v) g t (cs.setIfInBounds j v) := by
  have h' : w.heap[g]? = some (.cells cs t (0, 0)) := h
  simp [Blk, World.setCell, Array.getElem?_modify, h']
theorem Blk.other {w : World} {g : Nat} {t : TypeId} {cs : Array Value} (h : Blk w g t cs) (p : Addr) (v : Value) (hp : g ≠ p.block) : Blk (w.setCell p v) g t cs := (Below.heap_setCell w p v g hp).trans h
theorem Blk.alloc {w : World} {g : Nat} {t : TypeId} {cs : Array Value} (h : Blk w g t cs) (o : Obj) : Blk (w.alloc o) g t cs := (Below.heap_alloc w o g h.lt).trans h
theorem Blk.of_eq {w w' : World} {g : Nat} {t : TypeId} {cs : Array Value} (h : Blk w g t cs) (he : w'.heap[g]? = w.heap[g]?) : Blk w' g t cs := he.trans h

theorem size_alloc (w : World) (o : Obj) : (w.alloc o).heap.size = w.heap.size + 1 := by simp
theorem SynV.form {w : World} {P : Nat → Prop} {t : Syn} {v : Value} (h : SynV w P t v) : ∃ na nn nc la ln lc, v = .agg #[.int .i64 t.op, .int .i64 t.n, .string t.s, .slice na nn nc, .slice la ln lc] := by
  rw [synV_iff] at h
  obtain ⟨_, nv, lv, rfl, ⟨na, nc, rfl, _⟩, ⟨la, lc, rfl, _⟩⟩ := h
  exact ⟨na, _, nc, la, _, lc, rfl⟩
/-- Nothing has turned but what is owned, and what is new; what is owned then was owned before, or is new. -/
def Fr (own own' : Nat → Prop) (w w' : World) : Prop :=
  w'.os = w.os ∧ w'.tape = w.tape ∧ w'.output = w.output ∧ w.heap.size ≤ w'.heap.size ∧ (∀ i, i < w.heap.size → ¬ own i → w'.heap[i]? = w.heap[i]?) ∧ ∀ i, own' i → own i ∨ w.heap.size ≤ i
theorem Fr.size {o o' : Nat → Prop} {w w' : World} (h : Fr o o' w w') : w.heap.size ≤ w'.heap.size := h.2.2.2.1
theorem Fr.block {o o' : Nat → Prop} {w w' : World} (h : Fr o o' w w') {i : Nat} (hi : i < w.heap.size) (hn : ¬ o i) : w'.heap[i]? = w.heap[i]? := h.2.2.2.2.1 i hi hn
theorem Fr.owned {o o' : Nat → Prop} {w w' : World} (h : Fr o o' w w') {i : Nat} (hi : o' i) : o i ∨ w.heap.size ≤ i := h.2.2.2.2.2 i hi
theorem Fr.refl (o : Nat → Prop) (w : World) : Fr o o w w := ⟨rfl, rfl, rfl, Nat.le_refl _, fun _ _ _ => rfl, fun _ h => .inl h⟩
theorem Fr.trans {o1 o2 o3 : Nat → Prop} {a b c : World} (h : Fr o1 o2 a b) (k : Fr o2 o3 b c) : Fr o1 o3 a c := by
  obtain ⟨h1, h2, h3, h4, h5, h6⟩ := h
  obtain ⟨k1, k2, k3, k4, k5, k6⟩ := k
  refine ⟨k1.trans h1, k2.trans h2, k3.trans h3, Nat.le_trans h4 k4, fun i hi hn => ?_, fun i hi => ?_⟩
  · refine (k5 i (by omega) (fun ho => ?_)).trans (h5 i hi hn)
    rcases h6 i ho with h | h
    · exact hn h
    · omega
  · rcases k6 i hi with h | h
    · exact h6 i h
    · exact .inr (by omega)
theorem Fr.of_below {o : Nat → Prop} {w w' : World} (h : Below w.heap.size w w') : Fr o o w w' := ⟨h.os, h.tape, h.output, h.size, fun i hi _ => h.block i hi, fun _ h => .inl h⟩
theorem Fr.alloc {o o' : Nat → Prop} {a w : World} (h : Fr o o' a w) (x : Obj) : Fr o o' a (w.alloc x) := h.trans (Fr.of_below ((Below.refl _ _).alloc (Nat.le_refl _) x))
/-- what is kept, is kept -/
theorem Fr.same {o o' : Nat → Prop} {w w' : World} (h : Fr o o' w w') {P : Nat → Prop} (hP : ∀ b, P b → b < w.heap.size ∧ ¬ o b) : Same P w w' := fun i hi => h.block (hP i hi).1 (hP i hi).2
theorem Fr.still {o o' : Nat → Prop} {w w' : World} (h : Fr o o' w w') {P : Nat → Prop} (hP : ∀ b, P b → b < w.heap.size ∧ ¬ o b) : ∀ b, P b → b < w'.heap.size ∧ ¬ o' b := fun i hi => by
  obtain ⟨h1, h2⟩ := hP i hi
  refine ⟨Nat.lt_of_lt_of_le h1 h.size, fun ho => ?_⟩
  rcases h.owned ho with g | g
  · exact h2 g
  · omega

/-- a function that is called at each node: its number, the block of its variable, what it knows, what is its own, and its answer -/
structure Visitor where
  St : Type
  G : Type
  fid : FuncId
  g : Nat
  Inv : St → G → World → Prop
  own : G → Nat → Prop
  cnt : St → Nat
  next : St → Syn → Int → Int → St × Bool
namespace Visitor
variable (V : Visitor)
mutual
def run (σ : V.St) : Syn → Int → Int → V.St × Bool
  | ⟨op, n, s, names, l⟩, around, depth =>
    if (V.next σ ⟨op, n, s, names, l⟩ around depth).2 then runs (V.next σ ⟨op, n, s, names, l⟩ around depth).1 l op (depth + 1) else ((V.next σ ⟨op, n, s, names, l⟩ around depth).1, false)
def runs (σ : V.St) : List Syn → Int → Int → V.St × Bool
  | [], _, _ => (σ, true)
  | t :: r, around, depth => if (run σ t around depth).2 then runs (run σ t around depth).1 r around depth else ((run σ t around depth).1, false)
end
def fval : Value := .func (.func V.fid) #[] #[.pointer (some ⟨V.g, 0, none⟩)]
/-- its contract -/
structure Good : Prop where
  enter : ∀ (args : Array Value) (w : World), Sem.run Try.prog (callFunc V.fid args) w = .ok (.enter V.fid args) w
  calls : ∀ (σ : V.St) (γ : V.G) (w : World) (P : Nat → Prop) (t : Syn) (v : Value) (around depth : Int), V.Inv σ γ w → SynV w P t v → (∀ b, P b → b < w.heap.size ∧ ¬ V.own γ b) → t.big ≤ 1073741824 → V.cnt σ < 1073741824 → 0 ≤ depth → depth ≤ 2147483648 →
    Calls Try.prog V.fid #[v, .int .i64 around, .int .i64 depth, .pointer (some ⟨V.g, 0, none⟩)] w fun e w' => e = .returned (.bool (V.next σ t around depth).2) ∧ ∃ γ', V.Inv (V.next σ t around depth).1 γ' w' ∧ Fr (V.own γ) (V.own γ') w w'
  keep : ∀ (σ : V.St) (γ : V.G) (w w' : World), V.Inv σ γ w → Below w.heap.size w w' → V.Inv σ γ w'
  lt : ∀ (σ : V.St) (γ : V.G) (w : World) (i : Nat), V.Inv σ γ w → V.own γ i → i < w.heap.size
  cnt_le : ∀ (σ : V.St) (t : Syn) (around depth : Int), V.cnt (V.next σ t around depth).1 ≤ V.cnt σ + 1
theorem run_eq (σ : V.St) (t : Syn) (around depth : Int) : V.run σ t around depth = if (V.next σ t around depth).2 then V.runs (V.next σ t around depth).1 t.l t.op (depth + 1) else ((V.next σ t around depth).1, false) := by
  obtain ⟨op, n, s, names, l⟩ := t; rw [run]
theorem runs_nil (σ : V.St) (around depth : Int) : V.runs σ [] around depth = (σ, true) := by rw [runs]
theorem runs_cons (σ : V.St) (t : Syn) (r : List Syn) (around depth : Int) : V.runs σ (t :: r) around depth = if (V.run σ t around depth).2 then V.runs (V.run σ t around depth).1 r around depth else ((V.run σ t around depth).1, false) := by rw [runs]
theorem cnt_runs_of (l : List Syn) (hl : ∀ x ∈ l, ∀ (σ : V.St) (around depth : Int), V.cnt (V.run σ x around depth).1 ≤ V.cnt σ + x.size) :
    ∀ (σ : V.St) (around depth : Int), V.cnt (V.runs σ l around depth).1 ≤ V.cnt σ + Pl.sizes l := by
  induction l with
  | nil => intro σ around depth; rw [runs_nil, Pl.sizes_nil]; exact Nat.le_refl _
  | cons x r ih =>
    intro σ around depth
    have h1 := hl x List.mem_cons_self σ around depth
    have h2 := ih (fun y hy => hl y (List.mem_cons_of_mem _ hy)) (V.run σ x around depth).1 around depth
    rw [runs_cons, Pl.sizes_cons]
    split
    · omega
    · show V.cnt (V.run σ x around depth).1 ≤ _
      omega
theorem cnt_run (h : ∀ (σ : V.St) (t : Syn) (around depth : Int), V.cnt (V.next σ t around depth).1 ≤ V.cnt σ + 1) (t : Syn) : ∀ (σ : V.St) (around depth : Int), V.cnt (V.run σ t around depth).1 ≤ V.cnt σ + t.size := by
  induction t using Syn.ind with
  | h t ih =>
    intro σ around depth
    have h1 := h σ t around depth
    have h2 := cnt_runs_of V t.l ih (V.next σ t around depth).1 t.op (depth + 1)
    rw [run_eq, Pl.size_eq]
    split
    · omega
    · show V.cnt (V.next σ t around depth).1 ≤ _
      omega
/-- what a world is good for while a visit goes on -/
def At (hf hd : Nat) (P : Nat → Prop) (σ : V.St) (γ : V.G) (w : World) : Prop :=
  V.Inv σ γ w ∧ Blk w hf 52 #[V.fval] ∧ Blk w hd 52 #[.func (.func 57) #[] #[.pointer (some ⟨hf, 0, none⟩), .pointer (some ⟨hd, 0, none⟩)]] ∧ ¬ V.own γ hf ∧ ¬ V.own γ hd ∧ ∀ b, P b → b < w.heap.size ∧ ¬ V.own γ b
theorem At.go {V : Visitor} {hf hd : Nat} {P : Nat → Prop} {σ σ' : V.St} {γ γ' : V.G} {w w' : World} (h : V.At hf hd P σ γ w) (hi : V.Inv σ' γ' w') (hr : Fr (V.own γ) (V.own γ') w w') : V.At hf hd P σ' γ' w' := by
  obtain ⟨h0, h1, h2, h3, h4, h5⟩ := h
  refine ⟨hi, h1.of_eq (hr.block h1.lt h3), h2.of_eq (hr.block h2.lt h4), fun ho => ?_, fun ho => ?_, hr.still h5⟩
  · rcases hr.owned ho with g | g
    · exact h3 g
    · have := h1.lt; omega
  · rcases hr.owned ho with g | g
    · exact h4 g
    · have := h2.lt; omega
theorem At.below {V : Visitor} (HV : V.Good) {hf hd : Nat} {P : Nat → Prop} {σ : V.St} {γ : V.G} {w w' : World} (h : V.At hf hd P σ γ w) (hb : Below w.heap.size w w') : V.At hf hd P σ γ w' := h.go (HV.keep σ γ w w' h.1 hb) (Fr.of_below hb)
/-- what a call of the visit's inner function does -/
def Post (γ : V.G) (r : V.St × Bool) (w : World) (e : Ending) (w' : World) : Prop := e = .returned (.bool r.2) ∧ ∃ γ', V.Inv r.1 γ' w' ∧ Fr (V.own γ) (V.own γ') w w'
/-- a round of its loop -/
def Rel (hf hd : Nat) (P : Nat → Prop) (γ : V.G) (w0 : World) (l : List Syn) (around depth : Int) (res : V.St × Bool) (k0 : Nat) (bx : Array Value) (k : Nat) (wr : World) : Prop :=
  ∃ σk γk, Blk wr k0 25 bx ∧ ¬ V.own γk k0 ∧ V.runs σk (l.drop k) around depth = res ∧ V.At hf hd P σk γk wr ∧ Fr (V.own γ) (V.own γk) w0 wr ∧ V.cnt σk + Pl.sizes (l.drop k) ≤ 1073741824
end Visitor
theorem getElem_drop_cons (l : List Syn) (k : Nat) (h : k < l.length) : l.drop k = l[k] :: l.drop (k + 1) := List.drop_eq_getElem_cons h
set_option maxRecDepth 100000 in
set_option maxHeartbeats 4000000 in
theorem descend_any (V : Visitor) (HV : V.Good) (hf hd : Nat) (P : Nat → Prop) (t : Syn) : ∀ (σ : V.St) (γ : V.G) (w : World) (v : Value) (around depth : Int), V.At hf hd P σ γ w → SynV w P t v → t.big ≤ 1073741824 → V.cnt σ + t.size ≤ 1073741824 → 0 ≤ depth → depth + t.size ≤ 2147483648 →
    Calls Try.prog 57 #[v, .int .i64 around, .int .i64 depth, .pointer (some ⟨hf, 0, none⟩), .pointer (some ⟨hd, 0, none⟩)] w (V.Post γ (V.run σ t around depth) w) := by
  induction t using Syn.ind with
  | h t ih =>
  intro σ γ w v around depth hat ht hbig hcnt hd0 hd1
  have HIH := Lib.hid ih
  clear ih
  have hsz := Pl.size_eq t
  have hbg := Pl.big_eq t
  have hlen := Pl.len_big t
  have hpos := Pl.size_pos t
  have HT := Lib.hid ht
  rw [synV_iff] at ht
  obtain ⟨hs, nv, lv, rfl, hn, hl⟩ := ht
  obtain ⟨a, c, rfl, hlc, hcm, hac, hkids⟩ := hl
  generalize hnl : t.l.length = n at *
  have HNL := Lib.hid hnl
  have hb1 : Below w.heap.size w (w.alloc (.cells #[.int .i64 t.op, .int .i64 t.n, .string t.s, nv, .slice a n c] 25)) := (Below.refl _ _).alloc (Nat.le_refl _) _
  have hat1 := hat.below HV hb1
  have bx := blk_new w #[.int .i64 t.op, .int .i64 t.n, .string t.s, nv, .slice a n c] 25
  have hno : ¬ V.own γ w.heap.size := fun ho => absurd (HV.lt σ γ w _ hat.1 ho) (Nat.lt_irrefl _)
  have HF1 := Lib.hid (Fr.of_below (o := V.own γ) hb1)
  have HC := Lib.hid (HV.calls σ γ _ P t _ around depth hat1.1 (HT.out.keep (Same.of_below hb1 (fun b hb => (hat.2.2.2.2.2 b hb).1))) hat1.2.2.2.2.2 hbig (by omega) hd0 (by omega))
  have c0 := hat1.2.1.cell 0 _ rfl
  unfold Visitor.fval at c0
  have HAT1 := Lib.hid hat1
  have HP := Lib.hid hat.2.2.2.2.2
  have HNO := Lib.hid hno
  have HBX := Lib.hid bx
  have HR := Lib.hid (V.run_eq σ t around depth)
  have HLE := Lib.hid (HV.cnt_le σ t around depth)
  have HENT := Lib.hid HV.enter
  have HSZ := Lib.hid hsz
  have HBG := Lib.hid hbg
  have hsl : Pl.sizes t.l < t.size := by omega
  have hbl : Pl.bigs t.l < t.big := by omega
  have HKIDS := Lib.hid hkids
  clear hs hn hat hat1 bx hb1 hno hac hnl hsz hbg hkids
  go_enter Try.func57, Try.ntmps57
  go_wp2_with fail
  rw [HENT.out, Oper.upon_enter]
  refine HC.out.mono ?_
  rintro e w1 ⟨rfl, γ1, hi1, hf1⟩
  have HAT2 := Lib.hid (HAT1.out.go hi1 hf1)
  have HF2 := Lib.hid (HF1.out.trans hf1)
  have hbx1 : Blk w1 w.heap.size 25 #[.int .i64 t.op, .int .i64 t.n, .string t.s, nv, .slice a n c] := HBX.out.of_eq (hf1.block HBX.out.lt HNO.out)
  have HNO2 := Lib.hid (show ¬ V.own γ1 w.heap.size from fun ho => by
    rcases hf1.owned ho with g | g
    · exact HNO.out g
    · rw [size_alloc] at g; omega)
  have HBX1 := Lib.hid hbx1
  have c4 := hbx1.cell 4 _ rfl
  clear HC c0
  generalize hnx : V.next σ t around depth = nx at *
  obtain ⟨σ1, ok⟩ := nx
  have HNX := Lib.hid hnx
  clear hnx hf1 hi1 hbx1
  simp only at HR HLE HAT2 HF2 HNO2
  cases ok
  · go_wp2
    go_ret
    have hr := HR.out
    rw [if_neg (by simp)] at hr
    rw [hr]
    exact ⟨rfl, γ1, HAT2.out.1, HF2.out⟩
  · have hr := HR.out
    rw [if_pos rfl] at hr
    generalize hres : V.runs σ1 t.l t.op (depth + 1) = res at hr
    have HRES := Lib.hid hres
    have HRR := Lib.hid hr
    clear hr hres HR
    rcases HKIDS.out with hk0 | ⟨b, off, rfl, hPb, hka⟩
    · have hn0 : n = 0 := by rw [← HNL.out, hk0]; rfl
      subst hn0
      have HK0 := Lib.hid hk0
      clear hk0
      go_wp2_with fail
      go_loopg [20] 1 (fun g v wr => v = .int .i64 0 ∧ wr = w1)
      case atStart => exact ⟨rfl, rfl⟩
      case round =>
        obtain ⟨rfl, rfl⟩ := hrel
        go_wp2
        go_ret
        have hr := HRES.out
        rw [HK0.out, V.runs_nil] at hr
        subst hr
        rw [HRR.out]
        exact ⟨rfl, γ1, HAT2.out.1, HF2.out⟩
    · have HKA := Lib.hid hka
      have HPB := Lib.hid hPb
      clear hka hPb
      go_wp2_with fail
      go_loopg [20] (n + 1) (fun g v wr => ∃ k : Nat, k ≤ n ∧ v = .int .i64 k ∧ g = n + 1 - k ∧ V.Rel hf hd P γ w t.l t.op (depth + 1) res w.heap.size #[.int .i64 t.op, .int .i64 t.n, .string t.s, nv, .slice (some ⟨b, off, none⟩) n c] k wr)
      case atStart =>
        refine ⟨0, by omega, rfl, by omega, σ1, γ1, HBX1.out, HNO2.out, HRES.out, HAT2.out, HF2.out, ?_⟩
        have := HLE.out
        rw [List.drop_zero]
        omega
      case round =>
        obtain ⟨k, hk, rfl, hg, σk, γk, hbk, hnk, hrun, hatk, hfk, hck⟩ := hrel
        by_cases hlt : k < n
        · have hkl : k < t.l.length := by rw [HNL.out]; exact hlt
          have hmem : t.l[k] ∈ t.l := List.getElem_mem hkl
          have hms := Pl.mem_size hmem
          have hmb := Pl.mem_big hmem
          have hsame := hfk.same HP.out
          obtain ⟨xv, ⟨x0, x1, x2, x3, x4, hxv, a0, a1, a2, a3, a4⟩, hxs⟩ := (kidsAt_iff _ _ _ _ _).1 (HKA.out.keep hsame HPB.out) k hkl
          obtain ⟨na, nn, nc, la, ln, lc, hxf⟩ := hxs.form
          rw [hxv] at hxf
          simp only [Value.agg.injEq, Array.mk.injEq, List.cons.injEq, and_true] at hxf
          obtain ⟨rfl, rfl, rfl, rfl, rfl⟩ := hxf
          subst hxv
          generalize t.l[k].op = xo at *
          generalize t.l[k].n = xn at *
          generalize t.l[k].s = xs at *
          rw [getElem_drop_cons _ _ hkl, Pl.sizes_cons] at hck
          rw [getElem_drop_cons _ _ hkl, V.runs_cons] at hrun
          have hb2 : Below wr.heap.size wr (wr.alloc (.cells #[.int .i64 xo, .int .i64 xn, .string xs, .slice na nn nc, .slice la ln lc] 25)) := (Below.refl _ _).alloc (Nat.le_refl _) _
          have hat2 := hatk.below HV hb2
          have d0 := hat2.2.2.1.cell 0 _ rfl
          have d1 := (hb2.cell (p := ⟨w.heap.size, 0, none⟩) hbk.lt).trans (hbk.cell 0 _ rfl)
          have HC := Lib.hid (HIH.out _ hmem σk γk _ (.agg #[.int .i64 xo, .int .i64 xn, .string xs, .slice na nn nc, .slice la ln lc]) t.op (depth + 1) hat2 (hxs.keep (Same.of_below hb2 (fun b hb => (hatk.2.2.2.2.2 b hb).1))) (by omega) (by omega) (by omega) (by omega))
          have HFK := Lib.hid (hfk.trans (Fr.of_below hb2))
          have HATK := Lib.hid hat2
          have HBK := Lib.hid (hbk.of_eq (hb2.block _ hbk.lt))
          have HNK := Lib.hid hnk
          have HRUN := Lib.hid hrun
          have HLX := Lib.hid (V.cnt_run HV.cnt_le t.l[k] σk t.op (depth + 1))
          generalize V.run σk t.l[k] t.op (depth + 1) = rx at *
          obtain ⟨σx, okx⟩ := rx
          generalize t.l[k].size = sx at *
          clear hbk hnk hrun hatk hfk hsame hxs hb2 hat2 hmem hms hmb c4
          go_wp2_with fail
          refine HC.out.mono ?_
          rintro e w3 ⟨rfl, γ3, hi3, hf3⟩
          have HAT3 := Lib.hid (HATK.out.go hi3 hf3)
          have HF3 := Lib.hid (HFK.out.trans hf3)
          have HB3 := Lib.hid (HBK.out.of_eq (hf3.block HBK.out.lt HNK.out))
          have HN3 := Lib.hid (show ¬ V.own γ3 w.heap.size from fun ho => by
            rcases hf3.owned ho with g | g
            · exact HNK.out g
            · have := HBK.out.lt; omega)
          clear hi3 hf3 a0 a1 a2 a3 a4 d0 d1
          cases okx
          · go_wp2
            go_ret
            have hr := HRUN.out
            rw [if_neg (by simp)] at hr
            subst hr
            rw [HRR.out]
            exact ⟨rfl, γ3, HAT3.out.1, HF3.out⟩
          · go_wp2
            go_roundg (gk - 1)
            case measure => omega
            case rel =>
              refine ⟨k + 1, by omega, by go_num, by omega, σx, γ3, HB3.out, HN3.out, ?_, HAT3.out, HF3.out, ?_⟩
              · have hr := HRUN.out
                simpa using hr
              · have := HLX.out
                omega
        · have hkn : t.l.drop k = [] := List.drop_eq_nil_of_le (by rw [HNL.out]; omega)
          rw [hkn, V.runs_nil] at hrun
          have HRUN := Lib.hid hrun
          have HATK := Lib.hid hatk
          have HFK := Lib.hid hfk
          clear hrun hatk hfk hbk hnk hkn hck c4
          go_wp2
          go_ret
          have hr := HRUN.out
          subst hr
          rw [HRR.out]
          exact ⟨rfl, γk, HATK.out.1, HFK.out⟩
end Go.Proofs.Ytkhpihacjhhklaa

/-
  Walks of layer 3: Size and Depth.
-/
namespace Go.Proofs.Ytkhpihacjhhklaa
open Go Go.RowKit
open Pl (Syn)

set_option maxRecDepth 100000 in
set_option maxHeartbeats 4000000 in
theorem visit_any (V : Visitor) (HV : V.Good) (P : Nat → Prop) (t : Syn) (σ : V.St) (γ : V.G) (w : World) (v : Value) (hi : V.Inv σ γ w) (hP : ∀ b, P b → b < w.heap.size ∧ ¬ V.own γ b) (ht : SynV w P t v) (hbig : t.big ≤ 1073741824) (hcnt : V.cnt σ + t.size ≤ 1073741824) :
    Calls Try.prog 35 #[v, .func (.func V.fid) #[] #[.pointer (some ⟨V.g, 0, none⟩)]] w (V.Post γ (V.run σ t 0 1) w) := by
  have hsb := Pl.size_big t
  have HT := Lib.hid ht
  obtain ⟨na, nn, nc, la, ln, lc, rfl⟩ := ht.form
  have hb : Below w.heap.size w (((w.alloc (.cells #[.int .i64 t.op, .int .i64 t.n, .string t.s, .slice na nn nc, .slice la ln lc] 25)).alloc (.cells #[.func (.func V.fid) #[] #[.pointer (some ⟨V.g, 0, none⟩)]] 52)).alloc (.cells #[.func (.func 57) #[] #[.pointer (some ⟨w.heap.size + 1, 0, none⟩), .pointer (some ⟨w.heap.size + 1 + 1, 0, none⟩)]] 52)) :=
    ((((Below.refl _ _).alloc (Nat.le_refl _) _).alloc (by simp) _).alloc (by simp; omega) _)
  have hat : V.At (w.heap.size + 1) (w.heap.size + 1 + 1) P σ γ (((w.alloc (.cells #[.int .i64 t.op, .int .i64 t.n, .string t.s, .slice na nn nc, .slice la ln lc] 25)).alloc (.cells #[.func (.func V.fid) #[] #[.pointer (some ⟨V.g, 0, none⟩)]] 52)).alloc (.cells #[.func (.func 57) #[] #[.pointer (some ⟨w.heap.size + 1, 0, none⟩), .pointer (some ⟨w.heap.size + 1 + 1, 0, none⟩)]] 52)) := by
    refine ⟨HV.keep σ γ _ _ hi hb, ?_, ?_, fun ho => ?_, fun ho => ?_, fun b hbp => ⟨?_, (hP b hbp).2⟩⟩
    · have := blk_new (w.alloc (.cells #[.int .i64 t.op, .int .i64 t.n, .string t.s, .slice na nn nc, .slice la ln lc] 25)) #[.func (.func V.fid) #[] #[.pointer (some ⟨V.g, 0, none⟩)]] 52
      rw [size_alloc] at this
      exact this.alloc _
    · have := blk_new ((w.alloc (.cells #[.int .i64 t.op, .int .i64 t.n, .string t.s, .slice na nn nc, .slice la ln lc] 25)).alloc (.cells #[.func (.func V.fid) #[] #[.pointer (some ⟨V.g, 0, none⟩)]] 52)) #[.func (.func 57) #[] #[.pointer (some ⟨w.heap.size + 1, 0, none⟩), .pointer (some ⟨w.heap.size + 1 + 1, 0, none⟩)]] 52
      rw [size_alloc, size_alloc] at this
      exact this
    · have := HV.lt σ γ w _ hi ho; omega
    · have := HV.lt σ γ w _ hi ho; omega
    · have := (hP b hbp).1
      rw [size_alloc, size_alloc, size_alloc]; omega
  have HC := Lib.hid (descend_any V HV _ _ P t σ γ _ (.agg #[.int .i64 t.op, .int .i64 t.n, .string t.s, .slice na nn nc, .slice la ln lc]) 0 1 hat (HT.out.keep (Same.of_below hb (fun b hb => (hP b hb).1))) hbig hcnt (by omega) (by omega))
  have HF := Lib.hid (Fr.of_below (o := V.own γ) hb)
  clear ht hat hb hi hP
  have c9 : (((w.alloc (.cells #[.int .i64 t.op, .int .i64 t.n, .string t.s, .slice na nn nc, .slice la ln lc] 25)).alloc (.cells #[.func (.func V.fid) #[] #[.pointer (some ⟨V.g, 0, none⟩)]] 52)).alloc (.cells #[.nilFunc] 52)).cell? ⟨w.heap.size + 1 + 1, 0, none⟩ = some .nilFunc := by
    have := (blk_new ((w.alloc (.cells #[.int .i64 t.op, .int .i64 t.n, .string t.s, .slice na nn nc, .slice la ln lc] 25)).alloc (.cells #[.func (.func V.fid) #[] #[.pointer (some ⟨V.g, 0, none⟩)]] 52)) #[.nilFunc] 52).cell 0 _ rfl
    rw [size_alloc, size_alloc] at this
    exact this
  go_enter Try.func35, Try.ntmps35
  go_wp2_with fail
  refine HC.out.mono ?_
  rintro e w1 ⟨rfl, γ1, hi1, hf1⟩
  have HI := Lib.hid hi1
  have HF1 := Lib.hid (HF.out.trans hf1)
  clear hi1 hf1
  go_wp2
  go_ret
  exact ⟨rfl, γ1, HI.out, HF1.out⟩

/-- a number that a visit counts with -/
def Cell1 (g : Nat) (n : Int) (w : World) : Prop := Blk w g 3 #[.int .i64 n]
theorem Cell1.below {g : Nat} {n : Int} {w w' : World} (h : Cell1 g n w) (hb : Below w.heap.size w w') : Cell1 g n w' := h.of_eq (hb.block _ h.lt)
theorem fr_set {g : Nat} {w w1 : World} (v : Value) (j : Nat) (hb : Below w.heap.size w w1) : Fr (· = g) (· = g) w (w1.setCell ⟨g, j, none⟩ v) :=
  ⟨hb.os, hb.tape, hb.output, by simpa [World.setCell] using hb.size, fun i hi hn => (Below.heap_setCell w1 ⟨g, j, none⟩ v i hn).trans (hb.block i hi), fun _ h => .inl h⟩
/-- Size's function -/
abbrev sizeV (g : Nat) : Visitor where
  St := Nat
  fid := 36
  g := g
  G := Unit
  Inv n _ w := Cell1 g n w
  own _ i := i = g
  cnt n := n
  next n _ _ _ := (n + 1, true)
set_option maxRecDepth 100000 in
set_option maxHeartbeats 4000000 in
theorem size1_any (g n : Nat) (w : World) (t : Syn) (v : Value) (P : Nat → Prop) (around depth : Int) (hi : Cell1 g n w) (ht : SynV w P t v) (hn : n < 1073741824) :
    Calls Try.prog 36 #[v, .int .i64 around, .int .i64 depth, .pointer (some ⟨g, 0, none⟩)] w fun e w' => e = .returned (.bool true) ∧ Cell1 g (n + 1 : Nat) w' ∧ Fr (· = g) (· = g) w w' := by
  obtain ⟨na, nn, nc, la, ln, lc, rfl⟩ := ht.form
  have hb : Below w.heap.size w (w.alloc (.cells #[.int .i64 t.op, .int .i64 t.n, .string t.s, .slice na nn nc, .slice la ln lc] 25)) := (Below.refl _ _).alloc (Nat.le_refl _) _
  have hi1 := hi.below hb
  have c0 := Blk.cell hi1 0 _ rfl
  have f0 := Blk.thaw hi1 0
  have hgl := Blk.lt hi
  have HI := Lib.hid hi
  clear hb hi hi1 ht
  go_enter Try.func36, Try.ntmps36
  go_wp2
  go_ret
  exact ⟨rfl, by have := (Blk.set HI.out 0 (.int .i64 (n + 1))).alloc (.cells #[.int .i64 t.op, .int .i64 t.n, .string t.s, .slice na nn nc, .slice la ln lc] 25); simpa [Cell1] using this, (fr_set _ 0 (Below.refl _ _)).alloc _⟩
theorem size_good (g : Nat) : (sizeV g).Good where
  enter := by
    intro args w
    show Sem.run Try.prog (callFunc 36 args) w = .ok (.enter 36 args) w
    kernel_rfl
  calls := fun σ γ w P t v around depth hi ht hP hb hc h0 h1 => (size1_any g σ w t v P around depth hi ht hc).mono fun e w' h => ⟨h.1, (), h.2.1, h.2.2⟩
  keep := fun σ γ w w' hi hb => Cell1.below hi hb
  lt := fun σ γ w i hi ho => by
    have h : i = g := ho
    subst h; exact Blk.lt hi
  cnt_le := fun σ t around depth => Nat.le_refl _
end Go.Proofs.Ytkhpihacjhhklaa

/-
  Walks of layer 3: Size and Depth, whole.
-/
namespace Go.Proofs.Ytkhpihacjhhklaa
open Go Go.RowKit
open Pl (Syn)

theorem size_run (g : Nat) (t : Syn) : ∀ (n : Nat) (around depth : Int), (sizeV g).run n t around depth = (n + t.size, true) := by
  induction t using Syn.ind with
  | h t ih =>
    intro n around depth
    have hl : ∀ l : List Syn, (∀ x ∈ l, ∀ (n : Nat) (around depth : Int), (sizeV g).run n x around depth = (n + x.size, true)) → ∀ (n : Nat) (around depth : Int), (sizeV g).runs n l around depth = (n + Pl.sizes l, true) := by
      intro l
      induction l with
      | nil => intro _ n around depth; rw [Visitor.runs_nil, Pl.sizes_nil]; rfl
      | cons x r ihr =>
        intro h n around depth
        rw [Visitor.runs_cons, h x List.mem_cons_self, Pl.sizes_cons]
        simp only [if_true]
        rw [ihr (fun y hy => h y (List.mem_cons_of_mem _ hy))]
        simp only [Prod.mk.injEq, and_true]
        exact Nat.add_assoc _ _ _
    rw [Visitor.run_eq]
    show (if true = true then (sizeV g).runs (n + 1 : Nat) t.l t.op (depth + 1) else _) = _
    rw [if_pos rfl, hl t.l ih, Pl.size_eq]
    simp only [Prod.mk.injEq, and_true]
    exact Nat.add_assoc _ _ _
/-- what lies above -/
theorem fr_above {B : Nat} {own own' : Nat → Prop} {a w w' : World} (hb : Below B a w) (h : Fr own own' w w') (hB2 : B ≤ w.heap.size) (ho : ∀ i, own i → B ≤ i) : Below B a w' :=
  ⟨h.1.trans hb.os, h.2.1.trans hb.tape, h.2.2.1.trans hb.output, Nat.le_trans hb.size h.size, fun i hi => (h.block (Nat.lt_of_lt_of_le hi hB2) (fun g => by have := ho i g; omega)).trans (hb.block i hi)⟩
set_option maxRecDepth 100000 in
set_option maxHeartbeats 4000000 in
theorem size_any (P : Nat → Prop) (t : Syn) (w : World) (v : Value) (hP : ∀ b, P b → b < w.heap.size) (ht : SynV w P t v) (hbig : t.big ≤ 1073741824) :
    Calls Try.prog 15 #[v] w fun e w' => e = .returned (.int .i64 t.size) ∧ Below w.heap.size w w' := by
  have hsb := Pl.size_big t
  have HT := Lib.hid ht
  obtain ⟨na, nn, nc, la, ln, lc, rfl⟩ := ht.form
  have hb : Below w.heap.size w ((w.alloc (.cells #[.int .i64 t.op, .int .i64 t.n, .string t.s, .slice na nn nc, .slice la ln lc] 25)).alloc (.cells #[.int .i64 0] 3)) := (((Below.refl _ _).alloc (Nat.le_refl _) _).alloc (by simp) _)
  have hi : Cell1 (w.heap.size + 1) (0 : Nat) ((w.alloc (.cells #[.int .i64 t.op, .int .i64 t.n, .string t.s, .slice na nn nc, .slice la ln lc] 25)).alloc (.cells #[.int .i64 0] 3)) := by
    have := blk_new (w.alloc (.cells #[.int .i64 t.op, .int .i64 t.n, .string t.s, .slice na nn nc, .slice la ln lc] 25)) #[.int .i64 0] 3
    rw [size_alloc] at this
    exact this
  have HC := Lib.hid (visit_any (sizeV (w.heap.size + 1)) (size_good _) P t (0 : Nat) () _ (.agg #[.int .i64 t.op, .int .i64 t.n, .string t.s, .slice na nn nc, .slice la ln lc]) hi (fun b hbp => ⟨by rw [size_alloc, size_alloc]; have := hP b hbp; omega, fun ho => by have h1 : b = w.heap.size + 1 := ho; have := hP b hbp; omega⟩) (HT.out.keep (Same.of_below hb hP)) hbig (by show 0 + t.size ≤ 1073741824; omega))
  rw [size_run] at HC
  have HB := Lib.hid hb
  clear ht hb hi hP
  go_enter Try.func15, Try.ntmps15
  go_wp2_with fail
  refine HC.out.mono ?_
  rintro e w1 ⟨rfl, _, hi1, hf1⟩
  have hi1' : Cell1 (w.heap.size + 1) (0 + t.size : Nat) w1 := hi1
  rw [Nat.zero_add] at hi1'
  have c0 := Blk.cell hi1' 0 _ rfl
  have HF1 := Lib.hid (fr_above HB.out hf1 HB.out.size (fun i hi => by have h1 : i = w.heap.size + 1 := hi; omega))
  clear hi1 hf1 hi1'
  go_wp2
  go_ret
  exact ⟨rfl, HF1.out⟩

theorem cell1_set {g : Nat} {n x y : Int} {w : World} (h : Cell1 g n w) (hx : x = y) (o : Obj) : Cell1 g y ((w.setCell ⟨g, 0, none⟩ (.int .i64 x)).alloc o) := by
  subst hx
  have := (Blk.set h 0 (.int .i64 x)).alloc o
  simpa [Cell1] using this
/-- Depth's function -/
abbrev depthV (g : Nat) : Visitor where
  St := Int
  fid := 37
  g := g
  G := Unit
  Inv n _ w := Cell1 g n w
  own _ i := i = g
  cnt _ := 0
  next n _ _ d := (max n d, true)
set_option maxRecDepth 100000 in
set_option maxHeartbeats 4000000 in
theorem depth1_any (g : Nat) (n : Int) (w : World) (t : Syn) (v : Value) (P : Nat → Prop) (around depth : Int) (hi : Cell1 g n w) (ht : SynV w P t v) :
    Calls Try.prog 37 #[v, .int .i64 around, .int .i64 depth, .pointer (some ⟨g, 0, none⟩)] w fun e w' => e = .returned (.bool true) ∧ Cell1 g (max n depth) w' ∧ Fr (· = g) (· = g) w w' := by
  obtain ⟨na, nn, nc, la, ln, lc, rfl⟩ := ht.form
  have hb : Below w.heap.size w (w.alloc (.cells #[.int .i64 t.op, .int .i64 t.n, .string t.s, .slice na nn nc, .slice la ln lc] 25)) := (Below.refl _ _).alloc (Nat.le_refl _) _
  have hi1 := hi.below hb
  have c0 := Blk.cell hi1 0 _ rfl
  have f0 := Blk.thaw hi1 0
  have hgl := Blk.lt hi
  have HI := Lib.hid hi
  clear hb hi hi1 ht
  go_enter Try.func37, Try.ntmps37
  go_wp2
  all_goals
    go_ret
    exact ⟨rfl, cell1_set HI.out (by omega) _, (fr_set _ 0 (Below.refl _ _)).alloc _⟩
theorem depth_good (g : Nat) : (depthV g).Good where
  enter := by
    intro args w
    show Sem.run Try.prog (callFunc 37 args) w = .ok (.enter 37 args) w
    kernel_rfl
  calls := fun σ γ w P t v around depth hi ht hP hb hc h0 h1 => (depth1_any g σ w t v P around depth hi ht).mono fun e w' h => ⟨h.1, (), h.2.1, h.2.2⟩
  keep := fun σ γ w w' hi hb => Cell1.below hi hb
  lt := fun σ γ w i hi ho => by
    have h : i = g := ho
    subst h; exact Blk.lt hi
  cnt_le := fun σ t around depth => Nat.zero_le _
theorem depth_run (g : Nat) (t : Syn) : ∀ (n : Int) (around depth : Int), (depthV g).run n t around depth = (max n (depth + t.depth - 1), true) := by
  induction t using Syn.ind with
  | h t ih =>
    intro n around depth
    have hl : ∀ l : List Syn, (∀ x ∈ l, ∀ (n : Int) (around depth : Int), (depthV g).run n x around depth = (max n (depth + x.depth - 1), true)) → ∀ (n : Int) (around depth : Int), depth - 1 ≤ n → (depthV g).runs n l around depth = (max n (depth + Pl.depths l - 1), true) := by
      intro l
      induction l with
      | nil =>
        intro _ n around depth hn
        rw [Visitor.runs_nil, Pl.depths_nil]
        have : max n (depth + (0 : Nat) - 1) = n := by omega
        rw [this]
      | cons x r ihr =>
        intro h n around depth hn
        rw [Visitor.runs_cons, h x List.mem_cons_self, Pl.depths_cons]
        simp only [if_true]
        rw [ihr (fun y hy => h y (List.mem_cons_of_mem _ hy)) _ _ _ (by omega)]
        simp only [Prod.mk.injEq, and_true]
        omega
    rw [Visitor.run_eq]
    show (if true = true then (depthV g).runs (max n depth : Int) t.l t.op (depth + 1) else _) = _
    rw [if_pos rfl, hl t.l ih _ _ _ (by omega), Pl.depth_eq]
    simp only [Prod.mk.injEq, and_true]
    omega
set_option maxRecDepth 100000 in
set_option maxHeartbeats 4000000 in
theorem depth_any (P : Nat → Prop) (t : Syn) (w : World) (v : Value) (hP : ∀ b, P b → b < w.heap.size) (ht : SynV w P t v) (hbig : t.big ≤ 1073741824) :
    Calls Try.prog 17 #[v] w fun e w' => e = .returned (.int .i64 t.depth) ∧ Below w.heap.size w w' := by
  have hsb := Pl.size_big t
  have HT := Lib.hid ht
  obtain ⟨na, nn, nc, la, ln, lc, rfl⟩ := ht.form
  have hb : Below w.heap.size w ((w.alloc (.cells #[.int .i64 t.op, .int .i64 t.n, .string t.s, .slice na nn nc, .slice la ln lc] 25)).alloc (.cells #[.int .i64 0] 3)) := (((Below.refl _ _).alloc (Nat.le_refl _) _).alloc (by simp) _)
  have hi : Cell1 (w.heap.size + 1) 0 ((w.alloc (.cells #[.int .i64 t.op, .int .i64 t.n, .string t.s, .slice na nn nc, .slice la ln lc] 25)).alloc (.cells #[.int .i64 0] 3)) := by
    have := blk_new (w.alloc (.cells #[.int .i64 t.op, .int .i64 t.n, .string t.s, .slice na nn nc, .slice la ln lc] 25)) #[.int .i64 0] 3
    rw [size_alloc] at this
    exact this
  have HC := Lib.hid (visit_any (depthV (w.heap.size + 1)) (depth_good _) P t (0 : Int) () _ (.agg #[.int .i64 t.op, .int .i64 t.n, .string t.s, .slice na nn nc, .slice la ln lc]) hi (fun b hbp => ⟨by rw [size_alloc, size_alloc]; have := hP b hbp; omega, fun ho => by have h1 : b = w.heap.size + 1 := ho; have := hP b hbp; omega⟩) (HT.out.keep (Same.of_below hb hP)) hbig (by show 0 + t.size ≤ 1073741824; omega))
  rw [depth_run] at HC
  have HB := Lib.hid hb
  have HD := Lib.hid (show max (0 : Int) (1 + t.depth - 1) = t.depth from by omega)
  clear ht hb hi hP
  go_enter Try.func17, Try.ntmps17
  go_wp2_with fail
  refine HC.out.mono ?_
  rintro e w1 ⟨rfl, _, hi1, hf1⟩
  have hi1' : Cell1 (w.heap.size + 1) (max (0 : Int) (1 + t.depth - 1)) w1 := hi1
  rw [HD.out] at hi1'
  have c0 := Blk.cell hi1' 0 _ rfl
  have HF1 := Lib.hid (fr_above HB.out hf1 HB.out.size (fun i hi => by have h1 : i = w.heap.size + 1 := hi; omega))
  clear hi1 hf1 hi1'
  go_wp2
  go_ret
  exact ⟨rfl, HF1.out⟩
end Go.Proofs.Ytkhpihacjhhklaa

/-
  Walks of layer 3: the reference's Size and Depth.
-/
namespace Go.Proofs.Ytkhpihacjhhklaa
open Go Go.RowKit
open Pl (Syn)

theorem KidsAt.part {w : World} {P : Nat → Prop} {l : List Syn} {b off : Nat} (h : KidsAt w P l b off) (k : Nat) (hk : k < l.length) : ∃ xo xn xs na nn nc la ln lc, l[k].op = xo ∧
    w.cell? ⟨b, off + k * 5, none⟩ = some (.int .i64 xo) ∧ w.cell? ⟨b, off + k * 5 + 1, none⟩ = some (.int .i64 xn) ∧ w.cell? ⟨b, off + k * 5 + 2, none⟩ = some (.string xs) ∧ w.cell? ⟨b, off + k * 5 + 3, none⟩ = some (.slice na nn nc) ∧ w.cell? ⟨b, off + k * 5 + 4, none⟩ = some (.slice la ln lc) ∧
    SynV w P l[k] (.agg #[.int .i64 xo, .int .i64 xn, .string xs, .slice na nn nc, .slice la ln lc]) := by
  obtain ⟨xv, ⟨x0, x1, x2, x3, x4, hxv, a0, a1, a2, a3, a4⟩, hxs⟩ := (kidsAt_iff _ _ _ _ _).1 h k hk
  subst hxv
  obtain ⟨na, nn, nc, la, ln, lc, hxf⟩ := hxs.form
  simp only [Value.agg.injEq, Array.mk.injEq, List.cons.injEq, and_true] at hxf
  obtain ⟨rfl, rfl, rfl, rfl, rfl⟩ := hxf
  exact ⟨_, _, _, na, nn, nc, la, ln, lc, rfl, a0, a1, a2, a3, a4, hxs⟩
theorem SynSl.cases {w : World} {P : Nat → Prop} {v : Value} {l : List Syn} (h : SynSl w P v l) : (l = [] ∧ ∃ a c, v = .slice a 0 c ∧ (a = none → c = 0) ∧ c ≤ maxLen) ∨ (∃ b off n c, v = .slice (some ⟨b, off, none⟩) n c ∧ l.length = n ∧ 0 < n ∧ n ≤ c ∧ c ≤ maxLen ∧ P b ∧ KidsAt w P l b off) := by
  obtain ⟨a, c, rfl, h1, h2, h3, h4⟩ := h
  rcases h4 with h4 | ⟨b, off, rfl, h5, h6⟩
  · subst h4; exact .inl ⟨rfl, a, c, rfl, h3, h2⟩
  · cases l with
    | nil => exact .inl ⟨rfl, _, c, rfl, h3, h2⟩
    | cons x r => exact .inr ⟨b, off, _, c, rfl, rfl, by simp, h1, h2, h5, h6⟩
set_option maxRecDepth 100000 in
set_option maxHeartbeats 4000000 in
theorem rsize_any (P : Nat → Prop) (t : Syn) : ∀ (w : World) (v : Value), (∀ b, P b → b < w.heap.size) → SynV w P t v → t.big ≤ 1073741824 →
    Calls Try.prog 16 #[v] w fun e w' => e = .returned (.int .i64 t.size) ∧ Below w.heap.size w w' := by
  induction t using Syn.ind with
  | h t ih =>
  intro w v hP ht hbig
  have HIH := Lib.hid ih
  clear ih
  have hbg := Pl.big_eq t
  have hlen := Pl.len_big t
  have hsb := Pl.size_big t
  have hsz := Pl.size_eq t
  have hds := Pl.depth_size t
  have HT := Lib.hid ht
  rw [synV_iff] at ht
  obtain ⟨hs, nv, lv, rfl, ⟨sa, sc, rfl, -⟩, hl⟩ := ht
  generalize hsn : t.names.length = sn at *
  have hbl : Pl.bigs t.l < t.big := by omega
  have HEQ := Lib.hid (Pl.size_eq t)
  have hsl : Pl.sizes t.l < t.size := by omega
  have hdl : Pl.depths t.l < t.depth := by have := Pl.depth_eq t; omega
  clear hs hsn hbg hsz
  rcases hl.cases with ⟨hk0, a, c, rfl, -, -⟩ | ⟨b, off, n, c, rfl, hnl, hn0, hnc, hcm, hPb, hka⟩
  · have bx := blk_new w #[.int .i64 t.op, .int .i64 t.n, .string t.s, .slice sa sn sc, .slice a 0 c] 25
    have c4 := bx.cell 4 _ rfl
    have hb1 : Below w.heap.size w (w.alloc (.cells #[.int .i64 t.op, .int .i64 t.n, .string t.s, .slice sa sn sc, .slice a 0 c] 25)) := (Below.refl _ _).alloc (Nat.le_refl _) _
    have HB := Lib.hid hb1
    have HK := Lib.hid hk0
    clear hl hk0 bx hb1
    go_enter Try.func16, Try.ntmps16
    go_wp2_with fail
    go_loopg [3, 4] 1 (fun g m i wr => i = .int .i64 0 ∧ m = .int .i64 1 ∧ wr = w.alloc (.cells #[.int .i64 t.op, .int .i64 t.n, .string t.s, .slice sa sn sc, .slice a 0 c] 25))
    case atStart => exact ⟨rfl, rfl, rfl⟩
    case round =>
      obtain ⟨rfl, rfl, rfl⟩ := hrel
      go_wp2
      go_ret
      exact ⟨by rw [HEQ.out, HK.out, Pl.sizes_nil]; rfl, HB.out⟩
  · have hb1 : Below w.heap.size w (w.alloc (.cells #[.int .i64 t.op, .int .i64 t.n, .string t.s, .slice sa sn sc, .slice (some ⟨b, off, none⟩) n c] 25)) := (Below.refl _ _).alloc (Nat.le_refl _) _
    have bx := blk_new w #[.int .i64 t.op, .int .i64 t.n, .string t.s, .slice sa sn sc, .slice (some ⟨b, off, none⟩) n c] 25
    have HBX := Lib.hid bx
    have HB := Lib.hid hb1
    have HNL := Lib.hid hnl
    have HKA := Lib.hid hka
    have HP := Lib.hid hP
    have HPB := Lib.hid hPb
    have HCM := Lib.hid hcm
    have c4 := bx.cell 4 _ rfl
    clear hl bx hb1 hnl hka hP hPb
    go_enter Try.func16, Try.ntmps16
    go_wp2_with fail
    go_loopg [3, 4] (n + 1) (fun g m i wr => ∃ k : Nat, k ≤ n ∧ i = .int .i64 k ∧ m = .int .i64 (1 + (Pl.sizes (t.l.take k) : Nat)) ∧ g = n + 1 - k ∧ Below (w.heap.size + 1) (w.alloc (.cells #[.int .i64 t.op, .int .i64 t.n, .string t.s, .slice sa sn sc, .slice (some ⟨b, off, none⟩) n c] 25)) wr)
    case atStart => exact ⟨0, by omega, rfl, by rw [List.take_zero, Pl.sizes_nil]; rfl, by omega, Below.refl _ _⟩
    case round =>
      obtain ⟨k, hk, rfl, rfl, hg, hbw⟩ := hrel
      have hbx := HBX.out.of_eq (hbw.block _ (by omega))
      have d4 := hbx.cell 4 _ rfl
      have hts := Pl.take_sizes t.l k
      have htd := Pl.take_depths t.l k
      have HBW := Lib.hid hbw
      have hw0 : Below w.heap.size w wr := HB.out.trans (hbw.mono (by omega))
      have HW0 := Lib.hid hw0
      by_cases hlt : k < n
      · have hkl : k < t.l.length := by rw [HNL.out]; exact hlt
        have hmem : t.l[k] ∈ t.l := List.getElem_mem hkl
        have hms := Pl.mem_size hmem
        have hmb := Pl.mem_big hmem
        have hxd := Pl.depth_size t.l[k]
        have hsn := Pl.sizes_snoc t.l k hkl
        have hts1 := Pl.take_sizes t.l (k + 1)
        obtain ⟨xo, xn, xs, na, nn, nc, la, ln, lc, -, a0, a1, a2, a3, a4, hxs⟩ := (HKA.out.keep (Same.of_below hw0 HP.out) HPB.out).part k hkl
        have HC := Lib.hid (HIH.out _ hmem wr _ (fun b hb => Nat.lt_of_lt_of_le (HP.out b hb) hw0.size) hxs (by omega))
        have HSN := Lib.hid (Pl.sizes_snoc t.l k hkl)
        have HWS := Lib.hid (show w.heap.size + 1 ≤ wr.heap.size from by have := hbw.size; rw [size_alloc] at this; exact this)
        rw [hsn] at hts1
        skip
        generalize Pl.sizes (t.l.take k) = m at *
        generalize t.l[k].size = mx at *
        clear hbx hbw hw0 hmem hms hmb hxs hsn htd hts
        go_wp2_with fail
        refine HC.out.mono ?_
        rintro e w3 ⟨rfl, hb3⟩
        have hbx3 : Blk w3 w.heap.size 25 #[.int .i64 t.op, .int .i64 t.n, .string t.s, .slice sa sn sc, .slice (some ⟨b, off, none⟩) n c] := (HBX.out.of_eq (HBW.out.block _ (by omega))).of_eq (hb3.block _ (by have := HWS.out; omega))
        have HB3 := Lib.hid (HBW.out.trans (hb3.mono HWS.out))
        clear hb3 hbx3 a0 a1 a2 a3 a4 d4
        go_wp2
        go_roundg (gk - 1)
        case measure => omega
        case rel => exact ⟨k + 1, by omega, by go_num, by rw [HSN.out]; go_num, by omega, HB3.out⟩
      · have hkn : t.l.take k = t.l := List.take_of_length_le (by rw [HNL.out]; omega)
        rw [hkn] at hts htd ⊢
        have HEK := Lib.hid hkn
        generalize hpl : Pl.sizes t.l = m at *
        have HPL := Lib.hid hpl
        clear hbx hbw hw0 hkn hpl
        go_wp2
        go_ret
        exact ⟨by have := HEQ.out; rw [this]; first | rfl | (congr 2; omega), HW0.out⟩
set_option maxRecDepth 100000 in
set_option maxHeartbeats 4000000 in
theorem rdepth_any (P : Nat → Prop) (t : Syn) : ∀ (w : World) (v : Value), (∀ b, P b → b < w.heap.size) → SynV w P t v → t.big ≤ 1073741824 →
    Calls Try.prog 18 #[v] w fun e w' => e = .returned (.int .i64 t.depth) ∧ Below w.heap.size w w' := by
  induction t using Syn.ind with
  | h t ih =>
  intro w v hP ht hbig
  have HIH := Lib.hid ih
  clear ih
  have hbg := Pl.big_eq t
  have hlen := Pl.len_big t
  have hsb := Pl.size_big t
  have hsz := Pl.size_eq t
  have hds := Pl.depth_size t
  have HT := Lib.hid ht
  rw [synV_iff] at ht
  obtain ⟨hs, nv, lv, rfl, ⟨sa, sc, rfl, -⟩, hl⟩ := ht
  generalize hsn : t.names.length = sn at *
  have hbl : Pl.bigs t.l < t.big := by omega
  have HEQ := Lib.hid (Pl.depth_eq t)
  have hsl : Pl.sizes t.l < t.size := by omega
  have hdl : Pl.depths t.l < t.depth := by have := Pl.depth_eq t; omega
  clear hs hsn hbg hsz
  rcases hl.cases with ⟨hk0, a, c, rfl, -, -⟩ | ⟨b, off, n, c, rfl, hnl, hn0, hnc, hcm, hPb, hka⟩
  · have bx := blk_new w #[.int .i64 t.op, .int .i64 t.n, .string t.s, .slice sa sn sc, .slice a 0 c] 25
    have c4 := bx.cell 4 _ rfl
    have hb1 : Below w.heap.size w (w.alloc (.cells #[.int .i64 t.op, .int .i64 t.n, .string t.s, .slice sa sn sc, .slice a 0 c] 25)) := (Below.refl _ _).alloc (Nat.le_refl _) _
    have HB := Lib.hid hb1
    have HK := Lib.hid hk0
    clear hl hk0 bx hb1
    go_enter Try.func18, Try.ntmps18
    go_wp2_with fail
    go_loopg [3, 4] 1 (fun g m i wr => i = .int .i64 0 ∧ m = .int .i64 0 ∧ wr = w.alloc (.cells #[.int .i64 t.op, .int .i64 t.n, .string t.s, .slice sa sn sc, .slice a 0 c] 25))
    case atStart => exact ⟨rfl, rfl, rfl⟩
    case round =>
      obtain ⟨rfl, rfl, rfl⟩ := hrel
      go_wp2
      go_ret
      exact ⟨by rw [HEQ.out, HK.out, Pl.depths_nil]; rfl, HB.out⟩
  · have hb1 : Below w.heap.size w (w.alloc (.cells #[.int .i64 t.op, .int .i64 t.n, .string t.s, .slice sa sn sc, .slice (some ⟨b, off, none⟩) n c] 25)) := (Below.refl _ _).alloc (Nat.le_refl _) _
    have bx := blk_new w #[.int .i64 t.op, .int .i64 t.n, .string t.s, .slice sa sn sc, .slice (some ⟨b, off, none⟩) n c] 25
    have HBX := Lib.hid bx
    have HB := Lib.hid hb1
    have HNL := Lib.hid hnl
    have HKA := Lib.hid hka
    have HP := Lib.hid hP
    have HPB := Lib.hid hPb
    have HCM := Lib.hid hcm
    have c4 := bx.cell 4 _ rfl
    clear hl bx hb1 hnl hka hP hPb
    go_enter Try.func18, Try.ntmps18
    go_wp2_with fail
    go_loopg [3, 4] (n + 1) (fun g m i wr => ∃ k : Nat, k ≤ n ∧ i = .int .i64 k ∧ m = .int .i64 ((Pl.depths (t.l.take k) : Nat)) ∧ g = n + 1 - k ∧ Below (w.heap.size + 1) (w.alloc (.cells #[.int .i64 t.op, .int .i64 t.n, .string t.s, .slice sa sn sc, .slice (some ⟨b, off, none⟩) n c] 25)) wr)
    case atStart => exact ⟨0, by omega, rfl, by rw [List.take_zero, Pl.depths_nil]; rfl, by omega, Below.refl _ _⟩
    case round =>
      obtain ⟨k, hk, rfl, rfl, hg, hbw⟩ := hrel
      have hbx := HBX.out.of_eq (hbw.block _ (by omega))
      have d4 := hbx.cell 4 _ rfl
      have hts := Pl.take_sizes t.l k
      have htd := Pl.take_depths t.l k
      have HBW := Lib.hid hbw
      have hw0 : Below w.heap.size w wr := HB.out.trans (hbw.mono (by omega))
      have HW0 := Lib.hid hw0
      by_cases hlt : k < n
      · have hkl : k < t.l.length := by rw [HNL.out]; exact hlt
        have hmem : t.l[k] ∈ t.l := List.getElem_mem hkl
        have hms := Pl.mem_size hmem
        have hmb := Pl.mem_big hmem
        have hxd := Pl.depth_size t.l[k]
        have hsn := Pl.sizes_snoc t.l k hkl
        have hts1 := Pl.take_sizes t.l (k + 1)
        obtain ⟨xo, xn, xs, na, nn, nc, la, ln, lc, -, a0, a1, a2, a3, a4, hxs⟩ := (HKA.out.keep (Same.of_below hw0 HP.out) HPB.out).part k hkl
        have HC := Lib.hid (HIH.out _ hmem wr _ (fun b hb => Nat.lt_of_lt_of_le (HP.out b hb) hw0.size) hxs (by omega))
        have HSN := Lib.hid (Pl.depths_snoc t.l k hkl)
        have HWS := Lib.hid (show w.heap.size + 1 ≤ wr.heap.size from by have := hbw.size; rw [size_alloc] at this; exact this)
        rw [hsn] at hts1
        have hdd := Nat.le_trans hxd hms
        generalize Pl.depths (t.l.take k) = m at *
        generalize t.l[k].depth = mx at *
        clear hbx hbw hw0 hmem hms hmb hxs hsn htd hts
        go_wp2_with fail
        refine HC.out.mono ?_
        rintro e w3 ⟨rfl, hb3⟩
        have hbx3 : Blk w3 w.heap.size 25 #[.int .i64 t.op, .int .i64 t.n, .string t.s, .slice sa sn sc, .slice (some ⟨b, off, none⟩) n c] := (HBX.out.of_eq (HBW.out.block _ (by omega))).of_eq (hb3.block _ (by have := HWS.out; omega))
        have HB3 := Lib.hid (HBW.out.trans (hb3.mono HWS.out))
        clear hb3 hbx3 a0 a1 a2 a3 a4 d4
        go_wp2
        all_goals
          go_roundg (gk - 1)
          case measure => omega
          case rel => exact ⟨k + 1, by omega, by go_num, by rw [HSN.out]; congr 1; omega, by omega, HB3.out⟩
      · have hkn : t.l.take k = t.l := List.take_of_length_le (by rw [HNL.out]; omega)
        rw [hkn] at hts htd ⊢
        have HEK := Lib.hid hkn
        generalize hpl : Pl.depths t.l = m at *
        have HPL := Lib.hid hpl
        clear hbx hbw hw0 hkn hpl
        go_wp2
        go_ret
        exact ⟨by have := HEQ.out; rw [this]; first | rfl | (congr 2; omega), HW0.out⟩
end Go.Proofs.Ytkhpihacjhhklaa
