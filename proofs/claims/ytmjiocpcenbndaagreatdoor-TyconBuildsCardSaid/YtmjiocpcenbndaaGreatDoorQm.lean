/-
  Layer 9: constructors in memory.
-/
import Derived.Test.YtmjiocpcenbndaaGreatDoorKm
import Derived.Test.YtmjiocpcenbndaaGreatDoorQa
namespace Go.Proofs.YtmjiocpcenbndaaGreatDoor
open Go Go.RowKit Go.ChangeShapes Go.WideShapes Go.Deep
open Pl (K Con)

/-- the strings of a slice, at a place -/
def StrsIn (w : World) (b off : Nat) (zs : List ByteArray) : Prop := ∀ j (h : j < zs.length), w.cell? ⟨b, off + j, none⟩ = some (.string zs[j])
/-- a slice of strings, in the blocks P -/
def StrSl (w : World) (P : Nat → Prop) (v : Value) (zs : List ByteArray) : Prop :=
  ∃ a c, v = .slice a zs.length c ∧ zs.length ≤ c ∧ c ≤ maxLen ∧ (a = none → c = 0) ∧ (∀ z ∈ zs, z.size ≤ maxLen) ∧ (zs = [] ∨ ∃ b off, a = some ⟨b, off, none⟩ ∧ P b ∧ StrsIn w b off zs)
/-- the six cells of a node -/
def Cells6 (w : World) (b o : Nat) (v : Value) : Prop :=
  ∃ x0 x1 x2 x3 x4 x5, v = .agg #[x0, x1, x2, x3, x4, x5] ∧ w.cell? ⟨b, o, none⟩ = some x0 ∧ w.cell? ⟨b, o + 1, none⟩ = some x1 ∧ w.cell? ⟨b, o + 2, none⟩ = some x2 ∧ w.cell? ⟨b, o + 3, none⟩ = some x3 ∧ w.cell? ⟨b, o + 4, none⟩ = some x4 ∧ w.cell? ⟨b, o + 5, none⟩ = some x5
mutual
/-- a value is a tree, in the blocks P -/
def ConV (w : World) (P : Nat → Prop) : Con → Value → Prop
  | ⟨op, n, s, k, names, l⟩, v => s.size ≤ maxLen ∧ ∃ kv nv a c, v = .agg #[.int .i64 op, .int .i64 n, .string s, kv, nv, .slice a l.length c] ∧ KidV w P k kv ∧ StrSl w P nv names ∧
      l.length ≤ c ∧ c ≤ maxLen ∧ (a = none → c = 0) ∧ (l = [] ∨ ∃ b off, a = some ⟨b, off, none⟩ ∧ P b ∧ ConsAt w P l b off)
def ConsAt (w : World) (P : Nat → Prop) : List Con → Nat → Nat → Prop
  | [], _, _ => True
  | t :: r, b, off => (∃ v, Cells6 w b off v ∧ ConV w P t v) ∧ ConsAt w P r b (off + 6)
end
/-- a slice of trees -/
def ConSl (w : World) (P : Nat → Prop) (v : Value) (l : List Con) : Prop :=
  ∃ a c, v = .slice a l.length c ∧ l.length ≤ c ∧ c ≤ maxLen ∧ (a = none → c = 0) ∧ (l = [] ∨ ∃ b off, a = some ⟨b, off, none⟩ ∧ P b ∧ ConsAt w P l b off)
theorem conV_iff (w : World) (P : Nat → Prop) (t : Con) (v : Value) : ConV w P t v ↔ t.s.size ≤ maxLen ∧ ∃ kv nv lv, v = .agg #[.int .i64 t.op, .int .i64 t.n, .string t.s, kv, nv, lv] ∧ KidV w P t.kind kv ∧ StrSl w P nv t.names ∧ ConSl w P lv t.l := by
  obtain ⟨op, n, s, k, names, l⟩ := t
  rw [ConV]
  constructor
  · rintro ⟨h0, kv, nv, a, c, rfl, hk, h1, h2, h3, h4, h5⟩
    exact ⟨h0, kv, nv, _, rfl, hk, h1, a, c, rfl, h2, h3, h4, h5⟩
  · rintro ⟨h0, kv, nv, lv, rfl, hk, h1, a, c, rfl, h2, h3, h4, h5⟩
    exact ⟨h0, kv, nv, a, c, rfl, hk, h1, h2, h3, h4, h5⟩
theorem consAt_iff (w : World) (P : Nat → Prop) (l : List Con) : ∀ b off, ConsAt w P l b off ↔ ∀ j (h : j < l.length), ∃ v, Cells6 w b (off + j * 6) v ∧ ConV w P l[j] v := by
  induction l with
  | nil => intro b off; rw [ConsAt]; simp
  | cons t r ih =>
    intro b off
    rw [ConsAt, ih]
    constructor
    · rintro ⟨h0, h1⟩ j hj
      cases j with
      | zero => simpa using h0
      | succ j =>
        have := h1 j (by simpa using hj)
        rw [show off + 6 + j * 6 = off + (j + 1) * 6 from by omega] at this
        simpa using this
    · intro h
      refine ⟨by have := h 0 (Nat.zero_lt_succ _); rw [Nat.zero_mul, Nat.add_zero] at this; exact this, fun j hj => ?_⟩
      have := h (j + 1) (by simpa using hj)
      rw [show off + (j + 1) * 6 = off + 6 + j * 6 from by omega] at this
      simpa using this
theorem StrsIn.keep {w w' : World} {P : Nat → Prop} {b off : Nat} {zs : List ByteArray} (h : StrsIn w b off zs) (hs : Same P w w') (hb : P b) : StrsIn w' b off zs := fun j hj => by
  rw [hs.cell hb]; exact h j hj
theorem StrSl.keep {w w' : World} {P : Nat → Prop} {v : Value} {zs : List ByteArray} (h : StrSl w P v zs) (hs : Same P w w') : StrSl w' P v zs := by
  obtain ⟨a, c, h1, h2, h3, h4, h5, h6⟩ := h
  refine ⟨a, c, h1, h2, h3, h4, h5, ?_⟩
  rcases h6 with h6 | ⟨b, off, h6, h7, h8⟩
  · exact .inl h6
  · exact .inr ⟨b, off, h6, h7, h8.keep hs h7⟩
theorem StrSl.mono {w : World} {P Q : Nat → Prop} {v : Value} {zs : List ByteArray} (h : StrSl w P v zs) (hq : ∀ b, P b → Q b) : StrSl w Q v zs := by
  obtain ⟨a, c, h1, h2, h3, h4, h5, h6⟩ := h
  refine ⟨a, c, h1, h2, h3, h4, h5, ?_⟩
  rcases h6 with h6 | ⟨b, off, h6, h7, h8⟩
  · exact .inl h6
  · exact .inr ⟨b, off, h6, hq b h7, h8⟩
theorem Cells6.keep {w w' : World} {P : Nat → Prop} {b o : Nat} {v : Value} (h : Cells6 w b o v) (hs : Same P w w') (hb : P b) : Cells6 w' b o v := by
  obtain ⟨x0, x1, x2, x3, x4, x5, rfl, h0, h1, h2, h3, h4, h5⟩ := h
  exact ⟨x0, x1, x2, x3, x4, x5, rfl, (hs.cell hb).trans h0, (hs.cell hb).trans h1, (hs.cell hb).trans h2, (hs.cell hb).trans h3, (hs.cell hb).trans h4, (hs.cell hb).trans h5⟩
theorem ConV.keep {w w' : World} {P : Nat → Prop} (hs : Same P w w') : ∀ {t : Con} {v : Value}, ConV w P t v → ConV w' P t v := by
  intro t
  induction t using Con.ind with
  | h t ih =>
    intro v h
    rw [conV_iff] at h ⊢
    obtain ⟨h0, kv, nv, lv, h1, hk, h2, a, c, h3, h4, h5, h6, h7⟩ := h
    refine ⟨h0, kv, nv, lv, h1, hk.keep hs, h2.keep hs, a, c, h3, h4, h5, h6, ?_⟩
    rcases h7 with h7 | ⟨b, off, h7, h8, h9⟩
    · exact .inl h7
    · refine .inr ⟨b, off, h7, h8, ?_⟩
      rw [consAt_iff] at h9 ⊢
      intro j hj
      obtain ⟨x, hx, hv⟩ := h9 j hj
      exact ⟨x, hx.keep hs h8, ih _ (List.getElem_mem hj) hv⟩
theorem ConV.mono {w : World} {P Q : Nat → Prop} (hq : ∀ b, P b → Q b) : ∀ {t : Con} {v : Value}, ConV w P t v → ConV w Q t v := by
  intro t
  induction t using Con.ind with
  | h t ih =>
    intro v h
    rw [conV_iff] at h ⊢
    obtain ⟨h0, kv, nv, lv, h1, hk, h2, a, c, h3, h4, h5, h6, h7⟩ := h
    refine ⟨h0, kv, nv, lv, h1, hk.mono hq, h2.mono hq, a, c, h3, h4, h5, h6, ?_⟩
    rcases h7 with h7 | ⟨b, off, h7, h8, h9⟩
    · exact .inl h7
    · refine .inr ⟨b, off, h7, hq b h8, ?_⟩
      rw [consAt_iff] at h9 ⊢
      intro j hj
      obtain ⟨x, hx, hv⟩ := h9 j hj
      exact ⟨x, hx, ih _ (List.getElem_mem hj) hv⟩
theorem ConsAt.keep {w w' : World} {P : Nat → Prop} (hs : Same P w w') {l : List Con} {b off : Nat} (hb : P b) (h : ConsAt w P l b off) : ConsAt w' P l b off := by
  rw [consAt_iff] at h ⊢
  intro j hj
  obtain ⟨x, hx, hv⟩ := h j hj
  exact ⟨x, hx.keep hs hb, hv.keep hs⟩
theorem ConSl.keep {w w' : World} {P : Nat → Prop} (hs : Same P w w') {v : Value} {l : List Con} (h : ConSl w P v l) : ConSl w' P v l := by
  obtain ⟨a, c, h3, h4, h5, h6, h7⟩ := h
  refine ⟨a, c, h3, h4, h5, h6, ?_⟩
  rcases h7 with h7 | ⟨b, off, h7, h8, h9⟩
  · exact .inl h7
  · exact .inr ⟨b, off, h7, h8, h9.keep hs h8⟩
theorem ConSl.mono {w : World} {P Q : Nat → Prop} (hq : ∀ b, P b → Q b) {v : Value} {l : List Con} (h : ConSl w P v l) : ConSl w Q v l := by
  obtain ⟨a, c, h3, h4, h5, h6, h7⟩ := h
  refine ⟨a, c, h3, h4, h5, h6, ?_⟩
  rcases h7 with h7 | ⟨b, off, h7, h8, h9⟩
  · exact .inl h7
  · refine .inr ⟨b, off, h7, hq b h8, ?_⟩
    rw [consAt_iff] at h9 ⊢
    intro j hj
    obtain ⟨x, hx, hv⟩ := h9 j hj
    exact ⟨x, hx, hv.mono hq⟩
/-- the empty tree -/
theorem conV_none (w : World) (P : Nat → Prop) : ConV w P Pl.Con.none0 (.agg #[.int .i64 0, .int .i64 0, .string ByteArray.empty, .slice none 0 0, .slice none 0 0, .slice none 0 0]) := by
  rw [conV_iff]
  exact ⟨Nat.zero_le _, _, _, _, rfl, kidV_none w P, ⟨none, 0, rfl, Nat.le_refl _, Nat.zero_le _, fun _ => rfl, (fun z hz => by simp [Pl.Con.none0] at hz), .inl rfl⟩, none, 0, rfl, Nat.le_refl _, Nat.zero_le _, fun _ => rfl, .inl rfl⟩

theorem cellsCon : Tryz.prog.cellsOf 28 = 6 := by kernel_rfl
theorem cellsString : Tryz.prog.cellsOf 9 = 1 := by kernel_rfl
theorem cellsInt : Tryz.prog.cellsOf 3 = 1 := by kernel_rfl
theorem cellsStrs : Tryz.prog.cellsOf 25 = 1 := by kernel_rfl
theorem cellsCons : Tryz.prog.cellsOf 26 = 1 := by kernel_rfl
section
variable {H : Type} {enc : TypeId × Value → H} {W : World}
theorem trod_struct6 {P : Program} {w : World} {base : Nat} {spare : Nat → Bool} {held : Bool} {t : TypeId} {f0 f1 f2 f3 f4 f5 : Field} {fuel : Nat} {cs : List Value} {x : DataW H × List MemPlace} (ht : P.underlying t = some (.struct #[f0, f1, f2, f3, f4, f5])) (h : DataW.trod enc P w base spare held fuel t cs = some x) :
    ∃ y0 y1 y2 y3 y4 y5 n, fuel = n + 1 ∧ cs.length = P.cellsOf t ∧ DataW.trod enc P w base spare held n f0.type ((cs.drop f0.offset).take (P.cellsOf f0.type)) = some y0 ∧ DataW.trod enc P w base spare held n f1.type ((cs.drop f1.offset).take (P.cellsOf f1.type)) = some y1 ∧ DataW.trod enc P w base spare held n f2.type ((cs.drop f2.offset).take (P.cellsOf f2.type)) = some y2 ∧ DataW.trod enc P w base spare held n f3.type ((cs.drop f3.offset).take (P.cellsOf f3.type)) = some y3 ∧ DataW.trod enc P w base spare held n f4.type ((cs.drop f4.offset).take (P.cellsOf f4.type)) = some y4 ∧ DataW.trod enc P w base spare held n f5.type ((cs.drop f5.offset).take (P.cellsOf f5.type)) = some y5 := by
  obtain ⟨xs, n, hn, _, hl, hlen, hf⟩ := DataW.trod_struct ht h
  match xs, hlen with
  | [y0, y1, y2, y3, y4, y5], _ => exact ⟨y0, y1, y2, y3, y4, y5, n, hn, hl, hf 0 f0 rfl, hf 1 f1 rfl, hf 2 f2 rfl, hf 3 f3 rfl, hf 4 f4 rfl, hf 5 f5 rfl⟩
theorem trod_strs {spare : Nat → Bool} {held : Bool} {n : Nat} {v : Value} {x : DataW H × List MemPlace} (h : DataW.trod enc Tryz.prog W 0 spare held n 25 [v] = some x) : ∃ zs, StrSl W (· < W.heap.size) v zs := by
  rcases DataW.trod_slice Tryz.underlying25 h with ⟨h1, _⟩ | ⟨a, len, cap, elems, rest, m, _, h1, _, _, hl, hm, hlen, hel, _⟩
  · injection h1 with h1 _
    exact ⟨[], none, 0, h1, Nat.le_refl _, Nat.zero_le _, fun _ => rfl, (fun z hz => by cases hz), .inl rfl⟩
  · injection h1 with h1 _
    subst h1
    obtain ⟨b, off, spot⟩ := a
    have each : ∀ i, i < len → ∃ z : ByteArray, W.cell? ((⟨b, off, spot⟩ : Addr).add i) = some (.string z) ∧ z.size ≤ maxLen := by
      intro i hi
      have g := hel i hi
      rw [cellsString] at g
      rw [List.getElem?_eq_getElem (by omega), Option.bind_eq_some_iff] at g
      obtain ⟨cs, g1, g2⟩ := g
      obtain ⟨_, hlen', hcell⟩ := World.cells?_some g1
      obtain ⟨z, e0, _, hz⟩ := DataW.trod_string Tryz.underlying9 g2
      subst e0
      have := hcell 0 (by omega)
      refine ⟨z, ?_, hz⟩
      simpa [Deep.add_add] using this
    obtain ⟨Z, hZ⟩ := choose_lt each
    rcases Nat.eq_zero_or_pos len with h0 | hpos
    · subst h0
      exact ⟨[], _, cap, rfl, by simp, hm, (fun h => by cases h), (fun z hz => by cases hz), .inl rfl⟩
    · have hspot : spot = none := by
        have := (hZ 0 hpos).1
        simpa [Addr.add] using World.cell?_spot this
      subst hspot
      refine ⟨(List.range len).map Z, _, cap, by simp, by simpa using hl, hm, (fun h => by cases h), fun z hz => ?_, .inr ⟨b, off, rfl, lt_of_cell (hZ 0 hpos).1, fun j hj => ?_⟩⟩
      · rw [List.mem_map] at hz
        obtain ⟨i, hi, rfl⟩ := hz
        exact (hZ i (by simpa using hi)).2
      · have hj' : j < len := by simpa using hj
        have := (hZ j hj').1
        rw [add_plain] at this
        rw [List.getElem_map, List.getElem_range]
        exact this
set_option maxRecDepth 100000 in
theorem slice_cons {spare : Nat → Bool} {held : Bool} {n : Nat} {v : Value} {x : DataW H × List MemPlace} (ih : ∀ m, m < n → ∀ (cs : List Value) (x : DataW H × List MemPlace), DataW.trod enc Tryz.prog W 0 spare held m 28 cs = some x → ∃ t, ConV W (· < W.heap.size) t (.agg cs.toArray)) (k5 : DataW.trod enc Tryz.prog W 0 spare held n 26 [v] = some x) : ∃ l, ConSl W (· < W.heap.size) v l := by
  rcases DataW.trod_slice Tryz.underlying26 k5 with ⟨h1, _⟩ | ⟨a, len, cap, elems, rest, q, hq, h1, _, _, hl, hmx, hlen, hel, _⟩
  · injection h1 with h1 _
    exact ⟨[], none, 0, h1, Nat.le_refl _, Nat.zero_le _, fun _ => rfl, .inl rfl⟩
  · injection h1 with h1 _
    subst h1
    obtain ⟨b, off, spot⟩ := a
    have each : ∀ i, i < len → ∃ t : Con, ∃ c0 c1 c2 c3 c4 c5, ConV W (· < W.heap.size) t (.agg #[c0, c1, c2, c3, c4, c5]) ∧ W.cell? ((⟨b, off, spot⟩ : Addr).add (i * 6)) = some c0 ∧ W.cell? ((⟨b, off, spot⟩ : Addr).add (i * 6 + 1)) = some c1 ∧ W.cell? ((⟨b, off, spot⟩ : Addr).add (i * 6 + 2)) = some c2 ∧ W.cell? ((⟨b, off, spot⟩ : Addr).add (i * 6 + 3)) = some c3 ∧ W.cell? ((⟨b, off, spot⟩ : Addr).add (i * 6 + 4)) = some c4 ∧ W.cell? ((⟨b, off, spot⟩ : Addr).add (i * 6 + 5)) = some c5 := by
      intro i hi
      have g := hel i hi
      rw [cellsCon] at g
      rw [List.getElem?_eq_getElem (by omega), Option.bind_eq_some_iff] at g
      obtain ⟨cs', g1, g2⟩ := g
      obtain ⟨_, hlen', hcell⟩ := World.cells?_some g1
      obtain ⟨t, ht⟩ := ih q (by omega) cs' _ g2
      match cs', hlen' with
      | [c0, c1, c2, c3, c4, c5], _ =>
        have f0 := hcell 0 (by omega)
        have f1 := hcell 1 (by omega)
        have f2 := hcell 2 (by omega)
        have f3 := hcell 3 (by omega)
        have f4 := hcell 4 (by omega)
        have f5 := hcell 5 (by omega)
        rw [Deep.add_add] at f0 f1 f2 f3 f4 f5
        exact ⟨t, c0, c1, c2, c3, c4, c5, by simpa using ht, by simpa using f0, by simpa using f1, by simpa using f2, by simpa using f3, by simpa using f4, by simpa using f5⟩
    rcases Nat.eq_zero_or_pos len with h0 | hpos
    · subst h0
      exact ⟨[], _, cap, rfl, by simp, hmx, (fun h => by cases h), .inl rfl⟩
    · have hspot : spot = none := by
        obtain ⟨_, _, _, _, _, _, _, _, h, _⟩ := each 0 hpos
        simpa [Addr.add] using World.cell?_spot h
      subst hspot
      have hb : b < W.heap.size := by
        obtain ⟨_, _, _, _, _, _, _, _, h, _⟩ := each 0 hpos
        exact lt_of_cell h
      obtain ⟨T, hT⟩ := choose_lt each
      refine ⟨(List.range len).map T, _, cap, by simp, by simpa using hl, hmx, (fun h => by cases h), .inr ⟨b, off, rfl, hb, ?_⟩⟩
      rw [consAt_iff]
      intro j hj
      have hj' : j < len := by simpa using hj
      obtain ⟨c0, c1, c2, c3, c4, c5, g, g0, g1, g2, g3, g4, g5⟩ := hT j hj'
      rw [add_plain] at g0 g1 g2 g3 g4 g5
      rw [List.getElem_map, List.getElem_range]
      exact ⟨_, ⟨c0, c1, c2, c3, c4, c5, rfl, g0, g1, g2, g3, g4, g5⟩, g⟩
set_option maxRecDepth 100000 in
theorem trod_con {spare : Nat → Bool} {held : Bool} : ∀ (n : Nat) (cs : List Value) (x : DataW H × List MemPlace), DataW.trod enc Tryz.prog W 0 spare held n 28 cs = some x → ∃ t, ConV W (· < W.heap.size) t (.agg cs.toArray) := by
  intro n
  induction n using Nat.strongRecOn with
  | _ n ih =>
    intro cs x h
    obtain ⟨y0, y1, y2, y3, y4, y5, m, hm, hcs, k0, k1, k2, k3, k4, k5⟩ := trod_struct6 Tryz.underlying28 h
    rw [cellsCon] at hcs
    match cs, hcs with
    | [v0, v1, v2, v3, v4, v5], _ =>
      simp only [cellsInt, cellsString, cellsStrs, cellsCons, cellsKind, List.drop_succ_cons, List.drop_zero, List.take_succ_cons, List.take_zero] at k0 k1 k2 k3 k4 k5
      obtain ⟨op, e0, _, _⟩ := DataW.trod_int Tryz.underlying3 k0
      obtain ⟨nn, e1, _, _⟩ := DataW.trod_int Tryz.underlying3 k1
      obtain ⟨s, e2, _, hs⟩ := DataW.trod_string Tryz.underlying9 k2
      obtain ⟨kd, kx, ekx, hkx⟩ := trod_kind _ _ _ k3
      injection ekx with ekx
      have ekx : v3 = kx := by simpa using ekx
      subst ekx
      obtain ⟨names, hn⟩ := trod_strs k4
      injection e0 with e0 _
      injection e1 with e1 _
      injection e2 with e2 _
      subst e0 e1 e2
      obtain ⟨l, hl⟩ := slice_cons (fun q hq => ih q (by omega)) k5
      refine ⟨⟨op, nn, s, kd, names, l⟩, ?_⟩
      rw [conV_iff]
      exact ⟨hs, v3, v4, v5, rfl, hkx, hn, hl⟩
set_option maxRecDepth 100000 in
/-- an argument that is a tree -/
theorem open_con {base : Nat} {v : Value} {d : DataW H} {ps : List MemPlace} (hval : Value.okWide Tryz.prog W .any base 28 v) (h : DataW.Trod enc Tryz.prog W 0 (fun _ => true) true 28 v d ps) : ∃ t, ConV W (· < W.heap.size) t v := by
  obtain ⟨cs, rfl, _⟩ := okWide_struct Tryz.underlying28 hval
  obtain ⟨fuel, hf⟩ := h
  obtain ⟨t, ht⟩ := trod_con fuel _ _ hf
  exact ⟨t, by simpa [Value.cells] using ht⟩
set_option maxRecDepth 100000 in
/-- an argument that is a slice of constructors -/
theorem open_cons {base : Nat} {v : Value} {d : DataW H} {ps : List MemPlace} (hval : Value.okWide Tryz.prog W .any base 26 v) (h : DataW.Trod enc Tryz.prog W 0 (fun _ => true) true 26 v d ps) : ∃ l, ConSl W (· < W.heap.size) v l := by
  obtain ⟨fuel, hf⟩ := h
  obtain ⟨a, n, c, rfl, _⟩ := okWide_slice Tryz.underlying26 hval
  exact slice_cons (fun m _ => trod_con m) hf
end
/-- a constructor's value taken apart -/
theorem ConV.open {w : World} {P : Nat → Prop} {t : Con} {v : Value} (h : ConV w P t v) : ∃ kv nv a c, v = .agg #[.int .i64 t.op, .int .i64 t.n, .string t.s, kv, nv, .slice a t.l.length c] ∧ t.s.size ≤ maxLen ∧ KidV w P t.kind kv ∧ StrSl w P nv t.names ∧ t.l.length ≤ c ∧ c ≤ maxLen ∧ (∀ j (hj : j < t.l.length), ∃ b off x, a = some ⟨b, off, none⟩ ∧ P b ∧ Cells6 w b (off + j * 6) x ∧ ConV w P t.l[j] x) := by
  rw [conV_iff] at h
  obtain ⟨h0, kv, nv, lv, h1, hk, h2, a, c, h3, h4, h5, h6, h7⟩ := h
  subst h3
  refine ⟨kv, nv, a, c, h1, h0, hk, h2, h4, h5, fun j hj => ?_⟩
  rcases h7 with h7 | ⟨b, off, h7, h8, h9⟩
  · rw [h7] at hj
    exact absurd hj (Nat.not_lt_zero _)
  · obtain ⟨y, e1, e2⟩ := (consAt_iff _ _ _ _ _).1 h9 j hj
    exact ⟨b, off, y, h7, h8, e1, e2⟩
theorem ConSl.each {w : World} {P : Nat → Prop} {l : List Con} {v : Value} (h : ConSl w P v l) : ∃ a c, v = .slice a l.length c ∧ l.length ≤ c ∧ c ≤ maxLen ∧ (∀ j (hj : j < l.length), ∃ b off x, a = some ⟨b, off, none⟩ ∧ P b ∧ Cells6 w b (off + j * 6) x ∧ ConV w P l[j] x) := by
  obtain ⟨a, c, h3, h4, h5, h6, h7⟩ := h
  refine ⟨a, c, h3, h4, h5, fun j hj => ?_⟩
  rcases h7 with h7 | ⟨b, off, h7, h8, h9⟩
  · rw [h7] at hj
    exact absurd hj (Nat.not_lt_zero _)
  · obtain ⟨y, e1, e2⟩ := (consAt_iff _ _ _ _ _).1 h9 j hj
    exact ⟨b, off, y, h7, h8, e1, e2⟩
theorem ConV.below {w w' : World} {P : Nat → Prop} {t : Con} {v : Value} (h : ConV w P t v) (hP : ∀ b, P b → b < w.heap.size) (hb : Below w.heap.size w w') : ConV w' P t v := h.keep (Same.of_below hb hP)
theorem ConSl.below {w w' : World} {P : Nat → Prop} {t : List Con} {v : Value} (h : ConSl w P v t) (hP : ∀ b, P b → b < w.heap.size) (hb : Below w.heap.size w w') : ConSl w' P v t := h.keep (Same.of_below hb hP)
end Go.Proofs.YtmjiocpcenbndaaGreatDoor
