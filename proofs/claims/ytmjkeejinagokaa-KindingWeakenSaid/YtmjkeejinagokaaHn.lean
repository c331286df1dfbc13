/-
  Layer 9: several texts in one (Uw Ux).
-/
import Derived.Test.YtmjkeejinagokaaHm
import Derived.Shelf.Spec.SlicesInsert
import Derived.Lib.AppendZerosOnto
import Derived.Laws.NewBlocks
import Derived.Test.YtmjkeejinagokaaKc
import Derived.Deep.RegionHeld3
namespace Go.Proofs.Ytmjkeejinagokaa
open Go Go.RowKit
open Pl (K Con KR KS kof kofs ownK inK appK)
set_option linter.unusedSimpArgs false
set_option linter.unusedVariables false

/-- a row with an element put in -/
def insAt {α : Type} (l : List α) (i : Nat) (x : α) : List α := l.take i ++ x :: l.drop i
theorem insAt_len {α : Type} (l : List α) (i : Nat) (x : α) (h : i ≤ l.length) : (insAt l i x).length = l.length + 1 := by
  unfold insAt
  rw [List.length_append, List.length_cons, List.length_take, List.length_drop]
  omega
theorem insAt_lo {α : Type} (l : List α) (i j : Nat) (x : α) (h : i ≤ l.length) (hj : j < i) : (insAt l i x)[j]? = l[j]? := by
  unfold insAt
  rw [List.getElem?_append_left (by rw [List.length_take]; omega), List.getElem?_take_of_lt hj]
theorem insAt_at {α : Type} (l : List α) (i : Nat) (x : α) (h : i ≤ l.length) : (insAt l i x)[i]? = some x := by
  unfold insAt
  rw [List.getElem?_append_right (by rw [List.length_take]; omega), List.length_take, Nat.min_eq_left h, Nat.sub_self]
  rfl
theorem insAt_hi {α : Type} (l : List α) (i j : Nat) (x : α) (h : i ≤ l.length) (hj : i < j) : (insAt l i x)[j]? = l[j - 1]? := by
  unfold insAt
  rw [List.getElem?_append_right (by rw [List.length_take]; omega), List.length_take, Nat.min_eq_left h]
  obtain ⟨m, rfl⟩ : ∃ m, j = i + 1 + m := ⟨j - i - 1, by omega⟩
  rw [show i + 1 + m - i = m + 1 from by omega, List.getElem?_cons_succ, List.getElem?_drop, show i + 1 + m - 1 = i + m from by omega]
theorem KindRow.ins {w : World} {P : Nat → Prop} {us : List Value} {g : List K} {kx : Value} {k : K} {i : Nat} (h : KindRow w P us g) (hk : KidV w P k kx) (hi : i ≤ g.length) : KindRow w P (insAt us i kx) (insAt g i k) := by
  have hl := h.1
  refine ⟨by rw [insAt_len _ _ _ (by omega), insAt_len _ _ _ hi, hl], fun j hj => ?_⟩
  rw [insAt_len _ _ _ hi] at hj
  rcases Nat.lt_trichotomy j i with hlt | rfl | hgt
  · obtain ⟨x, h1, h2⟩ := h.2 j (by omega)
    refine ⟨x, by rw [insAt_lo _ _ _ _ (by omega) hlt]; exact h1, ?_⟩
    have e := insAt_lo g i j k hi hlt
    rw [List.getElem?_eq_getElem (by rw [insAt_len _ _ _ hi]; omega), List.getElem?_eq_getElem (by omega)] at e
    injection e with e
    rw [e]; exact h2
  · refine ⟨kx, insAt_at _ _ _ (by omega), ?_⟩
    have e := insAt_at g j k hi
    rw [List.getElem?_eq_getElem (by rw [insAt_len _ _ _ hi]; omega)] at e
    injection e with e
    rw [e]; exact hk
  · obtain ⟨x, h1, h2⟩ := h.2 (j - 1) (by omega)
    refine ⟨x, by rw [insAt_hi _ _ _ _ (by omega) hgt]; exact h1, ?_⟩
    have e := insAt_hi g i j k hi hgt
    rw [List.getElem?_eq_getElem (by rw [insAt_len _ _ _ hi]; omega), List.getElem?_eq_getElem (by omega)] at e
    injection e with e
    rw [e]; exact h2
theorem heap_setCells (b : Nat) : ∀ (vs : List Value) (o : Nat) (w : World) (q : Nat), q ≠ b → (w.setCells b o vs).heap[q]? = w.heap[q]?
  | [], _, _, _, _ => rfl
  | v :: r, o, w, q, h => by rw [World.setCells, heap_setCells b r _ _ q h, Below.heap_setCell _ _ _ _ h]
theorem size_setCells (b : Nat) : ∀ (vs : List Value) (o : Nat) (w : World), (w.setCells b o vs).heap.size = w.heap.size
  | [], _, _ => rfl
  | v :: r, o, w => by rw [World.setCells, size_setCells b r, size_set]
theorem below_setCells {B b : Nat} {a : World} (hb : B ≤ b) : ∀ (vs : List Value) (o : Nat) (w : World), Below B a w → Below B a (w.setCells b o vs)
  | [], _, _, h => h
  | v :: r, o, w, h => below_setCells hb r (o + 1) _ (h.setCell (p := ⟨b, o, none⟩) hb v)
/-- the cells of a row behind the two copies, in either order -/
theorem cells_two {w : World} {b i : Nat} {us : List Value} {kx : Value} (hi : i < us.length) (hsp : ∀ j, j < us.length + 1 → (w.cell? ⟨b, j, none⟩).isSome = true) (hlo : ∀ j v, j < i → us[j]? = some v → w.cell? ⟨b, j, none⟩ = some v) :
    ∀ j v, (insAt us i kx)[j]? = some v → ((w.setCells b (i + 1) (us.drop i)).setCells b i [kx]).cell? ⟨b, j, none⟩ = some v := by
  intro j v hv
  have hdl : (us.drop i).length = us.length - i := List.length_drop
  have hsp1 : ∀ j, j < us.length + 1 → ((w.setCells b (i + 1) (us.drop i)).cell? ⟨b, j, none⟩).isSome = true := fun j hj => isSome_setCells b _ _ _ (fun t ht => hsp _ (by omega)) _ (hsp j hj)
  rcases Nat.lt_trichotomy j i with hlt | rfl | hgt
  · rw [insAt_lo _ _ _ _ (by omega) hlt] at hv
    rw [World.cell?_setCells_out b _ _ _ _ (fun _ _ => .inl (show j < i from hlt)), World.cell?_setCells_out b _ _ _ _ (fun _ _ => .inl (show j < i + 1 by omega))]
    exact hlo j v hlt hv
  · rw [insAt_at _ _ _ (by omega)] at hv
    have h5 : ((w.setCells b (j + 1) (us.drop j)).setCells b j [kx]).cell? ⟨b, j, none⟩ = some kx := World.cell?_setCells_in b [kx] j (w.setCells b (j + 1) (us.drop j)) (fun t ht => hsp1 _ (by have : t < 1 := ht; omega)) 0 (by simp)
    exact h5.trans hv
  · rw [insAt_hi _ _ _ _ (by omega) hgt] at hv
    have hju : j - 1 < us.length := by
      rcases Nat.lt_or_ge (j - 1) us.length with h | h
      · exact h
      · rw [List.getElem?_eq_none h] at hv; cases hv
    rw [World.cell?_setCells_out b _ _ _ _ (fun _ _ => .inr (show i + 1 ≤ j by omega))]
    have := World.cell?_setCells_in b (us.drop i) (i + 1) w (fun t ht => hsp _ (by omega)) (j - 1 - i) (by omega)
    rw [show i + 1 + (j - 1 - i) = j from by omega] at this
    rw [this, List.getElem_drop]
    rw [List.getElem?_eq_getElem hju] at hv
    injection hv with hv
    rw [← hv]
    congr 2
    omega
theorem cells_owt {w : World} {b i : Nat} {us : List Value} {kx : Value} (hi : i < us.length) (hsp : ∀ j, j < us.length + 1 → (w.cell? ⟨b, j, none⟩).isSome = true) (hlo : ∀ j v, j < i → us[j]? = some v → w.cell? ⟨b, j, none⟩ = some v) :
    ∀ j v, (insAt us i kx)[j]? = some v → ((w.setCells b i [kx]).setCells b (i + 1) (us.drop i)).cell? ⟨b, j, none⟩ = some v := by
  intro j v hv
  have hdl : (us.drop i).length = us.length - i := List.length_drop
  have hsp1 : ∀ j, j < us.length + 1 → ((w.setCells b i [kx]).cell? ⟨b, j, none⟩).isSome = true := fun j hj => isSome_setCells b _ _ _ (fun t ht => hsp _ (by have : t < 1 := ht; omega)) _ (hsp j hj)
  rcases Nat.lt_trichotomy j i with hlt | rfl | hgt
  · rw [insAt_lo _ _ _ _ (by omega) hlt] at hv
    rw [World.cell?_setCells_out b _ _ _ _ (fun _ _ => .inl (show j < i + 1 by omega)), World.cell?_setCells_out b _ _ _ _ (fun _ _ => .inl (show j < i from hlt))]
    exact hlo j v hlt hv
  · rw [insAt_at _ _ _ (by omega)] at hv
    rw [World.cell?_setCells_out b _ _ _ _ (fun _ _ => .inl (show j < j + 1 by omega))]
    have h5 : (w.setCells b j [kx]).cell? ⟨b, j, none⟩ = some kx := World.cell?_setCells_in b [kx] j w (fun t ht => hsp _ (by have : t < 1 := ht; omega)) 0 (by simp)
    exact h5.trans hv
  · rw [insAt_hi _ _ _ _ (by omega) hgt] at hv
    have hju : j - 1 < us.length := by
      rcases Nat.lt_or_ge (j - 1) us.length with h | h
      · exact h
      · rw [List.getElem?_eq_none h] at hv; cases hv
    have := World.cell?_setCells_in b (us.drop i) (i + 1) (w.setCells b i [kx]) (fun t ht => hsp1 _ (by omega)) (j - 1 - i) (by omega)
    rw [show i + 1 + (j - 1 - i) = j from by omega] at this
    rw [this, List.getElem_drop]
    rw [List.getElem?_eq_getElem hju] at hv
    injection hv with hv
    rw [← hv]
    congr 2
    omega
/-- cells that hold kinds, read as a slice -/
theorem cells_ksl {w : World} {P Q : Nat → Prop} {b n c : Nat} {vs : List Value} {l : List K} (hn : l.length = n) (hc : n ≤ c) (hm : c ≤ maxLen) (hcell : ∀ j v, vs[j]? = some v → w.cell? ⟨b, j, none⟩ = some v) (hr : KindRow w P vs l) (hQ : ∀ q, P q → Q q) (hb : Q b) :
    KSl w Q (.slice (some ⟨b, 0, none⟩) n c) l := by
  subst hn
  refine (kidV_iff _ _ _ _).2 ⟨_, c, rfl, hc, hm, fun h => (by cases h), .inr ⟨b, 0, rfl, hb, (kidsK_iff _ _ _ _ _).2 fun j hj => ?_⟩⟩
  obtain ⟨x, hx, hk⟩ := hr.2 j hj
  exact ⟨x, by rw [Nat.zero_add]; exact hcell j x hx, hk.mono hQ⟩
/-- a row with a kind put in: other blocks from B on may have changed -/
def InsP (B : Nat) (l : List K) (n : Nat) (w : World) (e : Ending) (w' : World) : Prop := (∃ a c, e = .returned (.slice a n c) ∧ KSl w' (· < w'.heap.size) (.slice a n c) l) ∧ Below B w w'
theorem ins_end {B n : Nat} {g : List K} {us : List Value} {sv kx sv' : Value} {k : K} {R : Nat → Prop} {w w8 : World} (hn : n = g.length) (hrow : w.ownsRow B 24 1 sv n us) (hkids : KindRow w R us g) (hR : ∀ b, R b → b < w.heap.size ∧ sv.ownBlock ≠ some b) (hk : KidV w R k kx)
    (hown : w8.ownsRow B 24 1 sv' (n + 1) (us ++ [kx])) (hgrow : w.grownBy w8 sv.ownBlock) (hB : B ≤ w.heap.size) : InsP B (insAt g n k) (n + 1) w (.returned sv') w8 := by
  subst hn
  obtain ⟨sa, sc, rfl, -⟩ := row_form hown
  have hS : Same R w w8 := fun q hq => hgrow.block q (hR q hq).1 (fun e => (hR q hq).2 e.symm)
  have e : insAt g g.length k = g ++ [k] := by unfold insAt; rw [List.take_length, List.drop_length]
  refine ⟨⟨sa, sc, rfl, ?_⟩, (Below.refl _ _).grown hgrow hB (fun j hj => (hrow.lt j hj).1)⟩
  rw [e]
  exact row_ksl hown (by rw [List.length_append]; rfl) ((hkids.keep hS).push (hk.keep hS)) (fun q hq => Nat.lt_of_lt_of_le (hR q hq).1 hgrow.size) (fun q h1 h2 => h2)
set_option maxRecDepth 100000 in
set_option maxHeartbeats 2000000 in
/-- at the end -/
theorem kins_end (B n : Nat) (g : List K) (us : List Value) (sv kx : Value) (k : K) (R : Nat → Prop) (vb : Nat) (w : World) (hn : n = g.length) (hrow : w.ownsRow B 24 1 sv n us) (hkids : KindRow w R us g) (hR : ∀ b, R b → b < w.heap.size ∧ sv.ownBlock ≠ some b) (hk : KidV w R k kx)
    (hv : Blk w vb 24 #[kx]) (hB : B ≤ w.heap.size) (hlen : n ≤ 100000) :
    Calls Try.prog 15 #[sv, .int .i64 n, .slice (some ⟨vb, 0, none⟩) 1 1] w (InsP B (insAt g n k) (n + 1) w) := by
  obtain ⟨i28, hi0, hz0, hz1, hz2⟩ := info3 infoKind
  obtain ⟨ka, kc, rfl⟩ := hk.shape
  obtain ⟨sa, sc, hsv, -⟩ := row_form hrow
  subst hsv
  generalize hkl : k.l.length = kn at *
  have HROW := Lib.hid hrow
  have HKR := Lib.hid hkids
  have HR := Lib.hid hR
  have HK := Lib.hid hk
  have HN := Lib.hid hn
  have hsc : n ≤ sc ∧ sc ≤ 9223372036854775807 := by
    rcases hrow.2 with ⟨e, h0⟩ | ⟨q, cap, cur, e, -, -, h1, h2, -, -⟩
    · injection e with e1 e2 e3
      omega
    · injection e with e1 e2 e3
      subst e3
      unfold maxLen at h2
      omega
  have hnone : sa = none → n = 0 ∧ sc = 0 := by
    intro h
    subst h
    rcases hrow.2 with ⟨e, h0⟩ | ⟨q, cap, cur, e, -⟩
    · injection e with e1 e2 e3
      exact ⟨h0, e3⟩
    · injection e with e1 e2 e3
      cases e1
  have HNEW := Lib.hid (show ∀ j u, [Value.slice ka kn kc][j]? = some u → w.cell? ((⟨vb, 0, none⟩ : Addr).add j) = some u from World.news_of_block (cs := #[.slice ka kn kc]) (t := 24) (fr := (0, 0)) hv)
  clear hrow hkids hR hk hv hn hkl
  go_enter Try.func15, Try.ntmps15
  cases sa with
  | none =>
    obtain ⟨rfl, rfl⟩ := hnone rfl
    clear hnone hsc
    go_wp2_with (at_builtin; refine wpList_append_lies _ rfl _ _ 22 rfl B 24 i28 (.agg #[.slice none 0 0]) 1 24 Try.underlying22 hi0 hz0 hz1 hz2 rfl (by decide) _ _ _ rfl HROW.out ⟨vb, 0, none⟩ 1 1 [.slice ka kn kc] rfl rfl ?c1 ?c2 (by decide) ?c3 ?c4 ?c5 w.heap.size rfl ?_)
    case c1 => exact HNEW.out
    case c2 => simp [Value.oneCell']
    case c3 => unfold maxLen; omega
    case c4 => omega
    case c5 => exact hB
    intro gg cap w8 hown hgrow hat hlt8
    have HO := Lib.hid hown
    have HG := Lib.hid hgrow
    clear hown hgrow hat hlt8 HNEW
    go_wp2
    go_ret
    exact ins_end HN.out HROW.out HKR.out HR.out HK.out HO.out HG.out hB
  | some ad =>
    clear hnone
    by_cases hcn : sc = n
    · subst hcn
      go_wp2_with (at_builtin; refine wpList_append_lies _ rfl _ _ 22 rfl B 24 i28 (.agg #[.slice none 0 0]) 1 24 Try.underlying22 hi0 hz0 hz1 hz2 rfl (by decide) _ _ _ rfl HROW.out ⟨vb, 0, none⟩ 1 1 [.slice ka kn kc] rfl rfl ?c1 ?c2 (by decide) ?c3 ?c4 ?c5 w.heap.size rfl ?_)
      case c1 => exact HNEW.out
      case c2 => simp [Value.oneCell']
      case c3 => unfold maxLen; omega
      case c4 => omega
      case c5 => exact hB
      intro gg cap w8 hown hgrow hat hlt8
      have HO := Lib.hid hown
      have HG := Lib.hid hgrow
      clear hown hgrow hat hlt8 HNEW
      go_wp2
      go_ret
      exact ins_end HN.out HROW.out HKR.out HR.out HK.out HO.out HG.out hB
    · have hcn2 : ¬ (n = sc) := fun e => hcn e.symm
      go_wp2_with (at_builtin; refine wpList_append_lies _ rfl _ _ 22 rfl B 24 i28 (.agg #[.slice none 0 0]) 1 24 Try.underlying22 hi0 hz0 hz1 hz2 rfl (by decide) _ _ _ rfl HROW.out ⟨vb, 0, none⟩ 1 1 [.slice ka kn kc] rfl rfl ?c1 ?c2 (by decide) ?c3 ?c4 ?c5 w.heap.size rfl ?_)
      case c1 => exact HNEW.out
      case c2 => simp [Value.oneCell']
      case c3 => unfold maxLen; omega
      case c4 => omega
      case c5 => exact hB
      intro gg cap w8 hown hgrow hat hlt8
      have HO := Lib.hid hown
      have HG := Lib.hid hgrow
      clear hown hgrow hat hlt8 HNEW
      go_wp2
      go_ret
      exact ins_end HN.out HROW.out HKR.out HR.out HK.out HO.out HG.out hB
set_option maxRecDepth 100000 in
set_option maxHeartbeats 2000000 in
/-- there is room, and it isn't the end -/
theorem kins_shift (b n c i vb : Nat) (us : List Value) (ka : Option Addr) (kn kc : Nat) (cur : Array Value) (w : World) (hi : i < n) (hroom : n + 1 ≤ c) (hc63 : c ≤ 9223372036854775807) (hvb : vb ≠ b) (hul : us.length = n) (hb : Blk w b 24 cur) (hcur : cur.size = c)
    (hus : ∀ j v, us[j]? = some v → w.cell? ⟨b, j, none⟩ = some v) (h1 : ∀ v ∈ us, v.oneCell' = true) (hv : Blk w vb 24 #[.slice ka kn kc]) :
    Calls Try.prog 15 #[.slice (some ⟨b, 0, none⟩) n c, .int .i64 i, .slice (some ⟨vb, 0, none⟩) 1 1] w fun e w' =>
      e = .returned (.slice (some ⟨b, 0, none⟩) (n + 1) c) ∧ w' = (w.drew.setCells b (i + 1) (us.drop i)).setCells b i [.slice ka kn kc] := by
  obtain ⟨i28, hi0, hz0, hz1, hz2⟩ := info3 infoKind
  have hsz : (Try.prog.info? 24).map (·.size) = some 1 := by rw [hi0]; simp [hz1]
  have hsize : ∀ w, (Go.sizeOf 24).run Try.prog w = .ok 1 w := Try.sizeOf24
  have hshv : w.shape? vb = some (24, 1) := by
    unfold World.shape?
    rw [show w.heap[vb]? = _ from hv]
    rfl
  have hshb : w.shape? b = some (24, c) := by
    unfold World.shape?
    rw [show w.heap[b]? = _ from hb]
    simp [hcur]
  have hfr : ∀ j, w.frozen? ⟨vb, j, none⟩ = false := fun j => hv.thaw j
  have hfb : ∀ j, w.frozen? ⟨b, j, none⟩ = false := fun j => hb.thaw j
  have hsp : ∀ j, j < n + 1 → (w.cell? ⟨b, j, none⟩).isSome = true := fun j hj => by
    rw [hb.cell j cur[j] (Array.getElem?_eq_getElem (by omega))]
    rfl
  have hov : ∀ lb cb, (callFunc 39 #[.slice (some ⟨vb, 0, none⟩) 1 1, .slice (some ⟨b, i + 1, none⟩) lb cb]).run Try.prog w = .ok (.value (.bool false)) w := fun lb cb => by
    rw [run_callFunc_extern Try.func39 (by kernel_rfl) (by kernel_rfl) (by kernel_rfl) (e := Extern.SlicesOverlaps.overlaps #[22, 22] #[4]) (by kernel_rfl),
      Lib.run_overlaps_apart w 22 4 24 Try.underlying22 1 hsize ⟨vb, 0, none⟩ ⟨b, i + 1, none⟩ 1 1 lb cb hvb _ _ 1 c hshv hshb (by omega) (hfr 0) (hfr 1)]
    rfl
  have hdl : (us.drop i).length = n - i := by rw [List.length_drop, hul]
  have hcp1 : ∀ ty dc sc, (Builtin.copy_ #[22, 22] ty #[.slice (some ⟨b, i + 1, none⟩) (n + 1 - (i + 1)) dc, .slice (some ⟨b, i, none⟩) (n + 1 - i) sc]).run Try.prog w.drew = .ok (goInt (us.drop i).length) (w.drew.setCells b (i + 1) (us.drop i)) := fun ty dc sc =>
    run_copy_cells w.drew _ _ ty 24 b (i + 1) (n + 1 - (i + 1)) dc ⟨b, i, none⟩ (n + 1 - i) sc (us.drop i) Try.underlying22 hsz (by rw [hdl]; simp only [Nat.min_def]; split <;> omega)
      (fun j v hj => by rw [Addr.add_lit]; exact hus (i + j) v (by rwa [List.getElem?_drop] at hj))
      (fun j hj => hsp _ (by omega)) (fun j hj => hfb _) (fun v hv => h1 v (List.mem_of_mem_drop hv))
  obtain ⟨W1, hW1⟩ : ∃ W1, W1 = w.drew.setCells b (i + 1) (us.drop i) := ⟨_, rfl⟩
  have hsp1 : ∀ k, k < n + 1 → (W1.cell? ⟨b, k, none⟩).isSome = true := fun k hk => by
    rw [hW1]
    exact isSome_setCells b (us.drop i) (i + 1) w.drew (fun j hj => hsp (i + 1 + j) (by omega)) k (hsp k hk)
  have hcp2 : ∀ (W : World), (∀ x, W.cell? x = W1.cell? x) → (∀ x, W.frozen? x = W1.frozen? x) → ∀ ty dc, (Builtin.copy_ #[22, 22] ty #[.slice (some ⟨b, i, none⟩) (n + 1 - i) dc, .slice (some ⟨vb, 0, none⟩) 1 1]).run Try.prog W = .ok (goInt 1) (W.setCells b i [.slice ka kn kc]) := fun W hWc hWf ty dc =>
    run_copy_cells W _ _ ty 24 b i (n + 1 - i) dc ⟨vb, 0, none⟩ 1 1 [.slice ka kn kc] Try.underlying22 hsz (by show 1 = Nat.min 1 (n + 1 - i); simp only [Nat.min_def]; split <;> omega)
      (fun j v hj => by
        rw [Addr.add_lit, hWc, hW1, World.cell?_setCells_out b _ _ _ _ (fun h _ => absurd h hvb)]
        have hj0 : j = 0 := by
          rcases Nat.eq_zero_or_pos j with h | h
          · exact h
          · rw [List.getElem?_eq_none (show [Value.slice ka kn kc].length ≤ j from h)] at hj; cases hj
        subst hj0
        exact hv.cell 0 v hj)
      (fun j hj => by rw [hWc]; exact hsp1 _ (by have : j < 1 := hj; omega)) (fun j hj => by rw [hWf, hW1, World.frozen?_setCells]; exact hfb _) (by simp [Value.oneCell'])
  rw [← hW1] at hcp1
  have q1 : ¬ ((i : Int) = (n : Int)) := by omega
  have HOV := Lib.hid hov
  have HC1 := Lib.hid hcp1
  have HC2 := Lib.hid (hcp2 W1 (fun _ => rfl) (fun _ => rfl))
  have HW1 := Lib.hid hW1
  clear hov hus h1 hv hb hshv hshb hcp1 hcp2 hsp hsp1 hfb hfr hW1
  go_enter Try.func15, Try.ntmps15
  have hw1 : IntKind.i64.wrap ((i : Int) + 1) = (i : Int) + 1 := by rw [IntKind.wrap_i64]; omega
  have hb1 : (0 : Int) ≤ (i : Int) + 1 := by omega
  have hin : i ≤ n := by omega
  have htn : ((i : Int) + 1).toNat = i + 1 := by omega
  have hb2 : ¬ (c = i + 1) := by omega
  have hb3 : (i : Int) ≤ (n : Int) + 1 := by omega
  have hb4 : ¬ (c = i) := by omega
  go_wp2_with (simp only [HOV.out])
  go_region_law (refine step_copy_runI rfl _ _ 22 22 rfl (.slice (some ⟨b, i + 1, none⟩) (n + 1 - (i + 1)) (c - (i + 1))) (.slice (some ⟨b, i, none⟩) (n + 1 - i) (c - i)) (by simp [Act.eval, Act.put]) (by simp [Act.eval, Act.put]) (HC1.out _ _ _) ?_)
  go_wp2
  rw [HC2.out]
  go_wp2
  go_ret
  exact ⟨rfl, by rw [HW1.out]⟩
/-- what Insert leaves where it makes a new row -/
def GrowP (n i : Nat) (us : List Value) (kx : Value) (w : World) (e : Ending) (w' : World) : Prop :=
  ∃ (G : Nat) (ROW : Array Value), e = .returned (.slice (some ⟨w.heap.size, 0, none⟩) (n + 1) G) ∧ n + 1 ≤ G ∧ G ≤ maxLen ∧ n + 1 ≤ ROW.size ∧ (∀ j v, j < i → us[j]? = some v → ROW[j]? = some v) ∧
    w' = (((w.drew.alloc (.cells ROW 24)).setCells w.heap.size i [kx]).drew).setCells w.heap.size (i + 1) (us.drop i)
set_option maxRecDepth 100000 in
set_option maxHeartbeats 2000000 in
/-- there is no room, and it isn't the end -/
theorem kins_grow (b n c i vb : Nat) (us : List Value) (ka : Option Addr) (kn kc : Nat) (w : World) (hi : i < n) (hnc : n ≤ c) (hroom : c < n + 1) (hlen : n ≤ 100000) (hbw : b < w.heap.size) (hul : us.length = n)
    (hus : ∀ j v, us[j]? = some v → w.cell? ⟨b, j, none⟩ = some v) (h1 : ∀ v ∈ us, v.oneCell' = true) (hv : Blk w vb 24 #[.slice ka kn kc]) :
    Calls Try.prog 15 #[.slice (some ⟨b, 0, none⟩) n c, .int .i64 i, .slice (some ⟨vb, 0, none⟩) 1 1] w (GrowP n i us (.slice ka kn kc) w) := by
  obtain ⟨i28, hi0, hz0, hz1, hz2⟩ := info3 infoKind
  have hsz : (Try.prog.info? 24).map (·.size) = some 1 := by rw [hi0]; simp [hz1]
  have hvw : vb < w.heap.size := hv.lt
  have hkk : (n : Int) + 1 - (i : Int) = ((n + 1 - i : Nat) : Int) := by omega
  have hik : i + (n + 1 - i) = n + 1 := by omega
  have hold : (Builtin.firstCells i28.size i (.slice (some ⟨b, 0, none⟩) i c)).run Try.prog w.drew = .ok (us.take i).toArray w.drew := by
    rw [hz1]
    exact run_firstCells_some w.drew 1 i ⟨b, 0, none⟩ i c (us.take i) (by rw [List.length_take]; omega) (fun j v hj => by
      rw [Addr.add_lit, Nat.zero_add]
      rw [List.getElem?_take] at hj
      split at hj
      · exact hus j v hj
      · cases hj)
  obtain ⟨G, hG⟩ : ∃ G, G = grownCap w (n + 1) c 24 := ⟨_, rfl⟩
  obtain ⟨ROW, hROW⟩ : ∃ ROW : Array Value, ROW = (us.take i).toArray ++ Builtin.zeroCells (Value.agg #[.slice none 0 0]).cells (n + 1 - i) ++ Builtin.zeroCells (Value.agg #[.slice none 0 0]).cells (G - (n + 1)) := ⟨_, rfl⟩
  have hrz : ∀ ty, (Builtin.append_ #[22, 3] ty #[.slice (some ⟨b, 0, none⟩) i c, .int .i64 ((n : Int) + 1 - (i : Int))]).run Try.prog w =
      .ok (.slice (some ⟨w.heap.size, 0, none⟩) (n + 1) G) (w.drew.alloc (.cells ROW 24)) := fun ty => by
    have h := Lib.run_append_grow_zeros w 22 3 ty 24 i28 _ .i64 .i64 Try.underlying22 Try.underlying3 hi0 hz0 (some ⟨b, 0, none⟩) i c (us.take i) hold (n + 1 - i) (by omega) (by omega) (by omega) (by omega) (by rw [hz2]; omega) (by rw [hz2, hik]; exact growslice_fits hroom (by omega))
    rw [hik, ← hG, ← hROW] at h
    rw [hkk]
    exact h
  have hRl : n + 1 ≤ ROW.size := by
    rw [hROW]
    simp [Builtin.zeroCells, Value.cells]
    omega
  have hRlo : ∀ j v, j < i → us[j]? = some v → ROW[j]? = some v := fun j v hj hv => by
    rw [hROW, Array.getElem?_append_left (by simp; omega), Array.getElem?_append_left (by simp; omega), List.getElem?_toArray, List.getElem?_take_of_lt hj]
    exact hv
  have hGn : n + 1 ≤ G := by rw [hG]; exact grownCap_ge w _ _ _
  have hGm : G ≤ maxLen := by rw [hG]; exact grownCap_le_maxLen w (n + 1) c _ (by unfold maxLen; omega)
  have hG63 : G ≤ 9223372036854775807 := by unfold maxLen at hGm; omega
  have HRL := Lib.hid hRl
  obtain ⟨N, hN0⟩ : ∃ N, N = w.heap.size := ⟨_, rfl⟩
  obtain ⟨W1, hW1⟩ : ∃ W1, W1 = w.drew.alloc (.cells ROW 24) := ⟨_, rfl⟩
  rw [← hW1] at hrz
  rw [← hN0] at hrz
  have HN0 := Lib.hid hN0
  have hN : ∀ j, j < n + 1 → (W1.cell? ⟨N, j, none⟩).isSome = true := fun j hj => by
    rw [hW1, World.cell?_alloc_at (w := w.drew) ROW _ N j hN0, Array.getElem?_eq_getElem (by omega)]; rfl
  have hNf : ∀ j, W1.frozen? ⟨N, j, none⟩ = false := fun j => by rw [hW1]; exact World.frozen?_alloc_at (w := w.drew) ROW _ N j hN0
  have hOb : ∀ j v, w.cell? ⟨b, j, none⟩ = some v → W1.cell? ⟨b, j, none⟩ = some v := fun j v h => by rw [hW1, World.cell?_alloc_past (w := w.drew) _ b j hbw]; exact h
  have hv1 : W1.cell? ⟨vb, 0, none⟩ = some (.slice ka kn kc) := by rw [hW1, World.cell?_alloc_past (w := w.drew) _ vb 0 hvw]; exact hv.cell 0 _ rfl
  have hbN : b ≠ N := by omega
  have hdl : (us.drop i).length = n - i := by rw [List.length_drop, hul]
  have hcpA : ∀ (W : World), (∀ x, W.cell? x = W1.cell? x) → (∀ x, W.frozen? x = W1.frozen? x) → ∀ ty dc, (Builtin.copy_ #[22, 22] ty #[.slice (some ⟨N, i, none⟩) (n + 1 - i) dc, .slice (some ⟨vb, 0, none⟩) 1 1]).run Try.prog W = .ok (goInt 1) (W.setCells N i [.slice ka kn kc]) := fun W hWc hWf ty dc =>
    run_copy_cells W _ _ ty 24 N i (n + 1 - i) dc ⟨vb, 0, none⟩ 1 1 [.slice ka kn kc] Try.underlying22 hsz (by show 1 = Nat.min 1 (n + 1 - i); simp only [Nat.min_def]; split <;> omega)
      (fun j v hj => by
        have hj0 : j = 0 := by
          rcases Nat.eq_zero_or_pos j with h | h
          · exact h
          · rw [List.getElem?_eq_none (show [Value.slice ka kn kc].length ≤ j from h)] at hj; cases hj
        subst hj0
        rw [Addr.add_lit, hWc]
        injection hj with hj
        rw [← hj]
        exact hv1)
      (fun j hj => by rw [hWc]; exact hN _ (by have : j < 1 := hj; omega)) (fun j hj => by rw [hWf]; exact hNf _) (by simp [Value.oneCell'])
  obtain ⟨W2, hW2⟩ : ∃ W2, W2 = W1.setCells N i [.slice ka kn kc] := ⟨_, rfl⟩
  have hcpA1 := hcpA W1 (fun _ => rfl) (fun _ => rfl)
  rw [← hW2] at hcpA1
  have hcpB : ∀ ty dc sc, (Builtin.copy_ #[22, 22] ty #[.slice (some ⟨N, i + 1, none⟩) (n + 1 - (i + 1)) dc, .slice (some ⟨b, i, none⟩) (n - i) sc]).run Try.prog W2.drew = .ok (goInt (us.drop i).length) (W2.drew.setCells N (i + 1) (us.drop i)) := fun ty dc sc =>
    run_copy_cells W2.drew _ _ ty 24 N (i + 1) (n + 1 - (i + 1)) dc ⟨b, i, none⟩ (n - i) sc (us.drop i) Try.underlying22 hsz (by rw [hdl]; simp only [Nat.min_def]; split <;> omega)
      (fun j v hj => by
        rw [Addr.add_lit]
        show W2.cell? _ = _
        rw [hW2, World.cell?_setCells_out _ _ _ _ _ (fun h _ => absurd h hbN)]
        exact hOb _ v (hus (i + j) v (by rwa [List.getElem?_drop] at hj)))
      (fun j hj => by
        show (W2.cell? _).isSome = true
        rw [hW2]
        exact isSome_setCells N [.slice ka kn kc] i W1 (fun t ht => hN _ (by have : t < 1 := ht; omega)) _ (hN _ (by omega)))
      (fun j hj => by show W2.frozen? _ = false; rw [hW2, World.frozen?_setCells]; exact hNf _) (fun v hv => h1 v (List.mem_of_mem_drop hv))
  have HRZ := Lib.hid hrz
  have HCA := Lib.hid hcpA1
  have HCB := Lib.hid hcpB
  have HW1 := Lib.hid hW1
  have HW2 := Lib.hid hW2
  have HRLO := Lib.hid hRlo
  have HGM := Lib.hid hGm
  have q1 : ¬ ((i : Int) = (n : Int)) := by omega
  have q2 : (c : Int) < (n : Int) + 1 := by omega
  have hGi : ¬ (G = i) := by omega
  have hGim : ¬ (G = i + 1) := by omega
  have hci : ¬ (c = i) := by omega
  have hw1 : IntKind.i64.wrap ((i : Int) + 1) = (i : Int) + 1 := by rw [IntKind.wrap_i64]; omega
  have hb1 : (0 : Int) ≤ (i : Int) + 1 := by omega
  have hin : i ≤ n := by omega
  have htn : ((i : Int) + 1).toNat = i + 1 := by omega
  have hb3 : (i : Int) ≤ (n : Int) := by omega
  clear hkk hik hold hROW hG hRl hrz hW1 hW2 hcpA hcpA1 hcpB hRlo hGm hN hNf hOb hv1 hv hus h1 hN0
  go_enter Try.func15, Try.ntmps15
  go_upto_region 9 with fail
  go_wp2_with (at_builtin; refine Lib.wpList_append_run _ rfl _ _ _ _ rfl _ _ rfl rfl _ _ (HRZ.out _) ?_)
  rw [HCA.out]
  go_wp2
  go_region_law (refine step_copy_runI rfl _ _ 22 22 rfl (.slice (some ⟨N, i + 1, none⟩) (n + 1 - (i + 1)) (G - (i + 1))) (.slice (some ⟨b, i, none⟩) (n - i) (c - i)) (by simp [Act.eval, Act.put]) (by simp [Act.eval, Act.put]) (HCB.out _ _ _) ?_)
  go_wp2
  go_ret
  refine ⟨G, ROW, by rw [← HN0.out]; rfl, hGn, HGM.out, HRL.out, HRLO.out, ?_⟩
  rw [← HW1.out, ← HN0.out, ← HW2.out]
/-- slices.Insert of one kind into a row of its own -/
theorem kinsert_any (B n i vb : Nat) (g : List K) (us : List Value) (sv kx : Value) (k : K) (R : Nat → Prop) (w : World) (hn : n = g.length) (hi : i ≤ n) (hrow : w.ownsRow B 24 1 sv n us) (hkids : KindRow w R us g) (hR : ∀ b, R b → b < w.heap.size ∧ sv.ownBlock ≠ some b) (hk : KidV w R k kx)
    (hv : Blk w vb 24 #[kx]) (hvb : sv.ownBlock ≠ some vb) (hB : B ≤ w.heap.size) (hlen : n ≤ 100000) :
    Calls Try.prog 15 #[sv, .int .i64 i, .slice (some ⟨vb, 0, none⟩) 1 1] w (InsP B (insAt g i k) (n + 1) w) := by
  rcases Nat.lt_or_ge i n with hlt | hge
  · have hul : us.length = n := by have := hrow.1; omega
    have hone : ∀ v ∈ us, v.oneCell' = true := by
      intro v hv
      obtain ⟨j, hj, rfl⟩ := List.getElem_of_mem hv
      obtain ⟨x, hx, hkx⟩ := hkids.2 j (by omega)
      rw [List.getElem?_eq_getElem hj] at hx
      injection hx with hx
      obtain ⟨a, c, e⟩ := hkx.shape
      rw [hx, e]
      rfl
    have hil : i < us.length := by omega
    obtain ⟨ka, kc, e⟩ := hk.shape
    have hins := hkids.ins hk (by omega : i ≤ g.length)
    have hnl : (insAt g i k).length = n + 1 := by rw [insAt_len _ _ _ (by omega)]; omega
    rcases hrow.2 with ⟨-, h0⟩ | ⟨b, c, cur, rfl, hBb, hb, hnc, hcm, hcur, htake⟩
    · omega
    · have hblk : Blk w b 24 cur := hb
      have hcs : cur.size = c := by omega
      have hus : ∀ j v, us[j]? = some v → w.cell? ⟨b, j, none⟩ = some v := fun j v hj => by
        refine hblk.cell j v ?_
        rw [← htake] at hj
        rw [List.getElem?_take] at hj
        split at hj
        · rw [← Array.getElem?_toList]; exact hj
        · cases hj
      have hsp : ∀ j, j < us.length + 1 → j < c → (w.cell? ⟨b, j, none⟩).isSome = true := fun j hj hjc => by
        rw [hblk.cell j cur[j] (Array.getElem?_eq_getElem (by omega))]
        rfl
      have hRb : ∀ q, R q → q ≠ b := fun q hq e => (hR q hq).2 (by rw [e]; rfl)
      have hvne : vb ≠ b := fun e => hvb (by rw [e]; rfl)
      subst e
      rcases Nat.lt_or_ge n c with hroom | hfull
      · refine (kins_shift b n c i vb us ka k.l.length kc cur w hlt hroom (by unfold maxLen at hcm; omega) hvne hul hblk hcs hus hone hv).mono ?_
        rintro e w' ⟨rfl, rfl⟩
        have hS : Same R w ((w.drew.setCells b (i + 1) (us.drop i)).setCells b i [.slice ka k.l.length kc]) := fun q hq => (heap_setCells b _ _ _ q (hRb q hq)).trans (heap_setCells b _ _ _ q (hRb q hq))
        have hsz : ((w.drew.setCells b (i + 1) (us.drop i)).setCells b i [.slice ka k.l.length kc]).heap.size = w.heap.size := by
          rw [size_setCells, size_setCells]
          rfl
        refine ⟨⟨_, _, rfl, cells_ksl hnl hroom hcm (cells_two hil (fun j hj => hsp j hj (by omega)) (fun j v _ hv => hus j v hv)) (hins.keep hS) (fun q hq => by rw [hsz]; exact (hR q hq).1) (by rw [hsz]; exact hblk.lt)⟩, below_setCells hBb _ _ _ (below_setCells hBb _ _ _ ⟨rfl, rfl, rfl, Nat.le_refl _, fun _ _ => rfl⟩)⟩
      · refine (kins_grow b n c i vb us ka k.l.length kc w hlt hnc (by omega) hlen hblk.lt hul hus hone hv).mono ?_
        rintro e w' ⟨G, ROW, rfl, hG1, hG2, hRs, hRlo, rfl⟩
        have hne : ∀ q, R q → q ≠ w.heap.size := fun q hq e => by have := (hR q hq).1; omega
        have hS : Same R w ((((w.drew.alloc (.cells ROW 24)).setCells w.heap.size i [.slice ka k.l.length kc]).drew).setCells w.heap.size (i + 1) (us.drop i)) := fun q hq =>
          ((heap_setCells w.heap.size (us.drop i) (i + 1) (((w.drew.alloc (.cells ROW 24)).setCells w.heap.size i [.slice ka k.l.length kc]).drew) q (hne q hq)).trans (heap_setCells w.heap.size [.slice ka k.l.length kc] i (w.drew.alloc (.cells ROW 24)) q (hne q hq))).trans (Below.heap_alloc w.drew _ q (hR q hq).1)
        have hsz : ((((w.drew.alloc (.cells ROW 24)).setCells w.heap.size i [.slice ka k.l.length kc]).drew).setCells w.heap.size (i + 1) (us.drop i)).heap.size = w.heap.size + 1 := by
          rw [size_setCells]
          show ((w.drew.alloc (.cells ROW 24)).setCells w.heap.size i [.slice ka k.l.length kc]).heap.size = _
          rw [size_setCells, size_alloc]
          rfl
        have hsp2 : ∀ j, j < us.length + 1 → ((w.drew.alloc (.cells ROW 24)).cell? ⟨w.heap.size, j, none⟩).isSome = true := fun j hj => by
          rw [World.cell?_alloc_at (w := w.drew) ROW _ w.heap.size j rfl, Array.getElem?_eq_getElem (by omega)]; rfl
        have hlo2 : ∀ j v, j < i → us[j]? = some v → (w.drew.alloc (.cells ROW 24)).cell? ⟨w.heap.size, j, none⟩ = some v := fun j v hj hv => by
          rw [World.cell?_alloc_at (w := w.drew) ROW _ w.heap.size j rfl]; exact hRlo j v hj hv
        have hcells := cells_owt (kx := .slice ka k.l.length kc) hil hsp2 hlo2
        refine ⟨⟨_, _, rfl, cells_ksl hnl hG1 hG2 (fun j v hj => ?_) (hins.keep hS) (fun q hq => by rw [hsz]; have := (hR q hq).1; omega) (by rw [hsz]; omega)⟩, below_setCells hB _ _ _ ?_⟩
        · have := hcells j v hj
          have e2 : ∀ (W : World) x, (W.drew.setCells w.heap.size (i + 1) (us.drop i)).cell? x = (W.setCells w.heap.size (i + 1) (us.drop i)).cell? x := fun W x => by rw [← drew_setCells]; rfl
          rw [e2]
          exact this
        · have h5 := below_setCells hB [.slice ka k.l.length kc] i (w.drew.alloc (.cells ROW 24)) ((show Below B w w.drew from ⟨rfl, rfl, rfl, Nat.le_refl _, fun _ _ => rfl⟩).alloc hB _)
          exact ⟨h5.os, h5.tape, h5.output, h5.size, h5.block⟩
  · obtain rfl : i = n := by omega
    exact kins_end B i g us sv kx k R vb w hn hrow hkids hR hk hv hB hlen
end Go.Proofs.Ytmjkeejinagokaa
namespace Go.Proofs.Ytmjkeejinagokaa
open Go Go.RowKit
open Pl (K Con KR KS kof kofs ownK inK appK)
set_option linter.unusedSimpArgs false
set_option linter.unusedVariables false

theorem u8_range {a : Int} (h : (Lit.int .u8 a).wf = true) : 0 ≤ a ∧ a ≤ 255 := by
  rw [Lit.wf, Bool.and_eq_true, decide_eq_true_iff, decide_eq_true_iff] at h
  exact h
theorem scopeB_ins (g : List K) (i : Nat) (k : K) (hi : i ≤ g.length) (hg : g.length ≤ 40) (hk : K.valid k = true) : scopeB (insAt g i k) = scopeB g := by
  unfold scopeB
  rw [insAt_len g i k hi, decide_eq_true (by omega : g.length + 1 ≤ 1000), decide_eq_true (by omega : g.length ≤ 1000), Bool.true_and, Bool.true_and]
  conv => rhs; rw [← List.take_append_drop i g]
  unfold insAt
  rw [List.all_append, List.all_append, List.all_cons, hk, Bool.true_and]
theorem own_low {w : World} {b0 b1 : Nat} {T : TypeId} {z n : Nat} {v : Value} {us : List Value} (h : w.ownsRow b1 T z v n us) (hb : b0 ≤ b1) : w.ownsRow b0 T z v n us := by
  refine ⟨h.1, ?_⟩
  rcases h.2 with h2 | ⟨q, cap, cur, e, h3, rest⟩
  · exact .inl h2
  · exact .inr ⟨q, cap, cur, e, Nat.le_trans hb h3, rest⟩
/-- KINDS DO NOT DEPEND ON OTHER VARIABLES -/
theorem weaken_out (g : List K) (t : Con) (k : K) (i f : Nat) (hi : i + f = g.length) (hg : g.length ≤ 40) (hk : K.valid k = true) (h0 : (shiftOut t 1 f).2 = 0) : ofOut (insAt g i k) (shiftOut t 1 f).1 = ofOut g t := by
  have hsh : Con.validB t = true ∧ Con.validB (Con.shift 1 t f) = true ∧ shiftOut t 1 f = (Con.shift 1 t f, 0) := by
    cases hv : Con.validB t with
    | false =>
      unfold shiftOut at h0
      rw [hv, if_neg (by simp)] at h0
      cases h0
    | true =>
      have h1 := shiftOut_up t 1 f hv (by omega) (by omega) (by omega)
      rw [h1] at h0 ⊢
      rcases outB_cases (Con.shift 1 t f) with ⟨h2, h3⟩ | ⟨h2, h3⟩
      · exact ⟨rfl, h2, h3⟩
      · rw [h3] at h0; cases h0
  obtain ⟨h1, h2, h3⟩ := hsh
  rw [h3, ofOut_eq, ofOut_eq]
  unfold givenB
  rw [scopeB_ins g i k (by omega) hg hk, h1, h2]
  have hl : ((g.drop i).reverse.length : Int) = (f : Int) := by rw [List.length_reverse, List.length_drop]; omega
  have h4 := kof_shift [k] t (g.drop i).reverse (g.take i).reverse (valid_all t h1)
  rw [hl] at h4
  have e1 : (insAt g i k).reverse = (g.drop i).reverse ++ [k] ++ (g.take i).reverse := by
    unfold insAt
    rw [List.reverse_append, List.reverse_cons]
  have e2 : (g.drop i).reverse ++ (g.take i).reverse = g.reverse := by rw [← List.reverse_append, List.take_append_drop]
  rw [e2] at h4
  rw [e1]
  exact congrArg (fun x => if (scopeB g && true) = true then x else KR.bad 1 []) h4
theorem shift_none {t : Con} {b f : Int} (h : (shiftOut t b f).2 ≠ 0) : (shiftOut t b f).1 = Con.none0 := by
  unfold shiftOut at h ⊢
  split
  · rename_i h1
    rw [if_pos h1] at h
    split
    · rfl
    · rename_i h2
      rw [if_neg h2] at h
      rcases outB_cases (Con.shift b t f) with ⟨h3, h4⟩ | ⟨h3, h4⟩
      · rw [h4] at h; exact absurd rfl h
      · rw [h4]
  · rfl
set_option maxRecDepth 100000 in
set_option maxHeartbeats 2000000 in
theorem kweaken_any (g : List K) (t : Con) (a : Int) (k : K) (w : World) (gv v kv : Value) (hg : KSl w (· < w.heap.size) gv g) (ht : ConV w (· < w.heap.size) t v) (ha : (Lit.int .u8 a).wf = true) (hk : KV w (· < w.heap.size) k kv) :
    Calls Try.prog 4 #[gv, v, .int .u8 a, kv] w fun e w' => e = .returned (.bool true) ∧ Below w.heap.size w w' := by
  have HUP := Lib.hid (fun W (hW : Below w.heap.size w W) => (show (∀ b, b < w.heap.size → b < W.heap.size) ∧ KSl W (· < w.heap.size) gv g ∧ ConV W (· < w.heap.size) t v ∧ KV W (· < w.heap.size) k kv from ⟨fun b h => Nat.lt_of_lt_of_le h hW.size, hg.keep (Same.of_below hW (fun _ h => h)), ht.keep (Same.of_below hW (fun _ h => h)), hk.keep (Same.of_below hW (fun _ h => h))⟩))
  have HA := Lib.hid awake10
  have HG := Lib.hid (fun W x (hW : Below w.heap.size w W) (hl : ConSl W (· < W.heap.size) x [t]) => great_any (· < W.heap.size) g [t] W gv x (fun _ h => h) ((HUP.out W hW).2.1.mono (fun q hq => Nat.lt_of_lt_of_le hq hW.size)) hl)
  have HKN := Lib.hid (fun W (hW : Below w.heap.size w W) => kindNodes_any (· < w.heap.size) k 30 W kv (HUP.out W hW).1 (HUP.out W hW).2.2.2 (by omega))
  have HVA := Lib.hid (fun W (hW : Below w.heap.size w W) => rvalid_any (· < w.heap.size) k W kv (HUP.out W hW).1 (HUP.out W hW).2.2.2)
  have HSH := Lib.hid (fun W (hW : Below w.heap.size w W) (f : Nat) (hf : f ≤ 1000) => cshift_any t 1 f W v ((HUP.out W hW).2.2.1.mono (fun q hq => Nat.lt_of_lt_of_le hq hW.size)) (by omega) (by omega) (by omega) (by omega))
  have H1 := Lib.hid (fun W (hW : Below w.heap.size w W) => of_any (· < w.heap.size) g t W gv v (HUP.out W hW).1 (HUP.out W hW).2.1 (HUP.out W hW).2.2.1)
  have H4 := Lib.hid (fun W (hW : Below w.heap.size w W) (hl : g.length ≤ 100000) => kclone_any (· < w.heap.size) g W gv (HUP.out W hW).1 (HUP.out W hW).2.1 hl)
  have HCV := Lib.hid (fun W (hW : Below w.heap.size w W) => (HUP.out W hW).2.2.1)
  obtain ⟨ka, kn, kc, na, nn, nc, la, ln, lc, rfl, -, -, -⟩ := ht.shape
  obtain ⟨ga, gc, rfl, -⟩ := hg.each
  obtain ⟨xa, xc, rfl⟩ := hk.form
  have HKV := Lib.hid (fun W (hW : Below w.heap.size w W) => (show KidV W (· < w.heap.size) k (.slice xa k.l.length xc) from by
    obtain ⟨x, e, h⟩ := (HUP.out W hW).2.2.2
    injection e with e
    simp only [Array.mk.injEq, List.cons.injEq, and_true] at e
    rw [e]
    exact h))
  have hgl63 : g.length ≤ 9223372036854775807 := by
    obtain ⟨a', c', e, h1, h2, -⟩ := hg.each
    injection e with e1 e2 e3
    unfold maxLen at h2; omega
  have hab := u8_range ha
  obtain ⟨an, rfl⟩ : ∃ an : Nat, a = (an : Int) := ⟨a.toNat, by omega⟩
  have HWO := Lib.hid (fun i f h1 h2 h3 h4 => weaken_out g t k i f h1 h2 h3 h4)
  have HSN := Lib.hid (fun f => shift_none (t := t) (b := 1) (f := f))
  obtain ⟨gn, hgn⟩ : ∃ gn, gn = g.length := ⟨_, rfl⟩
  obtain ⟨xn, hxn⟩ : ∃ xn, xn = k.l.length := ⟨_, rfl⟩
  rw [← hgn] at HG H1 H4 HWO hgl63 ⊢
  rw [← hxn] at HKN HVA HKV ⊢
  have HGN := Lib.hid hgn
  obtain ⟨op, hop⟩ : ∃ op, op = t.op := ⟨_, rfl⟩
  obtain ⟨num, hnum⟩ : ∃ num, num = t.n := ⟨_, rfl⟩
  obtain ⟨s, hs⟩ : ∃ s, s = t.s := ⟨_, rfl⟩
  rw [← hop, ← hnum, ← hs] at HCV HSH H1 ⊢
  have hb := twoN_new w 28 24 #[.int .i64 op, .int .i64 num, .string s, .slice ka kn kc, .slice na nn nc, .slice la ln lc] #[.slice xa xn xc]
  have HB := Lib.hid hb.2.2
  have HBX := Lib.hid hb.1
  have HBK := Lib.hid hb.2.1
  have han : an ≤ 255 := by omega
  clear hb hg ht hk HUP hop hnum hs hgn hxn ha hab
  go_enter Try.func4, Try.ntmps4
  go_upto_region 1 with fail
  generalize (w.alloc (.cells #[.int .i64 op, .int .i64 num, .string s, .slice ka kn kc, .slice na nn nc, .slice la ln lc] 28)).alloc (.cells #[.slice xa xn xc] 24) = w1 at *
  generalize hbk : w.heap.size + 1 = BK at *
  have HBL := Lib.hid (show w.heap.size < BK from by omega)
  clear hbk
  go_wp2_with fail
  refine (HA.out _).mono ?_
  rintro e w2 ⟨rfl, hb2⟩
  replace HB := Lib.hid (belowStep hb2 HB.out)
  replace HBX := Lib.hid (HBX.out.of_eq (hb2.block _ HBX.out.lt))
  replace HBK := Lib.hid (HBK.out.of_eq (hb2.block _ HBK.out.lt))
  clear hb2 HA
  by_cases h40 : 40 < gn
  · have q0 : decide ((40 : Int) < (gn : Int)) = true := decide_eq_true (by omega)
    go_wp2
    go_ret
    exact ⟨rfl, HB.out⟩
  have q0 : decide ((40 : Int) < (gn : Int)) = false := decide_eq_false (by omega)
  have c0 := HBX.out.cell 0 (.int .i64 op) rfl
  have c1 := HBX.out.cell 1 (.int .i64 num) rfl
  have c2 := HBX.out.cell 2 (.string s) rfl
  have c3 := HBX.out.cell 3 (.slice ka kn kc) rfl
  have c4 := HBX.out.cell 4 (.slice na nn nc) rfl
  have c5 := HBX.out.cell 5 (.slice la ln lc) rfl
  obtain ⟨hlit, hbl⟩ := boxN_new w2 28 #[.int .i64 op, .int .i64 num, .string s, .slice ka kn kc, .slice na nn nc, .slice la ln lc]
  have HGR := Lib.hid (HG.out _ _ (belowStep hbl HB.out) (cons_one10 (P := (· < (w2.alloc (.cells #[.int .i64 op, .int .i64 num, .string s, .slice ka kn kc, .slice na nn nc, .slice la ln lc] 28)).heap.size)) hlit hlit.lt ((HCV.out _ (belowStep hbl HB.out)).mono (fun q hq => Nat.lt_of_lt_of_le hq (Nat.le_trans HB.out.size hbl.size)))))
  replace HB := Lib.hid (belowStep hbl HB.out)
  replace HBX := Lib.hid (HBX.out.of_eq (hbl.block _ HBX.out.lt))
  replace HBK := Lib.hid (HBK.out.of_eq (hbl.block _ HBK.out.lt))
  clear hlit hbl HG
  go_wp2_with fail
  clear c0 c1 c2 c3 c4 c5
  generalize w2.alloc (.cells #[.int .i64 op, .int .i64 num, .string s, .slice ka kn kc, .slice na nn nc, .slice la ln lc] 28) = w3 at *
  refine HGR.out.mono ?_
  rintro e w5 ⟨⟨z, rfl⟩, hb5⟩
  replace HB := Lib.hid (belowStep hb5 HB.out)
  replace HBX := Lib.hid (HBX.out.of_eq (hb5.block _ HBX.out.lt))
  replace HBK := Lib.hid (HBK.out.of_eq (hb5.block _ HBK.out.lt))
  clear hb5 HGR
  cases z
  rotate_left
  · go_wp2
    go_ret
    exact ⟨rfl, HB.out⟩
  have b0 := HBK.out.cell 0 (.slice xa xn xc) rfl
  go_wp2_with fail
  clear b0
  refine (HKN.out _ HB.out).mono ?_
  rintro e w6 ⟨⟨r, rfl, hr0, hr1⟩, hb6⟩
  replace HB := Lib.hid (belowStep hb6 HB.out)
  replace HBX := Lib.hid (HBX.out.of_eq (hb6.block _ HBX.out.lt))
  replace HBK := Lib.hid (HBK.out.of_eq (hb6.block _ HBK.out.lt))
  clear hb6 HKN
  by_cases hr : 40 < r
  · have q1 : decide ((40 : Int) < r) = true := decide_eq_true hr
    go_wp2
    go_ret
    exact ⟨rfl, HB.out⟩
  have q1 : decide ((40 : Int) < r) = false := decide_eq_false hr
  clear hr0 hr1 hr
  have b0 := HBK.out.cell 0 (.slice xa xn xc) rfl
  go_wp2_with fail
  clear b0
  refine (HVA.out _ HB.out).mono ?_
  rintro e w7 ⟨rfl, hb7⟩
  replace HB := Lib.hid (belowStep hb7 HB.out)
  replace HBX := Lib.hid (HBX.out.of_eq (hb7.block _ HBX.out.lt))
  replace HBK := Lib.hid (HBK.out.of_eq (hb7.block _ HBK.out.lt))
  clear hb7 HVA
  obtain ⟨kz, hkz⟩ : ∃ kz, kz = K.valid k := ⟨_, rfl⟩
  rw [← hkz] at HWO ⊢
  clear hkz
  cases kz
  · go_wp2
    go_ret
    exact ⟨rfl, HB.out⟩
  clear q0 q1
  go_upto_region 6 with fail
  obtain ⟨f, hf⟩ : ∃ f : Nat, f = an % (gn + 1) := ⟨_, rfl⟩
  have hfe : ((an : Int) % ((gn : Int) + 1)) = (f : Int) := by rw [hf]; push_cast; rfl
  have hfl : f ≤ gn := by have := Nat.mod_lt an (show 0 < gn + 1 by omega); omega
  rw [hfe]
  clear hfe hf
  obtain ⟨i, hi⟩ : ∃ i, i + f = gn := ⟨gn - f, by omega⟩
  replace HWO := Lib.hid (fun h0 => HWO.out i f (by have := HGN.out; omega) (by have := HGN.out; omega) trivial h0)
  replace HSN := Lib.hid (HSN.out (f : Int))
  have HSU := Lib.hid (HSH.out _ HB.out f (by omega))
  obtain ⟨d, hd⟩ : ∃ d, d = shiftOut t 1 (f : Int) := ⟨_, rfl⟩
  rw [← hd] at HSU HWO HSN
  clear hd HSH
  have c0 := HBX.out.cell 0 (.int .i64 op) rfl
  have c1 := HBX.out.cell 1 (.int .i64 num) rfl
  have c2 := HBX.out.cell 2 (.string s) rfl
  have c3 := HBX.out.cell 3 (.slice ka kn kc) rfl
  have c4 := HBX.out.cell 4 (.slice na nn nc) rfl
  have c5 := HBX.out.cell 5 (.slice la ln lc) rfl
  go_wp2_with fail
  clear c0 c1 c2 c3 c4 c5
  refine HSU.out.mono ?_
  rintro e wS ⟨⟨yv, rfl, hy⟩, hbS⟩
  obtain ⟨d1, fl⟩ := d
  have hy : ConV wS (· < wS.heap.size) d1 yv := hy
  obtain ⟨ya, yn, yc, za, zn, zc, pa, pn, pc, rfl, -, -, hpn⟩ := hy.shape
  have HPN := Lib.hid hpn
  have HWO2 := Lib.hid (show fl = 0 → ofOut (insAt g i k) d1 = ofOut g t from HWO.out)
  have HSN2 := Lib.hid (show fl ≠ 0 → d1 = Con.none0 from HSN.out)
  clear HWO HSN hpn
  obtain ⟨op3, hop3⟩ : ∃ op3, op3 = d1.op := ⟨_, rfl⟩
  obtain ⟨num3, hnum3⟩ : ∃ num3, num3 = d1.n := ⟨_, rfl⟩
  obtain ⟨str3, hstr3⟩ : ∃ str3, str3 = d1.s := ⟨_, rfl⟩
  show _
  simp only [← hop3, ← hnum3, ← hstr3] at hy ⊢
  clear hop3 hnum3 hstr3
  obtain ⟨hdx, hdb⟩ := boxN_new wS 28 #[.int .i64 op3, .int .i64 num3, .string str3, .slice ya yn yc, .slice za zn zc, .slice pa pn pc]
  have HDX := Lib.hid hdx
  have HDV := Lib.hid ((hy.keep (Same.of_below hdb (fun _ h => h))).mono (fun q hq => (show q < (wS.alloc (.cells #[.int .i64 op3, .int .i64 num3, .string str3, .slice ya yn yc, .slice za zn zc, .slice pa pn pc] 28)).heap.size from Nat.lt_of_lt_of_le hq hdb.size)))
  have hbD := belowStep hdb hbS
  replace HBK := Lib.hid (HBK.out.of_eq (hbD.block _ HBK.out.lt))
  replace HBX := Lib.hid (HBX.out.of_eq (hbD.block _ HBX.out.lt))
  replace HB := Lib.hid (belowStep hbD HB.out)
  clear hdx hdb hy hbD hbS HSU
  go_upto_region 7 with fail
  generalize wS.alloc (.cells #[.int .i64 op3, .int .i64 num3, .string str3, .slice ya yn yc, .slice za zn zc, .slice pa pn pc] 28) = wD at *
  generalize wS.heap.size = BD at *
  by_cases h6 : fl = 0
  rotate_left
  · have hn0 := HSN2.out h6
    have hp0 : pn = 0 := by rw [HPN.out, hn0]; rfl
    subst hp0
    have qe : (fl == 0) = false := beq_eq_false_iff_ne.2 h6
    have d5 := HDX.out.cell 5 (.slice pa 0 pc) rfl
    clear HPN HSN2 HWO2 hn0 h6
    go_wp2
    go_ret
    exact ⟨rfl, HB.out⟩
  subst h6
  have HEQ := Lib.hid (HWO2.out rfl)
  clear HWO2 HSN2 HPN
  have hwr : IntKind.i64.wrap ((gn : Int) - (f : Int)) = (i : Int) := by rw [IntKind.wrap_i64]; omega
  have hwr2 : (gn : Int) - (f : Int) = (i : Int) := by omega
  have HSD := Lib.hid (show w.heap.size < wD.heap.size from HBX.out.lt)
  have HKP := Lib.hid (fun W (hW : Below wD.heap.size wD W) => (show (fun W => Below wD.heap.size wD W ∧ W.cell? ⟨BK, 0, none⟩ = some (.slice xa xn xc)) W from ⟨hW, (HBK.out.of_eq (hW.block _ HBK.out.lt)).cell 0 _ rfl⟩))
  simp only at HKP
  have HCL := Lib.hid (fun W (hW : Below wD.heap.size wD W) => H4.out W (belowStep hW HB.out) (by have := HGN.out; omega))
  have HD0 := Lib.hid (Below.refl wD.heap.size wD).drew
  have HD2 := Lib.hid (show Below wD.heap.size wD (wD.alloc (.cells #[.slice xa xn xc] 24)).drew from ((Below.refl wD.heap.size wD).alloc (Nat.le_refl _) _).drew)
  have HALC := Lib.hid (fun W (hW : Below wD.heap.size wD W) => (hW.alloc hW.size (.cells #[.slice xa xn xc] 24)))
  have hwr3 : IntKind.i64.wrap (i : Int) = (i : Int) := by rw [IntKind.wrap_i64]; omega
  have HIN1 := Lib.hid (fun wn va vc us (hW : Below wD.heap.size wD wn) (h1 : wn.ownsRow wD.drew.heap.size 24 1 (.slice va gn vc) gn us) (h2 : KindRow wn (· < w.heap.size) us g) => (show Calls Try.prog 15 #[.slice va gn vc, .int .i64 i, .slice (some ⟨wn.heap.size, 0, none⟩) 1 1] (wn.alloc (.cells #[.slice xa xn xc] 24)) (InsP wD.heap.size (insAt g i k) (gn + 1) (wn.alloc (.cells #[.slice xa xn xc] 24))) from by
    obtain ⟨h7, h72⟩ := boxN_new wn 24 #[.slice xa xn xc]
    have hS : Same (· < w.heap.size) wn (wn.alloc (.cells #[.slice xa xn xc] 24)) := fun q hq => h72.block q (by have : q < w.heap.size := hq; have := HSD.out; have := hW.size; omega)
    have hlo : ∀ q, (Value.slice va gn vc).ownBlock = some q → wD.heap.size ≤ q ∧ q < wn.heap.size := h1.lt
    exact kinsert_any wD.heap.size gn i wn.heap.size g us (.slice va gn vc) (.slice xa xn xc) k (· < w.heap.size) _ HGN.out (by omega) (h1.alloc _) (h2.keep hS) (fun q hq => by
      have hq : q < w.heap.size := hq
      refine ⟨by have := HSD.out; have := hW.size; rw [size_alloc]; omega, fun e => by have := (hlo q e).1; have := HSD.out; omega⟩) ((HKV.out _ (belowStep hW HB.out)).keep hS) h7 (fun e => by have := (hlo _ e).2; omega) (by have := hW.size; rw [size_alloc]; omega) (by omega)))
  have HIN2 := Lib.hid (fun wn va vc us (hW : Below (wD.alloc (.cells #[.slice xa xn xc] 24)).drew.heap.size (wD.alloc (.cells #[.slice xa xn xc] 24)).drew wn) (h1 : wn.ownsRow (wD.alloc (.cells #[.slice xa xn xc] 24)).drew.heap.size 24 1 (.slice va gn vc) gn us) (h2 : KindRow wn (· < w.heap.size) us g) => (show Calls Try.prog 15 #[.slice va gn vc, .int .i64 i, .slice (some ⟨wD.heap.size, 0, none⟩) 1 1] wn (InsP wD.heap.size (insAt g i k) (gn + 1) wn) from by
    obtain ⟨h7, h72⟩ := boxN_new wD 24 #[.slice xa xn xc]
    have hsz : (wD.alloc (.cells #[.slice xa xn xc] 24)).drew.heap.size = wD.heap.size + 1 := size_alloc _ _
    have hW1 : Below wD.heap.size wD wn := belowStep (a := wD) hW HD2.out
    have hlo : ∀ q, (Value.slice va gn vc).ownBlock = some q → (wD.alloc (.cells #[.slice xa xn xc] 24)).drew.heap.size ≤ q ∧ q < wn.heap.size := h1.lt
    exact kinsert_any wD.heap.size gn i wD.heap.size g us (.slice va gn vc) (.slice xa xn xc) k (· < w.heap.size) _ HGN.out (by omega) (own_low h1 (by omega)) h2 (fun q hq => by
      have hq : q < w.heap.size := hq
      refine ⟨by have := HSD.out; have := hW1.size; omega, fun e => by have := (hlo q e).1; have := HSD.out; omega⟩) (HKV.out _ (belowStep hW1 HB.out)) (h7.of_eq (hW.block _ (by omega))) (fun e => by have := (hlo _ e).1; omega) hW1.size (by omega)))
  clear H4
  go_upto_region 9 with fail
  go_wp2_with fail
  go_region_held3 (fun W => Below wD.heap.size wD W ∧ W.cell? ⟨BK, 0, none⟩ = some (.slice xa xn xc))
    (first | (with_reducible exact HKP.out _ HD0.out) | (with_reducible exact HKP.out _ (by assumption)) | (with_reducible exact HKP.out _ (HALC.out _ (by assumption))) | (with_reducible exact HKP.out _ HD2.out))
    (first
    | (go_at_call 16; (with_reducible refine (HCL.out _ (by first | exact HD0.out | exact HD2.out | assumption)).mono ?_); rintro e wn ⟨⟨sv, us, rfl, hrow, hkids⟩, hbn⟩; obtain ⟨va, vc, hvf, -⟩ := row_form hrow; subst hvf; have hbn2 := belowStep (a := wD) hbn (by first | exact HD0.out | exact HD2.out | assumption))
    | (go_at_call 15; (with_reducible (first | refine (HIN1.out _ _ _ _ (by assumption) (by assumption) (by assumption)).mono ?_ | refine (HIN2.out _ _ _ _ (by assumption) (by assumption) (by assumption)).mono ?_)); rintro e wI ⟨⟨ia, ic, rfl, hins⟩, hbI⟩; have hbI2 : Below wD.heap.size wD wI := (by first | exact Below.trans (HALC.out _ hbn2) hbI | exact Below.trans hbn2 hbI)))
  all_goals
    have HINS := Lib.hid hins
    replace HB := Lib.hid (belowStep hbI2 HB.out)
    replace HBX := Lib.hid (HBX.out.of_eq (hbI2.block _ HBX.out.lt))
    replace HDX := Lib.hid (HDX.out.of_eq (hbI2.block _ HDX.out.lt))
    replace HDV := Lib.hid ((HDV.out.keep (Same.of_below hbI2 (fun _ h => h))).mono (fun q hq => (show q < wI.heap.size from Nat.lt_of_lt_of_le hq hbI2.size)))
    clear hins hbI2 hbI hbn2 hbn hrow hkids HIN1 HIN2 HKP HCL HALC HD0 HD2 HBK HKV
    have c0 := HBX.out.cell 0 (.int .i64 op) rfl
    have c1 := HBX.out.cell 1 (.int .i64 num) rfl
    have c2 := HBX.out.cell 2 (.string s) rfl
    have c3 := HBX.out.cell 3 (.slice ka kn kc) rfl
    have c4 := HBX.out.cell 4 (.slice na nn nc) rfl
    have c5 := HBX.out.cell 5 (.slice la ln lc) rfl
    go_wp2_with fail
    clear c0 c1 c2 c3 c4 c5
    refine (H1.out _ HB.out).mono ?_
    rintro e wO ⟨⟨ra, rn, rc, rfl, hr⟩, hbO⟩
    obtain ⟨r0, hr0⟩ : ∃ r, r = ofOut g t := ⟨_, rfl⟩
    rw [← hr0] at hr HEQ ⊢
    clear hr0
    have hlt : ∀ q, Ext (fun x => x < w.heap.size) wI wO q → q < wO.heap.size := fun q hq => by
      have h1 := hbO.size
      have h2 := HBX.out.lt
      rcases hq with hq | hq
      · have hq : q < w.heap.size := hq
        omega
      · exact hq.2
    obtain ⟨hbk, hbk2⟩ := boxN_new wO 24 #[.slice ra rn rc]
    have hbP := belowStep hbk2 hbO
    have HK1 := Lib.hid ((hr.keep (Same.of_below hbk2 hlt)).mono (fun q hq => (show q < (wO.alloc (.cells #[.slice ra rn rc] 24)).heap.size from by rw [size_alloc]; have := hlt q hq; omega)))
    have HBK1 := Lib.hid hbk
    replace HB := Lib.hid (belowStep hbP HB.out)
    replace HDX := Lib.hid (HDX.out.of_eq (hbP.block _ HDX.out.lt))
    replace HDV := Lib.hid ((HDV.out.keep (Same.of_below hbP (fun _ h => h))).mono (fun q hq => (show q < (wO.alloc (.cells #[.slice ra rn rc] 24)).heap.size from Nat.lt_of_lt_of_le hq hbP.size)))
    replace HINS := Lib.hid ((HINS.out.keep (Same.of_below hbP (fun _ h => h))).mono (fun q hq => (show q < (wO.alloc (.cells #[.slice ra rn rc] 24)).heap.size from Nat.lt_of_lt_of_le hq hbP.size)))
    clear hbk hbk2 hbP hlt hr hbO H1 HBX
    go_upto_region 11 with fail
    generalize wO.alloc (.cells #[.slice ra rn rc] 24) = wP at *
    generalize wO.heap.size = B1 at *
    have HO2 := Lib.hid (of_any (· < wP.heap.size) (insAt g i k) d1 wP _ _ (fun _ h => h) HINS.out HDV.out)
    rw [HEQ.out] at HO2
    have d0 := HDX.out.cell 0 (.int .i64 op3) rfl
    have d1 := HDX.out.cell 1 (.int .i64 num3) rfl
    have d2 := HDX.out.cell 2 (.string str3) rfl
    have d3 := HDX.out.cell 3 (.slice ya yn yc) rfl
    have d4 := HDX.out.cell 4 (.slice za zn zc) rfl
    have d5 := HDX.out.cell 5 (.slice pa pn pc) rfl
    go_wp2_with fail
    clear d0 d1 d2 d3 d4 d5
    refine HO2.out.mono ?_
    rintro e wQ ⟨⟨ta, tn, tc, rfl, hk2⟩, hbQ⟩
    have hlt : ∀ q, Ext (fun x => x < wP.heap.size) wP wQ q → q < wQ.heap.size := fun q hq => by
      have h1 := hbQ.size
      rcases hq with hq | hq
      · have hq : q < wP.heap.size := hq
        omega
      · exact hq.2
    obtain ⟨hbk, hbk2⟩ := boxN_new wQ 24 #[.slice ta tn tc]
    have hbF := belowStep hbk2 hbQ
    have HK2 := Lib.hid ((hk2.keep (Same.of_below hbk2 hlt)).mono (fun q hq => (show q < (wQ.alloc (.cells #[.slice ta tn tc] 24)).heap.size from by rw [size_alloc]; have := hlt q hq; omega)))
    have HBK2 := Lib.hid hbk
    replace HK1 := Lib.hid ((HK1.out.keep (Same.of_below hbF (fun _ h => h))).mono (fun q hq => (show q < (wQ.alloc (.cells #[.slice ta tn tc] 24)).heap.size from Nat.lt_of_lt_of_le hq hbF.size)))
    replace HBK1 := Lib.hid (HBK1.out.of_eq (hbF.block _ HBK1.out.lt))
    replace HB := Lib.hid (belowStep hbF HB.out)
    clear hbk hbk2 hbF hbQ hlt hk2 HO2 HINS HDV HDX HEQ
    go_upto_region 12 with fail
    generalize wQ.alloc (.cells #[.slice ta tn tc] 24) = wF at *
    generalize wQ.heap.size = B2 at *
    have HSK := Lib.hid (rsameK_any (· < wF.heap.size) (· < wF.heap.size) r0.kd r0.kd wF (.agg #[.slice ra rn rc]) (.agg #[.slice ta tn tc]) (fun _ h => h) (fun _ h => h) ⟨_, rfl, HK1.out⟩ ⟨_, rfl, HK2.out⟩)
    rw [(K.eqv_iff r0.kd r0.kd).2 rfl] at HSK
    have a0 := HBK1.out.cell 0 (.slice ra rn rc) rfl
    have b0 := HBK2.out.cell 0 (.slice ta tn tc) rfl
    have qe : (r0.er == r0.er) = true := by simp
    generalize r0.er = er at *
    go_wp2_with fail
    clear a0 b0
    refine HSK.out.mono ?_
    rintro e wG ⟨rfl, hbG⟩
    replace HB := Lib.hid (belowStep hbG HB.out)
    clear hbG HSK
    go_wp2
    go_ret
    exact ⟨rfl, HB.out⟩
end Go.Proofs.Ytmjkeejinagokaa
