/-
  Walks and plain mathematics, several texts in one (Ea Eb).
-/
import Derived.Test.YtkmgnibopmpcjaaGreatDoorH19
/-
  Memory of layer 4: what a call, a store or a new block leaves as it was; and what each callee answers, part by part.
-/
namespace Go.Proofs.YtkmgnibopmpcjaaGreatDoor
open Go Go.RowKit
set_option linter.unusedSimpArgs false
abbrev Own (B : Nat) (W : World) : Nat → Prop := fun b => B ≤ b ∧ b < W.heap.size
section
variable {w W W' : World} {B o g i : Nat} {s : Src}
theorem blk_fr {b : Nat} {T : TypeId} {cs : Array Value} (h : Blk W b T cs) (hne : b ≠ o) (hf : Fr (· = o) (· = o) W W') : Blk W' b T cs := h.of_eq (hf.block h.lt hne)
theorem same_fr (ho : o < B) (hf : Fr (· = o) (· = o) W W') : Same (Own B W) W W' := fun b hb => hf.block hb.2 (fun e => by have := hb.1; have e : b = o := e; omega)
theorem own_fr (hf : Fr (· = o) (· = o) W W') : ∀ b, Own B W b → Own B W' b := fun _ hb => ⟨hb.1, Nat.lt_of_lt_of_le hb.2 hf.size⟩
theorem own_low {B' : Nat} (hB : B ≤ B') : ∀ b, Own B' W b → Own B W b := fun _ hb => ⟨Nat.le_trans hB hb.1, hb.2⟩
theorem tree_fr {t : Pl.Syn} {v : Value} (h : SynV W (Own B W) t v) (ho : o < B) (hf : Fr (· = o) (· = o) W W') : SynV W' (Own B W') t v := (h.keep (same_fr ho hf)).mono (own_fr hf)
theorem pat_fr (h : PAt W g s i) (ho : g < o) (hf : Fr (· = o) (· = o) W W') : PAt W' g s i :=
  ⟨blk_fr h.blk (by omega) hf, h.before, h.src.keep (hf.block (Nat.lt_trans h.before h.blk.lt) (by have := h.before; omega)), h.inn⟩
theorem fr_over (h : Fr (· = g) (· = g) w W) (ho : w.heap.size ≤ o) (hf : Fr (· = o) (· = o) W W') : Fr (· = g) (· = g) w W' :=
  ⟨hf.1.trans h.1, hf.2.1.trans h.2.1, hf.2.2.1.trans h.2.2.1, Nat.le_trans h.size hf.size, fun i hi hn => (hf.block (Nat.lt_of_lt_of_le hi h.size) (fun e => by have e : i = o := e; omega)).trans (h.block hi hn), fun _ hi => .inl hi⟩
theorem fr_put (W : World) (o j : Nat) (v : Value) : Fr (· = o) (· = o) W (W.setCell ⟨o, j, none⟩ v) :=
  ⟨rfl, rfl, rfl, by simp [World.setCell], fun i _ hn => Below.heap_setCell W ⟨o, j, none⟩ v i hn, fun _ h => .inl h⟩
theorem fr_new (o : Nat) (W : World) (x : Obj) : Fr (· = o) (· = o) W (W.alloc x) := fr_below ((Below.refl _ _).alloc (Nat.le_refl _) x)
theorem fr_drew (o : Nat) (W : World) : Fr (· = o) (· = o) W W.drew := fr_below (Below.refl W.heap.size W).drew
theorem fr_putFive (W : World) (o : Nat) (x0 x1 x2 x3 x4 : Value) : Fr (· = o) (· = o) W (putFive W o x0 x1 x2 x3 x4) := by
  unfold putFive
  exact ((((fr_put _ _ _ _).trans (fr_put _ _ _ _)).trans (fr_put _ _ _ _)).trans (fr_put _ _ _ _)).trans (fr_put _ _ _ _)
abbrev Win (B Z : Nat) : Nat → Prop := fun b => B ≤ b ∧ b < Z
theorem same_win {Z : Nat} (ho : o < B ∨ Z ≤ o) (hZ : Z ≤ W.heap.size) (hf : Fr (· = o) (· = o) W W') : Same (Win B Z) W W' := fun b hb => hf.block (Nat.lt_of_lt_of_le hb.2 hZ) (fun e => by have e : b = o := e; have := hb.1; have := hb.2; omega)
theorem strs_win {Z : Nat} {t : List ByteArray} {v : Value} (h : StrSl W (Win B Z) v t) (ho : o < B ∨ Z ≤ o) (hZ : Z ≤ W.heap.size) (hf : Fr (· = o) (· = o) W W') : StrSl W' (Win B Z) v t := h.keep (same_win ho hZ hf)
theorem TreesAt.owned {v : Value} {ts : List Pl.Syn} (h : TreesAt W B v ts) {k : Nat} (hk : v.ownBlock = some k) : B ≤ k ∧ k < W.heap.size := by
  obtain ⟨us, R, h1, -, -⟩ := h
  exact h1.lt k hk
theorem TreesAt.low {B' : Nat} {v : Value} {ts : List Pl.Syn} (h : TreesAt W B' v ts) (hB : B ≤ B') : TreesAt W B v ts := by
  obtain ⟨us, R, h1, h2, h3⟩ := h
  refine ⟨us, R, ⟨h1.1, ?_⟩, fun b hb => ⟨Nat.le_trans hB (h2 b hb).1, (h2 b hb).2⟩, h3⟩
  rcases h1.2 with h | ⟨g, cap, cur, hv, hb, h⟩
  · exact .inl h
  · exact .inr ⟨g, cap, cur, hv, Nat.le_trans hB hb, h⟩
theorem trees_one_at {y : Pl.Syn} {y0 y1 y2 y3 y4 : Value} (hle : B ≤ W.heap.size) (hy : SynV W (Own B W) y (.agg #[y0, y1, y2, y3, y4])) :
    TreesAt (W.alloc (.cells #[y0, y1, y2, y3, y4] 28)) B (.slice (some ⟨W.heap.size, 0, none⟩) 1 1) [y] := by
  have hb : Below W.heap.size W (W.alloc (.cells #[y0, y1, y2, y3, y4] 28)) := (Below.refl _ _).alloc (Nat.le_refl _) _
  refine ⟨[y0, y1, y2, y3, y4], fun b => B ≤ b ∧ b < W.heap.size, World.ownsRow_lit (base := B) (e := 28) (size := 5) W #[y0, y1, y2, y3, y4] 1 hle (by unfold maxLen; omega) rfl, fun b h => ⟨h.1, Nat.lt_of_lt_of_le h.2 hb.size, fun e => ?_⟩, fun j hj => ?_⟩
  · have e : some W.heap.size = some b := e
    injection e with e
    omega
  · have e : j = 0 := by simp at hj; omega
    subst e
    exact ⟨_, ⟨y0, y1, y2, y3, y4, rfl, rfl, rfl, rfl, rfl, rfl⟩, hy.keep (fun b h => hb.block b h.2)⟩
theorem trees_append {S : Nat} {v : Value} {ts : List Pl.Syn} {y : Pl.Syn} {y0 y1 y2 y3 y4 : Value} (h : TreesAt W B v ts) (hy : SynV W (Own S W) y (.agg #[y0, y1, y2, y3, y4])) (hS : B ≤ S) (hO : ∀ k, v.ownBlock = some k → k < S) :
    ∃ us, (W.alloc (.cells #[y0, y1, y2, y3, y4] 28)).ownsRow B 28 5 v ts.length us ∧ ∀ w' v', w'.ownsRow B 28 5 v' (ts.length + 1) (us ++ [y0, y1, y2, y3, y4]) → (W.alloc (.cells #[y0, y1, y2, y3, y4] 28)).grownBy w' v.ownBlock → (∀ k, v'.ownBlock = some k → v.ownBlock = some k ∨ W.heap.size + 1 ≤ k) → TreesAt w' B v' (ts ++ [y]) := by
  have hb : Below W.heap.size W (W.alloc (.cells #[y0, y1, y2, y3, y4] 28)) := (Below.refl _ _).alloc (Nat.le_refl _) _
  have hsz : (W.alloc (.cells #[y0, y1, y2, y3, y4] 28)).heap.size = W.heap.size + 1 := by simp
  obtain ⟨us, R, h1, h2, h3⟩ := h
  have ho := h1.kept (w' := W.alloc (.cells #[y0, y1, y2, y3, y4] 28)) (row := some W.heap.size) ⟨rfl, rfl, rfl, hb.size, fun k hk _ => hb.block k hk⟩ (.inr fun e => by
    have := (h1.lt _ e).2
    omega)
  refine ⟨us, ho, fun w' v' hw hgr hk => ?_⟩
  have hm : ∀ b, R b → B ≤ b ∧ b < (W.alloc (.cells #[y0, y1, y2, y3, y4] 28)).heap.size ∧ v.ownBlock ≠ some b := fun b hb' => ⟨(h2 b hb').1, Nat.lt_of_lt_of_le (h2 b hb').2.1 hb.size, (h2 b hb').2.2⟩
  refine trees_push (S := Own S W) ho hm (fun j hj => ?_) (hy.keep fun b hb' => hb.block b hb'.2) (fun b hb' => ⟨Nat.le_trans hS hb'.1, Nat.lt_of_lt_of_le hb'.2 hb.size, fun e => by have := hO b e; have := hb'.1; omega⟩) (by rw [List.length_append]; exact hw) hgr (fun k hk' => by rw [hsz]; exact hk k hk')
  obtain ⟨x, hx, hs⟩ := h3 j hj
  exact ⟨x, hx, hs.keep fun b hb' => hb.block b (h2 b hb').2.1⟩
theorem CellsAt.right {us vs : List Value} {o : Nat} {v : Value} (h : CellsAt vs o v) : CellsAt (us ++ vs) (us.length + o) v := by
  obtain ⟨x0, x1, x2, x3, x4, rfl, h0, h1, h2, h3, h4⟩ := h
  have each : ∀ (i : Nat) (x : Value), vs[i]? = some x → (us ++ vs)[us.length + i]? = some x := by
    intro i x hx
    rw [List.getElem?_append_right (by omega), Nat.add_sub_cancel_left]
    exact hx
  exact ⟨x0, x1, x2, x3, x4, rfl, each _ _ h0, by rw [Nat.add_assoc]; exact each _ _ h1, by rw [Nat.add_assoc]; exact each _ _ h2, by rw [Nat.add_assoc]; exact each _ _ h3, by rw [Nat.add_assoc]; exact each _ _ h4⟩
theorem cells_one {R : Nat → Prop} {vs : List Value} {ys : List Pl.Syn} (hl : vs.length = ys.length * 5) (h : ∀ j (hj : j < ys.length), ∃ x, CellsAt vs (j * 5) x ∧ SynV W R ys[j] x) : ∀ u ∈ vs, u.oneCell' = true := by
  intro u hu
  obtain ⟨i, hi, hiu⟩ := List.getElem_of_mem hu
  obtain ⟨x, ⟨x0, x1, x2, x3, x4, hx, h0, h1, h2, h3, h4⟩, hs⟩ := h (i / 5) (by omega)
  obtain ⟨y0, y1, y2, na, nl, nc, la, ll, lc, hy⟩ := tree_open hs
  rw [hx] at hy
  injection hy with hy
  simp only [Array.mk.injEq, List.cons.injEq, and_true] at hy
  obtain ⟨rfl, rfl, rfl, rfl, rfl⟩ := hy
  have hu' : vs[i]? = some u := by rw [List.getElem?_eq_getElem hi, hiu]
  have hr : i = i / 5 * 5 + i % 5 := by omega
  have hlt : i % 5 < 5 := Nat.mod_lt _ (by omega)
  generalize i / 5 * 5 = o at *
  generalize i % 5 = m at *
  subst hr
  match m, hlt with
  | 0, _ => rw [Nat.add_zero, h0] at hu'; injection hu' with e; subst e; rfl
  | 1, _ => rw [h1] at hu'; injection hu' with e; subst e; rfl
  | 2, _ => rw [h2] at hu'; injection hu' with e; subst e; rfl
  | 3, _ => rw [h3] at hu'; injection hu' with e; subst e; rfl
  | 4, _ => rw [h4] at hu'; injection hu' with e; subst e; rfl
theorem trees_pushes {S : Nat} {v x : Value} {ts ys : List Pl.Syn} (h : TreesAt W B v ts) (hy : TreesAt W S x ys) (hS : B ≤ S) (hO : ∀ k, v.ownBlock = some k → k < S) :
    ∃ us vs, W.ownsRow B 28 5 v ts.length us ∧ W.ownsRow S 28 5 x ys.length vs ∧ (∀ u ∈ vs, u.oneCell' = true) ∧ ∀ w' v', w'.ownsRow B 28 5 v' (ts.length + ys.length) (us ++ vs) → W.grownBy w' v.ownBlock → (∀ k, v'.ownBlock = some k → v.ownBlock = some k ∨ W.heap.size ≤ k) → TreesAt w' B v' (ts ++ ys) := by
  obtain ⟨us, R, h1, h2, h3⟩ := h
  obtain ⟨vs, R', k1, k2, k3⟩ := hy
  refine ⟨us, vs, h1, k1, cells_one k1.1 k3, fun w' v' hw hg hb => ?_⟩
  have hall : ∀ b, R b ∨ R' b → B ≤ b ∧ b < W.heap.size ∧ v.ownBlock ≠ some b := fun b h => h.elim (h2 b) (fun h => ⟨Nat.le_trans hS (k2 b h).1, (k2 b h).2.1, fun e => by have := hO b e; have := (k2 b h).1; omega⟩)
  have hsame : Same (fun b => R b ∨ R' b) W w' := fun b h => hg.block b (hall b h).2.1 (fun e => (hall b h).2.2 e.symm)
  refine ⟨us ++ vs, fun b => R b ∨ R' b, by rw [List.length_append]; exact hw, fun b h => ⟨(hall b h).1, Nat.lt_of_lt_of_le (hall b h).2.1 hg.size, fun e => ?_⟩, fun j hj => ?_⟩
  · rcases hb b e with e | e
    · exact (hall b h).2.2 e
    · have := (hall b h).2.1
      omega
  · rcases Nat.lt_or_ge j ts.length with hlt | hge
    · obtain ⟨z, hz, hs⟩ := h3 j hlt
      refine ⟨z, hz.left, ?_⟩
      rw [List.getElem_append_left hlt]
      exact (hs.mono (fun b hb => Or.inl hb)).keep hsame
    · have hj2 : j - ts.length < ys.length := by rw [List.length_append] at hj; omega
      obtain ⟨z, hz, hs⟩ := k3 (j - ts.length) hj2
      refine ⟨z, ?_, ?_⟩
      · have := CellsAt.right (us := us) hz
        rw [h1.1, ← Nat.add_mul, Nat.add_sub_cancel' hge] at this
        exact this
      · rw [List.getElem_append_right hge]
        exact (hs.mono (fun b hb => Or.inr hb)).keep hsame
theorem fr_row {row : Option Nat} (h : Fr (· = g) (· = g) w W) (hg : W.grownBy W' row) (hr : ∀ k, row = some k → w.heap.size ≤ k) : Fr (· = g) (· = g) w W' := fr_grown h hg hr
theorem blk_grown {b : Nat} {T : TypeId} {cs : Array Value} {row : Option Nat} (h : Blk W b T cs) (hg : W.grownBy W' row) (hr : ∀ k, row = some k → b < k) : Blk W' b T cs := h.of_eq (hg.block b h.lt (fun e => by have := hr b e.symm; omega))
theorem tree_of {op n : Int} {tx : ByteArray} {ns : List ByteArray} {l : List Pl.Syn} {nv lv : Value} (ht : tx.size ≤ maxLen) (hn : StrSl W (Own B W) nv ns) (hl : SynSl W (Own B W) lv l) : SynV W (Own B W) ⟨op, n, tx, ns, l⟩ (.agg #[.int .i64 op, .int .i64 n, .string tx, nv, lv]) := synV_make ht hn hl
theorem tree_bad {r : Pl.PR Pl.Syn} {j : Nat} (hr : r = .bad j) (hf : Fr (· = g) (· = g) w W) : TreeOut s g r w (faultAt s j) W := by
  subst hr
  exact ⟨rfl, hf⟩
theorem trees_bad {r : Pl.PR (List Pl.Syn)} {j : Nat} (hr : r = .bad j) (hf : Fr (· = g) (· = g) w W) : TreesOut s g r w (faultAt s j) W := by
  subst hr
  exact ⟨rfl, hf⟩
theorem tree_ok {r : Pl.PR Pl.Syn} {t : Pl.Syn} {j : Nat} {v : Value} (hr : r = .ok t j) (h : (∃ u, Ending.returned v = .returned u ∧ SynV W (fun b => w.heap.size ≤ b ∧ b < W.heap.size) t u ∧ PAt W g s j) ∧ Fr (· = g) (· = g) w W) : TreeOut s g r w (.returned v) W := by
  subst hr
  exact h
theorem TreeOut.split {r : Pl.PR Pl.Syn} {e : Ending} (h : TreeOut s g r W e W') :
    (∃ j, r = .bad j ∧ e = faultAt s j ∧ Fr (· = g) (· = g) W W') ∨ (∃ t j x0 x1 x2 na nl nc la ll lc, r = .ok t j ∧ e = .returned (.agg #[.int .i64 x0, .int .i64 x1, .string x2, .slice na nl nc, .slice la ll lc]) ∧ SynV W' (Own W.heap.size W') t (.agg #[.int .i64 x0, .int .i64 x1, .string x2, .slice na nl nc, .slice la ll lc]) ∧ PAt W' g s j ∧ Fr (· = g) (· = g) W W') := by
  obtain ⟨h, hf⟩ := h
  cases r with
  | bad j => exact .inl ⟨j, rfl, h, hf⟩
  | ok t j =>
    obtain ⟨v, rfl, hs, hp⟩ := h
    obtain ⟨x0, x1, x2, na, nl, nc, la, ll, lc, rfl⟩ := tree_open hs
    exact .inr ⟨t, j, x0, x1, x2, na, nl, nc, la, ll, lc, rfl, rfl, hs, hp, hf⟩
theorem TreesOut.split {r : Pl.PR (List Pl.Syn)} {e : Ending} (h : TreesOut s g r W e W') :
    (∃ j, r = .bad j ∧ e = faultAt s j ∧ Fr (· = g) (· = g) W W') ∨ (∃ ts j la lc, r = .ok ts j ∧ e = .returned (.slice la ts.length lc) ∧ TreesAt W' W.heap.size (.slice la ts.length lc) ts ∧ PAt W' g s j ∧ Fr (· = g) (· = g) W W') := by
  obtain ⟨h, hf⟩ := h
  cases r with
  | bad j => exact .inl ⟨j, rfl, h, hf⟩
  | ok ts j =>
    obtain ⟨v, rfl, hs, hp⟩ := h
    obtain ⟨a, c, hv, -⟩ := hs.syns
    subst hv
    exact .inr ⟨ts, j, a, c, rfl, rfl, hs, hp, hf⟩
theorem NamesOut.split {r : Pl.PR (List ByteArray)} {e : Ending} (h : NamesOut s g r W e W') :
    (∃ j, r = .bad j ∧ e = faultAt s j ∧ Fr (· = g) (· = g) W W') ∨ (∃ ns j la lc, r = .ok ns j ∧ e = .returned (.slice la ns.length lc) ∧ StrSl W' (Own W.heap.size W') (.slice la ns.length lc) ns ∧ PAt W' g s j ∧ Fr (· = g) (· = g) W W') := by
  obtain ⟨h, hf⟩ := h
  cases r with
  | bad j => exact .inl ⟨j, rfl, h, hf⟩
  | ok ns j =>
    obtain ⟨v, rfl, hs, hp⟩ := h
    obtain ⟨a, c, hv, -⟩ := id hs
    subst hv
    exact .inr ⟨ns, j, a, c, rfl, rfl, hs, hp, hf⟩
theorem NeedOut.split {r : Pl.PR Unit} {e : Ending} (h : NeedOut s g r W e W') :
    (∃ j, r = .bad j ∧ e = faultAt s j ∧ Fr (· = g) (· = g) W W') ∨ (∃ j v, r = .ok () j ∧ e = .returned v ∧ PAt W' g s j ∧ Fr (· = g) (· = g) W W') := by
  obtain ⟨h, hf⟩ := h
  cases r with
  | bad j => exact .inl ⟨j, rfl, h, hf⟩
  | ok u j =>
    obtain ⟨⟨v, rfl⟩, hp⟩ := h
    exact .inr ⟨j, v, rfl, rfl, hp, hf⟩
theorem TakeOut.split {r : Pl.PR Pl.Bytes} {e : Ending} (h : TakeOut s g r W e W') :
    (∃ j, r = .bad j ∧ e = faultAt s j ∧ Fr (· = g) (· = g) W W') ∨ (∃ t j, r = .ok t j ∧ e = .returned (.string (Pl.mk t)) ∧ PAt W' g s j ∧ Fr (· = g) (· = g) W W') := by
  obtain ⟨h, hf⟩ := h
  cases r with
  | bad j => exact .inl ⟨j, rfl, h, hf⟩
  | ok t j =>
    obtain ⟨rfl, hp⟩ := h
    exact .inr ⟨t, j, rfl, rfl, hp, hf⟩
theorem TokenOut.split {e : Ending} (h : TokenOut s i W e W') (hP : PAt W g s i) : ∃ li co, e = .returned (.agg #[.int .i64 (Pl.tkAt s.ts i).kind, .string (Pl.mk (Pl.tkAt s.ts i).text), .int .i64 li, .int .i64 co]) ∧ PAt W' g s i ∧ Fr (· = g) (· = g) W W' := by
  obtain ⟨⟨li, co, rfl⟩, hb⟩ := h
  exact ⟨li, co, rfl, hP.below hb, fr_below hb⟩
theorem take_len (h : PAt W g s i) {k : Int} {t : Pl.Bytes} {j : Nat} (hk : Pl.takeK s.ts k i = .ok t j) : (Pl.mk t).size ≤ maxLen := by
  unfold Pl.takeK at hk
  split at hk
  · injection hk with h1 h2
    rw [← h1]
    exact text_lens h.src i
  · cases hk
theorem ppass_yes {b : Pl.Bytes} (hb : b ≠ []) (h : PAt W g s i) (hq : Pl.passes s.ts i b = true) : Calls Tryz.prog 77 #[.pointer (some ⟨g, 0, none⟩), .string (Pl.mk b)] W fun e W' => e = .returned (.bool true) ∧ PAt W' g s (i + 1) ∧ Fr (· = g) (· = g) W W' := by
  have := ppass_any s g i b hb W h
  unfold PassOut at this
  rw [hq] at this
  exact this
theorem ppass_not {b : Pl.Bytes} (hb : b ≠ []) (h : PAt W g s i) (hq : Pl.passes s.ts i b = false) : Calls Tryz.prog 77 #[.pointer (some ⟨g, 0, none⟩), .string (Pl.mk b)] W fun e W' => e = .returned (.bool false) ∧ PAt W' g s i ∧ Fr (· = g) (· = g) W W' := by
  have := ppass_any s g i b hb W h
  unfold PassOut at this
  rw [hq] at this
  exact this
theorem need_next {b : Pl.Bytes} {j : Nat} (h : Pl.needT s.ts b i = .ok () j) : j = i + 1 := by
  unfold Pl.needT at h
  split at h
  · injection h with h1 h2
    exact h2.symm
  · cases h
theorem take_next {k : Int} {t : Pl.Bytes} {j : Nat} (h : Pl.takeK s.ts k i = .ok t j) : j = i + 1 := by
  unfold Pl.takeK at h
  split at h
  · injection h with h1 h2
    exact h2.symm
  · cases h
end
end Go.Proofs.YtkmgnibopmpcjaaGreatDoor

/-
  Walks of layer 4: an expression.
-/
namespace Go.Proofs.YtkmgnibopmpcjaaGreatDoor
open Go Go.RowKit
set_option linter.unusedSimpArgs false
set_option maxRecDepth 100000 in
set_option maxHeartbeats 8000000 in
theorem pexpression_any (s : Src) (g i : Nat) (F : Pl.Fs) (hfn : ∀ W j, i < j → PAt W g s j → Calls Tryz.prog 78 #[.pointer (some ⟨g, 0, none⟩)] W (TreeOut s g (Pl.fnB s.ts F j) W)) (hch : ∀ W j, i < j → PAt W g s j → Calls Tryz.prog 79 #[.pointer (some ⟨g, 0, none⟩)] W (TreeOut s g (Pl.ifB s.ts F j) W)) (hop : ∀ W, PAt W g s i → Calls Tryz.prog 80 #[.pointer (some ⟨g, 0, none⟩), .int .i64 1] W (TreeOut s g (F.oper 1 i) W)) (w : World) (h : PAt w g s i) :
    Calls Tryz.prog 44 #[.pointer (some ⟨g, 0, none⟩)] w (TreeOut s g (Pl.exprB s.ts F i) w) := by
  have HP := Lib.hid h
  have HG := Lib.hid h.blk.lt
  have Hfn := Lib.hid hfn
  have Hch := Lib.hid hch
  have Hop := Lib.hid hop
  obtain ⟨r, hr⟩ : ∃ r, r = Pl.exprB s.ts F i := ⟨_, rfl⟩
  rw [← hr]
  have HR := Lib.hid hr
  rw [Pl.exprB] at HR
  have HF := Lib.hid (Fr.refl (· = g) w)
  obtain ⟨B, hB⟩ : ∃ B, B = w.heap.size + 1 := ⟨_, rfl⟩
  have HGB := Lib.hid (show g < B from by have := HG.out; omega)
  have HXB := Lib.hid (show w.heap.size < B from by omega)
  have HX := Lib.hid (blk_new w #[.int .i64 0, .int .i64 0, .string ⟨#[]⟩, .slice none 0 0, .slice none 0 0] 28)
  have HXL := Lib.hid (Nat.le_refl w.heap.size)
  have hn := fr_new g w (.cells #[.int .i64 0, .int .i64 0, .string ⟨#[]⟩, .slice none 0 0, .slice none 0 0] 28)
  replace HF := Lib.hid (HF.out.trans hn)
  have HW := Lib.hid (show B ≤ (w.alloc (.cells #[.int .i64 0, .int .i64 0, .string ⟨#[]⟩, .slice none 0 0, .slice none 0 0] 28)).heap.size from by rw [hB]; simp)
  replace HP := Lib.hid (HP.out.below ((Below.refl _ _).alloc (Nat.le_refl _) (.cells #[.int .i64 0, .int .i64 0, .string ⟨#[]⟩, .slice none 0 0, .slice none 0 0] 28)))
  clear h hr hn hB hfn hch hop
  go_enter Tryz.func44, Tryz.ntmps44
  go_wp2_with fail
  generalize w.alloc (.cells #[.int .i64 0, .int .i64 0, .string ⟨#[]⟩, .slice none 0 0, .slice none 0 0] 28) = w1 at *
  cases hpb1 : Pl.passes s.ts i [102, 110]
  · refine (ppass_not (by decide) HP.out hpb1).mono ?_
    rintro e w2 ⟨rfl, hp, hf⟩
    rw [hpb1, if_neg Bool.false_ne_true] at HR
    replace HF := Lib.hid (HF.out.trans hf)
    replace HW := Lib.hid (Nat.le_trans HW.out (Fr.size hf))
    replace HX := Lib.hid (blk_fr HX.out (by have := HXL.out; have := HG.out; omega) hf)
    replace HP := Lib.hid (hp)
    clear hp hf
    go_wp2_with fail
    cases hpb2 : Pl.passes s.ts i [105, 102]
    · refine (ppass_not (by decide) HP.out hpb2).mono ?_
      rintro e w3 ⟨rfl, hp, hf⟩
      rw [hpb2, if_neg Bool.false_ne_true] at HR
      replace HF := Lib.hid (HF.out.trans hf)
      replace HW := Lib.hid (Nat.le_trans HW.out (Fr.size hf))
      replace HX := Lib.hid (blk_fr HX.out (by have := HXL.out; have := HG.out; omega) hf)
      replace HP := Lib.hid (hp)
      clear hp hf
      go_wp2_with fail
      refine (Hop.out _ HP.out).mono ?_
      rintro e w4 ho
      rcases TreeOut.split ho with ⟨q3, hri3, rfl, hf⟩ | ⟨tx, q3, x0, x1, x2, xa, xl, xc, xd, xe, xf, hri3, rfl, ht, hp, hf⟩
      · exact ⟨rfl, tree_bad (HR.out.trans hri3) (HF.out.trans hf)⟩
      replace HR := Lib.hid (HR.out.trans hri3)
      have HTx := Lib.hid (ht.mono (own_low HW.out))
      replace HF := Lib.hid (HF.out.trans hf)
      replace HW := Lib.hid (Nat.le_trans HW.out (Fr.size hf))
      replace HX := Lib.hid (blk_fr HX.out (by have := HXL.out; have := HG.out; omega) hf)
      replace HP := Lib.hid (hp)
      clear ho hp hf ht hri3
      obtain ⟨hxc0, hxc1, hxc2, hxc3, hxc4⟩ := five_cells HX.out
      have hxf0 := HX.out.thaw 0
      have hxf1 := HX.out.thaw 1
      have hxf2 := HX.out.thaw 2
      have hxf3 := HX.out.thaw 3
      have hxf4 := HX.out.thaw 4
      go_wp2_with fail
      have HEN := putFive_blk HX.out (.int .i64 x0) (.int .i64 x1) (.string x2) (.slice xa xl xc) (.slice xd xe xf)
      have HFI := tree_fin HG.out HF.out HTx.out HXB.out HP.out (.int .i64 x0) (.int .i64 x1) (.string x2) (.slice xa xl xc) (.slice xd xe xf)
      unfold putFive at HEN HFI
      obtain ⟨k0, k1, k2, k3, k4⟩ := five_cells HEN
      refine bodyPost_ret (v := .agg #[.int .i64 x0, .int .i64 x1, .string x2, .slice xa xl xc, .slice xd xe xf]) (by simp [results, Tryz.results44, go_sem, k0, k1, k2, k3, k4]) rfl ?_
      exact tree_ok HR.out HFI
    · refine (ppass_yes (by decide) HP.out hpb2).mono ?_
      rintro e w5 ⟨rfl, hp, hf⟩
      rw [hpb2, if_pos rfl] at HR
      replace HF := Lib.hid (HF.out.trans hf)
      replace HW := Lib.hid (Nat.le_trans HW.out (Fr.size hf))
      replace HX := Lib.hid (blk_fr HX.out (by have := HXL.out; have := HG.out; omega) hf)
      replace HP := Lib.hid (hp)
      clear hp hf
      go_wp2_with fail
      refine (Hch.out _ _ (by omega) HP.out).mono ?_
      rintro e w6 ho
      rcases TreeOut.split ho with ⟨q4, hri4, rfl, hf⟩ | ⟨tx, q4, x0, x1, x2, xa, xl, xc, xd, xe, xf, hri4, rfl, ht, hp, hf⟩
      · exact ⟨rfl, tree_bad (HR.out.trans hri4) (HF.out.trans hf)⟩
      replace HR := Lib.hid (HR.out.trans hri4)
      have HTx := Lib.hid (ht.mono (own_low HW.out))
      replace HF := Lib.hid (HF.out.trans hf)
      replace HW := Lib.hid (Nat.le_trans HW.out (Fr.size hf))
      replace HX := Lib.hid (blk_fr HX.out (by have := HXL.out; have := HG.out; omega) hf)
      replace HP := Lib.hid (hp)
      clear ho hp hf ht hri4
      obtain ⟨hxc0, hxc1, hxc2, hxc3, hxc4⟩ := five_cells HX.out
      have hxf0 := HX.out.thaw 0
      have hxf1 := HX.out.thaw 1
      have hxf2 := HX.out.thaw 2
      have hxf3 := HX.out.thaw 3
      have hxf4 := HX.out.thaw 4
      go_wp2_with fail
      have HEN := putFive_blk HX.out (.int .i64 x0) (.int .i64 x1) (.string x2) (.slice xa xl xc) (.slice xd xe xf)
      have HFI := tree_fin HG.out HF.out HTx.out HXB.out HP.out (.int .i64 x0) (.int .i64 x1) (.string x2) (.slice xa xl xc) (.slice xd xe xf)
      unfold putFive at HEN HFI
      obtain ⟨k0, k1, k2, k3, k4⟩ := five_cells HEN
      refine bodyPost_ret (v := .agg #[.int .i64 x0, .int .i64 x1, .string x2, .slice xa xl xc, .slice xd xe xf]) (by simp [results, Tryz.results44, go_sem, k0, k1, k2, k3, k4]) rfl ?_
      exact tree_ok HR.out HFI
  · refine (ppass_yes (by decide) HP.out hpb1).mono ?_
    rintro e w7 ⟨rfl, hp, hf⟩
    rw [hpb1, if_pos rfl] at HR
    replace HF := Lib.hid (HF.out.trans hf)
    replace HW := Lib.hid (Nat.le_trans HW.out (Fr.size hf))
    replace HX := Lib.hid (blk_fr HX.out (by have := HXL.out; have := HG.out; omega) hf)
    replace HP := Lib.hid (hp)
    clear hp hf
    go_wp2_with fail
    refine (Hfn.out _ _ (by omega) HP.out).mono ?_
    rintro e w8 ho
    rcases TreeOut.split ho with ⟨q5, hri5, rfl, hf⟩ | ⟨tx, q5, x0, x1, x2, xa, xl, xc, xd, xe, xf, hri5, rfl, ht, hp, hf⟩
    · exact ⟨rfl, tree_bad (HR.out.trans hri5) (HF.out.trans hf)⟩
    replace HR := Lib.hid (HR.out.trans hri5)
    have HTx := Lib.hid (ht.mono (own_low HW.out))
    replace HF := Lib.hid (HF.out.trans hf)
    replace HW := Lib.hid (Nat.le_trans HW.out (Fr.size hf))
    replace HX := Lib.hid (blk_fr HX.out (by have := HXL.out; have := HG.out; omega) hf)
    replace HP := Lib.hid (hp)
    clear ho hp hf ht hri5
    obtain ⟨hxc0, hxc1, hxc2, hxc3, hxc4⟩ := five_cells HX.out
    have hxf0 := HX.out.thaw 0
    have hxf1 := HX.out.thaw 1
    have hxf2 := HX.out.thaw 2
    have hxf3 := HX.out.thaw 3
    have hxf4 := HX.out.thaw 4
    go_wp2_with fail
    have HEN := putFive_blk HX.out (.int .i64 x0) (.int .i64 x1) (.string x2) (.slice xa xl xc) (.slice xd xe xf)
    have HFI := tree_fin HG.out HF.out HTx.out HXB.out HP.out (.int .i64 x0) (.int .i64 x1) (.string x2) (.slice xa xl xc) (.slice xd xe xf)
    unfold putFive at HEN HFI
    obtain ⟨k0, k1, k2, k3, k4⟩ := five_cells HEN
    refine bodyPost_ret (v := .agg #[.int .i64 x0, .int .i64 x1, .string x2, .slice xa xl xc, .slice xd xe xf]) (by simp [results, Tryz.results44, go_sem, k0, k1, k2, k3, k4]) rfl ?_
    exact tree_ok HR.out HFI
end Go.Proofs.YtkmgnibopmpcjaaGreatDoor
