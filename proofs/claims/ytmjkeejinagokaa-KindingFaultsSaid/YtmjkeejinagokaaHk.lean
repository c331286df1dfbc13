/-
  Layer 9: several texts in one (Uq Ur Us).
-/
import Derived.Test.YtmjkeejinagokaaHh
namespace Go.Proofs.Ytmjkeejinagokaa
open Go Go.RowKit
open Pl (K Con KR KS kof kofs ownK inK appK)
set_option linter.unusedSimpArgs false
set_option linter.unusedVariables false

/-- six cells are written -/
def put6x (cur : Array Value) (o : Nat) (x0 x1 x2 x3 x4 x5 : Value) : Array Value := (((((cur.setIfInBounds o x0).setIfInBounds (o + 1) x1).setIfInBounds (o + 2) x2).setIfInBounds (o + 3) x3).setIfInBounds (o + 4) x4).setIfInBounds (o + 5) x5
def store6x (w : World) (g o : Nat) (x0 x1 x2 x3 x4 x5 : Value) : World := (((((w.setCell ⟨g, o, none⟩ x0).setCell ⟨g, o + 1, none⟩ x1).setCell ⟨g, o + 2, none⟩ x2).setCell ⟨g, o + 3, none⟩ x3).setCell ⟨g, o + 4, none⟩ x4).setCell ⟨g, o + 5, none⟩ x5
theorem store6x_blk {w : World} {g : Nat} {T : TypeId} {cur : Array Value} (h : Blk w g T cur) (o : Nat) (x0 x1 x2 x3 x4 x5 : Value) : Blk (store6x w g o x0 x1 x2 x3 x4 x5) g T (put6x cur o x0 x1 x2 x3 x4 x5) :=
  (((((h.set o x0).set (o + 1) x1).set (o + 2) x2).set (o + 3) x3).set (o + 4) x4).set (o + 5) x5
theorem store6x_size (w : World) (g o : Nat) (x0 x1 x2 x3 x4 x5 : Value) : (store6x w g o x0 x1 x2 x3 x4 x5).heap.size = w.heap.size := by
  unfold store6x
  rw [size_set, size_set, size_set, size_set, size_set, size_set]
theorem store6x_other (w : World) (g o : Nat) (x0 x1 x2 x3 x4 x5 : Value) (b : Nat) (h : b ≠ g) : (store6x w g o x0 x1 x2 x3 x4 x5).heap[b]? = w.heap[b]? := by
  unfold store6x
  rw [Below.heap_setCell _ _ _ _ h, Below.heap_setCell _ _ _ _ h, Below.heap_setCell _ _ _ _ h, Below.heap_setCell _ _ _ _ h, Below.heap_setCell _ _ _ _ h, Below.heap_setCell _ _ _ _ h]
theorem store6x_only {G : Nat} {a w : World} (h : Only G a w) (g o : Nat) (x0 x1 x2 x3 x4 x5 : Value) (hg : g = G ∨ a.heap.size ≤ g) : Only G a (store6x w g o x0 x1 x2 x3 x4 x5) :=
  (((((h.setCell (p := ⟨g, o, none⟩) hg x0).setCell (p := ⟨g, o + 1, none⟩) hg x1).setCell (p := ⟨g, o + 2, none⟩) hg x2).setCell (p := ⟨g, o + 3, none⟩) hg x3).setCell (p := ⟨g, o + 4, none⟩) hg x4).setCell (p := ⟨g, o + 5, none⟩) hg x5
theorem store6x_below {B : Nat} {a w : World} (h : Below B a w) (g o : Nat) (x0 x1 x2 x3 x4 x5 : Value) (hB : B ≤ g) : Below B a (store6x w g o x0 x1 x2 x3 x4 x5) :=
  (((((h.setCell (p := ⟨g, o, none⟩) hB x0).setCell (p := ⟨g, o + 1, none⟩) hB x1).setCell (p := ⟨g, o + 2, none⟩) hB x2).setCell (p := ⟨g, o + 3, none⟩) hB x3).setCell (p := ⟨g, o + 4, none⟩) hB x4).setCell (p := ⟨g, o + 5, none⟩) hB x5
theorem put6x_all (y0 y1 y2 y3 y4 y5 x0 x1 x2 x3 x4 x5 : Value) : put6x #[y0, y1, y2, y3, y4, y5] 0 x0 x1 x2 x3 x4 x5 = #[x0, x1, x2, x3, x4, x5] := by simp [put6x]
theorem idxF_any (f : Nat) (cap : Array Value) (hen : ∀ (W : World) (args : Array Value), Sem.run Try.prog (callFunc f args) W = .ok (.enter f args) W) (w : World)
    (P : Nat → Prop) (l : List Con) (hk : ∀ t ∈ l, ∀ (W : World) (v : Value), Below w.heap.size w W → ConV W P t v → Calls Try.prog f (#[v] ++ cap) W fun e w' => e = .returned (.bool false) ∧ Below W.heap.size W w')
    (v : Value) (hP : ∀ b, P b → b < w.heap.size) (hl : ConSl w P v l) :
    Calls Try.prog 50 #[v, .func (.func f) #[] cap] w fun e w' => e = .returned (.int .i64 (-1)) ∧ Below w.heap.size w w' := by
  have HKK := Lib.hid hk
  have HP := Lib.hid hP
  have HSL := Lib.hid (fun W (hW : Below w.heap.size w W) => hl.keep (Same.of_below hW hP))
  obtain ⟨la, lc, rfl, hlc, hcm, -⟩ := hl.each
  obtain ⟨n, hn⟩ : ∃ n, n = l.length := ⟨_, rfl⟩
  have HN := Lib.hid hn
  rw [← hn] at HSL ⊢
  have hn63 : n ≤ 9223372036854775807 := by unfold maxLen at hcm; omega
  clear hl hn hcm hlc hP hk
  go_enter Try.func50, Try.ntmps50
  go_wp2_with fail
  go_loopg [8] (n + 1) (fun g i wr => ∃ k : Nat, k ≤ n ∧ i = .int .i64 k ∧ g = n + 1 - k ∧ Below w.heap.size w wr)
  case atStart => exact ⟨0, by omega, rfl, by omega, Below.refl _ _⟩
  case round =>
    obtain ⟨k, hk, rfl, hg, hbw⟩ := hrel
    have HBW := Lib.hid hbw
    by_cases hlt : k < n
    · have q5 : decide ((k : Int) < (n : Int)) = true := decide_eq_true (by omega)
      have hkl : k < l.length := by rw [← HN.out]; exact hlt
      obtain ⟨b, off, c', xa, xn, xc, ya, yn, yc, za, zn, zc, e, -, f0, f1, f2, f3, f4, f5, hx⟩ := (HSL.out wr hbw).part k hkl
      injection e with e1 e2 e3
      subst e1 e3
      clear e2
      have HC := Lib.hid (HKK.out _ (List.getElem_mem hkl) wr _ hbw hx)
      generalize l[k] = x at *
      clear hbw hx
      go_wp2_with fail
      refine HC.out.mono ?_
      rintro e w3 ⟨rfl, hb3⟩
      have HB3 := Lib.hid (belowStep hb3 HBW.out)
      clear hb3 f0 f1 f2 f3 f4 f5
      go_wp2
      go_roundg (gk - 1)
      case measure => omega
      case rel => exact ⟨k + 1, by omega, by go_num, by omega, HB3.out⟩
    · have q5 : decide ((k : Int) < (n : Int)) = false := decide_eq_false (by omega)
      clear hbw
      go_wp2
      go_ret
      exact ⟨rfl, HBW.out⟩
theorem containsF_any (f : Nat) (cap : Array Value) (hen : ∀ (W : World) (args : Array Value), Sem.run Try.prog (callFunc f args) W = .ok (.enter f args) W) (w : World)
    (P : Nat → Prop) (l : List Con) (hk : ∀ t ∈ l, ∀ (W : World) (v : Value), Below w.heap.size w W → ConV W P t v → Calls Try.prog f (#[v] ++ cap) W fun e w' => e = .returned (.bool false) ∧ Below W.heap.size W w')
    (v : Value) (hP : ∀ b, P b → b < w.heap.size) (hl : ConSl w P v l) :
    Calls Try.prog 23 #[v, .func (.func f) #[] cap] w fun e w' => e = .returned (.bool false) ∧ Below w.heap.size w w' := by
  have HC := Lib.hid (idxF_any f cap hen w P l hk v hP hl)
  obtain ⟨a, c, rfl, -⟩ := hl.each
  clear hl hP hk hen
  generalize l.length = n at *
  go_enter Try.func23, Try.ntmps23
  go_wp2_with fail
  refine HC.out.mono ?_
  rintro e w2 ⟨rfl, hb2⟩
  have HB := Lib.hid hb2
  clear hb2
  go_wp2
  go_ret
  exact ⟨rfl, HB.out⟩
/-- a row of its own that holds these kinds -/
def ClP (P : Nat → Prop) (l : List K) (n : Nat) (w : World) (e : Ending) (w' : World) : Prop := (∃ v' us, e = .returned v' ∧ w'.ownsRow w.heap.size 24 1 v' n us ∧ KindRow w' P us l) ∧ Below w.heap.size w w'
set_option maxRecDepth 100000 in
set_option maxHeartbeats 1000000 in
theorem kclone_any (P : Nat → Prop) (l : List K) (w : World) (v : Value) (hP : ∀ b, P b → b < w.heap.size) (h : KSl w P v l) (hbig : l.length ≤ 100000) :
    Calls Try.prog 16 #[v] w (ClP P l l.length w) := by
  obtain ⟨i28, hi0, hz0, hz1, hz2⟩ := info3 infoKind
  have HB := Lib.hid (show Below w.heap.size w (w.alloc (.cells #[] 24)) from (Below.refl _ _).alloc (Nat.le_refl _) _)
  have HO := Lib.hid (own_empty (base := w.heap.size) (blk_new w #[] 24) (Nat.le_refl _))
  obtain ⟨a, c, rfl, -⟩ := h.each
  obtain ⟨n, hn⟩ : ∃ n, n = l.length := ⟨_, rfl⟩
  rw [← hn] at h hbig ⊢
  obtain ⟨-, hnc, hcm, hnone, us, hul, hcells, hone, hrow⟩ := kinds_us h
  have HROW := Lib.hid hrow
  have HP := Lib.hid hP
  have HN := Lib.hid hn
  have HONE := Lib.hid hone
  cases a with
  | none =>
    obtain ⟨rfl, rfl⟩ := hnone rfl
    obtain rfl : us = [] := List.eq_nil_of_length_eq_zero hul
    have he : ∀ W : World, (binOp .eql 22 (.slice none 0 0) (.slice none 0 0)).run Try.prog W = .ok (.bool true) W := fun _ => rfl
    clear h hP hn hrow hcells hone
    go_enter Try.func16, Try.ntmps16
    go_wp2
    go_ret
    exact ⟨⟨_, [], rfl, World.ownsRow_nil _ _ _ _, HROW.out⟩, Below.refl _ _⟩
  | some ad =>
    have he : ∀ W : World, (binOp .eql 22 (.slice (some ad) n c) (.slice none 0 0)).run Try.prog W = .ok (.bool false) W := fun _ => rfl
    have HCL := Lib.hid (cells_keep HB.out hcells)
    clear h hP hn hrow hcells hone hnone
    go_enter Try.func16, Try.ntmps16
    go_wp2_with (at_builtin; refine wpList_append_own _ rfl _ _ 22 rfl w.heap.size 24 i28 (.agg #[.slice none 0 0]) 1 24 Try.underlying22 hi0 hz0 hz1 hz2 rfl (by decide) _ 0 [] rfl HO.out ad n c us rfl ?c0 ?c1 ?c2 ?c3 ?c4 ?c5 ?_)
    case c0 => rw [hul, Nat.mul_one]
    case c1 => exact HCL.out ad rfl
    case c2 => exact HONE.out
    case c3 => unfold maxLen; omega
    case c4 => omega
    case c5 => exact HB.out.size
    intro v' w1 hown hgrow _
    have HB1 := Lib.hid (HB.out.grown hgrow HB.out.size (fun j hj => (HO.out.lt j hj).1))
    have HO1 := Lib.hid (show w1.ownsRow w.heap.size 24 1 v' n us from by simpa using hown)
    clear hown hgrow
    go_wp2
    go_ret
    exact ⟨⟨v', us, rfl, HO1.out, HROW.out.keep (Same.of_below HB1.out HP.out)⟩, HB1.out⟩
end Go.Proofs.Ytmjkeejinagokaa
namespace Go.Proofs.Ytmjkeejinagokaa
open Go Go.RowKit
open Pl (K Con KR KS kof kofs ownK inK appK)
set_option linter.unusedSimpArgs false
set_option linter.unusedVariables false

theorem only_grown {b : Nat} {a w w' : World} {row : Option Nat} (h : Only b a w) (hg : w.grownBy w' row) (hr : ∀ k, row = some k → a.heap.size ≤ k) : Only b a w' :=
  ⟨hg.os.trans h.os, hg.tape.trans h.tape, hg.output.trans h.output, Nat.le_trans h.size hg.size, fun k hk hn => (hg.block k (Nat.lt_of_lt_of_le hk h.size) (fun e => by have := hr k e.symm; omega)).trans (h.block k hk hn)⟩
theorem part_valid10 (u : Con) (i : Nat) (h : i < u.l.length) (hv : Con.validB u = true) : Con.validB u.l[i] = true ∧ u.l[i].depth + 1 ≤ u.depth := by
  have hd := depth_part10 u i h
  have hs := Con.mem_size (List.getElem_mem h)
  refine ⟨?_, hd⟩
  unfold Con.validB Con.small at hv ⊢
  simp only [Bool.and_eq_true, decide_eq_true_eq] at hv ⊢
  obtain ⟨⟨h1, h2⟩, h3⟩ := hv
  rw [allB_eq, Bool.and_eq_true, List.all_eq_true] at h3
  rw [Con.size_eq] at h1
  exact ⟨⟨by omega, by omega⟩, h3.2 _ (List.getElem_mem h)⟩
theorem node_of_valid (u : Con) (hv : Con.validB u = true) : Con.nodeB u = true := by
  unfold Con.validB at hv
  rw [Bool.and_eq_true, allB_eq, Bool.and_eq_true] at hv
  exact hv.2.1
theorem given_of {s : List K} {u : Con} (hl : s.length ≤ 1000) (hs : ∀ k ∈ s, K.valid k = true) (hu : Con.validB u = true) : ofOut s u = kof s.reverse u := by
  rw [ofOut_eq, if_pos]
  unfold givenB scopeB
  rw [decide_eq_true hl, List.all_eq_true.2 hs, hu]
  rfl
/-- what the boxes of the loop hold -/
structure FB (w W7 wr : World) (B9 : Nat) (s : List K) (u : Con) (us : List Value) (sv y0 y1 y2 y3 y4 y5 : Value) : Prop where
  con : ConV wr (· < w.heap.size) u (.agg #[y0, y1, y2, y3, y4, y5])
  box : Blk wr w.heap.size 28 #[y0, y1, y2, y3, y4, y5]
  scb : Blk wr B9 22 #[sv]
  row : wr.ownsRow W7.heap.size 24 1 sv s.length us
  kids : KindRow wr (· < w.heap.size) us s
  only : Only w.heap.size W7 wr
  low : w.heap.size < W7.heap.size ∧ W7.heap.size ≤ B9
  off : sv.ownBlock ≠ some B9
theorem FB.below {w W7 wr W : World} {B9 : Nat} {s : List K} {u : Con} {us : List Value} {sv y0 y1 y2 y3 y4 y5 : Value} (h : FB w W7 wr B9 s u us sv y0 y1 y2 y3 y4 y5) (hb : Below wr.heap.size wr W) : FB w W7 W B9 s u us sv y0 y1 y2 y3 y4 y5 := by
  have hlow : ∀ q, q < w.heap.size → q < wr.heap.size := fun q hq => by have := h.box.lt; omega
  exact ⟨h.con.keep (Same.of_below hb hlow), h.box.of_eq (hb.block _ h.box.lt), h.scb.of_eq (hb.block _ h.scb.lt), h.row.kept (row := none) ⟨hb.os, hb.tape, hb.output, hb.size, fun i hi _ => hb.block i hi⟩ (by cases ho : sv.ownBlock with | none => exact .inl rfl | some k => exact .inr (by simp)), h.kids.keep (Same.of_below hb hlow), h.only.below hb h.only.size, h.low, h.off⟩
theorem FB.down {w W7 wr : World} {B9 : Nat} {s : List K} {u : Con} {us : List Value} {sv y0 y1 y2 y3 y4 y5 x0 x1 x2 x3 x4 x5 : Value} {u' : Con} (h : FB w W7 wr B9 s u us sv y0 y1 y2 y3 y4 y5) (hx : ConV wr (· < w.heap.size) u' (.agg #[x0, x1, x2, x3, x4, x5])) : FB w W7 (store6x wr w.heap.size 0 x0 x1 x2 x3 x4 x5) B9 s u' us sv x0 x1 x2 x3 x4 x5 := by
  have hl := h.low
  have hs : Same (· < w.heap.size) wr (store6x wr w.heap.size 0 x0 x1 x2 x3 x4 x5) := fun q hq => store6x_other _ _ _ _ _ _ _ _ _ q (by have : q < w.heap.size := hq; omega)
  have hb := store6x_blk h.box 0 x0 x1 x2 x3 x4 x5
  rw [put6x_all] at hb
  have hgr : wr.grownBy (store6x wr w.heap.size 0 x0 x1 x2 x3 x4 x5) (some w.heap.size) := store6x_only (Only.refl w.heap.size wr) w.heap.size 0 x0 x1 x2 x3 x4 x5 (.inl rfl)
  refine ⟨hx.keep hs, hb, h.scb.of_eq (store6x_other _ _ _ _ _ _ _ _ _ B9 (by omega)), h.row.kept (row := some w.heap.size) hgr (.inr fun e => by have := (h.row.lt _ e).1; omega), h.kids.keep hs, store6x_only h.only _ _ _ _ _ _ _ _ (.inl rfl), hl, h.off⟩
theorem FB.push {w W7 wr w1 : World} {B9 gg cap : Nat} {s : List K} {u : Con} {us : List Value} {sv y0 y1 y2 y3 y4 y5 kx : Value} {k : K} (h : FB w W7 wr B9 s u us sv y0 y1 y2 y3 y4 y5) (hk : KidV wr (· < w.heap.size) k kx)
    (hown : w1.ownsRow W7.heap.size 24 1 (.slice (some ⟨gg, 0, none⟩) (s.length + 1) cap) (s.length + 1) (us ++ [.slice none 0 0])) (hgrow : (wr.alloc (.cells #[.slice none 0 0] 24)).grownBy w1 sv.ownBlock) (hat : sv.ownBlock = some gg ∨ gg = wr.heap.size + 1) :
    FB w W7 ((w1.setCell ⟨gg, s.length, none⟩ kx).setCell ⟨B9, 0, none⟩ (.slice (some ⟨gg, 0, none⟩) (s.length + 1) cap)) B9 (s ++ [k]) u (us ++ [kx]) (.slice (some ⟨gg, 0, none⟩) (s.length + 1) cap) y0 y1 y2 y3 y4 y5 := by
  have hl := h.low
  have hbl := h.scb.lt
  have hos := h.only.size
  have hold : ∀ q, sv.ownBlock = some q → W7.heap.size ≤ q ∧ q < wr.heap.size := h.row.lt
  have hgg : W7.heap.size ≤ gg := (hown.lt gg rfl).1
  have hgB : gg ≠ B9 := by
    rcases hat with h5 | h5
    · intro e; rw [e] at h5; exact h.off h5
    · omega
  have hsame : ∀ q, q < wr.heap.size → sv.ownBlock ≠ some q → w1.heap[q]? = wr.heap[q]? := fun q ha hb => (hgrow.block q (by rw [size_alloc]; omega) (fun e => hb e.symm)).trans (Below.heap_alloc wr _ q ha)
  have hS : Same (· < w.heap.size) wr ((w1.setCell ⟨gg, s.length, none⟩ kx).setCell ⟨B9, 0, none⟩ (.slice (some ⟨gg, 0, none⟩) (s.length + 1) cap)) := fun q (hq : q < w.heap.size) =>
    ((Below.heap_setCell _ ⟨B9, 0, none⟩ _ q (by show q ≠ B9; omega)).trans (Below.heap_setCell _ ⟨gg, s.length, none⟩ _ q (by show q ≠ gg; omega))).trans (hsame q (by omega) (fun e => by have := (hold q e).1; omega))
  have hus : us.length = s.length := by have := h.row.1; rw [Nat.mul_one] at this; exact this
  have hset : (us ++ [Value.slice none 0 0]).set s.length kx = us ++ [kx] := by
    rw [List.set_append_right _ _ (by omega), hus, Nat.sub_self]
    rfl
  have hst := (hown.stored s.length kx).1
  rw [hset] at hst
  refine ⟨h.con.keep hS, ?_, ?_, ?_, (h.kids.keep hS).push (hk.keep hS), ?_, hl, ?_⟩
  · exact ((h.box.of_eq (hsame _ h.box.lt (fun e => by have := (hold _ e).1; omega))).other ⟨gg, s.length, none⟩ kx (by show w.heap.size ≠ gg; omega)).other ⟨B9, 0, none⟩ _ (by show w.heap.size ≠ B9; omega)
  · exact blk_one ((h.scb.of_eq (hsame _ hbl h.off)).other ⟨gg, s.length, none⟩ kx (by show B9 ≠ gg; exact fun e => hgB e.symm))
  · rw [List.length_append]
    exact hst.kept (row := some B9) ⟨rfl, rfl, rfl, Nat.le_of_eq (size_set _ _ _).symm, fun q hq hn => Below.heap_setCell _ ⟨B9, 0, none⟩ _ q (fun e => hn (by rw [e]))⟩ (.inr fun e => by
      have e : (some gg : Option Nat) = some B9 := e
      injection e with e
      exact hgB e)
  · exact ((only_grown (h.only.alloc _) hgrow (fun q hq => (hold q hq).1)).setCell (p := ⟨gg, s.length, none⟩) (.inr hgg) _).setCell (p := ⟨B9, 0, none⟩) (.inr hl.2) _
  · intro e
    have e : (some gg : Option Nat) = some B9 := e
    injection e with e
    exact hgB e
/-- the scope, as a slice -/
theorem FB.scope {w W7 wr : World} {B9 : Nat} {s : List K} {u : Con} {us : List Value} {sv y0 y1 y2 y3 y4 y5 : Value} (h : FB w W7 wr B9 s u us sv y0 y1 y2 y3 y4 y5) : KSl wr (· < wr.heap.size) sv s :=
  row_ksl h.row rfl h.kids (fun b hb => by have : b < w.heap.size := hb; have := h.box.lt; omega) (fun b h1 h2 => h2)
set_option maxRecDepth 100000 in
/-- the closure: a part that has a kind in the scope -/
theorem faultF_any (B9 : Nat) (s : List K) (x : Con) (k : K) (sv : Value) (w : World) (v : Value) (hB : Blk w B9 22 #[sv]) (hs : KSl w (· < w.heap.size) sv s) (ht : ConV w (· < w.heap.size) x v) (ho : ofOut s x = .ok k) :
    Calls Try.prog 24 #[v, .pointer (some ⟨B9, 0, none⟩)] w fun e w' => e = .returned (.bool false) ∧ Below w.heap.size w w' := by
  have HO := Lib.hid (fun W (hW : Below w.heap.size w W) => of_any (· < w.heap.size) s x W sv v (fun b h => Nat.lt_of_lt_of_le h hW.size) (hs.keep (Same.of_below hW (fun _ h => h))) (ht.keep (Same.of_below hW (fun _ h => h))))
  rw [ho] at HO
  obtain ⟨ka, kn, kc, na, nn, nc, la, ln, lc, rfl, -, -, -⟩ := ht.shape
  obtain ⟨sa, sc, rfl, -⟩ := hs.each
  generalize s.length = sn at *
  generalize x.op = op at *
  generalize x.n = num at *
  generalize x.s = str at *
  obtain ⟨hbx, hb⟩ := boxN_new w 28 #[.int .i64 op, .int .i64 num, .string str, .slice ka kn kc, .slice na nn nc, .slice la ln lc]
  have HB := Lib.hid hb
  have c0 := hbx.cell 0 (.int .i64 op) rfl
  have c1 := hbx.cell 1 (.int .i64 num) rfl
  have c2 := hbx.cell 2 (.string str) rfl
  have c3 := hbx.cell 3 (.slice ka kn kc) rfl
  have c4 := hbx.cell 4 (.slice na nn nc) rfl
  have c5 := hbx.cell 5 (.slice la ln lc) rfl
  have b0 := (hB.of_eq (hb.block _ hB.lt)).cell 0 (.slice sa sn sc) rfl
  clear hbx hb hs ht hB ho
  go_enter Try.func24, Try.ntmps24
  go_wp2_with fail
  clear c0 c1 c2 c3 c4 c5 b0
  generalize w.alloc (.cells #[.int .i64 op, .int .i64 num, .string str, .slice ka kn kc, .slice na nn nc, .slice la ln lc] 28) = w2 at *
  refine (HO.out _ HB.out).mono ?_
  rintro e w3 ⟨⟨ra, rn, rc, rfl, -⟩, hb3⟩
  have HB3 := Lib.hid (belowStep (boxN_new w3 24 #[.slice ra rn rc]).2 (belowStep hb3 HB.out))
  have qe : (KR.er (.ok k) == 0) = true := rfl
  generalize KR.er (.ok k) = er0 at *
  obtain rfl : er0 = 0 := by simpa using qe
  clear hb3 qe HO
  go_wp2
  go_ret
  exact ⟨rfl, HB3.out⟩
end Go.Proofs.Ytmjkeejinagokaa
namespace Go.Proofs.Ytmjkeejinagokaa
open Go Go.RowKit
open Pl (K Con KR KS kof kofs ownK inK appK)
set_option linter.unusedSimpArgs false
set_option linter.unusedVariables false

theorem setCell_comm (w : World) (p q : Addr) (x y : Value) (h : p.block ≠ q.block) : (w.setCell p x).setCell q y = (w.setCell q y).setCell p x := by
  simp only [World.setCell]
  congr 1
  apply Array.ext_getElem?
  intro i
  simp only [Array.getElem?_modify]
  by_cases h1 : q.block = i <;> by_cases h2 : p.block = i
  · exact absurd (h2.trans h1.symm) h
  · simp [h1, h2]
  · simp [h1, h2]
  · simp [h1, h2]
theorem con_parts {w : World} {P : Nat → Prop} {u : Con} {ka na la : Option Addr} {kn kc nn nc ln lc : Nat} (h : ConV w P u (.agg #[.int .i64 u.op, .int .i64 u.n, .string u.s, .slice ka kn kc, .slice na nn nc, .slice la ln lc])) : KidV w P u.kind (.slice ka kn kc) ∧ StrSl w P (.slice na nn nc) u.names ∧ ConSl w P (.slice la ln lc) u.l := by
  obtain ⟨-, kv', nv', lv', e, hk, hn, hl⟩ := (conV_iff _ _ _ _).1 h
  simp only [Value.agg.injEq, Array.mk.injEq, List.cons.injEq, and_true, true_and] at e
  obtain ⟨rfl, rfl, rfl⟩ := e
  exact ⟨hk, hn, hl⟩
theorem kof_down {s : List K} {u : Con} {er : Int} {i : Nat} {q : List Nat} (h : kof s.reverse u = .bad er (i :: q)) : ∃ hi : i < u.l.length, kof (scopeOf s u).reverse u.l[i] = .bad er q := by
  obtain ⟨hi, h2⟩ := kof_at_cons h
  exact ⟨hi, by rw [scopeOf_rev]; exact h2⟩
theorem kof_parts {s : List K} {u : Con} {er : Int} (h : kof s.reverse u = .bad er []) : ∀ x ∈ u.l, ∃ k, kof (scopeOf s u).reverse x = .ok k := by
  intro x hx
  obtain ⟨k, hk⟩ := kof_at_nil h x hx
  exact ⟨k, by rw [scopeOf_rev]; exact hk⟩
theorem scopeOf_val {s : List K} {u : Con} (hs : ∀ k ∈ s, K.valid k = true) (hu : Con.validB u = true) : (∀ k ∈ scopeOf s u, K.valid k = true) ∧ (scopeOf s u).length ≤ s.length + 1 := by
  have hk := kind_valid u (node_of_valid u hu)
  unfold scopeOf
  split
  · refine ⟨fun k h => ?_, by rw [List.length_append]; exact Nat.le_refl _⟩
    rcases List.mem_append.1 h with h | h
    · exact hs k h
    · simp at h; rw [h]; exact hk
  · exact ⟨hs, by omega⟩
theorem check_self {g : List K} {t : Con} {x : K} (hg : givenB g t = true) (h : kof g.reverse t = .ok x) : checkOut g t x = 0 := by
  have hv := kof_valid t g.reverse x (given_all hg).1 (fun y hy => (given_all hg).2.1 y (List.mem_reverse.1 hy)) h
  unfold checkOut
  rw [hg, hv, h]
  show (if K.eqv x x then (0 : Int) else 11) = 0
  rw [(K.eqv_iff x x).2 rfl]
  rfl
/-- one round's plain facts -/
def FP (er : Int) (s : List K) (u : Con) (q : List Nat) : Prop := kof s.reverse u = .bad er q ∧ (∀ k ∈ s, K.valid k = true) ∧ Con.validB u = true ∧ s.length + u.depth ≤ 441

theorem fb_push {w W7 wr w1 : World} {B9 gg cap sn sc : Nat} {sa ka : Option Addr} {kn kc : Nat} {s : List K} {u : Con} {us : List Value} {y0 y1 y2 y3 y4 y5 : Value} {k : K} (h : FB w W7 wr B9 s u us (.slice sa sn sc) y0 y1 y2 y3 y4 y5) (hsn : sn = s.length) (hk : KidV wr (· < w.heap.size) k (.slice ka kn kc))
    (hown : w1.ownsRow W7.heap.size 24 1 (.slice (some ⟨gg, 0, none⟩) (sn + 1) cap) (sn + 1) (us ++ [.slice none 0 0])) (hgrow : (wr.alloc (.cells #[.slice none 0 0] 24)).drew.grownBy w1 (Value.slice sa sn sc).ownBlock) (hat : (Value.slice sa sn sc).ownBlock = some gg ∨ gg = wr.heap.size + 1) :
    FB w W7 ((w1.setCell ⟨gg, sn, none⟩ (.slice ka kn kc)).setCell ⟨B9, 0, none⟩ (.slice (some ⟨gg, 0, none⟩) (sn + 1) cap)) B9 (s ++ [k]) u (us ++ [.slice ka kn kc]) (.slice (some ⟨gg, 0, none⟩) (sn + 1) cap) y0 y1 y2 y3 y4 y5 := by
  subst hsn
  have hg' : (wr.alloc (.cells #[.slice none 0 0] 24)).grownBy w1 (Value.slice sa s.length sc).ownBlock := by
    have h0 : (wr.alloc (.cells #[.slice none 0 0] 24)).grownBy (wr.alloc (.cells #[.slice none 0 0] 24)).drew (Value.slice sa s.length sc).ownBlock := ⟨rfl, rfl, rfl, Nat.le_refl _, fun _ _ _ => rfl⟩
    exact ⟨hgrow.os.trans h0.os, hgrow.tape.trans h0.tape, hgrow.output.trans h0.output, Nat.le_trans h0.size hgrow.size, fun q hq hn => (hgrow.block q hq hn).trans (h0.block q hq hn)⟩
  exact h.push hk hown hg' hat
theorem fb_cells {w W7 wr w1 : World} {B9 gg cap sn sc : Nat} {sa : Option Addr} {s : List K} {u : Con} {us : List Value} {y0 y1 y2 y3 y4 y5 : Value} (h : FB w W7 wr B9 s u us (.slice sa sn sc) y0 y1 y2 y3 y4 y5) (hsn : sn = s.length)
    (hown : w1.ownsRow W7.heap.size 24 1 (.slice (some ⟨gg, 0, none⟩) (sn + 1) cap) (sn + 1) (us ++ [.slice none 0 0])) (hgrow : (wr.alloc (.cells #[.slice none 0 0] 24)).drew.grownBy w1 (Value.slice sa sn sc).ownBlock) (hat : (Value.slice sa sn sc).ownBlock = some gg ∨ gg = wr.heap.size + 1) :
    w1.cell? ⟨gg, sn, none⟩ = some (.slice none 0 0) ∧ w1.cell? ⟨w.heap.size, 3, none⟩ = some y3 ∧ gg ≠ B9 ∧ (∀ kx, (w1.setCell ⟨gg, sn, none⟩ kx).cell? ⟨B9, 0, none⟩ = some (.slice sa sn sc)) ∧ (∀ kx, (w1.setCell ⟨gg, sn, none⟩ kx).frozen? ⟨B9, 0, none⟩ = false) ∧ w1.cell? ⟨B9, 0, none⟩ = some (.slice sa sn sc) ∧ w1.frozen? ⟨B9, 0, none⟩ = false ∧ (∀ z, (w1.setCell ⟨B9, 0, none⟩ z).cell? ⟨gg, sn, none⟩ = some (.slice none 0 0)) ∧ ∀ z, (w1.setCell ⟨B9, 0, none⟩ z).frozen? ⟨gg, sn, none⟩ = false := by
  have hl := h.low
  have hus : us.length = sn := by have := h.row.1; rw [Nat.mul_one] at this; omega
  have hold : ∀ q, (Value.slice sa sn sc).ownBlock = some q → W7.heap.size ≤ q ∧ q < wr.heap.size := h.row.lt
  have hbl := h.scb.lt
  have hgB : gg ≠ B9 := by
    rcases hat with h5 | h5
    · intro e; rw [e] at h5; exact h.off h5
    · omega
  have hsame : ∀ q, q < wr.heap.size → (Value.slice sa sn sc).ownBlock ≠ some q → w1.heap[q]? = wr.heap[q]? := fun q ha hb => (hgrow.block q (show q < (wr.alloc (.cells #[.slice none 0 0] 24)).heap.size from by rw [size_alloc]; omega) (fun e => hb e.symm)).trans (Below.heap_alloc wr _ q ha)
  have hB1 : ∀ kx, Blk (w1.setCell ⟨gg, sn, none⟩ kx) B9 22 #[.slice sa sn sc] := fun kx => (h.scb.of_eq (hsame _ hbl h.off)).other ⟨gg, sn, none⟩ kx (by show B9 ≠ gg; exact fun e => hgB e.symm)
  have hB0 : Blk w1 B9 22 #[.slice sa sn sc] := h.scb.of_eq (hsame _ hbl h.off)
  have hc1 : w1.cell? ⟨gg, sn, none⟩ = some (.slice none 0 0) := by
    rw [hown.cellAt sn (by omega), List.getElem?_append_right (by omega), hus, Nat.sub_self]
    rfl
  refine ⟨?_, (h.box.of_eq (hsame _ h.box.lt (fun e => by have := (hold _ e).1; omega))).cell 3 y3 rfl, hgB, fun kx => (hB1 kx).cell 0 _ rfl, fun kx => (hB1 kx).thaw 0, hB0.cell 0 _ rfl, hB0.thaw 0, fun z => ?_, fun z => ?_⟩
  · exact hc1
  · have e := Below.heap_setCell w1 ⟨B9, 0, none⟩ z gg hgB
    simp only [World.cell?] at hc1 ⊢
    rw [e]
    exact hc1
  · have e := Below.heap_setCell w1 ⟨B9, 0, none⟩ z gg hgB
    have hf := hown.frozenAt sn
    simp only [World.frozen?] at hf ⊢
    rw [e]
    exact hf
set_option maxRecDepth 100000 in
set_option maxHeartbeats 8000000 in
theorem kfaults_any (g : List K) (t : Con) (w : World) (gv v : Value) (hg : KSl w (· < w.heap.size) gv g) (ht : ConV w (· < w.heap.size) t v) :
    Calls Try.prog 6 #[gv, v] w fun e w' => e = .returned (.bool true) ∧ Below w.heap.size w w' := by
  have HUP := Lib.hid (fun W (hW : Below w.heap.size w W) => (show (∀ b, b < w.heap.size → b < W.heap.size) ∧ KSl W (· < w.heap.size) gv g ∧ ConV W (· < w.heap.size) t v from ⟨fun b h => Nat.lt_of_lt_of_le h hW.size, hg.keep (Same.of_below hW (fun _ h => h)), ht.keep (Same.of_below hW (fun _ h => h))⟩))
  have HA := Lib.hid awake10
  have HG := Lib.hid (fun W x (hW : Below w.heap.size w W) (hl : ConSl W (· < W.heap.size) x [t]) => great_any (· < W.heap.size) g [t] W gv x (fun _ h => h) ((HUP.out W hW).2.1.mono (fun q hq => Nat.lt_of_lt_of_le hq hW.size)) hl)
  have HGI := Lib.hid (fun W (hW : Below w.heap.size w W) => rgiven_any (· < w.heap.size) g t W gv v (HUP.out W hW).1 (HUP.out W hW).2.1 (HUP.out W hW).2.2)
  have H1 := Lib.hid (fun W (hW : Below w.heap.size w W) => of_any (· < w.heap.size) g t W gv v (HUP.out W hW).1 (HUP.out W hW).2.1 (HUP.out W hW).2.2)
  have H2 := Lib.hid (fun W (hW : Below w.heap.size w W) => where_any (· < w.heap.size) g t W gv v (HUP.out W hW).1 (HUP.out W hW).2.1 (HUP.out W hW).2.2)
  have H3 := Lib.hid (fun W (hW : Below w.heap.size w W) x xv (hx : KV W (· < W.heap.size) x xv) => check_any (· < W.heap.size) g t x W gv v xv (fun _ h => h) ((HUP.out W hW).2.1.mono (fun q hq => Nat.lt_of_lt_of_le hq hW.size)) ((HUP.out W hW).2.2.mono (fun q hq => Nat.lt_of_lt_of_le hq hW.size)) hx)
  have H4 := Lib.hid (fun W (hW : Below w.heap.size w W) (hl : g.length ≤ 100000) => kclone_any (· < w.heap.size) g W gv (HUP.out W hW).1 (HUP.out W hW).2.1 hl)
  have HOO := Lib.hid (ofOut_eq g t)
  have HWO := Lib.hid (show whereOut g t = if givenB g t then (match kof g.reverse t with | .ok _ => (([] : List Nat), (8 : Int)) | .bad _ p => (p, 0)) else ([], 1) from rfl)
  have HCS := Lib.hid (fun x (h1 : givenB g t = true) => check_self (x := x) h1)
  have HGA := Lib.hid (fun (h1 : givenB g t = true) => (show Con.validB t = true ∧ (∀ k ∈ g, K.valid k = true) from ⟨by unfold givenB at h1; rw [Bool.and_eq_true] at h1; exact h1.2, (given_all h1).2.1⟩))
  have HCV := Lib.hid (fun W (hW : Below w.heap.size w W) => (HUP.out W hW).2.2)
  obtain ⟨ka, kn, kc, na, nn, nc, la, ln, lc, rfl, -, -, -⟩ := ht.shape
  obtain ⟨ga, gc, rfl, -⟩ := hg.each
  have hgl63 : g.length ≤ 9223372036854775807 := by
    obtain ⟨a', c', e, h1, h2, -⟩ := hg.each
    injection e with e1 e2 e3
    unfold maxLen at h2; omega
  obtain ⟨gn, hgn⟩ : ∃ gn, gn = g.length := ⟨_, rfl⟩
  rw [← hgn] at HG HGI H1 H2 H3 H4 hgl63 ⊢
  have HGN := Lib.hid hgn
  obtain ⟨op, hop⟩ : ∃ op, op = t.op := ⟨_, rfl⟩
  obtain ⟨num, hnum⟩ : ∃ num, num = t.n := ⟨_, rfl⟩
  obtain ⟨s, hs⟩ : ∃ s, s = t.s := ⟨_, rfl⟩
  rw [← hop, ← hnum, ← hs] at HCV HGI H1 H2 H3 ⊢
  obtain ⟨hbx, hb⟩ := boxN_new w 28 #[.int .i64 op, .int .i64 num, .string s, .slice ka kn kc, .slice na nn nc, .slice la ln lc]
  have HB := Lib.hid hb
  have HBX := Lib.hid hbx
  clear hbx hb hg ht HUP hop hnum hs hgn
  go_enter Try.func6, Try.ntmps6
  go_upto_region 1 with fail
  generalize w.alloc (.cells #[.int .i64 op, .int .i64 num, .string s, .slice ka kn kc, .slice na nn nc, .slice la ln lc] 28) = w1 at *
  go_wp2_with fail
  refine (HA.out _).mono ?_
  rintro e w2 ⟨rfl, hb2⟩
  replace HB := Lib.hid (belowStep hb2 HB.out)
  replace HBX := Lib.hid (HBX.out.of_eq (hb2.block _ HBX.out.lt))
  clear hb2
  by_cases h40 : 40 < gn
  · have q0 : decide ((40 : Int) < (gn : Int)) = true := decide_eq_true (by omega)
    go_wp2
    go_ret
    exact ⟨rfl, HB.out⟩
  have q0 : decide ((40 : Int) < (gn : Int)) = false := decide_eq_false (by omega)
  have c0 := HBX.out.cell 0 (.int .i64 op) rfl
  have c1 := HBX.out.cell 1 (.int .i64 num) rfl
  have c2 := HBX.out.cell 2 (.string s) rfl
  have c3 := HBX.out.cell 3 (.slice ka kn kc) rfl
  have c4 := HBX.out.cell 4 (.slice na nn nc) rfl
  have c5 := HBX.out.cell 5 (.slice la ln lc) rfl
  obtain ⟨hlit, hbl⟩ := boxN_new w2 28 #[.int .i64 op, .int .i64 num, .string s, .slice ka kn kc, .slice na nn nc, .slice la ln lc]
  have HGR := Lib.hid (HG.out _ _ (belowStep hbl HB.out) (cons_one10 (P := (· < (w2.alloc (.cells #[.int .i64 op, .int .i64 num, .string s, .slice ka kn kc, .slice na nn nc, .slice la ln lc] 28)).heap.size)) hlit hlit.lt ((HCV.out _ (belowStep hbl HB.out)).mono (fun q hq => Nat.lt_of_lt_of_le hq (Nat.le_trans HB.out.size hbl.size)))))
  replace HB := Lib.hid (belowStep hbl HB.out)
  replace HBX := Lib.hid (HBX.out.of_eq (hbl.block _ HBX.out.lt))
  clear hlit hbl HG HA
  go_wp2_with fail
  clear c0 c1 c2 c3 c4 c5
  generalize w2.alloc (.cells #[.int .i64 op, .int .i64 num, .string s, .slice ka kn kc, .slice na nn nc, .slice la ln lc] 28) = w3 at *
  refine HGR.out.mono ?_
  rintro e w4 ⟨⟨z, rfl⟩, hb4⟩
  replace HB := Lib.hid (belowStep hb4 HB.out)
  replace HBX := Lib.hid (HBX.out.of_eq (hb4.block _ HBX.out.lt))
  clear hb4 HGR
  cases z
  rotate_left
  · go_wp2
    go_ret
    exact ⟨rfl, HB.out⟩
  have c0 := HBX.out.cell 0 (.int .i64 op) rfl
  have c1 := HBX.out.cell 1 (.int .i64 num) rfl
  have c2 := HBX.out.cell 2 (.string s) rfl
  have c3 := HBX.out.cell 3 (.slice ka kn kc) rfl
  have c4 := HBX.out.cell 4 (.slice na nn nc) rfl
  have c5 := HBX.out.cell 5 (.slice la ln lc) rfl
  go_wp2_with fail
  clear c0 c1 c2 c3 c4 c5
  refine (HGI.out _ HB.out).mono ?_
  rintro e w5 ⟨rfl, hb5⟩
  replace HB := Lib.hid (belowStep hb5 HB.out)
  replace HBX := Lib.hid (HBX.out.of_eq (hb5.block _ HBX.out.lt))
  clear hb5 HGI q0
  generalize hgb : givenB g t = gb at *
  cases gb
  · go_wp2
    go_ret
    exact ⟨rfl, HB.out⟩
  replace HGA := Lib.hid (HGA.out (by first | exact rfl | trivial))
  replace HCS := Lib.hid (fun x => HCS.out x (by first | exact rfl | trivial))
  rw [show ofOut g t = kof g.reverse t from HOO.out] at H1
  rw [show whereOut g t = (match kof g.reverse t with | .ok _ => (([] : List Nat), (8 : Int)) | .bad _ p => (p, 0)) from HWO.out] at H2
  clear HOO HWO hgb
  obtain ⟨r, hr⟩ : ∃ r, r = kof g.reverse t := ⟨_, rfl⟩
  rw [← hr] at H1 H2
  have HRR := Lib.hid hr
  rw [← hr] at HCS
  clear hr
  have c0 := HBX.out.cell 0 (.int .i64 op) rfl
  have c1 := HBX.out.cell 1 (.int .i64 num) rfl
  have c2 := HBX.out.cell 2 (.string s) rfl
  have c3 := HBX.out.cell 3 (.slice ka kn kc) rfl
  have c4 := HBX.out.cell 4 (.slice na nn nc) rfl
  have c5 := HBX.out.cell 5 (.slice la ln lc) rfl
  go_wp2_with fail
  clear c0 c1 c2 c3 c4 c5
  refine (H1.out _ HB.out).mono ?_
  rintro e w6 ⟨⟨xa, xn, xc, rfl, hx⟩, hb6⟩
  have hxl : ∀ q, Ext (· < w.heap.size) w5 w6 q → q < w6.heap.size := Ext.lt (P := (· < w.heap.size)) (fun q hq => Nat.lt_of_lt_of_le hq HB.out.size) hb6
  obtain ⟨hx5, hb66⟩ := boxN_new w6 24 #[.slice xa xn xc]
  have HXK := Lib.hid ((hx.keep (Same.of_below hb66 hxl)).mono (fun q hq => (show q < w6.heap.size from hxl q hq)))
  have HX5 := Lib.hid hx5
  replace HB := Lib.hid (belowStep hb66 (belowStep hb6 HB.out))
  replace HBX := Lib.hid (HBX.out.of_eq ((hb66.block _ (Nat.lt_of_lt_of_le HBX.out.lt hb6.size)).trans (hb6.block _ HBX.out.lt)))
  have HL6 := Lib.hid hb66.size
  clear hb6 hx hxl hx5 hb66 H1
  go_upto_region 6 with fail
  generalize w6.alloc (.cells #[.slice xa xn xc] 24) = w8 at *
  have c0 := HBX.out.cell 0 (.int .i64 op) rfl
  have c1 := HBX.out.cell 1 (.int .i64 num) rfl
  have c2 := HBX.out.cell 2 (.string s) rfl
  have c3 := HBX.out.cell 3 (.slice ka kn kc) rfl
  have c4 := HBX.out.cell 4 (.slice na nn nc) rfl
  have c5 := HBX.out.cell 5 (.slice la ln lc) rfl
  go_wp2_with fail
  clear c0 c1 c2 c3 c4 c5
  refine (H2.out _ HB.out).mono ?_
  rintro e W7 ⟨⟨pv, rfl, hpv⟩, hb7⟩
  have HPV := Lib.hid hpv
  have HW8 := Lib.hid (show w.heap.size < w8.heap.size from HBX.out.lt)
  have HL8 := Lib.hid hb7.size
  replace HXK := Lib.hid (HXK.out.keep (Same.of_below hb7 (fun q hq => Nat.lt_of_lt_of_le hq HL6.out)))
  replace HX5 := Lib.hid (HX5.out.of_eq (hb7.block _ HX5.out.lt))
  replace HB := Lib.hid (belowStep hb7 HB.out)
  replace HBX := Lib.hid (HBX.out.of_eq (hb7.block _ HBX.out.lt))
  clear hb7 hpv H2
  rcases r with x | ⟨er, p⟩
  · have hpv : W7.ownsRow w8.heap.size 3 1 pv 0 [] := HPV.out
    obtain ⟨pa, pc, hpf, -⟩ := row_form hpv
    subst hpf
    have HCH := Lib.hid (fun W (hW : Below W7.heap.size W7 W) => H3.out W (belowStep hW HB.out) x (.agg #[.slice xa xn xc]) ⟨_, rfl, (HXK.out.keep (Same.of_below hW (fun q hq => Nat.lt_of_lt_of_le hq (Nat.le_trans HL6.out HL8.out)))).mono (fun q hq => Nat.lt_of_lt_of_le hq (Nat.le_trans (Nat.le_trans HL6.out HL8.out) hW.size))⟩)
    rw [HCS.out x rfl] at HCH
    have qe : (KR.er (.ok x) == 0) = true := rfl
    generalize KR.er (.ok x) = er0 at *
    obtain rfl : er0 = 0 := by simpa using qe
    have e5 := HX5.out.cell 0 (.slice xa xn xc) rfl
    have c0 := HBX.out.cell 0 (.int .i64 op) rfl
    have c1 := HBX.out.cell 1 (.int .i64 num) rfl
    have c2 := HBX.out.cell 2 (.string s) rfl
    have c3 := HBX.out.cell 3 (.slice ka kn kc) rfl
    have c4 := HBX.out.cell 4 (.slice na nn nc) rfl
    have c5 := HBX.out.cell 5 (.slice la ln lc) rfl
    clear hpv H3 H4 HPV qe
    go_wp2_with fail
    clear c0 c1 c2 c3 c4 c5 e5
    refine (HCH.out _ (Below.refl _ _)).mono ?_
    rintro e w9 ⟨rfl, hb9⟩
    replace HB := Lib.hid (belowStep hb9 HB.out)
    clear hb9
    go_wp2
    go_ret
    exact ⟨rfl, HB.out⟩
  have hpv : W7.ownsRow w8.heap.size 3 1 pv p.length (pathV p) := HPV.out
  have hne : er ≠ 0 := kof_bad t g.reverse er p HRR.out.symm
  have qe : (er == 0) = false := beq_eq_false_iff_ne.2 hne
  have qe2 : (er == er) = true := by simp
  have HFP0 := Lib.hid (show FP er g t p from ⟨HRR.out.symm, HGA.out.2, HGA.out.1, by
    have h1 := HGA.out.1
    unfold Con.validB Con.small at h1
    simp only [Bool.and_eq_true, decide_eq_true_eq] at h1
    have := HGN.out
    omega⟩)
  obtain ⟨xa', xc', exx⟩ := HXK.out.form
  injection exx with _ exn _
  obtain rfl : xn = 0 := exn
  have e5 := HX5.out.cell 0 (.slice xa 0 xc) rfl
  generalize hge : KR.er (.bad er p) = er1 at *
  obtain rfl : er1 = er := hge.symm
  obtain ⟨m, hm⟩ : ∃ m, m = p.length := ⟨_, rfl⟩
  rw [← hm] at hpv
  have HM := Lib.hid hm
  obtain ⟨pa, pc, hpf, -, hpm, -, hcell⟩ := row_form hpv
  subst hpf
  have hm63 : m ≤ 1000000 := by
    have h1 := kof_len t g.reverse er1 p HRR.out.symm
    have h2 := HFP0.out.2.2.2
    omega
  have HCELL := Lib.hid (show ∀ (j : Nat) (hj : j < p.length), ∃ gp, pa = some ⟨gp, 0, none⟩ ∧ gp < W7.heap.size ∧ gp ≠ w.heap.size ∧ W7.cell? ⟨gp, j, none⟩ = some (.int .i64 (p[j] : Int)) from fun j hj => by
    obtain ⟨gp, h1, h2, h3⟩ := hcell j (by omega)
    subst h1
    have := (hpv.lt gp rfl).1
    have := HW8.out
    exact ⟨gp, rfl, h2, by omega, h3.trans (pathV_at p j hj)⟩)
  have HCL := Lib.hid (H4.out W7 HB.out (by have := HGN.out; omega))
  clear hge hcell hpv hpm hm H3 H4 HPV HXK HCS hne
  go_wp2_with fail
  clear e5
  refine HCL.out.mono ?_
  rintro e w9 ⟨⟨sv, us, rfl, hrow, hkids⟩, hb9⟩
  obtain ⟨va, vc, hvf, -⟩ := row_form hrow
  subst hvf
  have HLG := Lib.hid (show w.heap.size < W7.heap.size from by have := HW8.out; have := HL8.out; omega)
  obtain ⟨hscb, hb10⟩ := boxN_new w9 22 #[.slice va gn vc]
  have hbb := belowStep hb10 hb9
  have HFB0 := Lib.hid (show FB w W7 (w9.alloc (.cells #[.slice va gn vc] 22)) w9.heap.size g t us (.slice va gn vc) (.int .i64 op) (.int .i64 num) (.string s) (.slice ka kn kc) (.slice na nn nc) (.slice la ln lc) from
    ⟨HCV.out _ (belowStep hbb HB.out), HBX.out.of_eq (hbb.block _ HBX.out.lt), hscb, by rw [← HGN.out]; exact hrow.alloc _, hkids.keep (Same.of_below hb10 (fun q hq => by have : q < w.heap.size := hq; have := hb9.size; have := HLG.out; omega)), only_below hbb, ⟨HLG.out, hb9.size⟩, fun e => by have := (hrow.lt _ e).2; omega⟩)
  have HTOP := Lib.hid (show w9.heap.size + 1 = (w9.alloc (.cells #[.slice va gn vc] 22)).heap.size from (size_alloc _ _).symm)
  clear hrow hkids hb9 hscb hb10 hbb HCL HBX
  go_upto_region 12 with fail
  generalize w9.alloc (.cells #[.slice va gn vc] 22) = wA at *
  generalize w9.heap.size = B9 at *
  go_wp2_with fail
  go_loopg [71] (m + 1) (fun gk i wr => ∃ (j : Nat) (s : List K) (u : Con) (us : List Value) (sv y0 y1 y2 y3 y4 y5 : Value), j ≤ m ∧ i = .int .i64 j ∧ gk = m + 1 - j ∧ FP er1 s u (p.drop j) ∧ FB w W7 wr B9 s u us sv y0 y1 y2 y3 y4 y5)
  case atStart => exact ⟨0, g, t, us, _, _, _, _, _, _, _, by omega, rfl, by omega, by rw [List.drop_zero]; exact HFP0.out, HFB0.out⟩
  case round =>
    obtain ⟨j, sc0, u, us2, sv2, y0, y1, y2, y3, y4, y5, hj, rfl, hgk, hfp, hfb⟩ := hrel
    clear HFB0 HFP0 HCV HRR HGA
    have HFB := Lib.hid hfb
    have HBW := Lib.hid (show Below w.heap.size w wr from (HB.out.trans (hfb.only.to (Nat.le_refl _) (Nat.le_of_lt HLG.out))))
    by_cases hlt : j < m
    · have q5 : decide ((j : Int) < (m : Int)) = true := decide_eq_true (by omega)
      have hjl : j < p.length := by rw [← HM.out]; exact hlt
      obtain ⟨gp, hpa, hgl, hgn, hcl⟩ := HCELL.out j hjl
      subst hpa
      obtain ⟨i, hi'⟩ : ∃ i, i = p[j] := ⟨_, rfl⟩
      rw [← hi'] at hcl
      have f9 := (cell_only hfb.only (o := j) hgl hgn).trans hcl
      have hk0 := hfp.1
      rw [List.drop_eq_getElem_cons hjl, ← hi'] at hk0
      obtain ⟨hi, hk1⟩ := kof_down hk0
      have hpart := part_valid10 u i hi hfp.2.2.1
      have hsv := scopeOf_val hfp.2.1 hfp.2.2.1
      have hcon := hfb.con
      obtain ⟨ka, kn, kc, na, nn, nc, la, ln, lc, e, -, -, hln⟩ := hcon.shape
      simp only [Value.agg.injEq, Array.mk.injEq, List.cons.injEq, and_true, true_and] at e
      obtain ⟨rfl, rfl, rfl, rfl, rfl, rfl⟩ := e
      have HLNN := Lib.hid hln
      clear hln
      obtain ⟨hkx, -, -⟩ := con_parts hcon
      have HKX := Lib.hid hkx
      obtain ⟨sa, sc, hsv2, -⟩ := row_form hfb.row
      subst hsv2
      obtain ⟨sn, hsn⟩ : ∃ sn, sn = sc0.length := ⟨_, rfl⟩
      rw [← hsn] at HFB
      have HSL := Lib.hid hsn
      have HSN := Lib.hid (show sn ≤ 441 from by have := Con.depth_pos u; have := hfp.2.2.2; omega)
      have q6 : decide ((i : Int) < 0) = false := decide_eq_false (by omega)
      have q7 : decide ((ln : Int) ≤ (i : Int)) = false := decide_eq_false (by have := HLNN.out; omega)
      have hil : i < ln := by have := HLNN.out; omega
      have hil2 : ¬ ln ≤ i := by omega
      have HFPN0 := Lib.hid (show FP er1 (scopeOf sc0 u) u.l[i] (p.drop (j + 1)) from ⟨hk1, hsv.1, hpart.1, by have := hsv.2; have := hpart.2; have := hfp.2.2.2; omega⟩)
      have HSO := Lib.hid (show scopeOf sc0 u = if Con.binder u.op then sc0 ++ [u.kind] else sc0 from rfl)
      have c0 := HFB.out.box.cell 0 (.int .i64 u.op) rfl
      have c5 := HFB.out.box.cell 5 (.slice la ln lc) rfl
      have HBN := Lib.hid (rbinder_any u.op wr)
      clear hfb hfp hcl hk0 hk1 hpart hsv hcon hkx hsn hi' HCELL
      go_wp2_with fail
      clear c0 c5 f9 q6 q7
      refine HBN.out.mono ?_
      rintro e wr' ⟨rfl, rfl⟩
      obtain ⟨bi, hbi⟩ : ∃ bi, bi = Con.binder u.op := ⟨_, rfl⟩
      rw [← hbi] at HSO ⊢
      clear hbi HBN
      cases bi
      · have HFPN := Lib.hid (show FP er1 sc0 u.l[i] (p.drop (j + 1)) from by
          have h := HFPN0.out
          rw [show scopeOf sc0 u = sc0 from HSO.out] at h
          exact h)
        clear HFPN0
        obtain ⟨-, -, hcl2⟩ := con_parts HFB.out.con
        obtain ⟨b, off, c', xa, xn, xc, ya, yn, yc, za, zn, zc, e, -, f0, f1, f2, f3, f4, f5, hx⟩ := hcl2.part i hi
        injection e with e1 e2 e3
        subst e1 e3
        have r0 := HFB.out.box.cell 0 (.int .i64 u.op) rfl
        have r1 := HFB.out.box.cell 1 (.int .i64 u.n) rfl
        have r2 := HFB.out.box.cell 2 (.string u.s) rfl
        have r3 := HFB.out.box.cell 3 (.slice ka kn kc) rfl
        have r4 := HFB.out.box.cell 4 (.slice na nn nc) rfl
        have r5 := HFB.out.box.cell 5 (.slice (some ⟨b, off, none⟩) ln lc) rfl
        have t0 := HFB.out.box.thaw 0
        have t1 := HFB.out.box.thaw 1
        have t2 := HFB.out.box.thaw 2
        have t3 := HFB.out.box.thaw 3
        have t4 := HFB.out.box.thaw 4
        have t5 := HFB.out.box.thaw 5
        have HNX := Lib.hid (HFB.out.down hx)
        unfold store6x at HNX
        simp only [Nat.zero_add] at HNX
        clear hx hcl2 e2
        go_wp2
        go_roundg (gk - 1)
        case measure => omega
        case rel => exact ⟨j + 1, sc0, u.l[i], us2, _, _, _, _, _, _, _, by omega, by go_num, by omega, HFPN.out, HNX.out⟩
      · have HFPN := Lib.hid (show FP er1 (sc0 ++ [u.kind]) u.l[i] (p.drop (j + 1)) from by
          have h := HFPN0.out
          rw [show scopeOf sc0 u = sc0 ++ [u.kind] from HSO.out] at h
          exact h)
        clear HFPN0
        obtain ⟨i28, hi0, hz0, hz1, hz2⟩ := info3 infoKind
        have hlit := boxN_new wr 24 #[.slice none 0 0]
        have hbd : Below wr.heap.size wr (wr.alloc (.cells #[.slice none 0 0] 24)).drew := hlit.2.drew
        have HROWL := Lib.hid (show (wr.alloc (.cells #[.slice none 0 0] 24)).drew.ownsRow W7.heap.size 24 1 (.slice sa sn sc) sn us2 from by have h := (HFB.out.below hbd).row; rw [← HSL.out] at h; exact h)
        have hslt : (sn : Int) < (sn : Int) + 1 := by omega
        have HNEW := Lib.hid (show ∀ j u, [Value.slice none 0 0][j]? = some u → (wr.alloc (.cells #[.slice none 0 0] 24)).drew.cell? ((⟨wr.heap.size, 0, none⟩ : Addr).add j) = some u from World.news_of_block (cs := #[.slice none 0 0]) (t := 24) (fr := (0, 0)) (hlit.1.drew))
        have b9 := HFB.out.scb.cell 0 (.slice sa sn sc) rfl
        have c3 := HFB.out.box.cell 3 (.slice ka kn kc) rfl
        have b9' := (HFB.out.below hlit.2).scb.cell 0 (.slice sa sn sc) rfl
        have c3' := (HFB.out.below hlit.2).box.cell 3 (.slice ka kn kc) rfl
        have hsz7 : (wr.alloc (.cells #[.slice none 0 0] 24)).drew.heap.size = wr.heap.size + 1 := size_alloc _ _
        have HLW := Lib.hid (show W7.heap.size ≤ wr.heap.size ∧ sn ≤ 441 from ⟨HFB.out.only.size, HSN.out⟩)
        clear hlit hbd
        go_upto_region 18 with fail
        go_region_law (refine step_append_lies _ rfl (.tmp 87) (.tmp 91) 22 rfl W7.heap.size 24 i28 (.agg #[.slice none 0 0]) 1 24 Try.underlying22 hi0 hz0 hz1 hz2 rfl (by decide) (.slice sa sn sc) sn us2 (by simp [Act.eval, Act.put]) HROWL.out ⟨wr.heap.size, 0, none⟩ 1 1 [.slice none 0 0] (by simp [Act.eval, Act.put]) rfl HNEW.out (by simp [Value.oneCell']) (by decide) (by have := HLW.out.2; unfold maxLen; omega) (by have := HLW.out.2; omega) (by have := HLW.out.1; rw [hsz7]; omega) (wr.heap.size + 1) hsz7 ?_; intro gg cap w1 hown hgrow hat hlt1; have HFB2 := Lib.hid (fb_push HFB.out HSL.out HKX.out hown hgrow hat); have v1 := (fb_cells HFB.out HSL.out hown hgrow hat).1; have v2 := hown.frozenAt sn; have v3 := (fb_cells HFB.out HSL.out hown hgrow hat).2.1; have v4 := (fb_cells HFB.out HSL.out hown hgrow hat).2.2.1; have v5 := (fb_cells HFB.out HSL.out hown hgrow hat).2.2.2.1 (.slice ka kn kc); have v6 := (fb_cells HFB.out HSL.out hown hgrow hat).2.2.2.2.1 (.slice ka kn kc); have v7 := (fb_cells HFB.out HSL.out hown hgrow hat).2.2.2.2.2.1; have v8 := (fb_cells HFB.out HSL.out hown hgrow hat).2.2.2.2.2.2.1; have v9 := (fb_cells HFB.out HSL.out hown hgrow hat).2.2.2.2.2.2.2.1 (.slice (some ⟨gg, 0, none⟩) (sn + 1) cap); have v10 := (fb_cells HFB.out HSL.out hown hgrow hat).2.2.2.2.2.2.2.2 (.slice (some ⟨gg, 0, none⟩) (sn + 1) cap); have HNE := Lib.hid v4; clear hown hgrow hat hlt1)
        all_goals
          clear hslt b9 b9' c3 c3' v1 v2 v3 v4 v5 v6 v7 v8 v9 v10 HROWL HNEW
          try clear hsz7
          try rw [setCell_comm w1 ⟨B9, 0, none⟩ ⟨gg, sn, none⟩ _ _ (fun e => HNE.out e.symm)]
          generalize (w1.setCell ⟨gg, sn, none⟩ (.slice ka kn kc)).setCell ⟨B9, 0, none⟩ (.slice (some ⟨gg, 0, none⟩) (sn + 1) cap) = wZ at *
          obtain ⟨-, -, hcl2⟩ := con_parts HFB2.out.con
          obtain ⟨b, off, c', xa, xn, xc, ya, yn, yc, za, zn, zc, e, -, f0, f1, f2, f3, f4, f5, hx⟩ := hcl2.part i hi
          injection e with e1 e2 e3
          subst e1 e3
          have r0 := HFB2.out.box.cell 0 (.int .i64 u.op) rfl
          have r1 := HFB2.out.box.cell 1 (.int .i64 u.n) rfl
          have r2 := HFB2.out.box.cell 2 (.string u.s) rfl
          have r3 := HFB2.out.box.cell 3 (.slice ka kn kc) rfl
          have r4 := HFB2.out.box.cell 4 (.slice na nn nc) rfl
          have r5 := HFB2.out.box.cell 5 (.slice (some ⟨b, off, none⟩) ln lc) rfl
          have t0 := HFB2.out.box.thaw 0
          have t1 := HFB2.out.box.thaw 1
          have t2 := HFB2.out.box.thaw 2
          have t3 := HFB2.out.box.thaw 3
          have t4 := HFB2.out.box.thaw 4
          have t5 := HFB2.out.box.thaw 5
          have HNX := Lib.hid (HFB2.out.down hx)
          unfold store6x at HNX
          simp only [Nat.zero_add] at HNX
          clear hx hcl2 e2
          go_wp2
          go_roundg (gk - 1)
          case measure => omega
          case rel => exact ⟨j + 1, (sc0 ++ [u.kind]), u.l[i], (us2 ++ [.slice ka kn kc]), _, _, _, _, _, _, _, by omega, by go_num, by omega, HFPN.out, HNX.out⟩
    · have q5 : decide ((j : Int) < (m : Int)) = false := decide_eq_false (by omega)
      have hk0 := hfp.1
      rw [List.drop_of_length_le (by have := HM.out; omega)] at hk0
      have hlen := hfp.2.2.2
      have hdp := Con.depth_pos u
      have hsv := scopeOf_val hfp.2.1 hfp.2.2.1
      have HPT0 := Lib.hid (show ∀ x ∈ u.l, ∃ k, ofOut (scopeOf sc0 u) x = .ok k from fun x hx => by
        obtain ⟨k, hk⟩ := kof_parts hk0 x hx
        obtain ⟨i, hi, rfl⟩ := List.getElem_of_mem hx
        exact ⟨k, by rw [given_of (by have := hsv.2; omega) hsv.1 (part_valid10 u i hi hfp.2.2.1).1]; exact hk⟩)
      have HSO := Lib.hid (show scopeOf sc0 u = if Con.binder u.op then sc0 ++ [u.kind] else sc0 from rfl)
      have hcon := hfb.con
      obtain ⟨ka, kn, kc, na, nn, nc, la, ln, lc, e, -, -, hln⟩ := hcon.shape
      simp only [Value.agg.injEq, Array.mk.injEq, List.cons.injEq, and_true, true_and] at e
      obtain ⟨rfl, rfl, rfl, rfl, rfl, rfl⟩ := e
      have HLNN := Lib.hid hln
      clear hln
      obtain ⟨hkx, -, -⟩ := con_parts hcon
      have HKX := Lib.hid hkx
      obtain ⟨sa, sc, hsv2, -⟩ := row_form hfb.row
      subst hsv2
      obtain ⟨sn, hsn⟩ : ∃ sn, sn = sc0.length := ⟨_, rfl⟩
      rw [← hsn] at HFB
      have HSL := Lib.hid hsn
      have HSN := Lib.hid (show sn ≤ 441 from by have := Con.depth_pos u; have := hfp.2.2.2; omega)
      have HO := Lib.hid (of_any (· < wr.heap.size) sc0 u wr (.slice sa sc0.length sc) _ (fun _ h => h) hfb.scope (hfb.con.mono (fun q hq => by have : q < w.heap.size := hq; have := hfb.box.lt; omega)))
      rw [given_of (by omega) hfp.2.1 hfp.2.2.1, hk0, ← hsn] at HO
      have c0 := HFB.out.box.cell 0 (.int .i64 u.op) rfl
      have c1 := HFB.out.box.cell 1 (.int .i64 u.n) rfl
      have c2 := HFB.out.box.cell 2 (.string u.s) rfl
      have c3 := HFB.out.box.cell 3 (.slice ka kn kc) rfl
      have c4 := HFB.out.box.cell 4 (.slice na nn nc) rfl
      have c5 := HFB.out.box.cell 5 (.slice la ln lc) rfl
      have b9 := HFB.out.scb.cell 0 (.slice sa sn sc) rfl
      have HBN := Lib.hid (fun W => rbinder_any u.op W)
      clear hfb hfp hk0 hlen hdp hsv hcon hkx hsn HCELL HBW
      go_wp2_with fail
      clear c0 c1 c2 c3 c4 c5 b9
      refine HO.out.mono ?_
      rintro e wB ⟨⟨ra, rn, rc, rfl, -⟩, hbB⟩
      have hbC := belowStep (boxN_new wB 24 #[.slice ra rn rc]).2 hbB
      have HKX' := HKX
      replace HKX := Lib.hid (HKX'.out.keep (Same.of_below hbC (fun q hq => by have : q < w.heap.size := hq; have := HFB.out.box.lt; omega)))
      replace HFB := Lib.hid (HFB.out.below hbC)
      generalize hge : KR.er (.bad er1 []) = er2 at *
      obtain rfl : er2 = er1 := hge.symm
      clear hbB hbC HO HKX' hge
      go_upto_region 22 with fail
      generalize wB.alloc (.cells #[.slice ra rn rc] 24) = wC at *
      have c0 := HFB.out.box.cell 0 (.int .i64 u.op) rfl
      go_wp2_with fail
      clear c0
      refine (HBN.out _).mono ?_
      rintro e wC' ⟨rfl, rfl⟩
      obtain ⟨bi, hbi⟩ : ∃ bi, bi = Con.binder u.op := ⟨_, rfl⟩
      rw [← hbi] at HSO ⊢
      clear hbi HBN
      cases bi
      · have HPARTS := Lib.hid (show ∀ x ∈ u.l, ∃ k, ofOut sc0 x = .ok k from by
          have h := HPT0.out
          rw [show scopeOf sc0 u = sc0 from HSO.out] at h
          exact h)
        clear HPT0
        have hfb3 := HFB.out
        obtain ⟨-, -, hcl2⟩ := con_parts hfb3.con
        have c5 := hfb3.box.cell 5 (.slice la ln lc) rfl
        have hsc := hfb3.scope
        have HCN := Lib.hid (containsF_any 24 #[.pointer (some ⟨B9, 0, none⟩)] (fun _ _ => rfl) wC (· < w.heap.size) u.l (fun x hx W' v' hW' hv' => by
          obtain ⟨k, hk⟩ := HPARTS.out x hx
          have hd : w.heap.size ≤ wC.heap.size := Nat.le_of_lt hfb3.box.lt
          exact faultF_any B9 sc0 x k _ W' v' (hfb3.scb.of_eq (hW'.block _ hfb3.scb.lt)) ((hsc.keep (Same.of_below hW' (fun _ h => h))).mono (fun q hq => Nat.lt_of_lt_of_le hq hW'.size)) (hv'.mono (fun q hq => Nat.lt_of_lt_of_le hq (Nat.le_trans hd hW'.size))) hk) (.slice la ln lc) (fun q hq => by have : q < w.heap.size := hq; have := hfb3.box.lt; omega) hcl2)
        have HBF := Lib.hid (show Below w.heap.size w wC from HB.out.trans (hfb3.only.to (Nat.le_refl _) (Nat.le_of_lt HLG.out)))
        clear hcl2 hsc hfb3
        go_wp2_with fail
        clear c5
        refine HCN.out.mono ?_
        rintro e wD ⟨rfl, hbD⟩
        have HBD := Lib.hid (belowStep hbD HBF.out)
        clear hbD HCN
        go_wp2
        go_ret
        exact ⟨rfl, HBD.out⟩
      · have HPARTS := Lib.hid (show ∀ x ∈ u.l, ∃ k, ofOut (sc0 ++ [u.kind]) x = .ok k from by
          have h := HPT0.out
          rw [show scopeOf sc0 u = sc0 ++ [u.kind] from HSO.out] at h
          exact h)
        clear HPT0
        obtain ⟨i28, hi0, hz0, hz1, hz2⟩ := info3 infoKind
        have hlit := boxN_new wC 24 #[.slice none 0 0]
        have hbd : Below wC.heap.size wC (wC.alloc (.cells #[.slice none 0 0] 24)).drew := hlit.2.drew
        have HROWL := Lib.hid (show (wC.alloc (.cells #[.slice none 0 0] 24)).drew.ownsRow W7.heap.size 24 1 (.slice sa sn sc) sn us2 from by have h := (HFB.out.below hbd).row; rw [← HSL.out] at h; exact h)
        have hslt : (sn : Int) < (sn : Int) + 1 := by omega
        have HNEW := Lib.hid (show ∀ j u, [Value.slice none 0 0][j]? = some u → (wC.alloc (.cells #[.slice none 0 0] 24)).drew.cell? ((⟨wC.heap.size, 0, none⟩ : Addr).add j) = some u from World.news_of_block (cs := #[.slice none 0 0]) (t := 24) (fr := (0, 0)) (hlit.1.drew))
        have b9 := HFB.out.scb.cell 0 (.slice sa sn sc) rfl
        have c3 := HFB.out.box.cell 3 (.slice ka kn kc) rfl
        have b9' := (HFB.out.below hlit.2).scb.cell 0 (.slice sa sn sc) rfl
        have c3' := (HFB.out.below hlit.2).box.cell 3 (.slice ka kn kc) rfl
        have hsz7 : (wC.alloc (.cells #[.slice none 0 0] 24)).drew.heap.size = wC.heap.size + 1 := size_alloc _ _
        have HLW := Lib.hid (show W7.heap.size ≤ wC.heap.size ∧ sn ≤ 441 from ⟨HFB.out.only.size, HSN.out⟩)
        clear hlit hbd
        go_upto_region 25 with fail
        go_region_law (refine step_append_lies _ rfl (.tmp 112) (.tmp 116) 22 rfl W7.heap.size 24 i28 (.agg #[.slice none 0 0]) 1 24 Try.underlying22 hi0 hz0 hz1 hz2 rfl (by decide) (.slice sa sn sc) sn us2 (by simp [Act.eval, Act.put]) HROWL.out ⟨wC.heap.size, 0, none⟩ 1 1 [.slice none 0 0] (by simp [Act.eval, Act.put]) rfl HNEW.out (by simp [Value.oneCell']) (by decide) (by have := HLW.out.2; unfold maxLen; omega) (by have := HLW.out.2; omega) (by have := HLW.out.1; rw [hsz7]; omega) (wC.heap.size + 1) hsz7 ?_; intro gg cap w1 hown hgrow hat hlt1; have HFB2 := Lib.hid (fb_push HFB.out HSL.out HKX.out hown hgrow hat); have v1 := (fb_cells HFB.out HSL.out hown hgrow hat).1; have v2 := hown.frozenAt sn; have v3 := (fb_cells HFB.out HSL.out hown hgrow hat).2.1; have v4 := (fb_cells HFB.out HSL.out hown hgrow hat).2.2.1; have v5 := (fb_cells HFB.out HSL.out hown hgrow hat).2.2.2.1 (.slice ka kn kc); have v6 := (fb_cells HFB.out HSL.out hown hgrow hat).2.2.2.2.1 (.slice ka kn kc); have v7 := (fb_cells HFB.out HSL.out hown hgrow hat).2.2.2.2.2.1; have v8 := (fb_cells HFB.out HSL.out hown hgrow hat).2.2.2.2.2.2.1; have v9 := (fb_cells HFB.out HSL.out hown hgrow hat).2.2.2.2.2.2.2.1 (.slice (some ⟨gg, 0, none⟩) (sn + 1) cap); have v10 := (fb_cells HFB.out HSL.out hown hgrow hat).2.2.2.2.2.2.2.2 (.slice (some ⟨gg, 0, none⟩) (sn + 1) cap); have HNE := Lib.hid v4; clear hown hgrow hat hlt1)
        all_goals
          clear hslt b9 b9' c3 c3' v1 v2 v3 v4 v5 v6 v7 v8 v9 v10 HROWL HNEW
          try clear hsz7
          try rw [setCell_comm w1 ⟨B9, 0, none⟩ ⟨gg, sn, none⟩ _ _ (fun e => HNE.out e.symm)]
          generalize (w1.setCell ⟨gg, sn, none⟩ (.slice ka kn kc)).setCell ⟨B9, 0, none⟩ (.slice (some ⟨gg, 0, none⟩) (sn + 1) cap) = wZ at *
          have hfb3 := HFB2.out
          obtain ⟨-, -, hcl2⟩ := con_parts hfb3.con
          have c5 := hfb3.box.cell 5 (.slice la ln lc) rfl
          have hsc := hfb3.scope
          have HCN := Lib.hid (containsF_any 24 #[.pointer (some ⟨B9, 0, none⟩)] (fun _ _ => rfl) wZ (· < w.heap.size) u.l (fun x hx W' v' hW' hv' => by
            obtain ⟨k, hk⟩ := HPARTS.out x hx
            have hd : w.heap.size ≤ wZ.heap.size := Nat.le_of_lt hfb3.box.lt
            exact faultF_any B9 (sc0 ++ [u.kind]) x k _ W' v' (hfb3.scb.of_eq (hW'.block _ hfb3.scb.lt)) ((hsc.keep (Same.of_below hW' (fun _ h => h))).mono (fun q hq => Nat.lt_of_lt_of_le hq hW'.size)) (hv'.mono (fun q hq => Nat.lt_of_lt_of_le hq (Nat.le_trans hd hW'.size))) hk) (.slice la ln lc) (fun q hq => by have : q < w.heap.size := hq; have := hfb3.box.lt; omega) hcl2)
          have HBF := Lib.hid (show Below w.heap.size w wZ from HB.out.trans (hfb3.only.to (Nat.le_refl _) (Nat.le_of_lt HLG.out)))
          clear hcl2 hsc hfb3
          go_wp2_with fail
          clear c5
          refine HCN.out.mono ?_
          rintro e wD ⟨rfl, hbD⟩
          have HBD := Lib.hid (belowStep hbD HBF.out)
          clear hbD HCN
          go_wp2
          go_ret
          exact ⟨rfl, HBD.out⟩
end Go.Proofs.Ytmjkeejinagokaa
