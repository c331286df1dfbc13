/-
  Walks of layer 3: a tree is copied.
-/
import Derived.Test.YtkhpihacjhhklaaYb
import Derived.Deep.RegionWith
import Derived.Deep.RegionLaw
namespace Go.Proofs.Ytkhpihacjhhklaa
open Go Go.RowKit
open Pl (Syn)
set_option linter.unusedSimpArgs false

/-- five cells are written -/
def put5 (cur : Array Value) (o : Nat) (x0 x1 x2 x3 x4 : Value) : Array Value := ((((cur.setIfInBounds o x0).setIfInBounds (o + 1) x1).setIfInBounds (o + 2) x2).setIfInBounds (o + 3) x3).setIfInBounds (o + 4) x4
theorem put5_size (cur : Array Value) (o : Nat) (x0 x1 x2 x3 x4 : Value) : (put5 cur o x0 x1 x2 x3 x4).size = cur.size := by unfold put5; simp
theorem put5_in (cur : Array Value) (o : Nat) (x0 x1 x2 x3 x4 : Value) (h : o + 4 < cur.size) : NodeIn (put5 cur o x0 x1 x2 x3 x4) o (.agg #[x0, x1, x2, x3, x4]) := by
  refine ⟨x0, x1, x2, x3, x4, rfl, ?_, ?_, ?_, ?_, ?_⟩ <;> (unfold put5; simp [Array.getElem?_setIfInBounds]; try omega)
theorem put5_other (cur : Array Value) (o : Nat) (x0 x1 x2 x3 x4 : Value) (q : Nat) (v : Value) (hq : q + 4 < o ∨ o + 4 < q) (h : NodeIn cur q v) : NodeIn (put5 cur o x0 x1 x2 x3 x4) q v := by
  obtain ⟨y0, y1, y2, y3, y4, rfl, h0, h1, h2, h3, h4⟩ := h
  have each : ∀ d y, d < 5 → cur[q + d]? = some y → (put5 cur o x0 x1 x2 x3 x4)[q + d]? = some y := by
    intro d y hd hy
    unfold put5
    rw [Array.getElem?_setIfInBounds_ne (by omega), Array.getElem?_setIfInBounds_ne (by omega), Array.getElem?_setIfInBounds_ne (by omega), Array.getElem?_setIfInBounds_ne (by omega), Array.getElem?_setIfInBounds_ne (by omega)]
    exact hy
  exact ⟨y0, y1, y2, y3, y4, rfl, each 0 _ (by omega) h0, each 1 _ (by omega) h1, each 2 _ (by omega) h2, each 3 _ (by omega) h3, each 4 _ (by omega) h4⟩
/-- the blocks of a call's own, but one -/
def Own (w wr : World) (g : Option Nat) (b : Nat) : Prop := w.heap.size + 2 ≤ b ∧ b < wr.heap.size ∧ g ≠ some b
/-- what copied holds while it goes on: the first k parts are copies -/
structure CP (w wr : World) (P : Nat → Prop) (t : Syn) (ma : Option Addr) (mc : Nat) (ga : Option Addr) (gc : Nat) (k : Nat) : Prop where
  below : Below w.heap.size w wr
  box : Blk wr w.heap.size 25 #[.int .i64 t.op, .int .i64 t.n, .string t.s, .slice ma t.names.length mc, .slice ga t.l.length gc]
  res : Blk wr (w.heap.size + 1) 25 #[.int .i64 0, .int .i64 0, .string ByteArray.empty, .slice none 0 0, .slice none 0 0]
  names : StrSl wr (fun b => Own w wr none b ∧ (t.l ≠ [] → ga ≠ some ⟨b, 0, none⟩)) (.slice ma t.names.length mc) t.names
  len : t.l.length ≤ gc ∧ gc ≤ maxLen ∧ (ga = none → gc = 0)
  row : t.l = [] ∨ ∃ g cur, ga = some ⟨g, 0, none⟩ ∧ w.heap.size + 2 ≤ g ∧ Blk wr g 25 cur ∧ t.l.length * 5 ≤ cur.size ∧
    (∀ j (h : j < t.l.length), j < k → ∃ x, NodeIn cur (j * 5) x ∧ SynV wr (Own w wr (some g)) t.l[j] x) ∧ (∀ j (h : j < t.l.length), k ≤ j → ∃ x, NodeIn cur (j * 5) x ∧ SynV wr P t.l[j] x)
def store5 (w : World) (g o : Nat) (x0 x1 x2 x3 x4 : Value) : World := ((((w.setCell ⟨g, o, none⟩ x0).setCell ⟨g, o + 1, none⟩ x1).setCell ⟨g, o + 2, none⟩ x2).setCell ⟨g, o + 3, none⟩ x3).setCell ⟨g, o + 4, none⟩ x4
theorem store5_blk {w : World} {g : Nat} {T : TypeId} {cur : Array Value} (h : Blk w g T cur) (o : Nat) (x0 x1 x2 x3 x4 : Value) : Blk (store5 w g o x0 x1 x2 x3 x4) g T (put5 cur o x0 x1 x2 x3 x4) :=
  ((((h.set o x0).set (o + 1) x1).set (o + 2) x2).set (o + 3) x3).set (o + 4) x4
theorem store5_size (w : World) (g o : Nat) (x0 x1 x2 x3 x4 : Value) : (store5 w g o x0 x1 x2 x3 x4).heap.size = w.heap.size := by
  unfold store5
  rw [size_setCell, size_setCell, size_setCell, size_setCell, size_setCell]
theorem store5_other (w : World) (g o : Nat) (x0 x1 x2 x3 x4 : Value) (b : Nat) (h : b ≠ g) : (store5 w g o x0 x1 x2 x3 x4).heap[b]? = w.heap[b]? := by
  unfold store5
  rw [Below.heap_setCell _ _ _ _ h, Below.heap_setCell _ _ _ _ h, Below.heap_setCell _ _ _ _ h, Below.heap_setCell _ _ _ _ h, Below.heap_setCell _ _ _ _ h]
theorem store5_below {B : Nat} {a w : World} (h : Below B a w) (g o : Nat) (x0 x1 x2 x3 x4 : Value) (hB : B ≤ g) : Below B a (store5 w g o x0 x1 x2 x3 x4) :=
  ((((h.setCell (p := ⟨g, o, none⟩) hB x0).setCell (p := ⟨g, o + 1, none⟩) hB x1).setCell (p := ⟨g, o + 2, none⟩) hB x2).setCell (p := ⟨g, o + 3, none⟩) hB x3).setCell (p := ⟨g, o + 4, none⟩) hB x4
theorem CP.push {w wr w5 : World} {P : Nat → Prop} {t : Syn} {ma : Option Addr} {mc g gc k B : Nat} {x0 x1 x2 x3 x4 : Value} (hP : ∀ b, P b → b < w.heap.size) (h : CP w wr P t ma mc (some ⟨g, 0, none⟩) gc k) (hk : k < t.l.length) (hb : Below wr.heap.size wr w5) (hB : wr.heap.size ≤ B)
    (hv : SynV w5 (fun b => B ≤ b ∧ b < w5.heap.size) t.l[k] (.agg #[x0, x1, x2, x3, x4])) : CP w (store5 w5 g (k * 5) x0 x1 x2 x3 x4) P t ma mc (some ⟨g, 0, none⟩) gc (k + 1) := by
  rcases h.row with h0 | ⟨g', cur, he, hgb, hblk, hsz, hdone, htodo⟩
  · rw [h0] at hk; simp at hk
  injection he with he
  injection he with he
  subst he
  have hne : t.l ≠ [] := fun e => by rw [e] at hk; simp at hk
  have hws := h.below.size
  have hgl := hblk.lt
  have hsame : ∀ b, b < wr.heap.size → b ≠ g → (store5 w5 g (k * 5) x0 x1 x2 x3 x4).heap[b]? = wr.heap[b]? := fun b hb1 hb2 => (store5_other w5 g (k * 5) x0 x1 x2 x3 x4 b hb2).trans (hb.block b hb1)
  have hss := hb.size
  refine ⟨store5_below (belowStep hb h.below) g (k * 5) x0 x1 x2 x3 x4 (by omega), h.box.of_eq (hsame _ h.box.lt (by omega)), h.res.of_eq (hsame _ h.res.lt (by omega)), ?_, h.len, .inr ⟨g, _, rfl, hgb, store5_blk (hblk.of_eq (hb.block g hgl)) (k * 5) x0 x1 x2 x3 x4, by rw [put5_size]; exact hsz, fun j hj hjk => ?_, fun j hj hjk => ?_⟩⟩
  · refine (h.names.keep (fun b hb1 => hsame b hb1.1.2.1 (fun e => hb1.2 hne (by rw [e])))).mono (fun b hb1 => ⟨⟨hb1.1.1, by rw [store5_size]; exact Nat.lt_of_lt_of_le hb1.1.2.1 hss, by simp⟩, hb1.2⟩)
  · by_cases hjk2 : j = k
    · subst hjk2
      refine ⟨_, put5_in cur (j * 5) x0 x1 x2 x3 x4 (by omega), (hv.keep (fun b hb1 => store5_other w5 g (j * 5) x0 x1 x2 x3 x4 b (by omega))).mono (fun b hb1 => ⟨by omega, by rw [store5_size]; exact hb1.2, fun e => ?_⟩)⟩
      injection e with e
      omega
    · obtain ⟨x, hx, hs⟩ := hdone j hj (by omega)
      exact ⟨x, put5_other cur (k * 5) x0 x1 x2 x3 x4 (j * 5) x (by omega) hx, (hs.keep (fun b hb1 => hsame b hb1.2.1 (fun e => hb1.2.2 (by rw [e])))).mono (fun b hb1 => ⟨hb1.1, by rw [store5_size]; exact Nat.lt_of_lt_of_le hb1.2.1 hss, hb1.2.2⟩)⟩
  · obtain ⟨x, hx, hs⟩ := htodo j hj (by omega)
    exact ⟨x, put5_other cur (k * 5) x0 x1 x2 x3 x4 (j * 5) x (by omega) hx, hs.keep (fun b hb1 => hsame b (by have := hP b hb1; omega) (by have := hP b hb1; omega))⟩
/-- all parts are copies: the tree is one -/
theorem CP.done {w wr w' : World} {P : Nat → Prop} {t : Syn} {ma : Option Addr} {mc : Nat} {ga : Option Addr} {gc k : Nat} (h : CP w wr P t ma mc ga gc k) (hk : t.l.length ≤ k) (hs : t.s.size ≤ maxLen) (hsame : ∀ b, w.heap.size + 2 ≤ b → b < wr.heap.size → w'.heap[b]? = wr.heap[b]?) (hsz : wr.heap.size ≤ w'.heap.size) :
    SynV w' (fun b => w.heap.size ≤ b ∧ b < w'.heap.size) t (.agg #[.int .i64 t.op, .int .i64 t.n, .string t.s, .slice ma t.names.length mc, .slice ga t.l.length gc]) := by
  rw [synV_iff]
  refine ⟨hs, _, _, rfl, (h.names.keep (fun b hb1 => hsame b hb1.1.1 hb1.1.2.1)).mono (fun b hb1 => ⟨by have := hb1.1.1; omega, Nat.lt_of_lt_of_le hb1.1.2.1 hsz⟩), ga, gc, rfl, h.len.1, h.len.2.1, h.len.2.2, ?_⟩
  rcases h.row with h0 | ⟨g, cur, rfl, hgb, hblk, hcs, hdone, -⟩
  · exact .inl h0
  · have hgl := hblk.lt
    refine .inr ⟨g, 0, rfl, ⟨by omega, by omega⟩, ?_⟩
    rw [kidsAt_iff]
    intro j hj
    obtain ⟨x, hx, hv⟩ := hdone j hj (by omega)
    refine ⟨x, by rw [Nat.zero_add]; exact hx.at (hblk.of_eq (hsame g hgb hgl)), (hv.keep (fun b hb1 => hsame b hb1.1 hb1.2.1)).mono (fun b hb1 => ⟨by have := hb1.1; omega, Nat.lt_of_lt_of_le hb1.2.1 hsz⟩)⟩
def CopyPost (t : Syn) (w : World) (e : Ending) (w' : World) : Prop := (∃ v, e = .returned v ∧ SynV w' (fun b => w.heap.size ≤ b ∧ b < w'.heap.size) t v) ∧ Below w.heap.size w w'
set_option maxRecDepth 100000 in
set_option maxHeartbeats 8000000 in
theorem copied_any (P : Nat → Prop) (t : Syn) : ∀ (w : World) (v : Value), (∀ b, P b → b < w.heap.size) → SynV w P t v → t.big ≤ 268435456 →
    Calls Try.prog 48 #[v] w (CopyPost t w) := by
  induction t using Syn.ind with
  | h t ih =>
  intro w v hP ht hbig
  have hlb := Pl.len_big t
  have hbe := Pl.big_eq t
  have HIH := Lib.hid (fun x (hx : x ∈ t.l) w v hP ht => ih x hx w v hP ht (by have := Pl.mem_big hx; omega))
  have HS := Lib.hid ((synV_iff _ _ _ _).1 ht).1
  rw [synV_iff] at ht
  obtain ⟨hs, nv, lv, rfl, hn, hl⟩ := ht
  obtain ⟨na, nc, rfl, hnm⟩ := hn.form
  obtain ⟨la, lc, rfl, hlmm⟩ := hl.form
  have HP := Lib.hid hP
  have hb0 := below2 w (.cells #[.int .i64 t.op, .int .i64 t.n, .string t.s, .slice na t.names.length nc, .slice la t.l.length lc] 25) (.cells #[.int .i64 0, .int .i64 0, .string ByteArray.empty, .slice none 0 0, .slice none 0 0] 25)
  have hbx := boxes_new w #[.int .i64 t.op, .int .i64 t.n, .string t.s, .slice na t.names.length nc, .slice la t.l.length lc] #[.int .i64 0, .int .i64 0, .string ByteArray.empty, .slice none 0 0, .slice none 0 0]
  have HN := Lib.hid (fun W (hW : Below w.heap.size w W) => cloneStrs_any P _ t.names W (hn.keep (Same.of_below hW hP)) (by omega))
  have HL := Lib.hid (fun W (hW : Below w.heap.size w W) => cloneSyn_any P _ t.l W (fun b hb => Nat.lt_of_lt_of_le (hP b hb) hW.size) (hl.keep (Same.of_below hW hP)) (by omega))
  have HB0 := Lib.hid hb0
  have HBX := Lib.hid hbx
  have HSZ := Lib.hid (show ((w.alloc (.cells #[.int .i64 t.op, .int .i64 t.n, .string t.s, .slice na t.names.length nc, .slice la t.l.length lc] 25)).alloc (.cells #[.int .i64 0, .int .i64 0, .string ByteArray.empty, .slice none 0 0, .slice none 0 0] 25)).heap.size = w.heap.size + 2 by simp)
  obtain ⟨x0, x1, x2, x3, x4⟩ := box_cells hbx.1
  have f3 := hbx.1.thaw 3
  have f4 := hbx.1.thaw 4
  clear hs hn hl hb0 hbx hP ih
  go_enter Try.func48, Try.ntmps48
  go_wp2_with fail
  refine (HN.out _ HB0.out).mono ?_
  rintro e w1 ⟨ma, mn, mc, rfl, hst, hb1⟩
  obtain ⟨ma', mc', hme, hmn⟩ := hst.form
  injection hme with hm1 hm2 hm3
  subst hm1 hm2 hm3
  have HB1 := Lib.hid (belowStep hb1 HB0.out)
  have HX1 := Lib.hid (HBX.out.below hb1)
  have HST := Lib.hid hst
  have HS1 := Lib.hid (show w.heap.size + 2 ≤ w1.heap.size from by have := hb1.size; rw [HSZ.out] at this; exact this)
  clear hb1 hst x0 x1 x2 x3 x4 f3 f4
  obtain ⟨x0, x1, x2, x3, x4⟩ := box_cells HX1.out.1
  have f3 := HX1.out.1.thaw 3
  have f4 := HX1.out.1.thaw 4
  go_wp2_with fail
  have hb2 : Below w.heap.size w (w1.setCell ⟨w.heap.size, 3, none⟩ (.slice ma t.names.length mc)) := HB1.out.setCell (p := ⟨w.heap.size, 3, none⟩) (Nat.le_refl _) _
  have hx2 : Blk (w1.setCell ⟨w.heap.size, 3, none⟩ (.slice ma t.names.length mc)) w.heap.size 25 #[.int .i64 t.op, .int .i64 t.n, .string t.s, .slice ma t.names.length mc, .slice la t.l.length lc] := by simpa using HX1.out.1.set 3 (.slice ma t.names.length mc)
  have hy2 := HX1.out.2.other ⟨w.heap.size, 3, none⟩ (.slice ma t.names.length mc) (by show w.heap.size + 1 ≠ w.heap.size; omega)
  have hst2 : StrSl (w1.setCell ⟨w.heap.size, 3, none⟩ (.slice ma t.names.length mc)) (fun b => w.heap.size + 2 ≤ b ∧ b < w1.heap.size) (.slice ma t.names.length mc) t.names := (HST.out.mono (fun b hb => ⟨by have := hb.1; rw [HSZ.out] at this; exact this, hb.2⟩)).keep (fun b hb => Below.heap_setCell w1 ⟨w.heap.size, 3, none⟩ _ b (by show b ≠ w.heap.size; omega))
  have hsz2 : (w1.setCell ⟨w.heap.size, 3, none⟩ (.slice ma t.names.length mc)).heap.size = w1.heap.size := size_setCell _ _ _
  generalize w1.setCell ⟨w.heap.size, 3, none⟩ (.slice ma t.names.length mc) = w2 at *
  refine (HL.out _ hb2).mono ?_
  rintro e w3 ⟨⟨ga, gn, gc, rfl, hfr⟩, hb3⟩
  have HB3 := Lib.hid (belowStep hb3 hb2)
  have HX3 := Lib.hid (hx2.of_eq (hb3.block _ hx2.lt))
  have HY3 := Lib.hid (hy2.of_eq (hb3.block _ hy2.lt))
  have HST3 := Lib.hid (hst2.keep (Same.of_below hb3 (fun b hb => by omega)))
  rw [hsz2] at hfr
  have HFR := Lib.hid hfr
  have HG3 := Lib.hid (show w1.heap.size ≤ w3.heap.size from by have := hb3.size; omega)
  obtain ⟨ga', gc', hge, hfl, hfm, hfn, hfx⟩ := hfr
  injection hge with hg1 hg2 hg3
  subst hg1 hg2 hg3
  clear hfl hfm hfn hfx hb3 hst2 hy2 x0 x1 x2 x3 x4 f3 f4 hb2 hx2
  obtain ⟨x0, x1, x2, x3, x4⟩ := box_cells HX3.out
  have f3 := HX3.out.thaw 3
  have f4 := HX3.out.thaw 4
  go_wp2_with fail
  have hb4 : Below w.heap.size w (w3.setCell ⟨w.heap.size, 4, none⟩ (.slice ga t.l.length gc)) := HB3.out.setCell (p := ⟨w.heap.size, 4, none⟩) (Nat.le_refl _) _
  have hx4 : Blk (w3.setCell ⟨w.heap.size, 4, none⟩ (.slice ga t.l.length gc)) w.heap.size 25 #[.int .i64 t.op, .int .i64 t.n, .string t.s, .slice ma t.names.length mc, .slice ga t.l.length gc] := by simpa using HX3.out.set 4 (.slice ga t.l.length gc)
  have hy4 := HY3.out.other ⟨w.heap.size, 4, none⟩ (.slice ga t.l.length gc) (by show w.heap.size + 1 ≠ w.heap.size; omega)
  have hsz4 : (w3.setCell ⟨w.heap.size, 4, none⟩ (.slice ga t.l.length gc)).heap.size = w3.heap.size := size_setCell _ _ _
  have hset4 : ∀ b, b ≠ w.heap.size → (w3.setCell ⟨w.heap.size, 4, none⟩ (.slice ga t.l.length gc)).heap[b]? = w3.heap[b]? := fun b hb => Below.heap_setCell w3 ⟨w.heap.size, 4, none⟩ _ b hb
  have HCP := Lib.hid (show CP w (w3.setCell ⟨w.heap.size, 4, none⟩ (.slice ga t.l.length gc)) P t ma mc ga gc 0 from by
    obtain ⟨a', c', he, k1, k2, k3, k4⟩ := HFR.out
    injection he with e1 e2 e3
    subst e1 e3
    refine ⟨hb4, hx4, hy4, ?_, ⟨k1, k2, k3⟩, ?_⟩
    · refine (HST3.out.keep (fun b hb => hset4 b (by omega))).mono (fun b hb => ⟨⟨hb.1, by rw [hsz4]; exact Nat.lt_of_lt_of_le hb.2 HG3.out, by simp⟩, fun hne e => ?_⟩)
      rcases k4 with k4 | ⟨g, cur, rfl, k5, k6, k7, k8⟩
      · exact hne k4
      · injection e with e; injection e with e; omega
    · rcases k4 with k4 | ⟨g, cur, rfl, k5, k6, k7, k8⟩
      · exact .inl k4
      · refine .inr ⟨g, cur, rfl, by have := HS1.out; omega, k6.of_eq (hset4 g (by have := HS1.out; omega)), k7, fun j hj h => absurd h (Nat.not_lt_zero _), fun j hj _ => ?_⟩
        obtain ⟨x, hx, hv⟩ := k8 j hj
        exact ⟨x, hx, hv.keep (fun b hb => hset4 b (by have := HP.out b hb; omega))⟩)
  clear hb4 hx4 hy4 hsz4 hset4
  generalize w3.setCell ⟨w.heap.size, 4, none⟩ (.slice ga t.l.length gc) = w4 at *
  clear x0 x1 x2 x3 x4 f3 f4
  obtain ⟨x0, x1, x2, x3, x4⟩ := box_cells HCP.out.box
  generalize hln : t.l.length = ln at *
  have HLN := Lib.hid hln
  clear hln
  go_wp2_with fail
  go_loopg [16] (ln + 1) (fun g iv wr => ∃ k : Nat, k ≤ ln ∧ iv = .int .i64 k ∧ g = ln + 1 - k ∧ CP w wr P t ma mc ga gc k)
  case atStart => exact ⟨0, by omega, rfl, by omega, HCP.out⟩
  case round =>
    obtain ⟨k, hk, rfl, hg, hcp⟩ := hrel
    have HCK := Lib.hid hcp
    have hbx := hcp.box
    rw [HLN.out] at hbx
    have HBK := Lib.hid hbx
    obtain ⟨v0, v1, v2, v3, v4⟩ := box_cells hbx
    by_cases hlt : k < ln
    · have hkl : k < t.l.length := by rw [HLN.out]; exact hlt
      rcases hcp.row with hr | ⟨g, cur, rfl, hgb, hblk, hsz, hdone, htodo⟩
      · rw [hr] at hkl; simp at hkl
      obtain ⟨x, ⟨c0, c1, c2, c3, c4, rfl, d0, d1, d2, d3, d4⟩, hx⟩ := htodo k hkl (Nat.le_refl _)
      obtain ⟨pna, pnn, pnc, pla, pln, plc, hpf⟩ := hx.form
      simp only [Value.agg.injEq, Array.mk.injEq, List.cons.injEq, and_true] at hpf
      obtain ⟨rfl, rfl, rfl, rfl, rfl⟩ := hpf
      generalize hpo : t.l[k].op = po at *
      generalize hpn : t.l[k].n = pn at *
      generalize hps : t.l[k].s = ps at *
      have e0 := hblk.cell _ _ d0
      have e1 := hblk.cell _ _ d1
      have e2 := hblk.cell _ _ d2
      have e3 := hblk.cell _ _ d3
      have e4 := hblk.cell _ _ d4
      have g0 := hblk.thaw (k * 5)
      have g1 := hblk.thaw (k * 5 + 1)
      have g2 := hblk.thaw (k * 5 + 2)
      have g3 := hblk.thaw (k * 5 + 3)
      have g4 := hblk.thaw (k * 5 + 4)
      have hPW : ∀ b, P b → b < wr.heap.size := fun b hb => Nat.lt_of_lt_of_le (HP.out b hb) hcp.below.size
      have HI := Lib.hid (fun W (hW : Below wr.heap.size wr W) => HIH.out t.l[k] (List.getElem_mem hkl) W _ (fun b hb => Nat.lt_of_lt_of_le (hPW b hb) hW.size) (hx.keep (Same.of_below hW hPW)))
      have hal0 : Below wr.heap.size wr (wr.alloc (.cells #[.int .i64 po, .int .i64 pn, .string ps, .slice pna pnn pnc, .slice pla pln plc] 25)) := (Below.refl _ _).alloc (Nat.le_refl _) _
      have HBLK := Lib.hid hblk
      have HD := Lib.hid (And.intro d0 (And.intro d1 (And.intro d2 (And.intro d3 d4))))
      have HAL := Lib.hid hal0.drew
      have HAL0 := Lib.hid hal0
      have HGB := Lib.hid hgb
      clear hdone htodo hcp hpo hpn hps d0 d1 d2 d3 d4 hx hPW hblk hbx
      have HX0 := Lib.hid (blk_new wr #[.int .i64 po, .int .i64 pn, .string ps, .slice pna pnn pnc, .slice pla pln plc] 25)
      obtain ⟨m0, m1, m2, m3, m4⟩ := box_cells HX0.out
      have n4 := (hal0.cell (p := ⟨w.heap.size, 4, none⟩) (Blk.lt HBK.out)).trans v4
      clear hal0
      go_wp2
      generalize wr.alloc (.cells #[.int .i64 po, .int .i64 pn, .string ps, .slice pna pnn pnc, .slice pla pln plc] 25) = wp at *
      go_region_law (go_simp; go_at_call 48; refine (HI.out _ HAL.out).mono ?_; rintro e w5 ⟨⟨v', rfl, hv'⟩, hb5⟩; obtain ⟨qna, qnn, qnc, qla, qln, qlc, rfl⟩ := hv'.form; have HV5 := Lib.hid hv'; have HB5 := Lib.hid hb5; have HW5 := Lib.hid (belowStep hb5 HAL.out); have HBK5 := Lib.hid (Blk.of_eq HBK.out (HW5.out.block _ (Blk.lt HBK.out))); have HBL5 := Lib.hid (Blk.of_eq HBLK.out (HW5.out.block _ (Blk.lt HBLK.out))); obtain ⟨u0, u1, u2, u3, u4⟩ := box_cells HBK5.out; have r0 := HBL5.out.cell _ _ HD.out.1; have r1 := HBL5.out.cell _ _ HD.out.2.1; have r2 := HBL5.out.cell _ _ HD.out.2.2.1; have r3 := HBL5.out.cell _ _ HD.out.2.2.2.1; have r4 := HBL5.out.cell _ _ HD.out.2.2.2.2; have t0 := HBL5.out.thaw (k * 5); have t1 := HBL5.out.thaw (k * 5 + 1); have t2 := HBL5.out.thaw (k * 5 + 2); have t3 := HBL5.out.thaw (k * 5 + 3); have t4 := HBL5.out.thaw (k * 5 + 4); clear hv' hb5)
      all_goals
        have HNX := Lib.hid (CP.push HP.out HCK.out hkl HW5.out HAL.out.size HV5.out)
        unfold store5 at HNX
        go_wp2
        go_roundg (gk - 1)
        case measure => omega
        case rel => exact ⟨k + 1, by omega, by go_num, by omega, HNX.out⟩
    · have HRS := Lib.hid hcp.res
      have hrs0 := hcp.res.cell 0 _ rfl
      have hrs1 := hcp.res.cell 1 _ rfl
      have hrs2 := hcp.res.cell 2 _ rfl
      have hrs3 := hcp.res.cell 3 _ rfl
      have hrs4 := hcp.res.cell 4 _ rfl
      have th0 := hcp.res.thaw 0
      have th1 := hcp.res.thaw 1
      have th2 := hcp.res.thaw 2
      have th3 := hcp.res.thaw 3
      have th4 := hcp.res.thaw 4
      have HW5 := Lib.hid (show Below w.heap.size w (store5 wr (w.heap.size + 1) 0 (.int .i64 t.op) (.int .i64 t.n) (.string t.s) (.slice ma t.names.length mc) (.slice ga ln gc)) from store5_below hcp.below _ _ _ _ _ _ _ (Nat.le_succ _))
      have HR5 := Lib.hid (show Blk (store5 wr (w.heap.size + 1) 0 (.int .i64 t.op) (.int .i64 t.n) (.string t.s) (.slice ma t.names.length mc) (.slice ga ln gc)) (w.heap.size + 1) 25 #[.int .i64 t.op, .int .i64 t.n, .string t.s, .slice ma t.names.length mc, .slice ga ln gc] from by
        have := store5_blk hcp.res 0 (.int .i64 t.op) (.int .i64 t.n) (.string t.s) (.slice ma t.names.length mc) (.slice ga ln gc)
        simpa [put5] using this)
      have HD5 := Lib.hid (CP.done hcp (w' := store5 wr (w.heap.size + 1) 0 (.int .i64 t.op) (.int .i64 t.n) (.string t.s) (.slice ma t.names.length mc) (.slice ga ln gc)) (by rw [HLN.out]; omega) HS.out (fun b hb1 hb2 => store5_other _ _ _ _ _ _ _ _ b (by omega)) (by rw [store5_size]; exact Nat.le_refl _))
      rw [HLN.out] at HD5
      unfold store5 at HW5 HR5 HD5
      clear hcp hbx
      go_wp2
      obtain ⟨z0, z1, z2, z3, z4⟩ := box_cells HR5.out
      simp only [Nat.zero_add] at z0 z1 z2 z3 z4
      have HE := Lib.hid (show CopyPost t w (.returned _) _ from ⟨⟨_, rfl, HD5.out⟩, HW5.out⟩)
      simp only [Nat.zero_add] at HE
      refine bodyPost_ret (v := .agg #[.int .i64 t.op, .int .i64 t.n, .string t.s, .slice ma t.names.length mc, .slice ga ln gc]) (by simp [results, Try.results48, go_sem, z0, z1, z2, z3, z4]) rfl ?_
      exact HE.out
end Go.Proofs.Ytkhpihacjhhklaa
