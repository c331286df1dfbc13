/-
  Layer 9: several texts in one (Jb Jc Jd Je).
-/
import Derived.Test.YtmjkeejinagokaaJa
import Derived.Test.YtmjkeejinagokaaKo
import Derived.Deep.RegionHeld3
import Derived.RangeFuncNested
import Derived.RangeFuncBound
import Derived.RangeFuncCalls
import Derived.RangeFuncLeaves
import Derived.Shelf.Abstract
import Derived.Shelf.RegionOpen
import Derived.WalkKit
import Derived.OwnWalkIn
import Derived.TacticsInMore
import Derived.LoopNIn
import Derived.LoopIn
import Derived.Test.YtmjkeejinagokaaKg
namespace Go.Proofs.Ytmjkeejinagokaa
open Go Go.RowKit
open Pl (K)
set_option linter.unusedSimpArgs false

theorem arrow2_any (P : Nat → Prop) (t u : K) (w : World) (v x : Value) (hP : ∀ b, P b → b < w.heap.size) (ht : KV w P t v) (hu : KV w P u x) :
    Calls Try.prog 71 #[v, x] w fun e w' => (∃ y, e = .returned y ∧ KV w' (Ext P w w') (.mk [t, u]) y) ∧ Below w.heap.size w w' := by
  obtain ⟨a, c, rfl⟩ := ht.form
  obtain ⟨a2, c2, rfl⟩ := hu.form
  generalize t.l.length = n at *
  generalize u.l.length = n2 at *
  obtain ⟨hbx, hbx2, hb⟩ := two_new w 24 (.slice a n c) (.slice a2 n2 c2)
  have h3 := blk_new ((w.alloc (.cells #[.slice a n c] 24)).alloc (.cells #[.slice a2 n2 c2] 24)) #[.slice none 0 0] 24
  rw [size_alloc, size_alloc] at h3
  have e3 : (((w.alloc (.cells #[.slice a n c] 24)).alloc (.cells #[.slice a2 n2 c2] 24)).alloc (.cells #[.slice none 0 0] 24)).heap.size = w.heap.size + 3 := by rw [size_alloc, size_alloc, size_alloc]
  have c0 := (hbx.alloc (.cells #[.slice none 0 0] 24)).cell 0 (.slice a n c) rfl
  have d0 := (hbx2.alloc (.cells #[.slice none 0 0] 24)).cell 0 (.slice a2 n2 c2) rfl
  have HB := Lib.hid (below_new hb : Below w.heap.size w (((w.alloc (.cells #[.slice a n c] 24)).alloc (.cells #[.slice a2 n2 c2] 24)).alloc (.cells #[.slice none 0 0] 24)))
  have HT := Lib.hid ht
  have HU := Lib.hid hu
  clear hbx hbx2 hb ht hu
  go_enter Try.func71, Try.ntmps71
  go_wp2
  obtain ⟨w3, hw3⟩ : ∃ w3, w3 = ((w.alloc (.cells #[.slice a n c] 24)).alloc (.cells #[.slice a2 n2 c2] 24)).alloc (.cells #[.slice (some ⟨w.heap.size + 3, 0, none⟩) 2 2] 24) := ⟨_, rfl⟩
  have hs3 : w3.heap.size = w.heap.size + 3 := by rw [hw3, size_alloc, size_alloc, size_alloc]
  have hb3 : Below w.heap.size w w3 := by rw [hw3]; exact below_new (below_new (below_new (Below.refl _ _)))
  have hk3 : Blk w3 (w.heap.size + 1 + 1) 24 #[.slice (some ⟨w.heap.size + 3, 0, none⟩) 2 2] := by
    have := blk_new ((w.alloc (.cells #[.slice a n c] 24)).alloc (.cells #[.slice a2 n2 c2] 24)) #[.slice (some ⟨w.heap.size + 3, 0, none⟩) 2 2] 24
    rw [size_alloc, size_alloc] at this
    rw [hw3]; exact this
  rw [← hw3]
  clear hw3 c0 d0 e3 h3 HB
  have hx := HT.out.kid
  have hy := HU.out.kid
  have hpk := pair_kids (w := w3) (P := P) (fun b h => Nat.lt_of_lt_of_le (hP b h) hb3.size) (hx.keep (Same.of_below hb3 hP)) (hy.keep (Same.of_below hb3 hP))
  rw [hs3] at hpk
  have hb4 : Below w.heap.size w (w3.alloc (.cells #[.slice a n c, .slice a2 n2 c2] 24)) := below_new hb3
  have d4 := (hk3.alloc (.cells #[.slice a n c, .slice a2 n2 c2] 24)).cell 0 (.slice (some ⟨w.heap.size + 3, 0, none⟩) 2 2) rfl
  refine bodyPost_ret (v := .agg #[.slice (some ⟨w.heap.size + 3, 0, none⟩) 2 2]) (by simp [results, Try.results71, go_sem, d4]) rfl ?_
  refine ⟨⟨_, rfl, _, rfl, hpk.mono fun b h => ?_⟩, hb4⟩
  rcases h with h | h
  · exact .inl h
  · exact .inr ⟨by omega, h.2⟩

theorem From.ext {B : Nat} {w w' : World} (hB : B ≤ w.heap.size) (hs : w.heap.size ≤ w'.heap.size) : ∀ b, Ext (From B w) w w' b → From B w' b := fun b h => by
  rcases h with h | h
  · exact ⟨h.1, Nat.lt_of_lt_of_le h.2 hs⟩
  · exact ⟨Nat.le_trans hB h.1, h.2⟩
theorem From.up {B : Nat} {w w' : World} (hs : w.heap.size ≤ w'.heap.size) : ∀ b, From B w b → From B w' b := fun _ h => ⟨h.1, Nat.lt_of_lt_of_le h.2 hs⟩
/-- the arrow of two kinds that lie in blocks from B on -/
theorem arrow_from (B : Nat) (t u : K) (w w' : World) (a : Option Addr) (n c : Nat) (b : Option Addr) (m d : Nat) (hB : B ≤ w.heap.size) (ht : KidV w (From B w) t (.slice a n c)) (hw : Below w.heap.size w w') (hu : KidV w' (From B w') u (.slice b m d)) :
    Calls Try.prog 71 #[.agg #[.slice a n c], .agg #[.slice b m d]] w' fun e w'' => (∃ a' c', e = .returned (.agg #[.slice a' 2 c']) ∧ KidV w'' (From B w'') (.mk [t, u]) (.slice a' 2 c')) ∧ Below w'.heap.size w' w'' := by
  have h1 : KidV w' (From B w') t (.slice a n c) := (ht.keep (Same.of_below hw (fun _ h => h.2))).mono (From.up hw.size)
  refine (arrow2_any (From B w') t u w' _ _ (fun b h => h.2) ⟨_, rfl, h1⟩ ⟨_, rfl, hu⟩).mono ?_
  rintro e w'' ⟨⟨y, rfl, hy⟩, hb⟩
  obtain ⟨a', c', rfl⟩ := hy.form
  exact ⟨⟨a', c', rfl, hy.kid.mono (From.ext (Nat.le_trans hB hw.size) hb.size)⟩, hb⟩
set_option maxRecDepth 100000 in
set_option maxHeartbeats 1000000 in
theorem copied_any (P : Nat → Prop) (t : K) : ∀ (w : World) (v : Value), (∀ b, P b → b < w.heap.size) → KV w P t v → K.ok t = true →
    Calls Try.prog 72 #[v] w fun e w' => (∃ a c, e = .returned (.agg #[.slice a t.l.length c]) ∧ KidV w' (From w.heap.size w') t (.slice a t.l.length c)) ∧ Below w.heap.size w w' := by
  induction t using K.ind with
  | h t ih =>
  intro w v hP ht hok
  obtain ⟨a, c, rfl⟩ := ht.form
  have hk := ht.kid
  clear ht
  rcases K.ok_cases hok with rfl | ⟨x, y, rfl⟩
  · clear ih hok
    change Calls _ _ #[.agg #[.slice a 0 c]] _ _
    obtain ⟨hbx, hbx2, hb⟩ := two_new w 24 (.slice a 0 c) (.slice none 0 0)
    have HS := Lib.hid (fun W => isStar_any (fun _ => True) (.mk []) W (.agg #[.slice a 0 c]) ⟨_, rfl, (kidV_iff _ _ _ _).2 ⟨a, c, rfl, Nat.zero_le _, by
      obtain ⟨a', c', e, -, h, -⟩ := (kidV_iff _ _ _ _).1 hk
      injection e with _ _ e
      rw [e]; exact h, fun h => by
      obtain ⟨a', c', e, -, -, h2, -⟩ := (kidV_iff _ _ _ _).1 hk
      injection e with e1 _ e
      rw [e]; exact h2 (by rw [← e1]; exact h), .inl rfl⟩⟩)
    have HT := Lib.hid (fun W => star_any W)
    have c0 := hbx.cell 0 (.slice a 0 c) rfl
    have HB := Lib.hid hb
    have HBX := Lib.hid hbx
    have HBX2 := Lib.hid hbx2
    clear hbx hbx2 hb hk
    go_enter Try.func72, Try.ntmps72
    go_wp2_with fail
    generalize (w.alloc (.cells #[.slice a 0 c] 24)).alloc (.cells #[.slice none 0 0] 24) = w2 at *
    refine (HS.out _).mono ?_
    rintro e w3 ⟨rfl, hb3⟩
    replace HBX2 := Lib.hid (HBX2.out.of_eq (hb3.block _ HBX2.out.lt))
    replace HB := Lib.hid (belowStep hb3 HB.out)
    clear hb3 c0
    go_wp2_with fail
    refine (HT.out _).mono ?_
    rintro e w4 ⟨rfl, hb4⟩
    replace HBX2 := Lib.hid (HBX2.out.of_eq (hb4.block _ HBX2.out.lt))
    replace HB := Lib.hid (belowStep hb4 HB.out)
    clear hb4
    have h1 := HBX2.out
    have c1 := h1.cell 0 (.slice none 0 0) rfl
    have f1 := h1.thaw 0
    have HE1 := Lib.hid (blk_one (y := .slice none 0 0) h1)
    have HE2 := Lib.hid (below_set HB.out (Nat.le_succ _) (.slice none 0 0))
    clear h1
    go_wp2
    have d0 := HE1.out.cell 0 (.slice none 0 0) rfl
    refine bodyPost_ret (v := .agg #[.slice none 0 0]) (by first | (simp [results, Try.results72, go_sem, d0]; done) | (simp [results, Try.results72, go_sem, c1]; done)) rfl ?_
    refine ⟨⟨none, 0, rfl, kidV_none _ _⟩, ?_⟩
    first | exact HE2.out | exact HB.out
  · obtain ⟨a5, c5, e5, -, -, hka⟩ := KSl.each (show KSl w P (.slice a 2 c) [x, y] from hk)
    injection e5 with e5 e9 e6
    subst e5 e6
    clear e9
    obtain ⟨b0, o0, rfl, hPb, hke⟩ := kids_each hka (by simp)
    obtain ⟨x0, hx0, hkx⟩ := hke 0 (by simp)
    obtain ⟨y0, hy0, hky⟩ := hke 1 (by simp)
    have hkx : KidV w P x x0 := hkx
    have hky : KidV w P y y0 := hky
    rw [Nat.add_zero] at hx0
    have h2 := K.ok_two hok
    obtain ⟨a7, c7, rfl⟩ := hkx.form
    obtain ⟨a8, c8, rfl⟩ := hky.form
    have HX0' := Lib.hid (fun W (hW : Below w.heap.size w W) => ih x (by simp [K.l]) W (.agg #[.slice a7 x.l.length c7]) (fun b h => Nat.lt_of_lt_of_le (hP b h) hW.size) ⟨_, rfl, hkx.keep (Same.of_below hW hP)⟩ h2.1)
    have HY0' := Lib.hid (fun W (hW : Below w.heap.size w W) => ih y (by simp [K.l]) W (.agg #[.slice a8 y.l.length c8]) (fun b h => Nat.lt_of_lt_of_le (hP b h) hW.size) ⟨_, rfl, hky.keep (Same.of_below hW hP)⟩ h2.2)
    have hb0 := hP b0 hPb
    have HS := Lib.hid (fun W (hW : Below w.heap.size w W) => isStar_any P (.mk [x, y]) W (.agg #[.slice (some ⟨b0, o0, none⟩) 2 c]) ⟨_, rfl, hk.keep (Same.of_below hW hP)⟩)
    have HX0 := Lib.hid hx0
    have HY0 := Lib.hid hy0
    generalize y.l.length = n8 at *
    generalize x.l.length = n7 at *
    change Calls _ _ #[.agg #[.slice (some ⟨b0, o0, none⟩) 2 c]] _ (fun e w' => (∃ a c, e = .returned (.agg #[.slice a 2 c]) ∧ KidV w' (From w.heap.size w') (.mk [x, y]) (.slice a 2 c)) ∧ Below w.heap.size w w')
    clear hk hka hke hkx hky h2 hP hok ih hPb hx0 hy0
    obtain ⟨hbx, hbx2, hb⟩ := two_new w 24 (.slice (some ⟨b0, o0, none⟩) 2 c) (.slice none 0 0)
    have c0 := hbx.cell 0 (.slice (some ⟨b0, o0, none⟩) 2 c) rfl
    have HB := Lib.hid hb
    have HBX := Lib.hid hbx
    have HBX2 := Lib.hid hbx2
    clear hbx hbx2 hb
    go_enter Try.func72, Try.ntmps72
    go_wp2_with fail
    generalize (w.alloc (.cells #[.slice (some ⟨b0, o0, none⟩) 2 c] 24)).alloc (.cells #[.slice none 0 0] 24) = w2 at *
    refine (HS.out _ HB.out).mono ?_
    rintro e w3 ⟨rfl, hb3⟩
    replace HBX := Lib.hid (HBX.out.of_eq (hb3.block _ HBX.out.lt))
    replace HBX2 := Lib.hid (HBX2.out.of_eq (hb3.block _ HBX2.out.lt))
    replace HB := Lib.hid (belowStep hb3 HB.out)
    clear hb3 c0 HS
    have HSS := Lib.hid (fun W (hW : Below w3.heap.size w3 W) => (show Below w.heap.size w W ∧ W.cell? ⟨w.heap.size, 0, none⟩ = some (.slice (some ⟨b0, o0, none⟩) 2 c) ∧ W.cell? ⟨b0, o0, none⟩ = some (.slice a7 n7 c7) ∧ W.cell? ⟨b0, o0 + 1, none⟩ = some (.slice a8 n8 c8) ∧ W.frozen? ⟨w.heap.size + 1, 0, none⟩ = false from by
      have hbw := belowStep hW HB.out
      exact ⟨hbw, (HBX.out.of_eq (hW.block _ HBX.out.lt)).cell 0 _ rfl, (hbw.cell (p := ⟨b0, o0, none⟩) hb0).trans HX0.out, (hbw.cell (p := ⟨b0, o0 + 1, none⟩) hb0).trans HY0.out, (HBX2.out.of_eq (hW.block _ HBX2.out.lt)).thaw 0⟩))
    have HST := Lib.hid (fun W (hW : Below w3.heap.size w3 W) v => (show Below w.heap.size w (W.setCell ⟨w.heap.size + 1, 0, none⟩ v) ∧ (W.setCell ⟨w.heap.size + 1, 0, none⟩ v).cell? ⟨w.heap.size, 0, none⟩ = some (.slice (some ⟨b0, o0, none⟩) 2 c) ∧ (W.setCell ⟨w.heap.size + 1, 0, none⟩ v).cell? ⟨b0, o0, none⟩ = some (.slice a7 n7 c7) ∧ (W.setCell ⟨w.heap.size + 1, 0, none⟩ v).cell? ⟨b0, o0 + 1, none⟩ = some (.slice a8 n8 c8) ∧ (W.setCell ⟨w.heap.size + 1, 0, none⟩ v).frozen? ⟨w.heap.size + 1, 0, none⟩ = false from by
      have hbw := below_set (belowStep hW HB.out) (Nat.le_succ w.heap.size) v
      have h1 := HBX.out.of_eq (hW.block _ HBX.out.lt)
      have h2 := HBX2.out.of_eq (hW.block _ HBX2.out.lt)
      exact ⟨hbw, (h1.other ⟨w.heap.size + 1, 0, none⟩ v (by simp)).cell 0 _ rfl, (hbw.cell (p := ⟨b0, o0, none⟩) hb0).trans HX0.out, (hbw.cell (p := ⟨b0, o0 + 1, none⟩) hb0).trans HY0.out, (blk_one (y := v) h2).thaw 0⟩))
    have HX := Lib.hid (fun W (hW : Below w3.heap.size w3 W) => (HX0'.out W (belowStep hW HB.out)).mono (R' := fun e w' => (∃ a n c, e = .returned (.agg #[.slice a n c]) ∧ KidV w' (From w3.heap.size w') x (.slice a n c)) ∧ Below W.heap.size W w') (by
      rintro e w' ⟨⟨a, c, h1, h2⟩, h3⟩
      exact ⟨⟨a, _, c, h1, h2.mono (fun b h => ⟨Nat.le_trans hW.size h.1, h.2⟩)⟩, h3⟩))
    have HY := Lib.hid (fun W (hW : Below w3.heap.size w3 W) => (HY0'.out W (belowStep hW HB.out)).mono (R' := fun e w' => (∃ a n c, e = .returned (.agg #[.slice a n c]) ∧ KidV w' (From w3.heap.size w') y (.slice a n c)) ∧ Below W.heap.size W w') (by
      rintro e w' ⟨⟨a, c, h1, h2⟩, h3⟩
      exact ⟨⟨a, _, c, h1, h2.mono (fun b h => ⟨Nat.le_trans hW.size h.1, h.2⟩)⟩, h3⟩))
    have HAR := Lib.hid (fun W W' a n c b m d (h1 : KidV W (From w3.heap.size W) x (.slice a n c)) (h2 : KidV W' (From w3.heap.size W') y (.slice b m d)) (h3 : Below W.heap.size W W') (h4 : Below w3.heap.size w3 W) => arrow_from w3.heap.size x y W W' a n c b m d h4.size h1 h3 h2)
    clear HX0' HY0'
    have HD0 := Lib.hid (Below.refl w3.heap.size w3).drew
    have HU := Lib.hid (fun W (hW : Below w3.heap.size w3 W) => belowStep hW HB.out)
    go_wp2
    go_region_held3 (fun W => Below w.heap.size w W ∧ W.cell? ⟨w.heap.size, 0, none⟩ = some (.slice (some ⟨b0, o0, none⟩) 2 c) ∧ W.cell? ⟨b0, o0, none⟩ = some (.slice a7 n7 c7) ∧ W.cell? ⟨b0, o0 + 1, none⟩ = some (.slice a8 n8 c8) ∧ W.frozen? ⟨w.heap.size + 1, 0, none⟩ = false)
      (first | exact HSS.out _ HD0.out | exact HSS.out _ (by assumption) | exact HST.out _ (by assumption) _)
      (first
      | (go_at_call 72; (with_reducible refine (HX.out _ (by first | assumption | exact HD0.out)).mono ?_); rintro e wn ⟨⟨ra, rn, rc, rfl, hrx⟩, hbn⟩; have hbn2 := belowStep (a := w3) hbn (by first | assumption | exact HD0.out))
      | (go_at_call 72; (with_reducible refine (HY.out _ (by first | assumption | exact HD0.out)).mono ?_); rintro e wm ⟨⟨sa, sn, sc, rfl, hry⟩, hbm⟩; have hbm2 := belowStep (a := w3) hbm (by first | assumption | exact HD0.out))
      | (go_at_call 71; (with_reducible refine (HAR.out _ _ _ _ _ _ _ _ (by assumption) (by assumption) (by assumption) (by assumption)).mono ?_); rintro e wk ⟨⟨ka, kc, rfl, hrk⟩, hbk⟩; have hbk2 := belowStep (a := w3) hbk (by first | assumption | exact HD0.out); have hc9 := (HBX2.out.of_eq (hbk2.block _ HBX2.out.lt)).cell 0 _ rfl; have hf9 := (HBX2.out.of_eq (hbk2.block _ HBX2.out.lt)).thaw 0))
    have HE1 := Lib.hid (blk_one (y := .slice ka 2 kc) (HBX2.out.of_eq (hbk2.block _ HBX2.out.lt)))
    have HE2 := Lib.hid (below_set (HU.out _ hbk2) (Nat.le_succ w.heap.size) (.slice ka 2 kc))
    have HE3 := Lib.hid ((hrk.keep (Same.set (w := wk) ⟨w.heap.size + 1, 0, none⟩ (.slice ka 2 kc) (fun q h e => by
      have e : q = w.heap.size + 1 := e
      have := h.1
      have := HBX2.out.lt
      omega))).mono (fun b h => (show From w.heap.size (wk.setCell ⟨w.heap.size + 1, 0, none⟩ (.slice ka 2 kc)) b from ⟨Nat.le_trans HB.out.size h.1, by rw [size_set]; exact h.2⟩)))
    clear hrk hbk2 hbk hc9 hf9 hry hrx hbm hbm2 hbn hbn2 HAR HX HY HST HSS HBX HBX2
    generalize wk.setCell ⟨w.heap.size + 1, 0, none⟩ (.slice ka 2 kc) = w9 at *
    go_wp2
    have d0 := HE1.out.cell 0 (.slice ka 2 kc) rfl
    refine bodyPost_ret (v := .agg #[.slice ka 2 kc]) (by simp [results, Try.results72, go_sem, d0]) rfl ?_
    exact ⟨⟨ka, kc, rfl, HE3.out⟩, HE2.out⟩
set_option maxRecDepth 100000 in
/-- the code's equality, once its arguments are known to be valid -/
theorem same_any (t : K) : ∀ (P Q : Nat → Prop) (u : K) (w : World) (v x : Value), (∀ b, P b → b < w.heap.size) → (∀ b, Q b → b < w.heap.size) → KV w P t v → KV w Q u x →
    Calls Try.prog 66 #[v, x] w fun e w' => e = .returned (.bool (K.eqv t u)) ∧ Below w.heap.size w w' := by
  induction t using K.ind with
  | h t ih =>
  intro P Q u w v x hP hQ ht hu
  obtain ⟨a, c, rfl⟩ := ht.form
  obtain ⟨a2, c2, rfl⟩ := hu.form
  have hk := ht.kid
  have hk2 := hu.kid
  clear ht hu
  obtain ⟨hbx, hbx2, hb⟩ := two_new w 24 (.slice a t.l.length c) (.slice a2 u.l.length c2)
  have HC := Lib.hid (eqFuncIn_any 66 K.eqv (fun _ _ => rfl) P Q t.l u.l ih _ (.slice a t.l.length c) (.slice a2 u.l.length c2) (fun b h => Nat.lt_of_lt_of_le (hP b h) hb.size) (fun b h => Nat.lt_of_lt_of_le (hQ b h) hb.size) (by
    have := hk.keep (Same.of_below hb hP)
    obtain ⟨l⟩ := t
    exact this) (by
    have := hk2.keep (Same.of_below hb hQ)
    obtain ⟨l⟩ := u
    exact this))
  have HE := Lib.hid (show K.eqv t u = (t.l.length == u.l.length && eqAllB K.eqv t.l u.l) from by
    obtain ⟨l⟩ := t
    obtain ⟨m⟩ := u
    rw [K.eqv]
    show (l.length == m.length && K.eqvs l m) = (l.length == m.length && eqAllB K.eqv l m)
    congr 1
    clear hk hk2 HC hbx hbx2 hb ih
    induction l generalizing m with
    | nil => cases m <;> simp [K.eqvs, eqAllB]
    | cons t r ihr =>
      cases m with
      | nil => simp [K.eqvs, eqAllB]
      | cons u s => rw [K.eqvs, eqAllB, ihr])
  have c0 := hbx.cell 0 (.slice a t.l.length c) rfl
  have d0 := hbx2.cell 0 (.slice a2 u.l.length c2) rfl
  have HB := Lib.hid hb
  rw [← HE.out] at HC
  generalize K.eqv t u = r at *
  generalize t.l.length = n at *
  generalize u.l.length = n2 at *
  clear hk hk2 hbx hbx2 hb ih HE
  go_enter Try.func66, Try.ntmps66
  go_wp2_with fail
  refine HC.out.mono ?_
  rintro e w3 ⟨rfl, hb3⟩
  have HB3 := Lib.hid (belowStep hb3 HB.out)
  clear hb3 c0 d0
  go_wp2
  go_ret
  exact ⟨rfl, HB3.out⟩
set_option maxRecDepth 100000 in
theorem equal_any_k8 (P Q : Nat → Prop) (t u : K) (w : World) (v x : Value) (hP : ∀ b, P b → b < w.heap.size) (hQ : ∀ b, Q b → b < w.heap.size) (ht : KV w P t v) (hu : KV w Q u x) :
    Calls Try.prog 47 #[v, x] w fun e w' => e = .returned (.bool (K.valid t && K.valid u && K.eqv t u)) ∧ Below w.heap.size w w' := by
  have HV := Lib.hid (fun W (hW : Below w.heap.size w W) => valid_any P t W v (fun b h => Nat.lt_of_lt_of_le (hP b h) hW.size) (ht.below hP hW))
  have HU := Lib.hid (fun W (hW : Below w.heap.size w W) => valid_any Q u W x (fun b h => Nat.lt_of_lt_of_le (hQ b h) hW.size) (hu.below hQ hW))
  have HE := Lib.hid (fun W (hW : Below w.heap.size w W) => same_any t P Q u W v x (fun b h => Nat.lt_of_lt_of_le (hP b h) hW.size) (fun b h => Nat.lt_of_lt_of_le (hQ b h) hW.size) (ht.below hP hW) (hu.below hQ hW))
  obtain ⟨a, c, rfl⟩ := ht.form
  obtain ⟨a2, c2, rfl⟩ := hu.form
  generalize K.valid t = r1 at *
  generalize K.valid u = r2 at *
  generalize K.eqv t u = r3 at *
  clear ht hu hP hQ
  generalize t.l.length = n at *
  generalize u.l.length = n2 at *
  obtain ⟨hbx, hbx2, hb⟩ := two_new w 24 (.slice a n c) (.slice a2 n2 c2)
  have c0 := hbx.cell 0 (.slice a n c) rfl
  have d0 := hbx2.cell 0 (.slice a2 n2 c2) rfl
  have HB := Lib.hid hb
  have HBX := Lib.hid hbx
  have HBX2 := Lib.hid hbx2
  clear hb hbx hbx2
  go_enter Try.func47, Try.ntmps47
  go_wp2_with fail
  generalize ((w.alloc (.cells #[.slice a n c] 24)).alloc (.cells #[.slice a2 n2 c2] 24)) = w2 at *
  refine (HV.out _ HB.out).mono ?_
  rintro e w3 ⟨rfl, hb3⟩
  have HB3 := Lib.hid (belowStep hb3 HB.out)
  cases r1
  · clear hb3 c0 d0
    go_wp2
    go_ret
    exact ⟨by rw [Bool.false_and, Bool.false_and]; rfl, HB3.out⟩
  replace HBX := Lib.hid (HBX.out.of_eq (hb3.block _ HBX.out.lt))
  replace HBX2 := Lib.hid (HBX2.out.of_eq (hb3.block _ HBX2.out.lt))
  clear hb3 c0 d0
  have c0 := HBX.out.cell 0 (.slice a n c) rfl
  have d0 := HBX2.out.cell 0 (.slice a2 n2 c2) rfl
  go_wp2_with fail
  refine (HU.out _ HB3.out).mono ?_
  rintro e w4 ⟨rfl, hb4⟩
  have HB4 := Lib.hid (belowStep hb4 HB3.out)
  cases r2
  · clear hb4 c0 d0
    go_wp2
    go_ret
    exact ⟨by rw [Bool.true_and, Bool.false_and]; rfl, HB4.out⟩
  replace HBX := Lib.hid (HBX.out.of_eq (hb4.block _ HBX.out.lt))
  replace HBX2 := Lib.hid (HBX2.out.of_eq (hb4.block _ HBX2.out.lt))
  clear hb4 c0 d0
  have c0 := HBX.out.cell 0 (.slice a n c) rfl
  have d0 := HBX2.out.cell 0 (.slice a2 n2 c2) rfl
  go_wp2_with fail
  refine (HE.out _ HB4.out).mono ?_
  rintro e w5 ⟨rfl, hb5⟩
  have HB5 := Lib.hid (belowStep hb5 HB4.out)
  clear hb5 c0 d0
  go_wp2
  go_ret
  exact ⟨by rw [Bool.true_and, Bool.true_and]; rfl, HB5.out⟩
end Go.Proofs.Ytmjkeejinagokaa
namespace Go.Proofs.Ytmjkeejinagokaa
open Go Go.RowKit
open Pl (K)
set_option linter.unusedSimpArgs false

set_option maxRecDepth 100000 in
theorem noneIndex_any (P : Nat → Prop) (l : List K) (w : World) (v : Value) (hP : ∀ b, P b → b < w.heap.size) (ht : KSl w P v l) :
    Calls Try.prog 53 #[v, .func (.func 69) #[] #[]] w fun e w' => (∃ r : Int, e = .returned (.int .i64 r) ∧ (r < 0 → ∀ t ∈ l, K.valid t = true) ∧ (¬ r < 0 → ∃ t ∈ l, K.valid t = false)) ∧ Below w.heap.size w w' := by
  obtain ⟨a, c, rfl, hlc, hcm, hka⟩ := ht.each
  clear ht
  have HB : Hid (Below w.heap.size w w) := Below.refl _ _
  have HP := Lib.hid hP
  obtain ⟨n, hn⟩ : ∃ n, n = l.length := ⟨_, rfl⟩
  rw [← hn] at hlc ⊢
  have HN := Lib.hid hn
  have HKA := Lib.hid hka
  have hll : n ≤ 9223372036854775807 := by unfold maxLen at hcm; omega
  clear hka hcm hP hn
  go_enter Try.func53, Try.ntmps53
  go_wp2_with fail
  go_loopg [8] (n + 1) (fun g k wr => ∃ i : Nat, i ≤ n ∧ k = .int .i64 i ∧ g = n + 1 - i ∧ (∀ j (h : j < l.length), j < i → K.valid l[j] = true) ∧ Below w.heap.size w wr)
  case atStart => exact ⟨0, by omega, rfl, by omega, fun j h h0 => absurd h0 (Nat.not_lt_zero _), HB.out⟩
  case round =>
    obtain ⟨i, hi, rfl, hg, hall, hbw⟩ := hrel
    have HBW := Lib.hid hbw
    have HALL := Lib.hid hall
    by_cases hlt : i < n
    · have q5 : decide ((i : Int) < (n : Int)) = true := decide_eq_true (by omega)
      have hil : i < l.length := by rw [← HN.out]; exact hlt
      obtain ⟨b, off, x, rfl, hPb, hx, hkx⟩ := HKA.out i hil
      obtain ⟨a7, c7, rfl⟩ := hkx.form
      have f0 := (hbw.cell (p := ⟨b, off + i, none⟩) (HP.out b hPb)).trans hx
      have HC := Lib.hid (isNone_any P l[i] wr (.agg #[.slice a7 l[i].l.length c7]) (fun b hb => Nat.lt_of_lt_of_le (HP.out b hb) hbw.size) ⟨_, rfl, hkx.keep (Same.of_below hbw HP.out)⟩)
      have HIL := Lib.hid hil
      generalize hz : K.valid l[i] = z at *
      have HZ := Lib.hid hz
      generalize l[i].l.length = n7 at *
      clear hall hbw hx hkx hPb hz
      go_wp2_with fail
      refine HC.out.mono ?_
      rintro e w3 ⟨rfl, hb3⟩
      have HB3 := Lib.hid (belowStep hb3 HBW.out)
      clear hb3 f0
      cases z
      rotate_left
      · have HF := Lib.hid HZ.out
        go_wp2
        go_roundg (gk - 1)
        case measure => omega
        case rel =>
          refine ⟨i + 1, by omega, by go_num, by omega, fun j hj h => ?_, HB3.out⟩
          rcases Nat.lt_or_ge j i with h1 | h1
          · exact HALL.out j hj h1
          · obtain rfl : j = i := by omega
            exact HF.out
      · go_wp2
        go_ret
        exact ⟨⟨i, rfl, (fun h => by omega), fun _ => ⟨l[i], List.getElem_mem HIL.out, HZ.out⟩⟩, HB3.out⟩
    · have q5 : decide ((i : Int) < (n : Int)) = false := decide_eq_false (by omega)
      clear hall hbw
      go_wp2
      go_ret
      refine ⟨⟨-1, rfl, fun _ t ht => ?_, fun h => absurd h (by decide)⟩, HBW.out⟩
      obtain ⟨j, hj, rfl⟩ := List.getElem_of_mem ht
      exact HALL.out j hj (by have := HN.out; omega)
theorem noneContains_any (P : Nat → Prop) (l : List K) (w : World) (v : Value) (hP : ∀ b, P b → b < w.heap.size) (ht : KSl w P v l) :
    Calls Try.prog 26 #[v, .func (.func 69) #[] #[]] w fun e w' => e = .returned (.bool (!l.all K.valid)) ∧ Below w.heap.size w w' := by
  have HC := Lib.hid (noneIndex_any P l w v hP ht)
  obtain ⟨a, c, rfl, -⟩ := ht.each
  clear ht hP
  have HA := Lib.hid (show (l.all K.valid = true ↔ ∀ t ∈ l, K.valid t = true) from by rw [List.all_eq_true])
  generalize l.all K.valid = z at HA ⊢
  generalize l.length = n at *
  go_enter Try.func26, Try.ntmps26
  go_wp2_with fail
  refine HC.out.mono ?_
  rintro e w2 ⟨⟨r, rfl, hr, hr2⟩, hb2⟩
  have HR := Lib.hid hr
  have HR2 := Lib.hid hr2
  have HB := Lib.hid hb2
  clear hr hb2 hr2
  by_cases h0 : (0 : Int) ≤ r
  · have q1 : decide ((0 : Int) ≤ r) = true := decide_eq_true h0
    have HF := Lib.hid (show z = false from by
      obtain ⟨t, h1, h2⟩ := HR2.out (by omega)
      cases z
      · rfl
      · rw [HA.out.1 rfl t h1] at h2; cases h2)
    go_wp2
    go_ret
    exact ⟨by rw [HF.out]; rfl, HB.out⟩
  · have q1 : decide ((0 : Int) ≤ r) = false := decide_eq_false h0
    have HF := Lib.hid (show z = true from HA.out.2 (HR.out (by omega)))
    go_wp2
    go_ret
    exact ⟨by rw [HF.out]; rfl, HB.out⟩
end Go.Proofs.Ytmjkeejinagokaa
namespace Go.Proofs.Ytmjkeejinagokaa
open Go Go.RowKit Go.Shelf
open Pl (K)
set_option linter.unusedSimpArgs false

attribute [local go_sem] Oper.semAt_some
/-- what has come when k rounds are over: n - 1, n - 2 .. -/
def down (n k : Nat) : List Nat := (List.range k).map (fun i => n - 1 - i)
theorem down_succ (n k : Nat) : down n (k + 1) = down n k ++ [n - 1 - k] := by simp [down, List.range_succ]
theorem down_length (n k : Nat) : (down n k).length = k := by simp [down]
/-- what a round keeps: what lay below n₀, and the block Bs -/
def KpB (n₀ Bs : Nat) (W W' : World) : Prop := Below n₀ W W' ∧ W'.heap[Bs]? = W.heap[Bs]?
theorem KpB.trans {n₀ Bs : Nat} {A B C : World} (h : KpB n₀ Bs A B) (k : KpB n₀ Bs B C) : KpB n₀ Bs A C := ⟨h.1.trans k.1, k.2.trans h.2⟩
theorem KpB.cell {n₀ Bs : Nat} {A B : World} (h : KpB n₀ Bs A B) (o : Nat) : B.cell? ⟨Bs, o, none⟩ = A.cell? ⟨Bs, o, none⟩ := by
  have := h.2
  simp only [World.cell?, this]
theorem kpB_b {n₀ Bs : Nat} {w : World} (hn : n₀ ≤ w.heap.size) (hB : Bs < w.heap.size) (W : World) (l : Nat) (o o' : Obj) (hl : w.heap.size ≤ l) (h : W.heap[l]? = some o) (h1 : o.isCells = false) (h2 : o.isWalk = false) : KpB n₀ Bs W (W.putObj l o') :=
  ⟨belowK_b hn W l o o' hl h h1 h2, World.putObj_heap_other (by omega)⟩
/-- a loop variable's two values: the number, and the kind there -/
def encB (va : Nat → Option Addr) (vn vc : Nat → Nat) (j : Nat) : Array Value := #[.int .i64 (j : Int), .agg #[.slice (va j) (vn j) (vc j)]]
set_option maxRecDepth 100000 in
set_option maxHeartbeats 2000000 in
theorem backward1_in (F : Fence) (n : Nat) (h7 : F.fn 87) (hro : F.round = none) (hn : 1 ≤ n) (l Bs n₀ len cap : Nat) (a : Option Addr) (va : Nat → Option Addr) (vn vc : Nat → Nat) (hlen : len ≤ 9223372036854775807) (J Jx : List Nat → World → Prop)
    (hY : ∀ pre x W, J pre W → pre.length < len → YieldAt F (n - 1) Try.prog l (encB va vn vc x) W fun e W' =>
      (e = .returned (.bool true) ∧ J (pre ++ [x]) W' ∧ KpB n₀ Bs W W') ∨ (e = .returned (.bool false) ∧ Jx (pre ++ [x]) W'))
    (W : World) (hBs : W.cell? ⟨Bs, 0, none⟩ = some (.slice a len cap)) (hc : ∀ j, j < len → ∃ b off, a = some ⟨b, off, none⟩ ∧ b < n₀ ∧ W.cell? ⟨b, off + j, none⟩ = some (.slice (va j) (vn j) (vc j))) (h0 : J [] W) :
    CallsIn F n Try.prog 87 #[.func (.yield l) #[] #[], .pointer (some ⟨Bs, 0, none⟩)] W fun e W' => (∃ v, e = .returned v) ∧
      ((∃ ys, ys = down len len ∧ J ys W') ∨ (∃ pre, True ∧ Jx pre W')) := by
  have HC := Lib.hid hc
  clear hc
  have w0 : wrap64 ((len : Int) - 1) = (len : Int) - 1 := by rw [wrap64]; omega
  refine callsIn_of_wp Try.func87 rfl h7 ?_ hro
  simp only [Try.ntmps87, List.size_toArray, List.length_cons, List.length_nil, Nat.reduceAdd, Nat.reduceSub, Array.replicate_succ, Array.replicate_zero, List.push_toArray, List.append_toArray, List.nil_append, List.cons_append]
  gi_wp2
  gi_loopw [3] (fun i wr => ∃ k : Nat, k ≤ len ∧ i = .int .i64 ((k : Int) - 1) ∧ J (down len (len - k)) wr ∧ KpB n₀ Bs W wr)
    (fun i _ => (intOf i + 1).toNat)
  case atStart => exact ⟨len, Nat.le_refl _, rfl, by rw [Nat.sub_self]; exact h0, Below.refl _ _, rfl⟩
  case round =>
    obtain ⟨k, hk, rfl, hJs, hnx⟩ := hrel
    have hbs := (hnx.cell 0).trans hBs
    cases k with
    | zero =>
      rw [Nat.sub_zero] at hJs
      gi_wp2
      go_end0
      exact ⟨⟨_, rfl⟩, .inl ⟨_, rfl, hJs⟩⟩
    | succ k =>
      have e1 : (((k + 1 : Nat) : Int) - 1) = (k : Int) := by omega
      rw [e1]
      clear e1
      obtain ⟨b, off, rfl, hb, hcell⟩ := HC.out k (by omega)
      obtain ⟨fn, tmps, assign, body, hy, hR⟩ := hY _ k wr hJs (by rw [down_length]; omega)
      have hcx := (hnx.1.cell (p := ⟨b, off + k, none⟩) hb).trans hcell
      have w1 : wrap64 ((k : Int) - 1) = (k : Int) - 1 := by rw [wrap64]; omega
      have q1 : decide ((0 : Int) ≤ (k : Int)) = true := decide_eq_true (by omega)
      have hkl : k < len := by omega
      unfold encB at hy
      gi_wp2
      refine hR.mono ?_
      rintro e W3 (⟨rfl, hJ3, hk3⟩ | ⟨rfl, hJx3⟩)
      · gi_wp2
        go_roundw
        case rel =>
          refine ⟨k, by omega, rfl, ?_, hnx.trans hk3⟩
          have e3 : len - k = len - (k + 1) + 1 := by omega
          rw [e3, down_succ, show len - 1 - (len - (k + 1)) = k by omega]
          exact hJ3
        case measure => first | (simp [intOf]; done) | (simp [intOf]; omega)
      · gi_wp2
        refine bodyPost_ret (results_none rfl _ _ _) rfl ?_
        exact ⟨⟨_, rfl⟩, .inr ⟨_, trivial, hJx3⟩⟩
set_option maxHeartbeats 1000000 in
theorem backward_any (a : Option Addr) (len cap : Nat) (w : World) :
    Calls Try.prog 70 #[.slice a len cap] w fun e w' => e = .returned (.func (.func 87) #[] #[.pointer (some ⟨w.heap.size, 0, none⟩)]) ∧ w' = w.alloc (.cells #[.slice a len cap] 22) := by
  go_enter Try.func70, Try.ntmps70
  go_wp2
  go_ret
  exact ⟨rfl, rfl⟩
/-- what slices.Backward hands back serves every body that keeps what lay below n₀ -/
theorem backward_stops (F : Fence) (n : Nat) (h7 : F.fn 87) (hro : F.round = none) (hn : 1 ≤ n) (Bs n₀ len cap : Nat) (a : Option Addr) (va : Nat → Option Addr) (vn vc : Nat → Nat) (hlen : len ≤ 9223372036854775807) (w : World) (hlt : Bs < w.heap.size) (hn₀ : n₀ ≤ w.heap.size)
    (hBs : w.cell? ⟨Bs, 0, none⟩ = some (.slice a len cap)) (hc : ∀ j, j < len → ∃ b off, a = some ⟨b, off, none⟩ ∧ b < n₀ ∧ w.cell? ⟨b, off + j, none⟩ = some (.slice (va j) (vn j) (vc j))) :
    SeqStopsK F n Try.prog 87 #[.pointer (some ⟨Bs, 0, none⟩)] (encB va vn vc) (KpB n₀ Bs) (fun ys => ys = down len len) (fun _ => True) len w := fun l J Jx W hW _ _ hY h0 => by
  refine backward1_in F n h7 hro hn l Bs n₀ len cap a va vn vc hlen J Jx hY W ((hW.cell (p := ⟨Bs, 0, none⟩) hlt).trans hBs) ?_ h0
  intro j hj
  obtain ⟨b, off, h1, h2, h3⟩ := hc j hj
  exact ⟨b, off, h1, h2, (hW.cell (p := ⟨b, off + j, none⟩) (Nat.lt_of_lt_of_le h2 hn₀)).trans h3⟩
end Go.Proofs.Ytmjkeejinagokaa
namespace Go.Proofs.Ytmjkeejinagokaa
open Go Go.RowKit Go.Shelf
open Pl (K)
set_option linter.unusedSimpArgs false

attribute [local go_sem] Oper.semAt_some
/-- a kind in memory lies on where the cells lie on -/
theorem KidV.cells {w w' : World} {P : Nat → Prop} (hs : ∀ b o v, P b → w.cell? ⟨b, o, none⟩ = some v → w'.cell? ⟨b, o, none⟩ = some v) : ∀ {t : K} {v : Value}, KidV w P t v → KidV w' P t v := by
  intro t
  induction t using K.ind with
  | h t ih =>
    obtain ⟨l⟩ := t
    intro v h
    rw [kidV_iff] at h ⊢
    obtain ⟨a, c, h3, h4, h5, h6, h7⟩ := h
    refine ⟨a, c, h3, h4, h5, h6, ?_⟩
    rcases h7 with h7 | ⟨b, off, h7, h8, h9⟩
    · exact .inl h7
    · refine .inr ⟨b, off, h7, h8, ?_⟩
      rw [kidsK_iff] at h9 ⊢
      intro j hj
      obtain ⟨x, hx, hv⟩ := h9 j hj
      exact ⟨x, hs _ _ _ h8 hx, ih _ (List.getElem_mem hj) hv⟩
/-- the kinds of a row, by functions of the number -/
theorem kids_funs {w : World} {P : Nat → Prop} {a : Option Addr} {l : List K} (hka : ∀ (j : Nat) (hj : j < l.length), ∃ b off x, a = some ⟨b, off, none⟩ ∧ P b ∧ w.cell? ⟨b, off + j, none⟩ = some x ∧ KidV w P l[j] x) :
    ∃ (kd : Nat → K) (va : Nat → Option Addr) (vn vc : Nat → Nat), (∀ j (hj : j < l.length), kd j = l[j]) ∧ (∀ j, KidV w P (kd j) (.slice (va j) (vn j) (vc j))) ∧ (∀ j, j < l.length → ∃ b off, a = some ⟨b, off, none⟩ ∧ P b ∧ w.cell? ⟨b, off + j, none⟩ = some (.slice (va j) (vn j) (vc j))) := by
  have h : ∀ j, ∃ q : K × Option Addr × Nat × Nat, (∀ hj : j < l.length, q.1 = l[j] ∧ ∃ b off, a = some ⟨b, off, none⟩ ∧ P b ∧ w.cell? ⟨b, off + j, none⟩ = some (.slice q.2.1 q.2.2.1 q.2.2.2)) ∧ KidV w P q.1 (.slice q.2.1 q.2.2.1 q.2.2.2) := by
    intro j
    by_cases hj : j < l.length
    · obtain ⟨b, off, x, h1, h2, h3, h4⟩ := hka j hj
      obtain ⟨a7, c7, rfl⟩ := h4.form
      exact ⟨(l[j], a7, _, c7), fun _ => ⟨rfl, b, off, h1, h2, h3⟩, h4⟩
    · exact ⟨(.mk [], none, 0, 0), fun h => absurd h hj, kidV_none w P⟩
  obtain ⟨T, hT⟩ := Classical.skolem.1 h
  exact ⟨fun j => (T j).1, fun j => (T j).2.1, fun j => (T j).2.2.1, fun j => (T j).2.2.2, fun j hj => ((hT j).1 hj).1, fun j => (hT j).2, fun j hj => ((hT j).1 hj).2⟩
/-- all blocks but one -/
def But (G : Nat) (W : World) (q : Nat) : Prop := q < W.heap.size ∧ q ≠ G
/-- the kind that has been made when these of the parameters have come -/
def upK (kd : Nat → K) (to : K) (pre : List Nat) : K := pre.foldl (fun k j => .mk [kd j, k]) to
theorem upK_snoc (kd : Nat → K) (to : K) (pre : List Nat) (j : Nat) : upK kd to (pre ++ [j]) = .mk [kd j, upK kd to pre] := by
  unfold upK; rw [List.foldl_append]; rfl
theorem upK_down (kd : Nat → K) (to : K) (l : List K) (h : ∀ j (hj : j < l.length), kd j = l[j]) (k : Nat) (hk : k ≤ l.length) : upK kd to (down l.length k) = K.arrow (l.drop (l.length - k)) to := by
  induction k with
  | zero => rw [Nat.sub_zero, List.drop_length]; rfl
  | succ k ih =>
    rw [down_succ, upK_snoc, ih (by omega), h _ (by omega)]
    have e : l.drop (l.length - (k + 1)) = l[l.length - 1 - k]'(by omega) :: l.drop (l.length - k) := by
      have h1 : l.length - (k + 1) = l.length - 1 - k := by omega
      rw [h1, List.drop_eq_getElem_cons (by omega)]
      congr 2
      omega
    rw [e, K.arrow_cons]
theorem below_keepsFrom {W W' : World} (h : Below W.heap.size W W') (B : Nat) : KeepsFrom B W W' := KeepsOthers.from ⟨h.size, fun k o hk _ => (h.block k (by
  rcases Nat.lt_or_ge k W.heap.size with h1 | h1
  · exact h1
  · simp [Array.getElem?_eq_none h1] at hk)).trans hk⟩ B
set_option maxRecDepth 100000 in
set_option maxHeartbeats 4000000 in
theorem carrow_any (P : Nat → Prop) (l : List K) (to : K) (w : World) (v x : Value) (hP : ∀ b, P b → b < w.heap.size) (hl : KSl w P v l) (ht : KV w P to x) :
    Calls Try.prog 51 #[v, x] w fun e w' => (∃ y, e = .returned (.tuple #[y, .int .i64 (K.arrowOut l to).2]) ∧ KV w' (From w.heap.size w') (K.arrowOut l to).1 y) ∧ Below w.heap.size w w' := by
  have HNC := Lib.hid (fun W (hW : Below w.heap.size w W) => noneContains_any P l W v (fun b h => Nat.lt_of_lt_of_le (hP b h) hW.size) (hl.keep (Same.of_below hW hP)))
  have HV := Lib.hid (fun W (hW : Below w.heap.size w W) => valid_any P to W x (fun b h => Nat.lt_of_lt_of_le (hP b h) hW.size) (ht.below hP hW))
  obtain ⟨a, c, rfl, hlc, hcm, hka⟩ := hl.each
  obtain ⟨a2, c2, rfl⟩ := ht.form
  have HT := Lib.hid ht.kid
  have HKA := Lib.hid hka
  have HP := Lib.hid hP
  have HAO := Lib.hid (show K.arrowOut l to = if (l.all K.valid && K.valid to) = true then (if K.valid (K.arrow l to) = true then (K.arrow l to, 0) else (.mk [], 5)) else (.mk [], 1) from rfl)
  have HLB := Lib.hid (fun h => (show K.valid (K.arrow l to) = false from by
    cases hv : K.valid (K.arrow l to)
    · rfl
    · exfalso
      have h3 := ((K.valid_iff _).1 hv).2.2
      have := K.depth_arrow l to
      have h : 400 ≤ l.length := h
      omega))
  generalize K.arrowOut l to = AO at HAO ⊢
  obtain ⟨r1, hr1⟩ : ∃ r, r = l.all K.valid := ⟨_, rfl⟩
  obtain ⟨r2, hr2⟩ : ∃ r, r = K.valid to := ⟨_, rfl⟩
  rw [← hr1] at HNC HAO
  rw [← hr2] at HV HAO
  generalize to.l.length = n2 at *
  obtain ⟨n, hn⟩ : ∃ n, n = l.length := ⟨_, rfl⟩
  have HN := Lib.hid hn
  rw [← hn] at hlc HNC HLB ⊢
  have hll : n ≤ 9223372036854775807 := by unfold maxLen at hcm; omega
  clear ht hl hka hP hcm hr1 hr2 hn
  obtain ⟨hbx, hbx2, hb⟩ := two_new w 24 (.slice a2 n2 c2) (.slice none 0 0)
  have HB := Lib.hid hb
  have HBX := Lib.hid hbx
  have HBX2 := Lib.hid hbx2
  clear hbx hbx2 hb
  refine (callsIn_wide (n := 6)).1 ?_
  refine callsIn_of_wp_marks Try.func51 rfl trivial ?_ rfl
  simp only [Try.ntmps51, List.size_toArray, List.length_cons, List.length_nil, Nat.reduceAdd, Nat.reduceSub, Array.replicate_succ, Array.replicate_zero, List.push_toArray, List.append_toArray, List.nil_append, List.cons_append]
  have c0 := HBX.out.cell 0 (.slice a2 n2 c2) rfl
  gi_wp2_with fail
  generalize ((w.alloc (.cells #[.slice a2 n2 c2] 24)).alloc (.cells #[.slice none 0 0] 24)) = w2 at *
  refine ⟨trivial, (callsIn_wide.2 (HV.out _ HB.out)).mono ?_⟩
  rintro e w3 ⟨rfl, hb3⟩
  replace HB := Lib.hid (belowStep hb3 HB.out)
  replace HBX := Lib.hid (HBX.out.of_eq (hb3.block _ HBX.out.lt))
  replace HBX2 := Lib.hid (HBX2.out.of_eq (hb3.block _ HBX2.out.lt))
  clear hb3 c0
  cases r2
  · have HF := Lib.hid (show AO = (.mk [], 1) from by rw [HAO.out, Bool.and_false]; rfl)
    have h1 := HBX2.out
    have c1 := h1.cell 0 (.slice none 0 0) rfl
    have f1 := h1.thaw 0
    have HE1 := Lib.hid (blk_one (y := .slice none 0 0) h1)
    have HE2 := Lib.hid (below_set HB.out (Nat.le_succ w.heap.size) (.slice none 0 0))
    clear h1
    gi_wp2
    refine ⟨trivial, ?_⟩
    gi_wp2
    have d0 := HE1.out.cell 0 (.slice none 0 0) rfl
    refine ⟨.tuple #[.agg #[.slice none 0 0], .int .i64 1], (by first | (simp [results, Try.f51, go_sem, d0]; done) | (simp [results, Try.f51, go_sem, c1]; done)), ?_⟩
    refine ⟨⟨_, by rw [HF.out], by rw [HF.out]; exact kV_none _ _⟩, ?_⟩
    first | exact HE2.out | exact HB.out
  gi_wp2_with fail
  refine ⟨trivial, (callsIn_wide.2 (HNC.out _ HB.out)).mono ?_⟩
  rintro e w4 ⟨rfl, hb4⟩
  replace HB := Lib.hid (belowStep hb4 HB.out)
  replace HBX := Lib.hid (HBX.out.of_eq (hb4.block _ HBX.out.lt))
  replace HBX2 := Lib.hid (HBX2.out.of_eq (hb4.block _ HBX2.out.lt))
  clear hb4
  cases r1
  · have HF := Lib.hid (show AO = (.mk [], 1) from by rw [HAO.out]; rfl)
    have h1 := HBX2.out
    have c1 := h1.cell 0 (.slice none 0 0) rfl
    have f1 := h1.thaw 0
    have HE1 := Lib.hid (blk_one (y := .slice none 0 0) h1)
    have HE2 := Lib.hid (below_set HB.out (Nat.le_succ w.heap.size) (.slice none 0 0))
    clear h1
    gi_wp2
    have d0 := HE1.out.cell 0 (.slice none 0 0) rfl
    refine ⟨.tuple #[.agg #[.slice none 0 0], .int .i64 1], (by first | (simp [results, Try.f51, go_sem, d0]; done) | (simp [results, Try.f51, go_sem, c1]; done)), ?_⟩
    refine ⟨⟨_, by rw [HF.out], by rw [HF.out]; exact kV_none _ _⟩, ?_⟩
    first | exact HE2.out | exact HB.out
  by_cases hbig : 400 ≤ n
  · have HF := Lib.hid (show AO = (.mk [], 5) from by rw [HAO.out, HLB.out hbig]; rfl)
    have q1 : decide ((400 : Int) ≤ (n : Int)) = true := decide_eq_true (by omega)
    have h1 := HBX2.out
    have c1 := h1.cell 0 (.slice none 0 0) rfl
    have f1 := h1.thaw 0
    have HE1 := Lib.hid (blk_one (y := .slice none 0 0) h1)
    have HE2 := Lib.hid (below_set HB.out (Nat.le_succ w.heap.size) (.slice none 0 0))
    clear h1
    gi_wp2
    have d0 := HE1.out.cell 0 (.slice none 0 0) rfl
    refine ⟨.tuple #[.agg #[.slice none 0 0], .int .i64 5], (by first | (simp [results, Try.f51, go_sem, d0]; done) | (simp [results, Try.f51, go_sem, c1]; done)), ?_⟩
    refine ⟨⟨_, by rw [HF.out], by rw [HF.out]; exact kV_none _ _⟩, ?_⟩
    first | exact HE2.out | exact HB.out
  have q1 : decide ((400 : Int) ≤ (n : Int)) = false := decide_eq_false (by omega)
  have c0 := HBX.out.cell 0 (.slice a2 n2 c2) rfl
  obtain ⟨G, hG⟩ : ∃ G, G = w4.heap.size := ⟨_, rfl⟩
  have hg1 := (blk_new w4 #[.slice a2 n2 c2] 24).alloc (.cells #[.slice a n c] 22)
  have hg2 := blk_new (w4.alloc (.cells #[.slice a2 n2 c2] 24)) #[.slice a n c] 22
  rw [size_alloc] at hg2
  have hb6 : Below w4.heap.size w4 ((w4.alloc (.cells #[.slice a2 n2 c2] 24)).alloc (.cells #[.slice a n c] 22)) := ((Below.refl _ _).alloc (Nat.le_refl _) _).alloc (by rw [size_alloc]; omega) _
  have hsz6 : ((w4.alloc (.cells #[.slice a2 n2 c2] 24)).alloc (.cells #[.slice a n c] 22)).heap.size = w4.heap.size + 2 := by rw [size_alloc, size_alloc]
  rw [← hG] at hg1 hg2 hsz6
  have HG1 := Lib.hid hg1
  have HG2 := Lib.hid hg2
  have HSZ := Lib.hid hsz6
  have HG := Lib.hid hG
  have HRG := Lib.hid (show w.heap.size + 1 < G from by rw [hG]; exact HBX2.out.lt)
  have HB6 := Lib.hid (belowStep hb6 HB.out)
  have HX6 := Lib.hid (HBX2.out.of_eq (hb6.block _ HBX2.out.lt))
  clear hg1 hg2 hb6 hsz6
  gi_wp2_with fail
  refine ⟨trivial, (callsIn_wide.2 (backward_any _ _ _ _)).mono ?_⟩
  rintro e w5 ⟨rfl, rfl⟩
  gi_wp2_with fail
  rw [← hG]
  clear hG c0
  generalize (w4.alloc (.cells #[.slice a2 n2 c2] 24)).alloc (.cells #[.slice a n c] 22) = w6 at *
  obtain ⟨kd, va, vn, vc, hkd, hkv, hkc⟩ := kids_funs HKA.out
  have HKD := Lib.hid hkd
  have HKV := Lib.hid hkv
  have HKC := Lib.hid hkc
  clear hkd hkv hkc
  refine wpIn_rangeFunc_ownH rfl (by omega) (gf := 87) (lb := #[.pointer (some ⟨G + 1, 0, none⟩)]) rfl trivial (enters_of Try.func87 (by kernel_rfl) rfl)
    (backward_stops Fence.wide (6 - 1) trivial rfl (by omega) (G + 1) w.heap.size n c a va vn vc hll w6 (by rw [HSZ.out]; omega) HB6.out.size (HG2.out.cell 0 _ rfl) (by
      intro j hj
      obtain ⟨b, off, h1, h2, h3⟩ := HKC.out j (by rw [← HN.out]; exact hj)
      exact ⟨b, off, h1, HP.out b h2, (HB6.out.cell (p := ⟨b, off + j, none⟩) (HP.out b h2)).trans h3⟩)) (fun h k => KpB.trans h k) (kpB_b HB6.out.size (by rw [HSZ.out]; omega)) (Below.refl _ _) (fun _ => rfl)
    (fun pre W => (∃ b m d, Boxed W G 24 (.slice b m d) ∧ KidV W (But G W) (upK kd to pre) (.slice b m d)) ∧ Boxed W (w.heap.size + 1) 24 (.slice none 0 0) ∧ Below w.heap.size w W ∧ G + 2 ≤ W.heap.size)
    (fun _ _ _ => False)
    (fun s A B row hs hg hr => by
      obtain ⟨⟨b, m, d, h1, h2⟩, h3, h4, h5⟩ := hs
      have hr' : ∀ r, row = some r → ∃ o : Obj, A.heap[r]? = some o ∧ o.isCells = false := fun r e => (hr r e).2
      refine ⟨⟨b, m, d, boxed_own G 24 (fun (_ : Unit) => Value.slice b m d) () A B row h1 hg hr', (h2.cells (fun _ _ _ _ hv => cell_kept hv hg hr')).mono (fun q hq => ⟨Nat.lt_of_lt_of_le hq.1 (World.grownBy.size hg), hq.2⟩)⟩, boxed_own (w.heap.size + 1) 24 (fun (_ : Unit) => Value.slice none 0 0) () A B row h3 hg hr', h4.grown hg h4.size (fun k e => Nat.le_trans HB6.out.size (hr k e).1), Nat.le_trans h5 (World.grownBy.size hg)⟩)
    (fun _ _ _ _ _ hs _ _ => hs)
    ⟨⟨a2, n2, c2, HG1.out, (HT.out.keep (Same.of_below HB6.out HP.out)).mono (fun q hq => ⟨Nat.lt_of_lt_of_le (HP.out q hq) HB6.out.size, by have := HP.out q hq; have := HRG.out; omega⟩)⟩, HX6.out, HB6.out, by rw [HSZ.out]; exact Nat.le_refl _⟩
    (fun x a' W => ∃ Bx, G < Bx ∧ Boxed W Bx 24 (.slice (va x) (vn x) (vc x)) ∧ a' = { tmps := #[.slice a n c, .agg #[.slice a2 n2 c2], undef, .pointer (some ⟨w.heap.size, 0, none⟩), .pointer (some ⟨w.heap.size + 1, 0, none⟩), .int .i64 0, .pointer (some ⟨G, 0, none⟩), undef, .pointer (some ⟨Bx, 0, none⟩), .agg #[.slice a2 n2 c2], .bool true, .bool false, .bool false, .slice a n c, .bool false, .bool false, undef, .slice a n c, .int .i64 n, .bool false, undef, .agg #[.slice a2 n2 c2], .slice a n c, .func (.func 87) #[] #[.pointer (some ⟨G + 1, 0, none⟩)], .int .i64 (x : Int), .agg #[.slice (va x) (vn x) (vc x)], undef, undef, undef, undef, undef, undef, undef, undef, undef], defers := [] })
    (fun x a' _ X Y row hs hg hr => by obtain ⟨Bx, h1, h2, h3⟩ := hs; exact ⟨Bx, h1, boxed_own Bx 24 (fun (_ : Unit) => Value.slice (va x) (vn x) (vc x)) () X Y row h2 hg (fun r e => (hr r e).2), h3⟩)
    ?assign ?body ?done ?stop
  case assign =>
    rintro lp pre x W K ⟨⟨b, m, d, h1, h2⟩, h3, h4, h5⟩ hK
    unfold encB
    gi_wp2
    exact hK _ _ ((KeepsOthers.alloc _ _).from _) ⟨(Below.refl _ W).alloc h4.size _, Below.heap_alloc W _ (G + 1) (by omega)⟩ ⟨⟨b, m, d, h1.alloc _, (h2.cells (fun b o v hb hv => (Below.cell ((Below.refl W.heap.size W).alloc (Nat.le_refl _) _) (p := ⟨b, o, none⟩) hb.1).trans hv)).mono (fun q hq => ⟨by rw [size_alloc]; exact Nat.lt_succ_of_lt hq.1, hq.2⟩)⟩, h3.alloc _, h4.alloc h4.size _, by rw [size_alloc]; omega⟩ ⟨W.heap.size, h1.lt, Boxed.new W 24 _, rfl⟩
  case body =>
    rintro lp pre x a' W hlp ⟨r, hr⟩ ⟨⟨b, m, d, h1, h2⟩, h3, h4, h5⟩ ⟨Bx, hBx, bX, rfl⟩ hlt
    have c1 := h1.cell
    have c2 := bX.cell
    have HC := Lib.hid (arrow2_any (But G W) (kd x) (upK kd to pre) W (.agg #[.slice (va x) (vn x) (vc x)]) (.agg #[.slice b m d]) (fun q hq => hq.1) ⟨_, rfl, ((HKV.out x).keep (Same.of_below h4 HP.out)).mono (fun q hq => ⟨Nat.lt_of_lt_of_le (HP.out q hq) h4.size, by have := HP.out q hq; have := HRG.out; omega⟩)⟩ ⟨_, rfl, h2⟩)
    rw [← upK_snoc] at HC
    gi_wp2_with fail
    refine ⟨trivial, (CallsIn.inRound lp (callsIn_wide.2 HC.out)).mono ?_⟩
    rintro e w7 ⟨⟨y, rfl, hy⟩, hb7⟩
    obtain ⟨a3, c3, rfl⟩ := hy.form
    have hk7 := hy.kid
    have h17 : Boxed w7 G 24 (.slice b m d) := (hb7.block _ h1.lt).trans h1
    have h37 : Boxed w7 (w.heap.size + 1) 24 (.slice none 0 0) := (hb7.block _ h3.lt).trans h3
    have d1 := h17.cell
    have f1 := h17.frozen
    generalize hm3 : (upK kd to (pre ++ [x])).l.length = m3 at *
    have HE := Lib.hid (show KidV (w7.setCell ⟨G, 0, none⟩ (.slice a3 m3 c3)) (But G (w7.setCell ⟨G, 0, none⟩ (.slice a3 m3 c3))) (upK kd to (pre ++ [x])) (.slice a3 m3 c3) from by
      refine (hk7.keep (Same.set (w := w7) ⟨G, 0, none⟩ (.slice a3 m3 c3) (fun q h e => by
        have e : q = G := e
        rcases h with h | h
        · exact h.2 e
        · have := h1.lt; have := h.1; omega))).mono (fun q h => ?_)
      rcases h with h | h
      · exact ⟨by rw [size_set]; exact Nat.lt_of_lt_of_le h.1 hb7.size, h.2⟩
      · exact ⟨by rw [size_set]; exact h.2, by have := h1.lt; have := h.1; omega⟩)
    have HE1 := Lib.hid (show Boxed (w7.setCell ⟨G, 0, none⟩ (.slice a3 m3 c3)) G 24 (.slice a3 m3 c3) from h17.set _)
    have HE2 := Lib.hid (show Boxed (w7.setCell ⟨G, 0, none⟩ (.slice a3 m3 c3)) (w.heap.size + 1) 24 (.slice none 0 0) from h37.other (by have := HRG.out; omega) _)
    have HE3 := Lib.hid (show Below w.heap.size w (w7.setCell ⟨G, 0, none⟩ (.slice a3 m3 c3)) from below_set (belowStep hb7 h4) (by have := HRG.out; omega) _)
    have HE4 := Lib.hid (show KeepsFrom w6.heap.size W (w7.setCell ⟨G, 0, none⟩ (.slice a3 m3 c3)) from (below_keepsFrom hb7 _).trans ((KeepsOthers.setCell _ _ _).from _))
    have HE5 := Lib.hid (show KpB w.heap.size (G + 1) W (w7.setCell ⟨G, 0, none⟩ (.slice a3 m3 c3)) from ⟨below_set (hb7.mono h4.size) (by have := HRG.out; omega) _, by
      exact (Below.heap_setCell w7 ⟨G, 0, none⟩ _ (G + 1) (by simp)).trans (hb7.block _ (by omega))⟩)
    have HE6 := Lib.hid (show G + 2 ≤ (w7.setCell ⟨G, 0, none⟩ (.slice a3 m3 c3)).heap.size from by rw [size_set]; exact Nat.le_trans h5 hb7.size)
    clear hk7 hy h37 hb7 h1 h2 h3 h4 c1 c2 HC
    gi_wp2
    exact ⟨HE4.out, HE5.out, ⟨_, _, _, HE1.out, HE.out⟩, HE2.out, HE3.out, HE6.out⟩
  case done =>
    rintro D ys W hD rfl ⟨⟨b, m, d, h1, h2⟩, h3, h4, h5⟩ hK
    have hD0 : D < W.heap.size := (Array.getElem?_eq_some_iff.1 hK).1
    have hup : upK kd to (down n n) = K.arrow l to := by
      have := upK_down kd to l HKD.out l.length (Nat.le_refl _)
      rw [Nat.sub_self, List.drop_zero, ← HN.out] at this
      exact this
    rw [hup] at h2
    clear hup
    have c1 := h1.cell
    have HC := Lib.hid (valid_any (But G W) (K.arrow l to) W (.agg #[.slice b m d]) (fun q hq => hq.1) ⟨_, rfl, h2⟩)
    generalize hz : K.valid (K.arrow l to) = z at HC
    gi_wp2_with fail
    refine ⟨trivial, (callsIn_wide.2 HC.out).mono ?_⟩
    rintro e w7 ⟨rfl, hb7⟩
    have h17 : Boxed w7 G 24 (.slice b m d) := (hb7.block _ h1.lt).trans h1
    have h37 : Boxed w7 (w.heap.size + 1) 24 (.slice none 0 0) := (hb7.block _ h3.lt).trans h3
    have hK7 : w7.heap[D]? = some (.deferred (some [])) := (hb7.block _ hD0).trans hK
    have hB7 : Below w.heap.size w w7 := belowStep hb7 h4
    have h27 : KidV w7 (But G w7) (K.arrow l to) (.slice b m d) := (h2.keep (Same.of_below hb7 (fun q hq => hq.1))).mono (fun q hq => ⟨Nat.lt_of_lt_of_le hq.1 hb7.size, hq.2⟩)
    have HDW := Lib.hid (show w.heap.size ≤ D from by have := HB6.out.size; omega)
    clear hb7 hK h1 h2 h3 h4 c1 HC
    cases z
    · have HF := Lib.hid (show AO = (.mk [], 5) from by rw [HAO.out, hz]; rfl)
      have f1 := h37.frozen
      have c1 := h37.cell
      have HE1 := Lib.hid (h37.set (.slice none 0 0))
      have HE2 := Lib.hid (below_set hB7 (Nat.le_succ w.heap.size) (.slice none 0 0))
      have HK8 := Lib.hid ((KeepsOthers.setCell w7 ⟨w.heap.size + 1, 0, none⟩ (.slice none 0 0)).same D _ hK7 rfl)
      clear h17 h27 h37 hz hB7 hK7 hD0
      gi_wp2
      generalize w7.setCell ⟨w.heap.size + 1, 0, none⟩ (.slice none 0 0) = w8 at *
      refine ⟨by simp, .inl ⟨_, _, rfl, run_takeDeferred HK8.out, ?_⟩⟩
      have d0 := cell_kept HE1.out.cell (grownBy_putObj' w8 D (.deferred none)) (fun r e => by cases e; exact ⟨_, HK8.out, rfl⟩)
      refine ⟨.tuple #[.agg #[.slice none 0 0], .int .i64 5], (by simp [results, Try.f51, go_sem, d0]), ?_⟩
      refine ⟨⟨_, by rw [HF.out], by rw [HF.out]; exact kV_none _ _⟩, HE2.out.trans (belowK_b (w := w) (Nat.le_refl _) w8 D _ _ HDW.out HK8.out rfl rfl)⟩
    · have HF := Lib.hid (show AO = (K.arrow l to, 0) from by rw [HAO.out, hz]; rfl)
      have HCP := Lib.hid (copied_any (But G w7) (K.arrow l to) w7 (.agg #[.slice b m d]) (fun q hq => hq.1) ⟨_, rfl, h27⟩ ((K.valid_iff _).1 hz).1)
      have c1 := h17.cell
      generalize (K.arrow l to).l.length = mm at *
      clear h27 hz
      gi_wp2_with fail
      refine ⟨trivial, (callsIn_wide.2 HCP.out).mono ?_⟩
      rintro e w8 ⟨⟨ra, rc, rfl, hr⟩, hb8⟩
      have h38 : Boxed w8 (w.heap.size + 1) 24 (.slice none 0 0) := (hb8.block _ h37.lt).trans h37
      have hK8 : w8.heap[D]? = some (.deferred (some [])) := (hb8.block _ (Array.getElem?_eq_some_iff.1 hK7).1).trans hK7
      have hB8 : Below w.heap.size w w8 := belowStep hb8 hB7
      have f1 := h38.frozen
      have c2 := h38.cell
      have HE1 := Lib.hid (h38.set (.slice ra mm rc))
      have HE2 := Lib.hid (below_set hB8 (Nat.le_succ w.heap.size) (.slice ra mm rc))
      have HK9 := Lib.hid ((KeepsOthers.setCell w8 ⟨w.heap.size + 1, 0, none⟩ (.slice ra mm rc)).same D _ hK8 rfl)
      have HE3 := Lib.hid (show KidV (w8.setCell ⟨w.heap.size + 1, 0, none⟩ (.slice ra mm rc)) (From w7.heap.size w8) (K.arrow l to) (.slice ra mm rc) from hr.keep (Same.set (w := w8) ⟨w.heap.size + 1, 0, none⟩ (.slice ra mm rc) (fun q h e => by
        have e : q = w.heap.size + 1 := e
        have := h.1
        have := h37.lt
        omega)))
      have HS9 := Lib.hid (show (w8.setCell ⟨w.heap.size + 1, 0, none⟩ (.slice ra mm rc)).heap.size = w8.heap.size from size_set _ _ _)
      have HWS := Lib.hid hB7.size
      clear h17 h37 h38 hr hb8 hK8 hB8 hK7 hB7 hD0 c1
      gi_wp2
      generalize w8.setCell ⟨w.heap.size + 1, 0, none⟩ (.slice ra mm rc) = w9 at *
      refine ⟨by simp, .inl ⟨_, _, rfl, run_takeDeferred HK9.out, ?_⟩⟩
      have d0 := cell_kept HE1.out.cell (grownBy_putObj' w9 D (.deferred none)) (fun r e => by cases e; exact ⟨_, HK9.out, rfl⟩)
      refine ⟨.tuple #[.agg #[.slice ra mm rc], .int .i64 0], (by simp [results, Try.f51, go_sem, d0]), ?_⟩
      have hsz : w9.heap.size ≤ (w9.putObj D (.deferred none)).heap.size := World.grownBy.size (grownBy_putObj' w9 D (.deferred none))
      refine ⟨⟨_, by rw [HF.out], by rw [HF.out]; exact ⟨_, rfl, (HE3.out.cells (fun _ _ _ _ hv => cell_kept hv (grownBy_putObj' w9 D (.deferred none)) (fun r e => by cases e; exact ⟨_, HK9.out, rfl⟩))).mono (fun q hq => ⟨Nat.le_trans HWS.out hq.1, by have := hq.2; have := HS9.out; omega⟩)⟩⟩, HE2.out.trans (belowK_b (w := w) (Nat.le_refl _) w9 D _ _ HDW.out HK9.out rfl rfl)⟩
  case stop =>
    rintro D c pre W _ _ h _
    exact h.elim
end Go.Proofs.Ytmjkeejinagokaa
