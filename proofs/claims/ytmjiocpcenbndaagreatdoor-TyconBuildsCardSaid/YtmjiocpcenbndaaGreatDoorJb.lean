/-
  Walks of layer 8's code: arrow, copied, same, Equal.
-/
import Derived.Test.YtmjiocpcenbndaaGreatDoorJa
import Derived.Test.YtmjiocpcenbndaaGreatDoorKo
import Derived.Deep.RegionHeld3
namespace Go.Proofs.YtmjiocpcenbndaaGreatDoor
open Go Go.RowKit
open Pl (K)
set_option linter.unusedSimpArgs false

theorem arrow2_any (P : Nat → Prop) (t u : K) (w : World) (v x : Value) (hP : ∀ b, P b → b < w.heap.size) (ht : KV w P t v) (hu : KV w P u x) :
    Calls Tryz.prog 113 #[v, x] w fun e w' => (∃ y, e = .returned y ∧ KV w' (Ext P w w') (.mk [t, u]) y) ∧ Below w.heap.size w w' := by
  obtain ⟨a, c, rfl⟩ := ht.form
  obtain ⟨a2, c2, rfl⟩ := hu.form
  generalize t.l.length = n at *
  generalize u.l.length = n2 at *
  obtain ⟨hbx, hbx2, hb⟩ := two_new w 24 (.slice a n c) (.slice a2 n2 c2)
  have h3 := blk_new ((w.alloc (.cells #[.slice a n c] 24)).alloc (.cells #[.slice a2 n2 c2] 24)) #[.slice none 0 0] 24
  rw [size_alloc, size_alloc] at h3
  have e3 : (((w.alloc (.cells #[.slice a n c] 24)).alloc (.cells #[.slice a2 n2 c2] 24)).alloc (.cells #[.slice none 0 0] 24)).heap.size = w.heap.size + 3 := by rw [size_alloc, size_alloc, size_alloc]
  have c0 := (hbx.alloc (.cells #[.slice none 0 0] 24)).cell 0 (.slice a n c) rfl
  have d0 := (hbx2.alloc (.cells #[.slice none 0 0] 24)).cell 0 (.slice a2 n2 c2) rfl
  have HB := Lib.hid (below_new hb : Below w.heap.size w (((w.alloc (.cells #[.slice a n c] 24)).alloc (.cells #[.slice a2 n2 c2] 24)).alloc (.cells #[.slice none 0 0] 24)))
  have HT := Lib.hid ht
  have HU := Lib.hid hu
  clear hbx hbx2 hb ht hu
  go_enter Tryz.func113, Tryz.ntmps113
  go_wp2
  obtain ⟨w3, hw3⟩ : ∃ w3, w3 = ((w.alloc (.cells #[.slice a n c] 24)).alloc (.cells #[.slice a2 n2 c2] 24)).alloc (.cells #[.slice (some ⟨w.heap.size + 3, 0, none⟩) 2 2] 24) := ⟨_, rfl⟩
  have hs3 : w3.heap.size = w.heap.size + 3 := by rw [hw3, size_alloc, size_alloc, size_alloc]
  have hb3 : Below w.heap.size w w3 := by rw [hw3]; exact below_new (below_new (below_new (Below.refl _ _)))
  have hk3 : Blk w3 (w.heap.size + 1 + 1) 24 #[.slice (some ⟨w.heap.size + 3, 0, none⟩) 2 2] := by
    have := blk_new ((w.alloc (.cells #[.slice a n c] 24)).alloc (.cells #[.slice a2 n2 c2] 24)) #[.slice (some ⟨w.heap.size + 3, 0, none⟩) 2 2] 24
    rw [size_alloc, size_alloc] at this
    rw [hw3]; exact this
  rw [← hw3]
  clear hw3 c0 d0 e3 h3 HB
  have hx := HT.out.kid
  have hy := HU.out.kid
  have hpk := pair_kids (w := w3) (P := P) (fun b h => Nat.lt_of_lt_of_le (hP b h) hb3.size) (hx.keep (Same.of_below hb3 hP)) (hy.keep (Same.of_below hb3 hP))
  rw [hs3] at hpk
  have hb4 : Below w.heap.size w (w3.alloc (.cells #[.slice a n c, .slice a2 n2 c2] 24)) := below_new hb3
  have d4 := (hk3.alloc (.cells #[.slice a n c, .slice a2 n2 c2] 24)).cell 0 (.slice (some ⟨w.heap.size + 3, 0, none⟩) 2 2) rfl
  refine bodyPost_ret (v := .agg #[.slice (some ⟨w.heap.size + 3, 0, none⟩) 2 2]) (by simp [results, Tryz.results113, go_sem, d4]) rfl ?_
  refine ⟨⟨_, rfl, _, rfl, hpk.mono fun b h => ?_⟩, hb4⟩
  rcases h with h | h
  · exact .inl h
  · exact .inr ⟨by omega, h.2⟩

theorem From.ext {B : Nat} {w w' : World} (hB : B ≤ w.heap.size) (hs : w.heap.size ≤ w'.heap.size) : ∀ b, Ext (From B w) w w' b → From B w' b := fun b h => by
  rcases h with h | h
  · exact ⟨h.1, Nat.lt_of_lt_of_le h.2 hs⟩
  · exact ⟨Nat.le_trans hB h.1, h.2⟩
theorem From.up {B : Nat} {w w' : World} (hs : w.heap.size ≤ w'.heap.size) : ∀ b, From B w b → From B w' b := fun _ h => ⟨h.1, Nat.lt_of_lt_of_le h.2 hs⟩
/-- the arrow of two kinds that lie in blocks from B on -/
theorem arrow_from (B : Nat) (t u : K) (w w' : World) (a : Option Addr) (n c : Nat) (b : Option Addr) (m d : Nat) (hB : B ≤ w.heap.size) (ht : KidV w (From B w) t (.slice a n c)) (hw : Below w.heap.size w w') (hu : KidV w' (From B w') u (.slice b m d)) :
    Calls Tryz.prog 113 #[.agg #[.slice a n c], .agg #[.slice b m d]] w' fun e w'' => (∃ a' c', e = .returned (.agg #[.slice a' 2 c']) ∧ KidV w'' (From B w'') (.mk [t, u]) (.slice a' 2 c')) ∧ Below w'.heap.size w' w'' := by
  have h1 : KidV w' (From B w') t (.slice a n c) := (ht.keep (Same.of_below hw (fun _ h => h.2))).mono (From.up hw.size)
  refine (arrow2_any (From B w') t u w' _ _ (fun b h => h.2) ⟨_, rfl, h1⟩ ⟨_, rfl, hu⟩).mono ?_
  rintro e w'' ⟨⟨y, rfl, hy⟩, hb⟩
  obtain ⟨a', c', rfl⟩ := hy.form
  exact ⟨⟨a', c', rfl, hy.kid.mono (From.ext (Nat.le_trans hB hw.size) hb.size)⟩, hb⟩
set_option maxRecDepth 100000 in
set_option maxHeartbeats 1000000 in
theorem copied_any (P : Nat → Prop) (t : K) : ∀ (w : World) (v : Value), (∀ b, P b → b < w.heap.size) → KV w P t v → K.ok t = true →
    Calls Tryz.prog 114 #[v] w fun e w' => (∃ a c, e = .returned (.agg #[.slice a t.l.length c]) ∧ KidV w' (From w.heap.size w') t (.slice a t.l.length c)) ∧ Below w.heap.size w w' := by
  induction t using K.ind with
  | h t ih =>
  intro w v hP ht hok
  obtain ⟨a, c, rfl⟩ := ht.form
  have hk := ht.kid
  clear ht
  rcases K.ok_cases hok with rfl | ⟨x, y, rfl⟩
  · clear ih hok
    change Calls _ _ #[.agg #[.slice a 0 c]] _ _
    obtain ⟨hbx, hbx2, hb⟩ := two_new w 24 (.slice a 0 c) (.slice none 0 0)
    have HS := Lib.hid (fun W => isStar_any (fun _ => True) (.mk []) W (.agg #[.slice a 0 c]) ⟨_, rfl, (kidV_iff _ _ _ _).2 ⟨a, c, rfl, Nat.zero_le _, by
      obtain ⟨a', c', e, -, h, -⟩ := (kidV_iff _ _ _ _).1 hk
      injection e with _ _ e
      rw [e]; exact h, fun h => by
      obtain ⟨a', c', e, -, -, h2, -⟩ := (kidV_iff _ _ _ _).1 hk
      injection e with e1 _ e
      rw [e]; exact h2 (by rw [← e1]; exact h), .inl rfl⟩⟩)
    have HT := Lib.hid (fun W => star_any W)
    have c0 := hbx.cell 0 (.slice a 0 c) rfl
    have HB := Lib.hid hb
    have HBX := Lib.hid hbx
    have HBX2 := Lib.hid hbx2
    clear hbx hbx2 hb hk
    go_enter Tryz.func114, Tryz.ntmps114
    go_wp2_with fail
    generalize (w.alloc (.cells #[.slice a 0 c] 24)).alloc (.cells #[.slice none 0 0] 24) = w2 at *
    refine (HS.out _).mono ?_
    rintro e w3 ⟨rfl, hb3⟩
    replace HBX2 := Lib.hid (HBX2.out.of_eq (hb3.block _ HBX2.out.lt))
    replace HB := Lib.hid (belowStep hb3 HB.out)
    clear hb3 c0
    go_wp2_with fail
    refine (HT.out _).mono ?_
    rintro e w4 ⟨rfl, hb4⟩
    replace HBX2 := Lib.hid (HBX2.out.of_eq (hb4.block _ HBX2.out.lt))
    replace HB := Lib.hid (belowStep hb4 HB.out)
    clear hb4
    have h1 := HBX2.out
    have c1 := h1.cell 0 (.slice none 0 0) rfl
    have f1 := h1.thaw 0
    have HE1 := Lib.hid (blk_one (y := .slice none 0 0) h1)
    have HE2 := Lib.hid (below_set HB.out (Nat.le_succ _) (.slice none 0 0))
    clear h1
    go_wp2
    have d0 := HE1.out.cell 0 (.slice none 0 0) rfl
    refine bodyPost_ret (v := .agg #[.slice none 0 0]) (by first | (simp [results, Tryz.results114, go_sem, d0]; done) | (simp [results, Tryz.results114, go_sem, c1]; done)) rfl ?_
    refine ⟨⟨none, 0, rfl, kidV_none _ _⟩, ?_⟩
    first | exact HE2.out | exact HB.out
  · obtain ⟨a5, c5, e5, -, -, hka⟩ := KSl.each (show KSl w P (.slice a 2 c) [x, y] from hk)
    injection e5 with e5 e9 e6
    subst e5 e6
    clear e9
    obtain ⟨b0, o0, rfl, hPb, hke⟩ := kids_each hka (by simp)
    obtain ⟨x0, hx0, hkx⟩ := hke 0 (by simp)
    obtain ⟨y0, hy0, hky⟩ := hke 1 (by simp)
    have hkx : KidV w P x x0 := hkx
    have hky : KidV w P y y0 := hky
    rw [Nat.add_zero] at hx0
    have h2 := K.ok_two hok
    obtain ⟨a7, c7, rfl⟩ := hkx.form
    obtain ⟨a8, c8, rfl⟩ := hky.form
    have HX0' := Lib.hid (fun W (hW : Below w.heap.size w W) => ih x (by simp [K.l]) W (.agg #[.slice a7 x.l.length c7]) (fun b h => Nat.lt_of_lt_of_le (hP b h) hW.size) ⟨_, rfl, hkx.keep (Same.of_below hW hP)⟩ h2.1)
    have HY0' := Lib.hid (fun W (hW : Below w.heap.size w W) => ih y (by simp [K.l]) W (.agg #[.slice a8 y.l.length c8]) (fun b h => Nat.lt_of_lt_of_le (hP b h) hW.size) ⟨_, rfl, hky.keep (Same.of_below hW hP)⟩ h2.2)
    have hb0 := hP b0 hPb
    have HS := Lib.hid (fun W (hW : Below w.heap.size w W) => isStar_any P (.mk [x, y]) W (.agg #[.slice (some ⟨b0, o0, none⟩) 2 c]) ⟨_, rfl, hk.keep (Same.of_below hW hP)⟩)
    have HX0 := Lib.hid hx0
    have HY0 := Lib.hid hy0
    generalize y.l.length = n8 at *
    generalize x.l.length = n7 at *
    change Calls _ _ #[.agg #[.slice (some ⟨b0, o0, none⟩) 2 c]] _ (fun e w' => (∃ a c, e = .returned (.agg #[.slice a 2 c]) ∧ KidV w' (From w.heap.size w') (.mk [x, y]) (.slice a 2 c)) ∧ Below w.heap.size w w')
    clear hk hka hke hkx hky h2 hP hok ih hPb hx0 hy0
    obtain ⟨hbx, hbx2, hb⟩ := two_new w 24 (.slice (some ⟨b0, o0, none⟩) 2 c) (.slice none 0 0)
    have c0 := hbx.cell 0 (.slice (some ⟨b0, o0, none⟩) 2 c) rfl
    have HB := Lib.hid hb
    have HBX := Lib.hid hbx
    have HBX2 := Lib.hid hbx2
    clear hbx hbx2 hb
    go_enter Tryz.func114, Tryz.ntmps114
    go_wp2_with fail
    generalize (w.alloc (.cells #[.slice (some ⟨b0, o0, none⟩) 2 c] 24)).alloc (.cells #[.slice none 0 0] 24) = w2 at *
    refine (HS.out _ HB.out).mono ?_
    rintro e w3 ⟨rfl, hb3⟩
    replace HBX := Lib.hid (HBX.out.of_eq (hb3.block _ HBX.out.lt))
    replace HBX2 := Lib.hid (HBX2.out.of_eq (hb3.block _ HBX2.out.lt))
    replace HB := Lib.hid (belowStep hb3 HB.out)
    clear hb3 c0 HS
    have HSS := Lib.hid (fun W (hW : Below w3.heap.size w3 W) => (show Below w.heap.size w W ∧ W.cell? ⟨w.heap.size, 0, none⟩ = some (.slice (some ⟨b0, o0, none⟩) 2 c) ∧ W.cell? ⟨b0, o0, none⟩ = some (.slice a7 n7 c7) ∧ W.cell? ⟨b0, o0 + 1, none⟩ = some (.slice a8 n8 c8) ∧ W.frozen? ⟨w.heap.size + 1, 0, none⟩ = false from by
      have hbw := belowStep hW HB.out
      exact ⟨hbw, (HBX.out.of_eq (hW.block _ HBX.out.lt)).cell 0 _ rfl, (hbw.cell (p := ⟨b0, o0, none⟩) hb0).trans HX0.out, (hbw.cell (p := ⟨b0, o0 + 1, none⟩) hb0).trans HY0.out, (HBX2.out.of_eq (hW.block _ HBX2.out.lt)).thaw 0⟩))
    have HST := Lib.hid (fun W (hW : Below w3.heap.size w3 W) v => (show Below w.heap.size w (W.setCell ⟨w.heap.size + 1, 0, none⟩ v) ∧ (W.setCell ⟨w.heap.size + 1, 0, none⟩ v).cell? ⟨w.heap.size, 0, none⟩ = some (.slice (some ⟨b0, o0, none⟩) 2 c) ∧ (W.setCell ⟨w.heap.size + 1, 0, none⟩ v).cell? ⟨b0, o0, none⟩ = some (.slice a7 n7 c7) ∧ (W.setCell ⟨w.heap.size + 1, 0, none⟩ v).cell? ⟨b0, o0 + 1, none⟩ = some (.slice a8 n8 c8) ∧ (W.setCell ⟨w.heap.size + 1, 0, none⟩ v).frozen? ⟨w.heap.size + 1, 0, none⟩ = false from by
      have hbw := below_set (belowStep hW HB.out) (Nat.le_succ w.heap.size) v
      have h1 := HBX.out.of_eq (hW.block _ HBX.out.lt)
      have h2 := HBX2.out.of_eq (hW.block _ HBX2.out.lt)
      exact ⟨hbw, (h1.other ⟨w.heap.size + 1, 0, none⟩ v (by simp)).cell 0 _ rfl, (hbw.cell (p := ⟨b0, o0, none⟩) hb0).trans HX0.out, (hbw.cell (p := ⟨b0, o0 + 1, none⟩) hb0).trans HY0.out, (blk_one (y := v) h2).thaw 0⟩))
    have HX := Lib.hid (fun W (hW : Below w3.heap.size w3 W) => (HX0'.out W (belowStep hW HB.out)).mono (R' := fun e w' => (∃ a n c, e = .returned (.agg #[.slice a n c]) ∧ KidV w' (From w3.heap.size w') x (.slice a n c)) ∧ Below W.heap.size W w') (by
      rintro e w' ⟨⟨a, c, h1, h2⟩, h3⟩
      exact ⟨⟨a, _, c, h1, h2.mono (fun b h => ⟨Nat.le_trans hW.size h.1, h.2⟩)⟩, h3⟩))
    have HY := Lib.hid (fun W (hW : Below w3.heap.size w3 W) => (HY0'.out W (belowStep hW HB.out)).mono (R' := fun e w' => (∃ a n c, e = .returned (.agg #[.slice a n c]) ∧ KidV w' (From w3.heap.size w') y (.slice a n c)) ∧ Below W.heap.size W w') (by
      rintro e w' ⟨⟨a, c, h1, h2⟩, h3⟩
      exact ⟨⟨a, _, c, h1, h2.mono (fun b h => ⟨Nat.le_trans hW.size h.1, h.2⟩)⟩, h3⟩))
    have HAR := Lib.hid (fun W W' a n c b m d (h1 : KidV W (From w3.heap.size W) x (.slice a n c)) (h2 : KidV W' (From w3.heap.size W') y (.slice b m d)) (h3 : Below W.heap.size W W') (h4 : Below w3.heap.size w3 W) => arrow_from w3.heap.size x y W W' a n c b m d h4.size h1 h3 h2)
    clear HX0' HY0'
    have HD0 := Lib.hid (Below.refl w3.heap.size w3).drew
    have HU := Lib.hid (fun W (hW : Below w3.heap.size w3 W) => belowStep hW HB.out)
    go_wp2
    go_region_held3 (fun W => Below w.heap.size w W ∧ W.cell? ⟨w.heap.size, 0, none⟩ = some (.slice (some ⟨b0, o0, none⟩) 2 c) ∧ W.cell? ⟨b0, o0, none⟩ = some (.slice a7 n7 c7) ∧ W.cell? ⟨b0, o0 + 1, none⟩ = some (.slice a8 n8 c8) ∧ W.frozen? ⟨w.heap.size + 1, 0, none⟩ = false)
      (first | exact HSS.out _ HD0.out | exact HSS.out _ (by assumption) | exact HST.out _ (by assumption) _)
      (first
      | (go_at_call 114; (with_reducible refine (HX.out _ (by first | assumption | exact HD0.out)).mono ?_); rintro e wn ⟨⟨ra, rn, rc, rfl, hrx⟩, hbn⟩; have hbn2 := belowStep (a := w3) hbn (by first | assumption | exact HD0.out))
      | (go_at_call 114; (with_reducible refine (HY.out _ (by first | assumption | exact HD0.out)).mono ?_); rintro e wm ⟨⟨sa, sn, sc, rfl, hry⟩, hbm⟩; have hbm2 := belowStep (a := w3) hbm (by first | assumption | exact HD0.out))
      | (go_at_call 113; (with_reducible refine (HAR.out _ _ _ _ _ _ _ _ (by assumption) (by assumption) (by assumption) (by assumption)).mono ?_); rintro e wk ⟨⟨ka, kc, rfl, hrk⟩, hbk⟩; have hbk2 := belowStep (a := w3) hbk (by first | assumption | exact HD0.out); have hc9 := (HBX2.out.of_eq (hbk2.block _ HBX2.out.lt)).cell 0 _ rfl; have hf9 := (HBX2.out.of_eq (hbk2.block _ HBX2.out.lt)).thaw 0))
    have HE1 := Lib.hid (blk_one (y := .slice ka 2 kc) (HBX2.out.of_eq (hbk2.block _ HBX2.out.lt)))
    have HE2 := Lib.hid (below_set (HU.out _ hbk2) (Nat.le_succ w.heap.size) (.slice ka 2 kc))
    have HE3 := Lib.hid ((hrk.keep (Same.set (w := wk) ⟨w.heap.size + 1, 0, none⟩ (.slice ka 2 kc) (fun q h e => by
      have e : q = w.heap.size + 1 := e
      have := h.1
      have := HBX2.out.lt
      omega))).mono (fun b h => (show From w.heap.size (wk.setCell ⟨w.heap.size + 1, 0, none⟩ (.slice ka 2 kc)) b from ⟨Nat.le_trans HB.out.size h.1, by rw [size_set]; exact h.2⟩)))
    clear hrk hbk2 hbk hc9 hf9 hry hrx hbm hbm2 hbn hbn2 HAR HX HY HST HSS HBX HBX2
    generalize wk.setCell ⟨w.heap.size + 1, 0, none⟩ (.slice ka 2 kc) = w9 at *
    go_wp2
    have d0 := HE1.out.cell 0 (.slice ka 2 kc) rfl
    refine bodyPost_ret (v := .agg #[.slice ka 2 kc]) (by simp [results, Tryz.results114, go_sem, d0]) rfl ?_
    exact ⟨⟨ka, kc, rfl, HE3.out⟩, HE2.out⟩
end Go.Proofs.YtmjiocpcenbndaaGreatDoor
