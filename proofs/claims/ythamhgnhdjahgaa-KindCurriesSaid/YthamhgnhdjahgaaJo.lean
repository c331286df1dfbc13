/-
  Layer 8: the examples of the chapter hold.
-/
import Derived.Test.YthamhgnhdjahgaaJn
import Derived.Deep.RegionHeld3
import Derived.Deep.CutRange
namespace Go.Proofs.Ythamhgnhdjahgaa
open Go Go.RowKit
open Pl (K)
set_option linter.unusedSimpArgs false

/-- the chapter's kind, and what it is applied to -/
def exK : K := .mk [.mk [], .mk [.mk [.mk [], .mk []], .mk []]]
def exA : K := .mk [.mk [.mk [], .mk []], .mk []]
theorem ex_arrow : K.arrowOut [.mk [], K.arity 1] (.mk []) = (exK, 0) := by decide +kernel
theorem ex_apply : K.applyOut exK (.mk []) = (exA, 0) := by decide +kernel
theorem ex_text : K.textOut exK = ([42, 32, 45, 62, 32, 40, 42, 32, 45, 62, 32, 42, 41, 32, 45, 62, 32, 42], 0) := by decide +kernel
theorem ex_text2 : K.textOut exA = ([40, 42, 32, 45, 62, 32, 42, 41, 32, 45, 62, 32, 42], 0) := by decide +kernel
/-- a star and a kind in a row -/
theorem pair_row (B : Nat) (w w' : World) (t : K) (a : Option Addr) (n c b : Nat) (ht : KidV w (From B w) t (.slice a n c)) (hw : Below w.heap.size w w') (hb : Blk w' b 24 #[.slice none 0 0, .slice a n c]) : KSl w' (· < w'.heap.size) (.slice (some ⟨b, 0, none⟩) 2 2) [.mk [], t] := by
  refine (kidV_iff _ _ _ _).2 ⟨_, 2, rfl, Nat.le_refl _, by unfold maxLen; omega, (fun h => by cases h), .inr ⟨b, 0, rfl, hb.lt, (kidsK_iff _ _ _ _ _).2 fun j hj => ?_⟩⟩
  match j, hj with
  | 0, _ => exact ⟨_, hb.cell 0 _ rfl, kidV_none _ _⟩
  | 1, _ => exact ⟨_, hb.cell 1 _ rfl, (ht.keep (Same.of_below hw (fun q hq => hq.2))).mono (fun q hq => Nat.lt_of_lt_of_le hq.2 hw.size)⟩
def ExP (t : K) (n B : Nat) (w : World) (e : Ending) (w' : World) : Prop := (∃ a c, e = .returned (.tuple #[.agg #[.slice a n c], .int .i64 0]) ∧ KidV w' (From B w') t (.slice a n c)) ∧ Below w.heap.size w w'
theorem ex_arrow_at (B : Nat) (w w' : World) (a : Option Addr) (n c b : Nat) (ht : KidV w (From B w) (K.arity 1) (.slice a n c)) (hw : Below w.heap.size w w') (hb : Blk w' b 24 #[.slice none 0 0, .slice a n c]) :
    Calls Try.prog 19 #[.slice (some ⟨b, 0, none⟩) 2 2, .agg #[.slice none 0 0]] w' (ExP exK 2 w'.heap.size w') := by
  have h2 := carrow_any (· < w'.heap.size) _ (.mk []) w' _ _ (fun _ h => h) (pair_row B w w' _ a n c b ht hw hb) (kV_none _ _)
  rw [ex_arrow] at h2
  refine h2.mono ?_
  rintro e w2 ⟨⟨y, rfl, hy⟩, hb2⟩
  obtain ⟨a', c', rfl⟩ := hy.form
  exact ⟨⟨a', c', rfl, hy.kid⟩, hb2⟩
theorem carry {W W' : World} (h : Below W.heap.size W W') {g : Nat} {T : TypeId} {cs : Array Value} (hb : Blk W g T cs) : Blk W' g T cs := hb.of_eq (h.block _ hb.lt)
theorem blk_new1 (w : World) (o : Obj) (cs : Array Value) (t : TypeId) : Blk ((w.alloc o).alloc (.cells cs t)) (w.heap.size + 1) t cs := by
  have h := blk_new (w.alloc o) cs t
  rw [size_alloc] at h
  exact h
theorem boxA {X W : World} (h : Below (X.alloc (.cells #[.slice none 0 0] 24)).heap.size (X.alloc (.cells #[.slice none 0 0] 24)) W) : X.heap.size < (X.alloc (.cells #[.slice none 0 0] 24)).heap.size ∧ Blk W X.heap.size 24 #[.slice none 0 0] := ⟨by rw [size_alloc]; omega, carry h (blk_new _ _ _)⟩
theorem boxB {X W : World} (h : Below (X.alloc (.cells #[.slice none 0 0] 24)).drew.heap.size (X.alloc (.cells #[.slice none 0 0] 24)).drew W) : X.heap.size < (X.alloc (.cells #[.slice none 0 0] 24)).drew.heap.size ∧ Blk W X.heap.size 24 #[.slice none 0 0] := ⟨by show X.heap.size < (X.alloc (.cells #[.slice none 0 0] 24)).heap.size; rw [size_alloc]; omega, carry h (blk_new _ _ _).drew⟩
theorem boxC {X W : World} {o : Obj} (h : Below ((X.alloc (.cells #[.slice none 0 0] 24)).alloc o).heap.size ((X.alloc (.cells #[.slice none 0 0] 24)).alloc o) W) : X.heap.size < ((X.alloc (.cells #[.slice none 0 0] 24)).alloc o).heap.size ∧ Blk W X.heap.size 24 #[.slice none 0 0] := ⟨by rw [size_alloc, size_alloc]; omega, carry h ((blk_new _ _ _).alloc _)⟩
theorem boxD {X W : World} {o : Obj} (h : Below ((X.alloc o).alloc (.cells #[.slice none 0 0] 24)).heap.size ((X.alloc o).alloc (.cells #[.slice none 0 0] 24)) W) : X.heap.size + 1 < ((X.alloc o).alloc (.cells #[.slice none 0 0] 24)).heap.size ∧ Blk W (X.heap.size + 1) 24 #[.slice none 0 0] := ⟨by rw [size_alloc, size_alloc]; omega, carry h (blk_new1 _ _ _ _)⟩
theorem carry2 {W W' : World} (h : Below W.heap.size W W') {g : Nat} {T : TypeId} {cs : Array Value} (hb : Blk W g T cs) : g < W.heap.size ∧ Blk W' g T cs := ⟨hb.lt, carry h hb⟩
theorem sizeB {a w : World} (h : Below a.heap.size a w) : a.heap.size ≤ w.heap.size := h.size
theorem le1 {n m : Nat} (h : n ≤ m) : n ≤ m + 1 := Nat.le_succ_of_le h
/-- a kind in a box of its own, and the code 0 -/
def OneP (t : K) (n : Nat) (w : World) (s3 s4 : Value) (W : World) : Prop := ∃ (G : Nat) (a : Option Addr) (c : Nat), s3 = .pointer (some ⟨G, 0, none⟩) ∧ s4 = .int .i64 0 ∧ Below w.heap.size w W ∧ Blk W G 24 #[.slice a n c] ∧ KidV W (· < W.heap.size) t (.slice a n c)
theorem relA {t : K} {n : Nat} {w wk : World} {B0 B1 : Nat} {a : Option Addr} {c : Nat} (hk : KidV wk (fun q => q < B0 ∨ (B1 ≤ q ∧ q < wk.heap.size)) t (.slice a n c)) (h0 : B0 ≤ wk.heap.size) (hh : Below w.heap.size w (wk.alloc (.cells #[.slice a n c] 24))) :
    OneP t n w (.pointer (some ⟨wk.heap.size, 0, none⟩)) (.int .i64 0) (wk.alloc (.cells #[.slice a n c] 24)) := by
  have hb : Below wk.heap.size wk (wk.alloc (.cells #[.slice a n c] 24)) := (Below.refl _ _).alloc (Nat.le_refl _) _
  have hlt : ∀ q, (q < B0 ∨ (B1 ≤ q ∧ q < wk.heap.size)) → q < wk.heap.size := fun q h => by
    rcases h with h | h
    · omega
    · exact h.2
  exact ⟨_, a, c, rfl, rfl, hh, blk_new _ _ _, (hk.keep (Same.of_below hb hlt)).mono (fun q h => Nat.lt_of_lt_of_le (hlt q h) hb.size)⟩
theorem relB {t : K} {n : Nat} {w wk : World} {B0 B1 g : Nat} {z : Value} {a : Option Addr} {c : Nat} (hk : KidV wk (fun q => q < B0 ∨ (B1 ≤ q ∧ q < wk.heap.size)) t (.slice a n c)) (h0 : B0 ≤ wk.heap.size) (hgl : g < B1) (hg0 : B0 ≤ g) (hz : Blk wk g 24 #[z]) (hh : Below w.heap.size w (wk.setCell ⟨g, 0, none⟩ (.slice a n c))) :
    OneP t n w (.pointer (some ⟨g, 0, none⟩)) (.int .i64 0) (wk.setCell ⟨g, 0, none⟩ (.slice a n c)) := by
  refine ⟨_, a, c, rfl, rfl, hh, blk_one hz, (hk.keep (Same.set (w := wk) ⟨g, 0, none⟩ (.slice a n c) (fun q h e => ?_))).mono (fun q h => ?_)⟩
  · have e : q = g := e
    rcases h with h | h
    · omega
    · have := h.1; omega
  · rw [size_set]
    rcases h with h | h
    · omega
    · exact h.2
set_option maxRecDepth 100000 in
set_option maxHeartbeats 2000000 in
theorem awake_any : Awake8 := by
  intro w
  have HA := Lib.hid (arity_in 1 w (by omega))
  have HST := Lib.hid (fun W => star_any W)
  go_enter Try.func10, Try.ntmps10
  go_wp2_with fail
  refine HA.out.mono ?_
  rintro e w1 ⟨⟨a1, n1, c1, rfl, hk1⟩, hb1⟩
  obtain ⟨h1, hb2⟩ := box_new w1 24 (.slice a1 n1 c1)
  have HB := Lib.hid (belowStep hb2 hb1)
  have HK1 := Lib.hid ((hk1.keep (Same.of_below hb2 (fun q hq => hq.2))).mono (From.up hb2.size))
  have H1 := Lib.hid h1
  clear hk1 hb1 h1 hb2 HA
  go_wp2
  obtain ⟨G1, hG1⟩ : ∃ G, G = w1.heap.size := ⟨_, rfl⟩
  rw [← hG1] at H1 ⊢
  generalize w1.alloc (.cells #[.slice a1 n1 c1] 24) = w2 at *
  clear hG1
  have HD0 := Lib.hid (Below.refl w2.heap.size w2).drew
  have HSS := Lib.hid (fun W (hW : Below w2.heap.size w2 W) => (show Below w.heap.size w W ∧ W.cell? ⟨G1, 0, none⟩ = some (.slice a1 n1 c1) from ⟨belowStep hW HB.out, (H1.out.of_eq (hW.block _ H1.out.lt)).cell 0 _ rfl⟩))
  have HAR := Lib.hid (fun W b (hW : Below w2.heap.size w2 W) (hb : Blk W b 24 #[.slice none 0 0, .slice a1 n1 c1]) => ex_arrow_at w.heap.size w2 W a1 n1 c1 b HK1.out hW hb)
  have HBL := Lib.hid (show w.heap.size ≤ w2.heap.size from HB.out.size)
  go_cut [3, 4] from 15 to 22 (fun s3 s4 W => OneP exK 2 w s3 s4 W)
  case first =>
    go_region_held3 (fun W => Below w.heap.size w W ∧ W.cell? ⟨G1, 0, none⟩ = some (.slice a1 n1 c1))
      (exact HSS.out _ (by with_reducible (repeat (first | exact Below.refl _ _ | exact HD0.out | refine Below.drew ?_ | refine below_new ?_ | refine belowStep (by assumption) ?_ | refine below_set ?_ ?_ _ | exact Nat.le_refl _ | refine le1 ?_ | refine sizeB ?_))))
      (first
      | (go_at_call 17; (with_reducible refine (HST.out _).mono ?_); rintro e wn ⟨rfl, hbn⟩; (first | (have hzq := boxC hbn; obtain ⟨hgl, hz⟩ := hzq) | (have hzq := boxD hbn; obtain ⟨hgl, hz⟩ := hzq) | (have hzq := boxA hbn; obtain ⟨hgl, hz⟩ := hzq) | (have hzq := boxB hbn; obtain ⟨hgl, hz⟩ := hzq) | (have hzq := carry2 hbn hz; obtain ⟨hgl, hz⟩ := hzq) | (have hzq := carry2 hbn (hz.alloc _); obtain ⟨hgl, hz⟩ := hzq) | skip))
      | (go_at_call 19; (with_reducible refine Calls.mono (HAR.out _ _ ?_ ?_) ?_); (focus with_reducible (repeat (first | exact Below.refl _ _ | exact HD0.out | refine Below.drew ?_ | refine below_new ?_ | refine belowStep (by assumption) ?_ | refine below_set ?_ ?_ _ | exact Nat.le_refl _ | refine le1 ?_ | refine sizeB ?_))); (focus with_reducible (repeat (first | exact blk_new _ _ _ | exact blk_new1 _ _ _ _ | refine Blk.drew ?_ | refine Blk.alloc ?_ _ | refine carry (by assumption) ?_))); rintro e wk ⟨⟨ka, kc, rfl, hk⟩, hbk⟩; (first | (have hzq := boxC hbk; obtain ⟨hgl, hz⟩ := hzq) | (have hzq := boxD hbk; obtain ⟨hgl, hz⟩ := hzq) | (have hzq := boxA hbk; obtain ⟨hgl, hz⟩ := hzq) | (have hzq := boxB hbk; obtain ⟨hgl, hz⟩ := hzq) | (have hzq := carry2 hbk hz; obtain ⟨hgl, hz⟩ := hzq) | (have hzq := carry2 hbk (hz.alloc _); obtain ⟨hgl, hz⟩ := hzq) | skip); (try have hzc := hz.cell 0 _ rfl); (try have hzf := hz.thaw 0)))
    all_goals (go_wp2; go_meet)
    all_goals (rename_i hHeld; first | exact relA (B0 := 0) (hk.mono (fun q hq => .inr hq)) (Nat.zero_le _) hHeld.1 | exact relB (B0 := 0) (hk.mono (fun q hq => .inr hq)) (Nat.zero_le _) hgl (Nat.zero_le _) hz hHeld.1)
  case rest =>
    obtain ⟨G3, a3, c3, rfl, rfl, hb3, h3, hk3⟩ := hcut
    have HB3 := Lib.hid hb3
    have H3 := Lib.hid h3
    have HK3 := Lib.hid hk3
    have c0 := h3.cell 0 (.slice a3 2 c3) rfl
    obtain ⟨s5, hs5⟩ : ∃ s, s = mkB [42, 32, 45, 62, 32, 40, 42, 32, 45, 62, 32, 42, 41, 32, 45, 62, 32, 42] := ⟨_, rfl⟩
    have HT : Hid (Calls Try.prog 27 #[.agg #[.slice a3 2 c3]] wc (Says (.tuple #[.string s5, .int .i64 0]) wc)) := by
      have h := ctext_any (· < wc.heap.size) exK wc (.agg #[.slice a3 2 c3]) (fun _ h => h) ⟨_, rfl, hk3⟩
      rw [ex_text] at h
      rw [hs5]
      exact h
    have HS5 := Lib.hid (show (s5.toList == [42, 32, 45, 62, 32, 40, 42, 32, 45, 62, 32, 42, 41, 32, 45, 62, 32, 42]) = true from by rw [hs5, Pl.toList_eq]; rfl)
    clear hb3 h3 hk3 HAR HSS HD0 HBL HK1 H1 HB hs5
    go_wp2_with fail
    refine HT.out.mono ?_
    rintro e w4 ⟨rfl, hb4⟩
    replace H3 := Lib.hid (H3.out.of_eq (hb4.block _ H3.out.lt))
    replace HK3 := Lib.hid ((HK3.out.keep (Same.of_below hb4 (fun _ h => h))).mono (fun q h => (show q < w4.heap.size from Nat.lt_of_lt_of_le h hb4.size)))
    have HB4 := Lib.hid (belowStep hb4 HB3.out)
    clear hb4 c0 HT HB3
    go_wp2
    have HD0 := Lib.hid (Below.refl w4.heap.size w4).drew
    have HSS := Lib.hid (fun W (hW : Below w4.heap.size w4 W) => (show Below w.heap.size w W ∧ W.cell? ⟨G3, 0, none⟩ = some (.slice a3 2 c3) from ⟨belowStep hW HB4.out, (H3.out.of_eq (hW.block _ H3.out.lt)).cell 0 _ rfl⟩))
    have HAP := Lib.hid (fun W (hW : Below w4.heap.size w4 W) => (capply_any (· < w4.heap.size) exK (.mk []) W (.agg #[.slice a3 2 c3]) (.agg #[.slice none 0 0]) (fun _ h => Nat.lt_of_lt_of_le h hW.size) ⟨_, rfl, HK3.out.keep (Same.of_below hW (fun _ h => h))⟩ (kV_none _ _)).mono (R' := fun e w' => (∃ a c, e = .returned (.tuple #[.agg #[.slice a 2 c], .int .i64 0]) ∧ KidV w' (fun q => q < w4.heap.size ∨ (W.heap.size ≤ q ∧ q < w'.heap.size)) exA (.slice a 2 c)) ∧ Below W.heap.size W w') (by
      rw [ex_apply]
      rintro e w' ⟨⟨y, rfl, hy⟩, hb⟩
      obtain ⟨a', c', rfl⟩ := hy.form
      exact ⟨⟨a', c', rfl, hy.kid⟩, hb⟩))
    go_cut [7, 8] from 28 to 33 (fun s7 s8 W => OneP exA 2 w s7 s8 W)
    case first =>
      go_region_held3 (fun W => Below w.heap.size w W ∧ W.cell? ⟨G3, 0, none⟩ = some (.slice a3 2 c3))
        (exact HSS.out _ (by with_reducible (repeat (first | exact Below.refl _ _ | exact HD0.out | refine Below.drew ?_ | refine below_new ?_ | refine belowStep (by assumption) ?_ | refine below_set ?_ ?_ _ | exact Nat.le_refl _ | refine le1 ?_ | refine sizeB ?_))))
        (first
        | (go_at_call 17; (with_reducible refine (HST.out _).mono ?_); rintro e wn ⟨rfl, hbn⟩; (first | (have hzq := boxC hbn; obtain ⟨hgl, hz⟩ := hzq) | (have hzq := boxD hbn; obtain ⟨hgl, hz⟩ := hzq) | (have hzq := boxA hbn; obtain ⟨hgl, hz⟩ := hzq) | (have hzq := boxB hbn; obtain ⟨hgl, hz⟩ := hzq) | (have hzq := carry2 hbn hz; obtain ⟨hgl, hz⟩ := hzq) | (have hzq := carry2 hbn (hz.alloc _); obtain ⟨hgl, hz⟩ := hzq) | skip))
        | (go_at_call 26; (with_reducible refine Calls.mono (HAP.out _ ?_) ?_); (focus with_reducible (repeat (first | exact Below.refl _ _ | exact HD0.out | refine Below.drew ?_ | refine below_new ?_ | refine belowStep (by assumption) ?_ | refine below_set ?_ ?_ _ | exact Nat.le_refl _ | refine le1 ?_ | refine sizeB ?_))); rintro e wk ⟨⟨ka, kc, rfl, hk⟩, hbk⟩; (first | (have hzq := boxC hbk; obtain ⟨hgl, hz⟩ := hzq) | (have hzq := boxD hbk; obtain ⟨hgl, hz⟩ := hzq) | (have hzq := boxA hbk; obtain ⟨hgl, hz⟩ := hzq) | (have hzq := boxB hbk; obtain ⟨hgl, hz⟩ := hzq) | (have hzq := carry2 hbk hz; obtain ⟨hgl, hz⟩ := hzq) | (have hzq := carry2 hbk (hz.alloc _); obtain ⟨hgl, hz⟩ := hzq) | skip); (try have hzc := hz.cell 0 _ rfl); (try have hzf := hz.thaw 0)))
      all_goals (go_wp2; go_meet)
      all_goals (rename_i hHeld; first | exact relA hk (by with_reducible (repeat (first | exact Below.refl _ _ | exact HD0.out | refine Below.drew ?_ | refine below_new ?_ | refine belowStep (by assumption) ?_ | refine below_set ?_ ?_ _ | exact Nat.le_refl _ | refine le1 ?_ | refine sizeB ?_))) hHeld.1 | exact relB hk (by with_reducible (repeat (first | exact Below.refl _ _ | exact HD0.out | refine Below.drew ?_ | refine below_new ?_ | refine belowStep (by assumption) ?_ | refine below_set ?_ ?_ _ | exact Nat.le_refl _ | refine le1 ?_ | refine sizeB ?_))) hgl (by with_reducible (repeat (first | exact Below.refl _ _ | exact HD0.out | refine Below.drew ?_ | refine below_new ?_ | refine belowStep (by assumption) ?_ | refine below_set ?_ ?_ _ | exact Nat.le_refl _ | refine le1 ?_ | refine sizeB ?_))) hz hHeld.1)
    case rest =>
      obtain ⟨G7, a7, c7, rfl, rfl, hb7, h7, hk7⟩ := hcut
      obtain ⟨s9, hs9⟩ : ∃ s, s = mkB [40, 42, 32, 45, 62, 32, 42, 41, 32, 45, 62, 32, 42] := ⟨_, rfl⟩
      have HB7 := Lib.hid hb7
      have c0 := h7.cell 0 (.slice a7 2 c7) rfl
      have HT : Hid (Calls Try.prog 27 #[.agg #[.slice a7 2 c7]] wc (Says (.tuple #[.string s9, .int .i64 0]) wc)) := by
        have h := ctext_any (· < wc.heap.size) exA wc (.agg #[.slice a7 2 c7]) (fun _ h => h) ⟨_, rfl, hk7⟩
        rw [ex_text2] at h
        rw [hs9]
        exact h
      have HS9 := Lib.hid (show (s9.toList == [40, 42, 32, 45, 62, 32, 42, 41, 32, 45, 62, 32, 42]) = true from by rw [hs9, Pl.toList_eq]; rfl)
      clear hb7 h7 hk7 HAP HSS HD0 HK3 H3 HB4 hs9
      go_wp2_with fail
      refine HT.out.mono ?_
      rintro e w8 ⟨rfl, hb8⟩
      have HB8 := Lib.hid (belowStep hb8 HB7.out)
      have q5 := HS5.out
      have q9 := HS9.out
      clear hb8 c0 HT HB7
      go_wp2
      go_ret
      exact ⟨rfl, HB8.out⟩
end Go.Proofs.Ythamhgnhdjahgaa
