/-
  Walks of layer 8's code: Arity.
-/
import Derived.Test.YtmjkeejinagokaaHc
import Derived.Laws.MakeOwn
import Derived.Deep.RegionHeld3
namespace Go.Proofs.Ytmjkeejinagokaa
open Go Go.RowKit
open Pl (K)
set_option linter.unusedSimpArgs false

theorem arrow_replicate (n : Nat) : K.arrow (List.replicate n (.mk [])) (.mk []) = K.arity n := by
  induction n with
  | zero => rfl
  | succ n ih => rw [List.replicate_succ, K.arrow_cons, ih]; rfl
theorem arity_small (n : Nat) (h : n ≤ 100) : K.valid (K.arity n) = true := by
  have hs : K.size (.mk []) = 1 ∧ K.depth (.mk []) = 1 ∧ K.ok (.mk []) = true := by decide +kernel
  have : K.size (K.arity n) = 2 * n + 1 ∧ K.depth (K.arity n) = n + 1 ∧ K.ok (K.arity n) = true := by
    induction n with
    | zero => exact hs
    | succ n ih =>
      obtain ⟨h1, h2, h3⟩ := ih (by omega)
      have e : K.arity (n + 1) = .mk [.mk [], K.arity n] := rfl
      rw [e]
      refine ⟨?_, ?_, ?_⟩
      · rw [K.size_two, hs.1, h1]; omega
      · rw [K.depth, K.depths, K.depths, K.depths, hs.2.1, h2]; omega
      · rw [K.ok, K.oks, K.oks, K.oks, hs.2.2, h3]; rfl
  exact (K.valid_iff _).2 ⟨this.2.2, by omega, by omega⟩
theorem arrowOut_replicate (n : Nat) (h : n ≤ 100) : K.arrowOut (List.replicate n (.mk [])) (.mk []) = (K.arity n, 0) := by
  unfold K.arrowOut
  have h1 : (List.replicate n (K.mk [])).all K.valid = true := List.all_eq_true.2 (fun x hx => by rw [List.eq_of_mem_replicate hx]; decide +kernel)
  rw [h1, arrow_replicate, arity_small n h]
  rfl
theorem made_get (n j : Nat) (v : Value) (h : j < n) : (madeCells #[v] n)[j]? = some v := by
  unfold madeCells
  simp [h, Nat.mod_one]
/-- n zero kinds in a row -/
theorem stars_row (W : World) (b n : Nat) (cs : Array Value) (hcs : ∀ j, j < n → cs[j]? = some (.slice none 0 0)) (hn : n ≤ 100) (hb : Blk W b 24 cs) : KSl W (· < W.heap.size) (.slice (some ⟨b, 0, none⟩) n n) (List.replicate n (.mk [])) := by
  refine (kidV_iff _ _ _ _).2 ⟨_, n, by rw [List.length_replicate], by rw [List.length_replicate]; exact Nat.le_refl _, by unfold maxLen; omega, (fun h => by cases h), .inr ⟨b, 0, rfl, hb.lt, (kidsK_iff _ _ _ _ _).2 fun j hj => ?_⟩⟩
  rw [List.length_replicate] at hj
  refine ⟨.slice none 0 0, hb.cell (0 + j) _ (by rw [Nat.zero_add]; exact hcs j hj), ?_⟩
  rw [List.getElem_replicate]
  exact kidV_none _ _
/-- what Arity answers within its range -/
def ArityP (n B : Nat) (w : World) (e : Ending) (w' : World) : Prop := (∃ a m c, e = .returned (.tuple #[.agg #[.slice a m c], .int .i64 0]) ∧ KidV w' (From B w') (K.arity n) (.slice a m c)) ∧ Below w.heap.size w w'
theorem arrow_stars (W W2 : World) (b n : Nat) (cs : Array Value) (hcs : ∀ j, j < n → cs[j]? = some (.slice none 0 0)) (hn : n ≤ 100) (hb : Blk W b 24 cs) (hw : Below W.heap.size W W2) (B : Nat) (hB : B ≤ W.heap.size) :
    Calls Try.prog 51 #[.slice (some ⟨b, 0, none⟩) n n, .agg #[.slice none 0 0]] W2 (ArityP n B W2) := by
  have h := carrow_any (· < W2.heap.size) (List.replicate n (.mk [])) (.mk []) W2 _ _ (fun _ h => h) (stars_row W2 b n cs hcs hn (hb.of_eq (hw.block _ hb.lt))) (kV_none _ _)
  rw [arrowOut_replicate n hn] at h
  refine h.mono ?_
  rintro e w' ⟨⟨y, rfl, hy⟩, hb2⟩
  obtain ⟨a, c, rfl⟩ := hy.form
  exact ⟨⟨a, _, c, rfl, hy.kid.mono (fun q hq => ⟨Nat.le_trans (Nat.le_trans hB hw.size) hq.1, hq.2⟩)⟩, hb2⟩
set_option maxRecDepth 100000 in
set_option maxHeartbeats 1000000 in
theorem arity_in (n : Nat) (w : World) (hn : n ≤ 100) :
    Calls Try.prog 25 #[.int .i64 n] w (ArityP n w.heap.size w) := by
  obtain ⟨hbx, hb⟩ := box_new w 24 (.slice none 0 0)
  have HMK := Lib.hid (fun W => (show Sem.run Try.prog (Instr.makeSlice 22 (.int .i64 (n : Int)) (.int .i64 (n : Int))) W = .ok (.slice (some ⟨W.heap.size, 0, none⟩) n n) (W.alloc (.cells (madeCells #[.slice none 0 0] n) 24)) from by
    obtain ⟨i, hi, hz0, hz1, hz2⟩ := info3 infoKind
    have h := run_make (P := Try.prog) W 22 24 i _ Try.underlying22 hi hz0 .i64 .i64 n n (by omega) (Int.le_refl _) (by rw [hz2]; omega) (by omega)
    simp only [Int.toNat_natCast, hz1, Nat.mul_one] at h
    exact h))
  have HG := Lib.hid (fun j (hj : j < n) => made_get n j (.slice none 0 0) hj)
  generalize madeCells #[.slice none 0 0] n = cs at *
  have HB := Lib.hid hb
  have HBX := Lib.hid hbx
  clear hb hbx
  have q1 : decide ((n : Int) < 0) = false := decide_eq_false (by omega)
  have q2 : decide ((100 : Int) < (n : Int)) = false := decide_eq_false (by omega)
  go_enter Try.func25, Try.ntmps25
  go_wp2
  generalize w.alloc (.cells #[.slice none 0 0] 24) = w2 at *
  have HD0 := Lib.hid (Below.refl w2.heap.size w2).drew
  have HDA := Lib.hid (((Below.refl w2.heap.size w2).alloc (Nat.le_refl _) (.cells cs 24)).drew)
  have HSS := Lib.hid (fun W (hW : Below w2.heap.size w2 W) => (show Below w.heap.size w W ∧ W.cell? ⟨w.heap.size, 0, none⟩ = some (.slice none 0 0) from ⟨belowStep hW HB.out, (HBX.out.of_eq (hW.block _ HBX.out.lt)).cell 0 _ rfl⟩))
  have hmk := HMK.out
  have HA1 := Lib.hid (fun wn (h : Below (w2.alloc (.cells cs 24)).drew.heap.size (w2.alloc (.cells cs 24)).drew wn) => arrow_stars _ wn w2.heap.size n cs HG.out hn (blk_new w2 cs 24).drew h w2.heap.size (HDA.out.size))
  have HA2 := Lib.hid (fun wn (h : Below w2.heap.size w2 wn) => arrow_stars _ (wn.alloc (.cells cs 24)) wn.heap.size n cs HG.out hn (blk_new wn cs 24) (Below.refl _ _) w2.heap.size (Nat.le_trans h.size (by rw [size_alloc]; omega)))
  have HA3 := Lib.hid (fun wn (h : Below w2.heap.size w2 wn) => (show Below w2.heap.size w2 (wn.alloc (.cells cs 24)) from h.alloc h.size _))
  have HST := Lib.hid (fun W (hW : Below w2.heap.size w2 W) v => below_set (belowStep hW HB.out) (Nat.le_refl w.heap.size) v)
  go_region_held3 (fun W => Below w.heap.size w W)
    (first | exact belowStep HD0.out HB.out | exact belowStep HDA.out HB.out | exact belowStep (by assumption) HB.out | exact belowStep (HA3.out _ (by assumption)) HB.out | exact HST.out _ (by assumption) _)
    (first
    | (go_at_call 52; (with_reducible refine (star_any _).mono ?_); rintro e wn ⟨rfl, hbn⟩; have hbn2 := belowStep (a := w2) hbn (by first | assumption | exact HD0.out | exact HDA.out))
    | (go_at_call 51; (first | (with_reducible refine (HA2.out _ (by assumption)).mono ?_) | (with_reducible refine (HA1.out _ (by assumption)).mono ?_)); rintro e wk ⟨⟨ka, km, kc, rfl, hk⟩, hbk⟩; have hbk2 := belowStep (a := w2) hbk (by first | assumption | exact HA3.out _ (by assumption)); have hc9 := (HBX.out.of_eq (hbk2.block _ HBX.out.lt)).cell 0 _ rfl; have hf9 := (HBX.out.of_eq (hbk2.block _ HBX.out.lt)).thaw 0))
  all_goals (
    have HE1 := Lib.hid (blk_one (y := .slice ka km kc) (HBX.out.of_eq (hbk2.block _ HBX.out.lt)))
    have HE2 := Lib.hid (below_set (belowStep hbk2 HB.out) (Nat.le_refl w.heap.size) (.slice ka km kc))
    have HE3 := Lib.hid ((hk.keep (Same.set (w := wk) ⟨w.heap.size, 0, none⟩ (.slice ka km kc) (fun q h e => by
      have e : q = w.heap.size := e
      have := h.1
      have := HBX.out.lt
      omega))).mono (fun b h => (show From w.heap.size (wk.setCell ⟨w.heap.size, 0, none⟩ (.slice ka km kc)) b from ⟨Nat.le_trans HB.out.size h.1, by rw [size_set]; exact h.2⟩)))
    clear hk hbk hbk2 hc9 hf9 HA1 HA2 HA3 HST HSS hmk HMK
    generalize wk.setCell ⟨w.heap.size, 0, none⟩ (.slice ka km kc) = w9 at *
    go_wp2
    have d0 := HE1.out.cell 0 (.slice ka km kc) rfl
    refine bodyPost_ret (v := .tuple #[.agg #[.slice ka km kc], .int .i64 0]) (by simp [results, Try.results25, go_sem, d0]) rfl ?_
    exact ⟨⟨ka, km, kc, rfl, HE3.out⟩, HE2.out⟩)
end Go.Proofs.Ytmjkeejinagokaa
