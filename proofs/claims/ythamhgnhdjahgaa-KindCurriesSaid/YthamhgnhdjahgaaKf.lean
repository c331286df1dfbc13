/-
  Walks of layer 8: the reference's Arity.
-/
import Derived.Test.YthamhgnhdjahgaaKe
namespace Go.Proofs.Ythamhgnhdjahgaa
open Go Go.RowKit
open Pl (K)
set_option linter.unusedSimpArgs false

theorem Same.set {P : Nat → Prop} {w : World} (p : Addr) (v : Value) (h : ∀ b, P b → b ≠ p.block) : Same P w (w.setCell p v) := fun b hb => Below.heap_setCell w p v b (h b hb)
theorem blk_one {w : World} {g : Nat} {T : TypeId} {x y : Value} (h : Blk w g T #[x]) : Blk (w.setCell ⟨g, 0, none⟩ y) g T #[y] := by
  have := h.set 0 y
  simpa using this
theorem below_set {B : Nat} {a w : World} (h : Below B a w) {g : Nat} (hg : B ≤ g) (v : Value) : Below B a (w.setCell ⟨g, 0, none⟩ v) := h.setCell (p := ⟨g, 0, none⟩) hg v
theorem size_set (w : World) (p : Addr) (v : Value) : (w.setCell p v).heap.size = w.heap.size := by simp [World.setCell]
/-- blocks from B on -/
def From (B : Nat) (w : World) (b : Nat) : Prop := B ≤ b ∧ b < w.heap.size
set_option maxRecDepth 100000 in
theorem rarity_any (n : Nat) (w : World) (hn : n ≤ 1000) :
    Calls Try.prog 22 #[.int .i64 n] w fun e w' => (∃ y, e = .returned y ∧ KV w' (From w.heap.size w') (K.arity n) y) ∧ Below w.heap.size w w' := by
  obtain ⟨hbx, hbx2, hb⟩ := two_new w 24 (.slice none 0 0) (.slice none 0 0)
  have hsz : ((w.alloc (.cells #[.slice none 0 0] 24)).alloc (.cells #[.slice none 0 0] 24)).heap.size = w.heap.size + 2 := by rw [size_alloc, size_alloc]
  obtain ⟨B, hB⟩ : ∃ B, B = w.heap.size := ⟨_, rfl⟩
  rw [← hB] at hbx hbx2 hsz
  have HB := Lib.hid hb
  have HBX := Lib.hid hbx
  have HBX2 := Lib.hid hbx2
  have HBB := Lib.hid hB
  clear hbx hbx2 hb
  go_enter Try.func22, Try.ntmps22
  go_wp2_with fail
  rw [← hB]
  clear hB
  generalize ((w.alloc (.cells #[.slice none 0 0] 24)).alloc (.cells #[.slice none 0 0] 24)) = w2 at *
  go_loopg [4] (n + 1) (fun g k wr => ∃ (i : Nat) (a : Option Addr) (m c : Nat), i ≤ n ∧ k = .int .i64 i ∧ g = n + 1 - i ∧ Blk wr B 24 #[.slice none 0 0] ∧ Blk wr (B + 1) 24 #[.slice a m c] ∧ KidV wr (From (B + 2) wr) (K.arity i) (.slice a m c) ∧ Below w.heap.size w wr)
  case atStart => exact ⟨0, none, 0, 0, by omega, rfl, by omega, HBX.out, HBX2.out, kidV_none _ _, HB.out⟩
  case round =>
    obtain ⟨i, a, m, c, hi, rfl, hg, h0, h1, hk, hbw⟩ := hrel
    have H0 := Lib.hid h0
    have H1 := Lib.hid h1
    have HK := Lib.hid hk
    have HBW := Lib.hid hbw
    have c1 := h1.cell 0 (.slice a m c) rfl
    have f1 := h1.thaw 0
    have c0 := h0.cell 0 (.slice none 0 0) rfl
    have f0 := h0.thaw 0
    by_cases hlt : i < n
    · have q5 : decide ((i : Int) < (n : Int)) = true := decide_eq_true (by omega)
      have HC := Lib.hid (rpair_any (From (B + 2) wr) (.mk []) (K.arity i) wr (.agg #[.slice none 0 0]) (.agg #[.slice a m c]) (fun b h => h.2) ⟨_, rfl, kidV_none _ _⟩ ⟨_, rfl, hk⟩)
      clear h0 h1 hk hbw
      go_wp2_with fail
      refine HC.out.mono ?_
      rintro e w3 ⟨⟨y, rfl, hy⟩, hb3⟩
      obtain ⟨a3, c3, rfl⟩ := hy.form
      have hy := hy.kid
      have HY := Lib.hid hy
      generalize (K.mk [.mk [], K.arity i]).l.length = m3 at *
      have h13 := H1.out.of_eq (hb3.block _ H1.out.lt)
      have h03 := H0.out.of_eq (hb3.block _ H0.out.lt)
      have d1 := h13.cell 0 (.slice a m c) rfl
      have g1 := h13.thaw 0
      have hn1 : ¬ B = B + 1 := by omega
      have HBX3 := Lib.hid (blk_one (y := .slice a3 m3 c3) h13)
      have HBX0 := Lib.hid (h03.other ⟨B + 1, 0, none⟩ (.slice a3 m3 c3) hn1)
      have HB3 := Lib.hid (below_set (HBW.out.trans (hb3.mono HBW.out.size)) (show w.heap.size ≤ B + 1 by rw [← HBB.out]; omega) (.slice a3 m3 c3))
      have HS3 := Lib.hid (show KidV (w3.setCell ⟨B + 1, 0, none⟩ (.slice a3 m3 c3)) (From (B + 2) (w3.setCell ⟨B + 1, 0, none⟩ (.slice a3 m3 c3))) (K.arity (i + 1)) (.slice a3 m3 c3) from by
        have hw := HY.out.keep (Same.set (w := w3) ⟨B + 1, 0, none⟩ (.slice a3 m3 c3) (fun b h e => by
          have e : b = B + 1 := e
          rcases h with h | h
          · have := h.1; omega
          · have := h.1; have := H1.out.lt; omega))
        refine hw.mono fun b h => ?_
        rcases h with h | h
        · exact ⟨h.1, by rw [size_set]; exact Nat.lt_of_lt_of_le h.2 hb3.size⟩
        · exact ⟨by have := h.1; have := H1.out.lt; omega, by rw [size_set]; exact h.2⟩)
      clear hb3 h13 h03 hy c1 f1 c0 f0
      go_wp2
      go_roundg (gk - 1)
      case measure => omega
      case rel => exact ⟨i + 1, a3, m3, c3, by omega, by go_num, by omega, HBX0.out, HBX3.out, HS3.out, HB3.out⟩
    · have q5 : decide ((i : Int) < (n : Int)) = false := decide_eq_false (by omega)
      obtain rfl : i = n := by omega
      have hn1 : ¬ B + 1 = B := by omega
      have HBX0 := Lib.hid (blk_one (y := .slice a m c) h0)
      have HB3 := Lib.hid (below_set hbw (show w.heap.size ≤ B by rw [← HBB.out]; omega) (.slice a m c))
      have HS3 := Lib.hid (show KidV (wr.setCell ⟨B, 0, none⟩ (.slice a m c)) (From w.heap.size (wr.setCell ⟨B, 0, none⟩ (.slice a m c))) (K.arity i) (.slice a m c) from
        (hk.keep (Same.set (w := wr) ⟨B, 0, none⟩ (.slice a m c) (fun b h e => by
          have e : b = B := e
          have := h.1; omega))).mono fun b h => ⟨by have := h.1; have := HBB.out; omega, by rw [size_set]; exact h.2⟩)
      clear h0 h1 hk hbw
      go_wp2
      have d0 := HBX0.out.cell 0 (.slice a m c) rfl
      refine bodyPost_ret (v := .agg #[.slice a m c]) (by simp [results, Try.results22, go_sem, d0]) rfl ?_
      exact ⟨⟨_, rfl, _, rfl, HS3.out⟩, HB3.out⟩
end Go.Proofs.Ythamhgnhdjahgaa
