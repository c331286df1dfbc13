/-
  Walks of layer 9: the reference's size of a constructor.
-/
import Derived.Test.YtigedbkifagfeaaGreatQm
import Derived.Test.YtigedbkifagfeaaGreatKc
import Derived.Deep.LoopGhost
import Derived.StillTailTactics
import Derived.BigQuiet
namespace Go.Proofs.YtigedbkifagfeaaGreat
open Go Go.RowKit
open Pl (K Con)
set_option linter.unusedSimpArgs false

theorem KidV.shape {w : World} {P : Nat → Prop} {t : K} {x : Value} (h : KidV w P t x) : ∃ a c, x = .slice a t.l.length c := by
  obtain ⟨l⟩ := t
  obtain ⟨a, c, rfl, -⟩ := (kidV_iff _ _ _ _).1 h
  exact ⟨a, c, rfl⟩
/-- a constructor's value: its shape -/
theorem ConV.shape {w : World} {P : Nat → Prop} {t : Con} {v : Value} (h : ConV w P t v) : ∃ ka kn kc na nn nc la ln lc, v = .agg #[.int .i64 t.op, .int .i64 t.n, .string t.s, .slice ka kn kc, .slice na nn nc, .slice la ln lc] ∧ kn = t.kind.l.length ∧ nn = t.names.length ∧ ln = t.l.length := by
  obtain ⟨-, kv, nv, lv, rfl, hk, ⟨na, nc, rfl, -⟩, ⟨la, lc, rfl, -⟩⟩ := (conV_iff _ _ _ _).1 h
  obtain ⟨ka, kc, rfl⟩ := hk.shape
  exact ⟨ka, _, kc, na, _, nc, la, _, lc, rfl, rfl, rfl, rfl⟩
/-- one of a slice of constructors, in its cells -/
theorem ConSl.part {w : World} {P : Nat → Prop} {v : Value} {l : List Con} (h : ConSl w P v l) (k : Nat) (hk : k < l.length) : ∃ b off c ka kn kc na nn nc la ln lc, v = .slice (some ⟨b, off, none⟩) l.length c ∧ P b ∧
    w.cell? ⟨b, off + k * 6, none⟩ = some (.int .i64 l[k].op) ∧ w.cell? ⟨b, off + k * 6 + 1, none⟩ = some (.int .i64 l[k].n) ∧ w.cell? ⟨b, off + k * 6 + 2, none⟩ = some (.string l[k].s) ∧ w.cell? ⟨b, off + k * 6 + 3, none⟩ = some (.slice ka kn kc) ∧ w.cell? ⟨b, off + k * 6 + 4, none⟩ = some (.slice na nn nc) ∧ w.cell? ⟨b, off + k * 6 + 5, none⟩ = some (.slice la ln lc) ∧
    ConV w P l[k] (.agg #[.int .i64 l[k].op, .int .i64 l[k].n, .string l[k].s, .slice ka kn kc, .slice na nn nc, .slice la ln lc]) := by
  obtain ⟨a, c, rfl, -, -, hh⟩ := h.each
  obtain ⟨b, off, x, rfl, hP, ⟨x0, x1, x2, x3, x4, x5, rfl, f0, f1, f2, f3, f4, f5⟩, hx⟩ := hh k hk
  obtain ⟨ka, kn, kc, na, nn, nc, la, ln, lc, e, -, -, -⟩ := hx.shape
  simp only [Value.agg.injEq, Array.mk.injEq, List.cons.injEq, and_true] at e
  obtain ⟨rfl, rfl, rfl, rfl, rfl, rfl⟩ := e
  exact ⟨b, off, c, ka, kn, kc, na, nn, nc, la, ln, lc, rfl, hP, f0, f1, f2, f3, f4, f5, hx⟩
/-- a value in its box, of any size -/
theorem boxN_new (w : World) (T : TypeId) (cs : Array Value) : Blk (w.alloc (.cells cs T)) w.heap.size T cs ∧ Below w.heap.size w (w.alloc (.cells cs T)) := ⟨blk_new _ _ _, (Below.refl _ _).alloc (Nat.le_refl _) _⟩
set_option maxRecDepth 100000 in
set_option maxHeartbeats 4000000 in
theorem rsize9_any (P : Nat → Prop) (t : Con) : ∀ (w : World) (v : Value), (∀ b, P b → b < w.heap.size) → ConV w P t v → t.size ≤ 1073741824 →
    Calls Tryz.prog 17 #[v] w fun e w' => e = .returned (.int .i64 t.size) ∧ Below w.heap.size w w' := by
  induction t using Con.ind with
  | h t ih =>
  intro w v hP ht hsz
  have HIH := Lib.hid ih
  have HP := Lib.hid hP
  have HSZ := Lib.hid hsz
  clear ih
  obtain ⟨-, kv, nv, lv, rfl, hk, ⟨na, nc, rfl, -⟩, hl⟩ := (conV_iff _ _ _ _).1 ht
  have HSL := Lib.hid (fun W (hW : Below w.heap.size w W) => hl.keep (Same.of_below hW hP))
  obtain ⟨a, c, rfl, hlc, hcm, -⟩ := hl.each
  obtain ⟨ka, kc, rfl⟩ := hk.shape
  have HEQ := Lib.hid (Con.size_eq t)
  obtain ⟨n, hn⟩ : ∃ n, n = t.l.length := ⟨_, rfl⟩
  have HN := Lib.hid hn
  rw [← hn] at HSL hlc ⊢
  have hn63 : n ≤ 9223372036854775807 := by unfold maxLen at hcm; omega
  obtain ⟨hbx, hb⟩ := boxN_new w 28 #[.int .i64 t.op, .int .i64 t.n, .string t.s, .slice ka t.kind.l.length kc, .slice na t.names.length nc, .slice a n c]
  have c5 := hbx.cell 5 (.slice a n c) rfl
  have HB := Lib.hid hb
  have HBX := Lib.hid hbx
  generalize t.kind.l.length = kn at *
  generalize t.names.length = nn at *
  clear hbx hb hl ht hk hn hcm hP hsz
  go_enter Tryz.func17, Tryz.ntmps17
  go_wp2_with fail
  clear c5
  generalize w.alloc (.cells #[.int .i64 t.op, .int .i64 t.n, .string t.s, .slice ka kn kc, .slice na nn nc, .slice a n c] 28) = w2 at *
  go_loopg [3, 4] (n + 1) (fun g m i wr => ∃ k : Nat, k ≤ n ∧ i = .int .i64 k ∧ m = .int .i64 (1 + (Con.sizes (t.l.take k) : Nat)) ∧ g = n + 1 - k ∧ Below w2.heap.size w2 wr)
  case atStart => exact ⟨0, by omega, rfl, by rw [List.take_zero, Con.sizes_nil]; rfl, by omega, Below.refl _ _⟩
  case round =>
    obtain ⟨k, hk, rfl, rfl, hg, hbw⟩ := hrel
    have HBW := Lib.hid hbw
    have HW0 := Lib.hid (show Below w.heap.size w wr from belowStep hbw HB.out)
    have c5 := (HBX.out.of_eq (hbw.block _ HBX.out.lt)).cell 5 (.slice a n c) rfl
    by_cases hlt : k < n
    · have q5 : decide ((k : Int) < (n : Int)) = true := decide_eq_true (by omega)
      have hkl : k < t.l.length := by rw [← HN.out]; exact hlt
      have hmem : t.l[k] ∈ t.l := List.getElem_mem hkl
      obtain ⟨b, off, c', xa, xn, xc, ya, yn, yc, za, zn, zc, e, -, f0, f1, f2, f3, f4, f5, hx⟩ := (HSL.out wr HW0.out).part k hkl
      injection e with e1 e2 e3
      subst e1 e3
      clear e2
      have hts := Con.sizes_take t.l k hkl
      have hle := Con.sizes_le t.l (k + 1)
      have hsz := HSZ.out
      rw [HEQ.out] at hsz
      have HC := Lib.hid (HIH.out _ hmem wr _ (fun b hb => Nat.lt_of_lt_of_le (HP.out b hb) HW0.out.size) hx (by omega))
      have HTS := Lib.hid hts
      rw [hts] at hle
      generalize Con.sizes (t.l.take k) = m at *
      generalize Con.sizes t.l = mm at *
      generalize t.l[k].size = mx at *
      generalize t.l[k] = x at *
      clear hts hmem hbw hx
      go_wp2_with fail
      refine HC.out.mono ?_
      rintro e w3 ⟨rfl, hb3⟩
      have HB3 := Lib.hid (belowStep hb3 HBW.out)
      clear hb3 f0 f1 f2 f3 f4 f5 c5
      go_wp2
      go_roundg (gk - 1)
      case measure => omega
      case rel => exact ⟨k + 1, by omega, by go_num, by rw [HTS.out]; go_num, by omega, HB3.out⟩
    · have q5 : decide ((k : Int) < (n : Int)) = false := decide_eq_false (by omega)
      have HKN := Lib.hid (show t.l.take k = t.l from List.take_of_length_le (by rw [← HN.out]; omega))
      rw [HKN.out]
      have HF := Lib.hid (show ((1 : Int) + (Con.sizes t.l : Nat)) = ((t.size : Nat) : Int) from by rw [HEQ.out]; omega)
      generalize ((1 : Int) + (Con.sizes t.l : Nat)) = r at *
      clear hbw
      go_wp2
      go_ret
      exact ⟨by rw [HF.out]; rfl, HW0.out⟩
end Go.Proofs.YtigedbkifagfeaaGreat
