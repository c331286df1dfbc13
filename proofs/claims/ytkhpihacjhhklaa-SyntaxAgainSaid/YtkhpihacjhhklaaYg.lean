/-
  Walks of layer 3: replaced, at every place.
-/
import Derived.Test.YtkhpihacjhhklaaYf
namespace Go.Proofs.Ytkhpihacjhhklaa
open Go Go.RowKit
open Pl (Syn)
set_option linter.unusedSimpArgs false

namespace Pl
theorem put_in (r : List Int) (t by' : Syn) (m : Nat) (h : m < t.l.length) : put ((m : Int) :: r) t by' = (put r t.l[m] by').map (fun x => { t with l := t.l.set m x }) := by
  rw [put, dif_pos ⟨by omega, by simpa using h⟩]
  simp
theorem put_out (r : List Int) (t by' : Syn) (i : Int) (h : ¬ (0 ≤ i ∧ i.toNat < t.l.length)) : put (i :: r) t by' = none := by
  rw [put, dif_neg h]
end Pl
set_option maxRecDepth 100000 in
set_option maxHeartbeats 4000000 in
theorem replaced_nil (P Q : Nat → Prop) (t by' : Syn) (w : World) (tv av bv : Value) (hQ : ∀ b, Q b → b < w.heap.size) (ht : SynV w P t tv) (hb : SynV w Q by' bv) (ha : AtSl w av []) :
    Calls Try.prog 46 #[tv, av, bv] w (RepPost P Q (some by') w) := by
  have HBB := Lib.hid hb
  obtain ⟨na, nn, nc, la, ln, lc, rfl⟩ := ht.form
  obtain ⟨ma, mn, mc, ka, kn, kc, rfl⟩ := hb.form
  obtain ⟨aa, ac, rfl, -, -, -⟩ := ha
  have h1 := below2 w (.cells #[.int .i64 t.op, .int .i64 t.n, .string t.s, .slice na nn nc, .slice la ln lc] 25) (.cells #[.int .i64 by'.op, .int .i64 by'.n, .string by'.s, .slice ma mn mc, .slice ka kn kc] 25)
  have HQ := Lib.hid hQ
  clear ht hb hQ
  go_enter Try.func46, Try.ntmps46
  go_wp2_with fail
  have bx3 := blk_new ((w.alloc (.cells #[.int .i64 t.op, .int .i64 t.n, .string t.s, .slice na nn nc, .slice la ln lc] 25)).alloc (.cells #[.int .i64 by'.op, .int .i64 by'.n, .string by'.s, .slice ma mn mc, .slice ka kn kc] 25)) #[.int .i64 by'.op, .int .i64 by'.n, .string by'.s, .slice ma mn mc, .slice ka kn kc] 25
  rw [size_alloc, size_alloc] at bx3
  obtain ⟨z0, z1, z2, z3, z4⟩ := box_cells bx3
  have hbf : Below w.heap.size w (((w.alloc (.cells #[.int .i64 t.op, .int .i64 t.n, .string t.s, .slice na nn nc, .slice la ln lc] 25)).alloc (.cells #[.int .i64 by'.op, .int .i64 by'.n, .string by'.s, .slice ma mn mc, .slice ka kn kc] 25)).alloc (.cells #[.int .i64 by'.op, .int .i64 by'.n, .string by'.s, .slice ma mn mc, .slice ka kn kc] 25)) := h1.alloc (by simp; omega) _
  refine bodyPost_ret (v := .tuple #[.agg #[.int .i64 by'.op, .int .i64 by'.n, .string by'.s, .slice ma mn mc, .slice ka kn kc], .bool true]) (by simp [results, Try.results46, go_sem, z0, z1, z2, z3, z4]) rfl ?_
  exact ⟨⟨_, rfl, (HBB.out.keep (Same.of_below hbf HQ.out)).mono (fun b hb => .inr (.inl hb))⟩, hbf⟩
theorem replaced_any (P Q : Nat → Prop) (by' : Syn) (at' : List Int) : ∀ (t : Syn) (w : World) (tv av bv : Value), (∀ b, P b → b < w.heap.size) → (∀ b, Q b → b < w.heap.size) → SynV w P t tv → SynV w Q by' bv → AtSl w av at' → t.big ≤ 268435456 →
    Calls Try.prog 46 #[tv, av, bv] w (RepPost P Q (Pl.put at' t by') w) := by
  induction at' with
  | nil =>
    intro t w tv av bv hP hQ ht hb ha hbig
    exact replaced_nil P Q t by' w tv av bv hQ ht hb ha
  | cons i r ih =>
    intro t w tv av bv hP hQ ht hb ha hbig
    have hlb := Pl.len_big t
    have ht0 := ht
    rw [synV_iff] at ht
    obtain ⟨hs, nv, lv, rfl, hn, hl⟩ := ht
    obtain ⟨na, nc, rfl, hnm⟩ := hn.form
    obtain ⟨la, lc, rfl, hlmm⟩ := hl.form
    have hb0 := hb
    obtain ⟨ma, mn, mc, ka, kn, kc, rfl⟩ := hb.form
    obtain ⟨ab, ao, ac, rfl, hac, hacm, habl, hai, har⟩ := ha.head
    unfold maxLen at hacm
    by_cases hin : 0 ≤ i ∧ i.toNat < t.l.length
    · obtain ⟨m, rfl⟩ : ∃ m : Nat, i = m := ⟨i.toNat, by omega⟩
      have hm : m < t.l.length := by have := hin.2; simpa using this
      rw [Pl.put_in r t by' m hm]
      rcases SynSl.cases hl with ⟨hk0, -⟩ | ⟨b, off, n', c', hv, hnl, hn0, hnc, hcm, hPb, hka⟩
      · rw [hk0] at hm; simp at hm
      injection hv with hv1 hv2 hv3
      subst hv1 hv3
      obtain ⟨xo, xn, xs, xna, xnn, xnc, xla, xln, xlc, -, e0, e1, e2, e3, e4, hxs⟩ := hka.part m hm
      have hbx : t.l[m].big ≤ 268435456 := by have := Pl.mem_big (List.getElem_mem hm); have := Pl.big_eq t; omega
      have HCL : ∀ W, Below w.heap.size w W → Calls Try.prog 58 #[.slice (some ⟨b, off, none⟩) t.l.length lc] W fun e w' => (∃ a n c, e = .returned (.slice a n c) ∧ FreshSl w' W.heap.size P (.slice a n c) t.l) ∧ Below W.heap.size W w' := fun W hW => cloneSyn_any P _ t.l W (fun b hb => Nat.lt_of_lt_of_le (hP b hb) hW.size) (hl.keep (Same.of_below hW hP)) (by omega)
      have fin : ∀ (y : Syn) (e : Ending) (w' : World), ((∃ ga gc, e = .returned (.tuple #[.agg #[.int .i64 t.op, .int .i64 t.n, .string t.s, .slice na t.names.length nc, .slice ga t.l.length gc], .bool true]) ∧ SynSl w' (fun b => P b ∨ Q b ∨ (w.heap.size ≤ b ∧ b < w'.heap.size)) (.slice ga t.l.length gc) (t.l.set m y)) ∧ Below w.heap.size w w') → RepPost P Q (some { t with l := t.l.set m y }) w e w' := by
        rintro y e w' ⟨⟨ga, gc, rfl, hsl⟩, hbw⟩
        refine ⟨⟨_, rfl, ?_⟩, hbw⟩
        rw [synV_iff]
        exact ⟨hs, _, _, rfl, (hn.keep (Same.of_below hbw hP)).mono (fun b hb => .inl hb), hsl⟩
      by_cases hac1 : ac = 1
      · obtain rfl : r = [] := List.eq_nil_of_length_eq_zero (by omega)
        subst hac1
        have HI := fun W (hW : Below w.heap.size w W) => ih t.l[m] W _ (.slice (some ⟨ab, ao, none⟩) 0 0) _ (fun b hb => Nat.lt_of_lt_of_le (hP b hb) hW.size) (fun b hb => Nat.lt_of_lt_of_le (hQ b hb) hW.size) (hxs.keep (Same.of_below hW hP)) (hb0.keep (Same.of_below hW hQ)) ⟨_, 0, rfl, Nat.le_refl _, Nat.zero_le _, .inl rfl⟩ hbx
        cases hp : Pl.put [] t.l[m] by' with
        | none => rw [Pl.put] at hp; cases hp
        | some y =>
          rw [hp] at HI
          exact (replaced_someB t.op t.n t.s na t.names.length nc b off t.l.length lc by'.op by'.n by'.s ma mn mc ka kn kc ab ao m hm xo xn xs xna xnn xnc xla xln xlc w P Q t.l y rfl hP hQ habl hai (hP b hPb) e0 e1 e2 e3 e4 HI HCL).mono (fun e w' h => fin y e w' h)
      · have HI := fun W (hW : Below w.heap.size w W) => ih t.l[m] W _ _ _ (fun b hb => Nat.lt_of_lt_of_le (hP b hb) hW.size) (fun b hb => Nat.lt_of_lt_of_le (hQ b hb) hW.size) (hxs.keep (Same.of_below hW hP)) (hb0.keep (Same.of_below hW hQ)) (har.below hW) hbx
        cases hp : Pl.put r t.l[m] by' with
        | none =>
          rw [hp] at HI
          exact replaced_none t.op t.n t.s na t.names.length nc b off t.l.length lc by'.op by'.n by'.s ma mn mc ka kn kc ab ao r.length ac m hm xo xn xs xna xnn xnc xla xln xlc w habl hai hac1 (by omega) (hP b hPb) e0 e1 e2 e3 e4 HI
        | some y =>
          rw [hp] at HI
          exact (replaced_some t.op t.n t.s na t.names.length nc b off t.l.length lc by'.op by'.n by'.s ma mn mc ka kn kc ab ao r.length ac m hm xo xn xs xna xnn xnc xla xln xlc w P Q t.l y rfl hP hQ habl hai hac1 (by omega) (hP b hPb) e0 e1 e2 e3 e4 HI HCL).mono (fun e w' h => fin y e w' h)
    · rw [Pl.put_out r t by' i hin]
      exact replaced_out t.op t.n t.s na t.names.length nc la t.l.length lc by'.op by'.n by'.s ma mn mc ka kn kc ab ao r.length ac i w habl hai (by omega) (by omega)
end Go.Proofs.Ytkhpihacjhhklaa
