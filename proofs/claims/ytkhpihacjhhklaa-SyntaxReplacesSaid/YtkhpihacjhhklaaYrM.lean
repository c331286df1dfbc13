/-
  Walks of layer 3: the reference's put, at every place.
-/
import Derived.Test.YtkhpihacjhhklaaYoM
import Derived.Test.YtkhpihacjhhklaaYqM
namespace Go.Proofs.Ytkhpihacjhhklaa
open Go Go.RowKit
open Pl (Syn)
set_option linter.unusedSimpArgs false

set_option maxRecDepth 100000 in
set_option maxHeartbeats 4000000 in
theorem rput_nil (P Q : Nat → Prop) (t by' : Syn) (w : World) (tv av bv : Value) (hQ : ∀ b, Q b → b < w.heap.size) (ht : SynV w P t tv) (hb : SynV w Q by' bv) (ha : AtSl w av []) :
    Calls Try.prog 49 #[tv, av, bv] w (RepPost P Q (some by') w) := by
  have HBB := Lib.hid hb
  obtain ⟨na, nn, nc, la, ln, lc, rfl⟩ := ht.form
  obtain ⟨ma, mn, mc, ka, kn, kc, rfl⟩ := hb.form
  obtain ⟨aa, ac, rfl, -, -, -⟩ := ha
  have HQ := Lib.hid hQ
  have h1 := below2 w (.cells #[.int .i64 t.op, .int .i64 t.n, .string t.s, .slice na nn nc, .slice la ln lc] 25) (.cells #[.int .i64 by'.op, .int .i64 by'.n, .string by'.s, .slice ma mn mc, .slice ka kn kc] 25)
  clear ht hb hQ
  go_enter Try.func49, Try.ntmps49
  go_wp2_with fail
  have bx3 := blk_new ((w.alloc (.cells #[.int .i64 t.op, .int .i64 t.n, .string t.s, .slice na nn nc, .slice la ln lc] 25)).alloc (.cells #[.int .i64 by'.op, .int .i64 by'.n, .string by'.s, .slice ma mn mc, .slice ka kn kc] 25)) #[.int .i64 by'.op, .int .i64 by'.n, .string by'.s, .slice ma mn mc, .slice ka kn kc] 25
  rw [size_alloc, size_alloc] at bx3
  obtain ⟨z0, z1, z2, z3, z4⟩ := box_cells bx3
  have hbf : Below w.heap.size w (((w.alloc (.cells #[.int .i64 t.op, .int .i64 t.n, .string t.s, .slice na nn nc, .slice la ln lc] 25)).alloc (.cells #[.int .i64 by'.op, .int .i64 by'.n, .string by'.s, .slice ma mn mc, .slice ka kn kc] 25)).alloc (.cells #[.int .i64 by'.op, .int .i64 by'.n, .string by'.s, .slice ma mn mc, .slice ka kn kc] 25)) := h1.alloc (by simp; omega) _
  refine bodyPost_ret (v := .tuple #[.agg #[.int .i64 by'.op, .int .i64 by'.n, .string by'.s, .slice ma mn mc, .slice ka kn kc], .bool true]) (by simp [results, Try.results49, go_sem, z0, z1, z2, z3, z4]) rfl ?_
  exact ⟨⟨_, rfl, (HBB.out.keep (Same.of_below hbf HQ.out)).mono (fun b hb => .inr (.inl hb))⟩, hbf⟩
set_option maxRecDepth 100000 in
set_option maxHeartbeats 4000000 in
theorem rput_out (op n : Int) (s : ByteArray) (na : Option Addr) (nn nc : Nat) (la : Option Addr) (ln lc : Nat) (bop bn : Int) (bs : ByteArray) (ma : Option Addr) (mn mc : Nat) (ka : Option Addr) (kn kc ab ao rn ac : Nat) (i : Int) (w : World) (habl : ab < w.heap.size) (hai : w.cell? ⟨ab, ao, none⟩ = some (.int .i64 i)) (h : i < 0 ∨ (ln : Int) ≤ i) (hrn : rn < 9223372036854775807) :
    Calls Try.prog 49 #[.agg #[.int .i64 op, .int .i64 n, .string s, .slice na nn nc, .slice la ln lc], .slice (some ⟨ab, ao, none⟩) (rn + 1) ac, .agg #[.int .i64 bop, .int .i64 bn, .string bs, .slice ma mn mc, .slice ka kn kc]] w fun e w' => e = .returned (.tuple #[zeroSyn, .bool false]) ∧ Below w.heap.size w w' := by
  have hbx := boxes_new w #[.int .i64 op, .int .i64 n, .string s, .slice na nn nc, .slice la ln lc] #[.int .i64 bop, .int .i64 bn, .string bs, .slice ma mn mc, .slice ka kn kc]
  have hbz := blk_new ((w.alloc (.cells #[.int .i64 op, .int .i64 n, .string s, .slice na nn nc, .slice la ln lc] 25)).alloc (.cells #[.int .i64 bop, .int .i64 bn, .string bs, .slice ma mn mc, .slice ka kn kc] 25)) #[.int .i64 0, .int .i64 0, .string ⟨#[]⟩, .slice none 0 0, .slice none 0 0] 25
  rw [size_alloc, size_alloc] at hbz
  have HB0 := Lib.hid (show Below w.heap.size w (((w.alloc (.cells #[.int .i64 op, .int .i64 n, .string s, .slice na nn nc, .slice la ln lc] 25)).alloc (.cells #[.int .i64 bop, .int .i64 bn, .string bs, .slice ma mn mc, .slice ka kn kc] 25)).alloc (.cells #[.int .i64 0, .int .i64 0, .string ⟨#[]⟩, .slice none 0 0, .slice none 0 0] 25)) from (below2 w _ _).alloc (by simp; omega) _)
  have HT0 := Lib.hid (hbx.1.alloc (.cells #[.int .i64 0, .int .i64 0, .string ⟨#[]⟩, .slice none 0 0, .slice none 0 0] 25))
  have HY0 := Lib.hid (hbx.2.alloc (.cells #[.int .i64 0, .int .i64 0, .string ⟨#[]⟩, .slice none 0 0, .slice none 0 0] 25))
  have HZ0 := Lib.hid hbz
  have a0 := (HB0.out.cell (p := ⟨ab, ao, none⟩) habl).trans hai
  obtain ⟨x0, x1, x2, x3, x4⟩ := box_cells HT0.out
  clear hbx hbz hai habl
  have q9 : (((rn : Int) + 1) == 0) = false := beq_eq_false_iff_ne.2 (by omega)
  have q4 : (0 : Int) < (rn : Int) + 1 := by omega
  obtain ⟨d1, hd1⟩ : ∃ d1, decide (i < 0) = d1 := ⟨_, rfl⟩
  have q3 : d1 = false → decide ((ln : Int) ≤ i) = true := fun e => decide_eq_true (h.elim (fun h => by rw [decide_eq_true h] at hd1; rw [e] at hd1; cases hd1) id)
  have q2 : d1 = false → decide (i ≥ (ln : Int)) = true := q3
  have HQ2 := Lib.hid q2
  have HQ3 := Lib.hid q3
  clear h q2 q3
  cases d1
  all_goals
    have r2 := HQ2.out
    have r3 := HQ3.out
    simp only [reduceCtorEq, forall_const, false_implies] at r2 r3
    go_enter Try.func49, Try.ntmps49
    go_wp2
    generalize hw0 : (((w.alloc (.cells #[.int .i64 op, .int .i64 n, .string s, .slice na nn nc, .slice la ln lc] 25)).alloc (.cells #[.int .i64 bop, .int .i64 bn, .string bs, .slice ma mn mc, .slice ka kn kc] 25)).alloc (.cells #[.int .i64 0, .int .i64 0, .string ⟨#[]⟩, .slice none 0 0, .slice none 0 0] 25)) = w0 at HB0 HT0 HY0 HZ0 a0 x0 x1 x2 x3 x4 ⊢
    clear hw0
    go_quiet (fail)
    have HBD := Lib.hid (below_drewN HB0.out nq)
    have HZD := Lib.hid (show Blk (w0.drewN nq) (w.heap.size + 1 + 1) 25 #[.int .i64 0, .int .i64 0, .string ⟨#[]⟩, .slice none 0 0, .slice none 0 0] from HZ0.out)
    clear a0 x0 x1 x2 x3 x4 HT0 HY0 HZ0 HB0
    generalize w0.drewN nq = wd at HBD HZD ⊢
    obtain ⟨z0, z1, z2, z3, z4⟩ := box_cells HZD.out
    have t0 := HZD.out.thaw 0
    have t1 := HZD.out.thaw 1
    have t2 := HZD.out.thaw 2
    have t3 := HZD.out.thaw 3
    have t4 := HZD.out.thaw 4
    go_wp2
    have HEND := store5_below HBD.out (w.heap.size + 1 + 1) 0 (.int .i64 0) (.int .i64 0) (.string ⟨#[]⟩) (.slice none 0 0) (.slice none 0 0) (by omega)
    have HENB := store5_blk HZD.out 0 (.int .i64 0) (.int .i64 0) (.string ⟨#[]⟩) (.slice none 0 0) (.slice none 0 0)
    unfold store5 at HEND HENB
    simp only [Nat.zero_add] at HEND HENB
    obtain ⟨k0, k1, k2, k3, k4⟩ := box_cells (by simpa [put5] using HENB)
    refine bodyPost_ret (v := .tuple #[zeroSyn, .bool false]) (by simp [results, Try.results49, go_sem, k0, k1, k2, k3, k4, zeroSyn]; try rfl) rfl ?_
    exact ⟨rfl, HEND⟩
theorem rput_any (P Q : Nat → Prop) (by' : Syn) (at' : List Int) : ∀ (t : Syn) (w : World) (tv av bv : Value), (∀ b, P b → b < w.heap.size) → (∀ b, Q b → b < w.heap.size) → SynV w P t tv → SynV w Q by' bv → AtSl w av at' → t.big ≤ 268435456 →
    Calls Try.prog 49 #[tv, av, bv] w (RepPost P Q (Pl.put at' t by') w) := by
  induction at' with
  | nil =>
    intro t w tv av bv hP hQ ht hb ha hbig
    exact rput_nil P Q t by' w tv av bv hQ ht hb ha
  | cons i r ih =>
    intro t w tv av bv hP hQ ht hb ha hbig
    have hlb := Pl.len_big t
    rw [synV_iff] at ht
    obtain ⟨hs, nv, lv, rfl, hn, hl⟩ := ht
    obtain ⟨na, nc, rfl, hnm⟩ := hn.form
    obtain ⟨la, lc, rfl, hlmm⟩ := hl.form
    have hb0 := hb
    obtain ⟨ma, mn, mc, ka, kn, kc, rfl⟩ := hb.form
    obtain ⟨ab, ao, ac, rfl, hac, hacm, habl, hai, har⟩ := ha.head
    unfold maxLen at hacm
    by_cases hin : 0 ≤ i ∧ i.toNat < t.l.length
    · obtain ⟨m, rfl⟩ : ∃ m : Nat, i = m := ⟨i.toNat, by omega⟩
      have hm : m < t.l.length := by have := hin.2; simpa using this
      rw [Pl.put_in r t by' m hm]
      rcases SynSl.cases hl with ⟨hk0, -⟩ | ⟨b, off, n', c', hv, hnl, hn0, hnc, hcm, hPb, hka⟩
      · rw [hk0] at hm; simp at hm
      injection hv with hv1 hv2 hv3
      subst hv1 hv3
      have hbx : t.l[m].big ≤ 268435456 := by have := Pl.mem_big (List.getElem_mem hm); have := Pl.big_eq t; omega
      have hpart : t.l.getD m Pl.none0 = t.l[m] := synGetD _ hm
      have fin : ∀ (e : Ending) (w' : World), PutPost P Q t.op t.n t.s na t.names.length nc t.l.length t.l m (Pl.put r t.l[m] by') w e w' → RepPost P Q ((Pl.put r t.l[m] by').map (fun y => { t with l := t.l.set m y })) w e w' := by
        intro e w' hpp
        cases hp : Pl.put r t.l[m] by' with
        | none => rw [hp] at hpp; exact hpp
        | some y =>
          rw [hp] at hpp
          obtain ⟨⟨ga, gc, rfl, hsl⟩, hbw⟩ := hpp
          refine ⟨⟨_, rfl, ?_⟩, hbw⟩
          rw [synV_iff]
          exact ⟨hs, _, _, rfl, (hn.keep (Same.of_below hbw hP)).mono (fun b hb => .inl hb), hsl⟩
      have HI : ∀ W av', Below w.heap.size w W → AtSl W av' r → ∀ pv, SynV W P (t.l.getD m Pl.none0) pv → Calls Try.prog 49 #[pv, av', .agg #[.int .i64 by'.op, .int .i64 by'.n, .string by'.s, .slice ma mn mc, .slice ka kn kc]] W (RepPost P Q (Pl.put r t.l[m] by') W) := by
        intro W av' hW hat pv hpv
        rw [hpart] at hpv
        exact ih t.l[m] W pv av' _ (fun b hb => Nat.lt_of_lt_of_le (hP b hb) hW.size) (fun b hb => Nat.lt_of_lt_of_le (hQ b hb) hW.size) hpv (hb0.keep (Same.of_below hW hQ)) hat hbx
      by_cases hac1 : ac = 1
      · obtain rfl : r = [] := List.eq_nil_of_length_eq_zero (by omega)
        subst hac1
        exact (rput_inB t.op t.n t.s na t.names.length nc b off t.l.length lc by'.op by'.n by'.s ma mn mc ka kn kc ab ao m hm w P Q t.l [] (Pl.put [] t.l[m] by') rfl rfl hP hQ hcm (by omega) (by omega) ha hPb hka HI).mono fin
      · exact (rput_in t.op t.n t.s na t.names.length nc b off t.l.length lc by'.op by'.n by'.s ma mn mc ka kn kc ab ao r.length ac m hm w P Q t.l r (Pl.put r t.l[m] by') rfl rfl hac1 hP hQ (by omega) (by omega) ha hPb hka HI).mono fin
    · rw [Pl.put_out r t by' i hin]
      exact rput_out t.op t.n t.s na t.names.length nc la t.l.length lc by'.op by'.n by'.s ma mn mc ka kn kc ab ao r.length ac i w habl hai (by omega) (by omega)
end Go.Proofs.Ytkhpihacjhhklaa
