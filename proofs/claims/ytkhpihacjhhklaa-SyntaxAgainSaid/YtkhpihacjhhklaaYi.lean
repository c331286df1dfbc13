/-
  Walks of layer 3: a part at a place.
-/
import Derived.Test.YtkhpihacjhhklaaYh
namespace Go.Proofs.Ytkhpihacjhhklaa
open Go Go.RowKit
open Pl (Syn)
set_option linter.unusedSimpArgs false

namespace Pl
theorem find_in (r : List Int) (t : Syn) (m : Nat) (h : m < t.l.length) : find ((m : Int) :: r) t = find r t.l[m] := by
  rw [find, dif_pos ⟨by omega, by simpa using h⟩]
  simp
theorem find_out (r : List Int) (t : Syn) (i : Int) (h : ¬ (0 ≤ i ∧ i.toNat < t.l.length)) : find (i :: r) t = none := by
  rw [find, dif_neg h]
end Pl
def FindPost (P : Nat → Prop) (x : Option Syn) (w : World) (e : Ending) (w' : World) : Prop :=
  (match x with
    | some y => ∃ v, e = .returned (.tuple #[v, .bool true]) ∧ SynV w' P y v
    | none => e = .returned (.tuple #[zeroSyn, .bool false])) ∧ Below w.heap.size w w'
/-- where the search stands -/
def FI (P : Nat → Prop) (t : Syn) (at' : List Int) (w wr : World) (k : Nat) : Prop :=
  ∃ (c : Syn) (na : Option Addr) (nn nc : Nat) (la : Option Addr) (ln lc : Nat), Below w.heap.size w wr ∧ Blk wr w.heap.size 25 #[.int .i64 c.op, .int .i64 c.n, .string c.s, .slice na nn nc, .slice la ln lc] ∧
    Blk wr (w.heap.size + 1) 25 #[.int .i64 0, .int .i64 0, .string ⟨#[]⟩, .slice none 0 0, .slice none 0 0] ∧ SynV wr P c (.agg #[.int .i64 c.op, .int .i64 c.n, .string c.s, .slice na nn nc, .slice la ln lc]) ∧ Pl.find (at'.drop k) c = Pl.find at' t
set_option maxRecDepth 100000 in
set_option maxHeartbeats 8000000 in
theorem find_any (P : Nat → Prop) (t : Syn) (at' : List Int) (w : World) (tv av : Value) (ga : Nat) (hP : ∀ b, P b → b < w.heap.size) (ht : SynV w P t tv) (hg : Blk w ga 39 #[av]) (ha : AtSl w av at') :
    Calls Try.prog 29 #[tv, .pointer (some ⟨ga, 0, none⟩)] w (FindPost P (Pl.find at' t) w) := by
  have HT := Lib.hid ht
  have HP := Lib.hid hP
  have HG := Lib.hid hg
  have HA := Lib.hid ha
  obtain ⟨na, nn, nc, la, ln, lc, rfl⟩ := ht.form
  obtain ⟨aa, ac, rfl, hal, hacm, -⟩ := ha
  unfold maxLen at hacm
  have hb0 := below2 w (.cells #[.int .i64 t.op, .int .i64 t.n, .string t.s, .slice na nn nc, .slice la ln lc] 25) (.cells #[.int .i64 0, .int .i64 0, .string ⟨#[]⟩, .slice none 0 0, .slice none 0 0] 25)
  have hbx := boxes_new w #[.int .i64 t.op, .int .i64 t.n, .string t.s, .slice na nn nc, .slice la ln lc] #[.int .i64 0, .int .i64 0, .string ⟨#[]⟩, .slice none 0 0, .slice none 0 0]
  have HF0 := Lib.hid (show FI P t at' w ((w.alloc (.cells #[.int .i64 t.op, .int .i64 t.n, .string t.s, .slice na nn nc, .slice la ln lc] 25)).alloc (.cells #[.int .i64 0, .int .i64 0, .string ⟨#[]⟩, .slice none 0 0, .slice none 0 0] 25)) 0 from ⟨t, na, nn, nc, la, ln, lc, hb0, hbx.1, hbx.2, HT.out.keep (Same.of_below hb0 HP.out), rfl⟩)
  have g0 := (hg.of_eq (hb0.block _ hg.lt)).cell 0 _ rfl
  have HGL := Lib.hid hg.lt
  obtain ⟨al, hla⟩ : ∃ al, al = at'.length := ⟨_, rfl⟩
  rw [← hla] at hal g0 HA HG
  have HLA := Lib.hid hla.symm
  clear ht hP hg hb0 hbx hla
  go_enter Try.func29, Try.ntmps29
  go_wp2_with fail
  generalize (w.alloc (.cells #[.int .i64 t.op, .int .i64 t.n, .string t.s, .slice na nn nc, .slice la ln lc] 25)).alloc (.cells #[.int .i64 0, .int .i64 0, .string ⟨#[]⟩, .slice none 0 0, .slice none 0 0] 25) = w0 at HF0 g0 ⊢
  go_loopg [9] (al + 1) (fun g iv wr => ∃ k : Nat, k ≤ al ∧ iv = .int .i64 k ∧ g = al + 1 - k ∧ FI P t at' w wr k)
  case atStart => exact ⟨0, by omega, rfl, by omega, HF0.out⟩
  case round =>
    obtain ⟨k, hk, rfl, hg, c, cna, cnn, cnc, cla, cln, clc, hbw, hbx, hbz, hcv, hfi⟩ := hrel
    have HBW := Lib.hid hbw
    have HBX := Lib.hid hbx
    have HBZ := Lib.hid hbz
    have HCV := Lib.hid hcv
    have HFI := Lib.hid hfi
    obtain ⟨x0, x1, x2, x3, x4⟩ := box_cells hbx
    obtain ⟨z0, z1, z2, z3, z4⟩ := box_cells hbz
    have q0 := hbz.thaw 0
    have q1 := hbz.thaw 1
    have q2 := hbz.thaw 2
    have q3 := hbz.thaw 3
    have q4 := hbz.thaw 4
    by_cases hlt : k < al
    · have hkl : k < at'.length := by rw [HLA.out]; exact hlt
      obtain ⟨a', c', he, -, -, h3⟩ := HA.out.below hbw
      injection he with he1 he2 he3
      subst he1 he3
      clear he2
      rcases h3 with h3 | ⟨ab, ao, rfl, -, hints⟩
      · rw [h3] at hkl; simp at hkl
      have a0 := hints k hkl
      have hdr : at'.drop k = at'[k] :: at'.drop (k + 1) := List.drop_eq_getElem_cons hkl
      rw [hdr] at hfi
      have hlen := synV_len hcv
      obtain ⟨hl1, hl2⟩ := hlen
      unfold maxLen at hl2
      generalize at'[k] = i at *
      by_cases hin : 0 ≤ i ∧ i.toNat < c.l.length
      · obtain ⟨m, rfl⟩ : ∃ m : Nat, i = m := ⟨i.toNat, by omega⟩
        have hm : m < c.l.length := by have := hin.2; simpa using this
        rw [Pl.find_in _ c m hm] at hfi
        have hcl := ((synV_iff _ _ _ _).1 hcv)
        obtain ⟨-, nv, lv, hve, -, hsl⟩ := hcl
        simp only [Value.agg.injEq, Array.mk.injEq, List.cons.injEq, and_true, true_and] at hve
        obtain ⟨rfl, rfl⟩ := hve
        rcases SynSl.cases hsl with ⟨hk0, -⟩ | ⟨b, off, n', cc', hv, hnl, hn0, hnc, hcm, hPb, hka⟩
        · rw [hk0] at hm; simp at hm
        injection hv with hv1 hv2 hv3
        subst hv1 hv2 hv3
        obtain ⟨xo, xn, xs, xna, xnn, xnc, xla, xln, xlc, hxo, e0, e1, e2, e3, e4, hxs⟩ := hka.part m hm
        have hxs2 := hxs
        rw [synV_iff] at hxs2
        obtain ⟨-, nv2, lv2, hve2, -, -⟩ := hxs2
        simp only [Value.agg.injEq, Array.mk.injEq, List.cons.injEq, and_true, Value.int.injEq, Value.string.injEq, true_and] at hve2
        obtain ⟨rfl, rfl, rfl, -, -⟩ := hve2
        have hmln : m < cln := by omega
        have w1 : decide ((m : Int) < 0) = false := decide_eq_false (by omega)
        have w2 : decide ((m : Int) ≥ (cln : Int)) = false := decide_eq_false (by omega)
        have w3 : decide ((cln : Int) ≤ (m : Int)) = false := decide_eq_false (by omega)
        have s0 := hbx.thaw 0
        have s1 := hbx.thaw 1
        have s2 := hbx.thaw 2
        have s3 := hbx.thaw 3
        have s4 := hbx.thaw 4
        have HNX := Lib.hid (show FI P t at' w (store5 wr w.heap.size 0 (.int .i64 c.l[m].op) (.int .i64 c.l[m].n) (.string c.l[m].s) (.slice xna xnn xnc) (.slice xla xln xlc)) (k + 1) from
          ⟨c.l[m], xna, xnn, xnc, xla, xln, xlc, store5_below HBW.out _ _ _ _ _ _ _ (Nat.le_refl _), by simpa [put5] using store5_blk HBX.out 0 (.int .i64 c.l[m].op) (.int .i64 c.l[m].n) (.string c.l[m].s) (.slice xna xnn xnc) (.slice xla xln xlc), HBZ.out.of_eq (store5_other _ _ _ _ _ _ _ _ _ (by omega)), hxs.keep (fun b hb => store5_other _ _ _ _ _ _ _ _ b (by have := HP.out b hb; omega)), hfi⟩)
        unfold store5 at HNX
        simp only [Nat.zero_add] at HNX
        have HG2 := Lib.hid hmln
        generalize c.l[m] = y at *
        clear hbw hbx hbz hcv hfi hdr hin hm hxs hsl hka hnl hl1 hints hkl
        go_wp2
        go_roundg (gk - 1)
        case measure => omega
        case rel => exact ⟨k + 1, by omega, by go_num, by omega, HNX.out⟩
      · rw [Pl.find_out _ c i hin] at hfi
        have HR := Lib.hid (show Pl.find at' t = none from hfi.symm)
        rw [hl1] at hin
        clear hbw hbx hbz hcv hfi hdr hints hkl
        by_cases hneg : i < 0
        · have w1 : decide (i < 0) = true := decide_eq_true hneg
          clear hneg hin
          go_wp2
          have HEND := store5_below HBW.out (w.heap.size + 1) 0 (.int .i64 0) (.int .i64 0) (.string ⟨#[]⟩) (.slice none 0 0) (.slice none 0 0) (by omega)
          have HENB := store5_blk HBZ.out 0 (.int .i64 0) (.int .i64 0) (.string ⟨#[]⟩) (.slice none 0 0) (.slice none 0 0)
          unfold store5 at HEND HENB
          simp only [Nat.zero_add] at HEND HENB
          obtain ⟨k0, k1, k2, k3, k4⟩ := box_cells (by simpa [put5] using HENB)
          refine bodyPost_ret (v := .tuple #[zeroSyn, .bool false]) (by simp [results, Try.results29, go_sem, k0, k1, k2, k3, k4, zeroSyn]; try rfl) rfl ?_
          rw [HR.out]
          exact ⟨rfl, HEND⟩
        · have w1 : decide (i < 0) = false := decide_eq_false hneg
          have w2 : decide (i ≥ (cln : Int)) = true := decide_eq_true (by omega)
          have w3 : decide ((cln : Int) ≤ i) = true := decide_eq_true (by omega)
          clear hneg hin
          go_wp2
          have HEND := store5_below HBW.out (w.heap.size + 1) 0 (.int .i64 0) (.int .i64 0) (.string ⟨#[]⟩) (.slice none 0 0) (.slice none 0 0) (by omega)
          have HENB := store5_blk HBZ.out 0 (.int .i64 0) (.int .i64 0) (.string ⟨#[]⟩) (.slice none 0 0) (.slice none 0 0)
          unfold store5 at HEND HENB
          simp only [Nat.zero_add] at HEND HENB
          obtain ⟨k0, k1, k2, k3, k4⟩ := box_cells (by simpa [put5] using HENB)
          refine bodyPost_ret (v := .tuple #[zeroSyn, .bool false]) (by simp [results, Try.results29, go_sem, k0, k1, k2, k3, k4, zeroSyn]; try rfl) rfl ?_
          rw [HR.out]
          exact ⟨rfl, HEND⟩
    · have hdr : at'.drop k = [] := List.drop_eq_nil_of_le (by rw [HLA.out]; omega)
      have HR := Lib.hid (show Pl.find at' t = some c from by rw [← hfi, hdr]; rfl)
      have n1 : ¬ w.heap.size + 1 = w.heap.size := by omega
      clear hbw hbx hbz hcv hfi g0 hdr
      go_wp2
      have HEND := store5_below HBW.out (w.heap.size + 1) 0 (.int .i64 c.op) (.int .i64 c.n) (.string c.s) (.slice cna cnn cnc) (.slice cla cln clc) (by omega)
      have HENB := store5_blk HBZ.out 0 (.int .i64 c.op) (.int .i64 c.n) (.string c.s) (.slice cna cnn cnc) (.slice cla cln clc)
      have HENV := HCV.out.keep (w' := store5 _ (w.heap.size + 1) 0 (.int .i64 c.op) (.int .i64 c.n) (.string c.s) (.slice cna cnn cnc) (.slice cla cln clc)) (fun b hb => store5_other _ (w.heap.size + 1) 0 (.int .i64 c.op) (.int .i64 c.n) (.string c.s) (.slice cna cnn cnc) (.slice cla cln clc) b (by have := HP.out b hb; omega))
      unfold store5 at HEND HENB HENV
      simp only [Nat.zero_add] at HEND HENB HENV
      obtain ⟨k0, k1, k2, k3, k4⟩ := box_cells (by simpa [put5] using HENB)
      refine bodyPost_ret (v := .tuple #[.agg #[.int .i64 c.op, .int .i64 c.n, .string c.s, .slice cna cnn cnc, .slice cla cln clc], .bool true]) (by simp [results, Try.results29, go_sem, k0, k1, k2, k3, k4]) rfl ?_
      rw [HR.out]
      exact ⟨⟨_, rfl, HENV⟩, HEND⟩
end Go.Proofs.Ytkhpihacjhhklaa
