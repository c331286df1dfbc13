/-
  Several texts in one (Rs Rt Ru Rv Ta Rw Rx Tb Tc).
-/
import Derived.Test.YtpkgiemdnfbopaaGreatMKc
import Derived.Test.YtpkgiemdnfbopaaGreatMKa
import Derived.Deep.RegionHeld3
import Derived.Test.YtpkgiemdnfbopaaGreatShelf
import Derived.Sort.OwnSortedInts
import Derived.Lib.OwnBridge
import Derived.Lib.RowBridge
import Derived.OwnWalkIn
import Derived.Maps.OwnSet
import Derived.Maps.Views
import Derived.Carry
namespace Go.Proofs.YtpkgiemdnfbopaaGreat
open Go Go.RowKit
open Pl (K Con)
set_option linter.unusedSimpArgs false
set_option linter.unusedVariables false
attribute [local go_sem] Oper.semAt_some

theorem wide_of {n : Nat} {P : Program} {f : FuncId} {args : Array Value} {w : World} {R : Ending → World → Prop} (h : ∀ F : Fence, Hid (F = Fence.wide) → CallsIn F n P f args w R) : Calls P f args w R := callsIn_wide.1 (h Fence.wide rfl)
/-- an index that a shift makes fall -/
def badI (b f : Int) (i : Int) : Bool := decide (f ≤ i) && decide (i + b < f)
theorem falls_any (t : Con) (b f : Int) : fallsB t b f = (Con.frees t 0).any (badI b f) := rfl
theorem below_own {β : Type} {B : Nat} {w : World} (h : w.heap.size ≤ B) : OwnFrom B (fun (_ : β) W => Below w.heap.size w W) := fun s A D row hs hg hr => hs.grown hg hs.size (fun k e => Nat.le_trans h (hr k e).1)
set_option maxRecDepth 100000 in
set_option maxHeartbeats 2000000 in
theorem cfalls_any (P : Nat → Prop) (t : Con) (b f : Int) (w : World) (v : Value) (hP : ∀ q, P q → q < w.heap.size) (ht : ConV w P t v) (ha : Con.allB t = true) (hd9 : t.depth ≤ 1000) (hb : -1000000 ≤ b ∧ b ≤ 1000000) (hf : -9223372036854775808 ≤ f ∧ f ≤ 9223372036854775807) :
    Calls Tryz.prog 100 #[v, .int .i64 b, .int .i64 f] w fun e w' => e = .returned (.bool (fallsB t b f)) ∧ Below w.heap.size w w' := by
  refine wide_of (n := 12) (fun F HF => ?_)
  have hd : F.depth = none := by rw [HF.out]; rfl
  have hro : F.round = none := by rw [HF.out]; rfl
  have hf1 : F.fn 100 := by rw [HF.out]; trivial
  have hf2 : F.fn 97 := by rw [HF.out]; trivial
  have hf3 : F.fn 134 := by rw [HF.out]; trivial
  have hdd : ∀ k : Nat, (F.depth.isSome = true → 1 ≤ k) := fun k h => by rw [hd] at h; cases h
  have HT := Lib.hid (fun W (hW : Below w.heap.size w W) => (ht.keep (Same.of_below hW hP)).mono (Q := fun q => q < w.heap.size) hP)
  obtain ⟨ka, kn, kc, na, nn, nc, la, ln, lc, rfl, -, -, -⟩ := ht.shape
  have HFI := Lib.hid (fun W => freeIndices_any W t.op t.n t.s ka na la kn kc nn nc ln lc)
  -- the boxes
  have hb1 := (boxN_new w 28 #[.int .i64 t.op, .int .i64 t.n, .string t.s, .slice ka kn kc, .slice na nn nc, .slice la ln lc])
  have hb2 := (boxN_new (w.alloc (.cells #[.int .i64 t.op, .int .i64 t.n, .string t.s, .slice ka kn kc, .slice na nn nc, .slice la ln lc] 28)) 3 #[.int .i64 b])
  have hb3 := (boxN_new ((w.alloc (.cells #[.int .i64 t.op, .int .i64 t.n, .string t.s, .slice ka kn kc, .slice na nn nc, .slice la ln lc] 28)).alloc (.cells #[.int .i64 b] 3)) 3 #[.int .i64 f])
  have hb4 := (boxN_new (((w.alloc (.cells #[.int .i64 t.op, .int .i64 t.n, .string t.s, .slice ka kn kc, .slice na nn nc, .slice la ln lc] 28)).alloc (.cells #[.int .i64 b] 3)).alloc (.cells #[.int .i64 f] 3)) 4 #[.bool false])
  have k1 := ((hb1.1.alloc (.cells #[.int .i64 b] 3)).alloc (.cells #[.int .i64 f] 3)).alloc (.cells #[.bool false] 4)
  have k2 := (hb2.1.alloc (.cells #[.int .i64 f] 3)).alloc (.cells #[.bool false] 4)
  have k3 := hb3.1.alloc (.cells #[.bool false] 4)
  have k4 := hb4.1
  have hbb := belowStep hb4.2 (belowStep hb3.2 (belowStep hb2.2 hb1.2))
  rw [size_alloc] at k2
  rw [size_alloc, size_alloc] at k3
  rw [size_alloc, size_alloc, size_alloc] at k4
  have c0 := k1.cell 0 (.int .i64 t.op) rfl
  have c1 := k1.cell 1 (.int .i64 t.n) rfl
  have c2 := k1.cell 2 (.string t.s) rfl
  have c3 := k1.cell 3 (.slice ka kn kc) rfl
  have c4 := k1.cell 4 (.slice na nn nc) rfl
  have c5 := k1.cell 5 (.slice la ln lc) rfl
  have hsz : ((((w.alloc (.cells #[.int .i64 t.op, .int .i64 t.n, .string t.s, .slice ka kn kc, .slice na nn nc, .slice la ln lc] 28)).alloc (.cells #[.int .i64 b] 3)).alloc (.cells #[.int .i64 f] 3)).alloc (.cells #[.bool false] 4)).heap.size = w.heap.size + 4 := by simp
  have HK1 := Lib.hid k1
  have HK2 := Lib.hid k2
  have HK3 := Lib.hid k3
  have HK4 := Lib.hid k4
  have HBB := Lib.hid hbb
  have HSZ := Lib.hid hsz
  clear hb1 hb2 hb3 hb4 k1 k2 k3 k4 hbb hsz ht hP
  refine callsIn_of_wp_marks Tryz.func100 rfl hf1 ?_ hro
  simp only [Tryz.ntmps100, List.size_toArray, List.length_cons, List.length_nil, Nat.reduceAdd, Nat.reduceSub, Array.replicate_succ, Array.replicate_zero, List.push_toArray, List.append_toArray, List.nil_append, List.cons_append]
  gi_wp2_with fail
  clear c0 c1 c2 c3 c4 c5
  generalize ((((w.alloc (.cells #[.int .i64 t.op, .int .i64 t.n, .string t.s, .slice ka kn kc, .slice na nn nc, .slice la ln lc] 28)).alloc (.cells #[.int .i64 b] 3)).alloc (.cells #[.int .i64 f] 3)).alloc (.cells #[.bool false] 4)) = w4 at *
  refine (toF HF _ (HFI.out _)).mono ?_
  rintro e w5 ⟨rfl, rfl⟩
  obtain ⟨hbc, hb5⟩ := boxN_new w4 28 #[.int .i64 t.op, .int .i64 t.n, .string t.s, .slice ka kn kc, .slice na nn nc, .slice la ln lc]
  have hsz5 := size_alloc w4 (.cells #[.int .i64 t.op, .int .i64 t.n, .string t.s, .slice ka kn kc, .slice na nn nc, .slice la ln lc] 28)
  have h2 := HK2.out.of_eq (hb5.block _ HK2.out.lt)
  have h3 := HK3.out.of_eq (hb5.block _ HK3.out.lt)
  have h4 := HK4.out.of_eq (hb5.block _ HK4.out.lt)
  have hb6 := belowStep hb5 HBB.out
  have hht := HT.out _ hb6
  have hsz4 := HSZ.out
  have HGT := Lib.hid (show w.heap.size + 4 ≤ w4.heap.size from by omega)
  generalize w4.alloc (.cells #[.int .i64 t.op, .int .i64 t.n, .string t.s, .slice ka kn kc, .slice na nn nc, .slice la ln lc] 28) = w6 at *
  have hlt6 : w4.heap.size < w6.heap.size := by omega
  have hlt7 : w.heap.size ≤ w6.heap.size := by omega
  have hlt8 : w.heap.size + 5 ≤ w6.heap.size := by omega
  clear hsz4 hsz5
  gi_wp2_with fail
  refine rangeO (a := _) hro (by omega) (gf := 134) (lb := #[.pointer (some ⟨w4.heap.size, 0, none⟩)]) rfl hf3 (enters_of Tryz.func134 (by kernel_rfl) rfl)
    (freeIdx_seq F HF (12 - 1) w4.heap.size w.heap.size w6.heap.size t ka na la kn kc nn nc ln lc w6 (by omega) hlt7 hlt7 hlt6 ha hd9 hbc hht) (Nat.le_refl _) (fun h k => KpF.trans h k) (fun W o o' h1 h2 h3 => KpF.put hlt7 W o o' h1 h2 h3) (Below.refl _ _) (fun _ => rfl)
    (fun pre W => (∀ x ∈ pre, badI b f x.1 = false) ∧ Blk W (w.heap.size + 1) 3 #[.int .i64 b] ∧ Blk W (w.heap.size + 1 + 1) 3 #[.int .i64 f] ∧ Blk W (w.heap.size + 1 + 1 + 1) 4 #[.bool false] ∧ Below w.heap.size w W)
    (fun pre W => (∃ x ∈ pre, badI b f x.1 = true) ∧ Blk W (w.heap.size + 1 + 1 + 1) 4 #[.bool true] ∧ Below w.heap.size w W)
    (fun s A D row hs hg hr => ⟨hs.1, blk_own (β := Unit) () A D row hs.2.1 hg hr, blk_own (β := Unit) () A D row hs.2.2.1 hg hr, blk_own (β := Unit) () A D row hs.2.2.2.1 hg hr, below_own (β := Unit) hlt7 () A D row hs.2.2.2.2 hg hr⟩)
    (fun s A D row hs hg hr => ⟨hs.1, blk_own (β := Unit) () A D row hs.2.1 hg hr, below_own (β := Unit) hlt7 () A D row hs.2.2 hg hr⟩)
    ⟨fun x hx => (by cases hx), h2, h3, h4, hb6⟩ (fun x => { tmps := #[.agg #[.int .i64 t.op, .int .i64 t.n, .string t.s, .slice ka kn kc, .slice na nn nc, .slice la ln lc], .int .i64 b, .int .i64 f, .pointer (some ⟨w.heap.size, 0, none⟩), .pointer (some ⟨w.heap.size + 1, 0, none⟩), .pointer (some ⟨w.heap.size + 1 + 1, 0, none⟩), .pointer (some ⟨w.heap.size + 1 + 1 + 1, 0, none⟩), .int .i64 x.1, .agg #[.int .i64 t.op, .int .i64 t.n, .string t.s, .slice ka kn kc, .slice na nn nc, .slice la ln lc], .func (.func 134) #[] #[.pointer (some ⟨w4.heap.size, 0, none⟩)], .int .i64 x.1, undef, undef, undef, undef, undef, undef, undef, undef, undef, undef], defers := [] }) ?assign ?body ?done ?stop
  case assign =>
    intro lp x W K hK
    unfold encI
    gi_wp2
    exact hK
  case body =>
    rintro lp pre x W ⟨h1, h2, h3, h4, h5⟩ hlen
    have x2 := h2.cell 0 (.int .i64 b) rfl
    have x3 := h3.cell 0 (.int .i64 f) rfl
    have x4 := h4.cell 0 (.bool false) rfl
    have f4 := h4.thaw 0
    have hxx := x.2
    have wx : wrap64 (x.1 + b) = x.1 + b := by rw [wrap64]; omega
    have HN := Lib.hid (fun (hbad : badI b f x.1 = false) => (show KeepsFrom w6.heap.size W W ∧ KpF w.heap.size w6.heap.size W W ∧ (∀ y ∈ pre ++ [x], badI b f y.1 = false) ∧ Blk W (w.heap.size + 1) 3 #[.int .i64 b] ∧ Blk W (w.heap.size + 1 + 1) 3 #[.int .i64 f] ∧ Blk W (w.heap.size + 1 + 1 + 1) 4 #[.bool false] ∧ Below w.heap.size w W from
      ⟨KeepsFrom.refl _ _, KpF.refl _ _ _, fun y hy => by
        rcases List.mem_append.1 hy with hy | hy
        · exact h1 y hy
        · rw [List.mem_singleton.1 hy]; exact hbad, h2, h3, h4, h5⟩))
    have HY := Lib.hid (fun (hbad : badI b f x.1 = true) => (show KeepsFrom w6.heap.size W (W.setCell ⟨w.heap.size + 1 + 1 + 1, 0, none⟩ (.bool true)) ∧ KpF w.heap.size w6.heap.size W (W.setCell ⟨w.heap.size + 1 + 1 + 1, 0, none⟩ (.bool true)) ∧ (∃ y ∈ pre ++ [x], badI b f y.1 = true) ∧ Blk (W.setCell ⟨w.heap.size + 1 + 1 + 1, 0, none⟩ (.bool true)) (w.heap.size + 1 + 1 + 1) 4 #[.bool true] ∧ Below w.heap.size w (W.setCell ⟨w.heap.size + 1 + 1 + 1, 0, none⟩ (.bool true)) from
      ⟨(KeepsOthers.setCell _ _ _).from _, ⟨(Below.refl _ W).setCell (p := ⟨w.heap.size + 1 + 1 + 1, 0, none⟩) (show w.heap.size ≤ w.heap.size + 1 + 1 + 1 from by omega) _, fun k o hk ho _ => (Below.heap_setCell W _ _ k (show k ≠ w.heap.size + 1 + 1 + 1 from by omega)).trans ho⟩, ⟨x, by simp, hbad⟩, by simpa using h4.set 0 (.bool true), h5.setCell (p := ⟨w.heap.size + 1 + 1 + 1, 0, none⟩) (show w.heap.size ≤ w.heap.size + 1 + 1 + 1 from by omega) _⟩))
    clear h1 h2 h3 h4 h5
    have HBD := Lib.hid (show badI b f x.1 = (decide (f ≤ x.1) && decide (x.1 + b < f)) from rfl)
    cases q1 : decide (f ≤ x.1)
    · have HE := Lib.hid (HN.out (by rw [HBD.out, q1]; rfl))
      clear HN HY
      gi_wp2
      exact HE.out
    cases q2 : decide (x.1 + b < f)
    · have HE := Lib.hid (HN.out (by rw [HBD.out, q1, q2]; rfl))
      clear HN HY
      gi_wp2
      exact HE.out
    · have HE := Lib.hid (HY.out (by rw [HBD.out, q1, q2]; rfl))
      clear HN HY
      gi_wp2
      exact HE.out
  case done =>
    rintro D ys W hD hS ⟨h1, h2, h3, h4, h5⟩ hK
    have x4 := h4.cell 0 (.bool false) rfl
    have f4 := h4.thaw 0
    have HV := Lib.hid (show fallsB t b f = false from by
      rw [falls_any, ← hS, List.any_map, List.any_eq_false]
      intro y hy
      have := h1 y hy
      simp only [Function.comp]
      rw [this]
      simp)
    have hk2 := (KeepsOthers.setCell W ⟨w.heap.size + 1 + 1 + 1, 0, none⟩ (.bool false)).same D _ hK rfl
    have h42 : Blk (W.setCell ⟨w.heap.size + 1 + 1 + 1, 0, none⟩ (.bool false)) (w.heap.size + 1 + 1 + 1) 4 #[.bool false] := by simpa using h4.set 0 (.bool false)
    have h52 := h5.setCell (p := ⟨w.heap.size + 1 + 1 + 1, 0, none⟩) (show w.heap.size ≤ w.heap.size + 1 + 1 + 1 from by omega) (.bool false)
    have d0 := cell_kept (h42.cell 0 (.bool false) rfl) (grownBy_putObj' _ D (.deferred none)) (fun r e => by cases e; exact ⟨_, hk2, rfl⟩)
    have HB := Lib.hid (h52.trans (belowK_b (w := w) (Nat.le_refl _) _ D _ (.deferred none) (Nat.le_trans hlt7 hD) hk2 rfl rfl))
    clear h1 h2 h3 h4 h5 h42 h52 hS
    gi_wp2
    refine ⟨by simp, .inl ⟨_, _, rfl, run_takeDeferred hk2, ?_⟩⟩
    refine ⟨.bool false, by simp [results, Tryz.f100, go_sem, d0], ?_⟩
    exact ⟨by rw [HV.out], HB.out⟩
  case stop =>
    rintro D pre W hD hpf ⟨⟨y, hy, hbad⟩, h4, h5⟩ hK
    have HV := Lib.hid (show fallsB t b f = true from by
      rw [falls_any, List.any_eq_true]
      exact ⟨y.1, hpf.subset (List.mem_map_of_mem hy), hbad⟩)
    have d0 := cell_kept (h4.cell 0 (.bool true) rfl) (grownBy_putObj' _ D (.deferred none)) (fun r e => by cases e; exact ⟨_, hK, rfl⟩)
    have HB := Lib.hid (h5.trans (belowK_b (w := w) (Nat.le_refl _) _ D _ (.deferred none) (Nat.le_trans hlt7 hD) hK rfl rfl))
    clear h4 h5 hy hbad hpf
    gi_wp2
    refine ⟨by simp, .inl ⟨_, _, rfl, run_takeDeferred hK, ?_⟩⟩
    refine ⟨.bool true, by simp [results, Tryz.f100, go_sem, d0], ?_⟩
    exact ⟨by rw [HV.out], HB.out⟩
end Go.Proofs.YtpkgiemdnfbopaaGreat
namespace Go.Proofs.YtpkgiemdnfbopaaGreat
open Go Go.RowKit
open Pl (K Con)
set_option linter.unusedSimpArgs false
set_option linter.unusedVariables false

theorem valid_depth (t : Con) (h : Con.validB t = true) : t.depth ≤ 1000 := by
  unfold Con.validB Con.small at h
  simp only [Bool.and_eq_true, decide_eq_true_eq] at h
  omega
/-- a constructor, or nothing, with a code -/
def OutP (x : Con × Int) (w : World) (e : Ending) (w' : World) : Prop := (∃ y, e = .returned (.tuple #[y, .int .i64 x.2]) ∧ ConV w' (· < w'.heap.size) x.1 y) ∧ Below w.heap.size w w'
/-- the same, in new blocks -/
def OutF (x : Con × Int) (w : World) (e : Ending) (w' : World) : Prop := (∃ y, e = .returned (.tuple #[y, .int .i64 x.2]) ∧ ConV w' (fun q => w.heap.size ≤ q ∧ q < w'.heap.size) x.1 y) ∧ Below w.heap.size w w'
theorem OutF.out {x : Con × Int} {w : World} {e : Ending} {w' : World} (h : OutF x w e w') : OutP x w e w' := by
  obtain ⟨⟨y, h1, h2⟩, hb⟩ := h
  exact ⟨⟨y, h1, h2.mono (fun q hq => hq.2)⟩, hb⟩
set_option maxRecDepth 100000 in
set_option maxHeartbeats 4000000 in
theorem cshift_new (t : Con) (b f : Int) (w : World) (v : Value) (ht : ConV w (· < w.heap.size) t v) (hb0 : -9223372036854775808 ≤ b) (hb1 : b ≤ 9223372036854775807) (hf0 : -9223372036854775808 ≤ f) (hf1 : f ≤ 9223372036854775807) :
    Calls Tryz.prog 44 #[v, .int .i64 b, .int .i64 f] w (OutF (shiftOut t b f) w) := by
  have HV := Lib.hid (fun W (hW : Below w.heap.size w W) => cvalid_any (· < w.heap.size) t W v (fun q hq => Nat.lt_of_lt_of_le hq hW.size) (ht.keep (Same.of_below hW (fun _ h => h))))
  have HF := Lib.hid (fun W (hW : Below w.heap.size w W) (hv : Con.validB t = true) (h : -1000000 ≤ b ∧ b ≤ 1000000) => cfalls_any (· < w.heap.size) t b f W v (fun q hq => Nat.lt_of_lt_of_le hq hW.size) (ht.keep (Same.of_below hW (fun _ h => h))) (valid_all t hv) (valid_depth t hv) h ⟨hf0, hf1⟩)
  have HO := Lib.hid (shiftOut_eq t b f)
  have HR := Lib.hid (fun (G : Nat) (hG : w.heap.size ≤ G) (wb W : World) (hv : Con.validB t = true) (hb : -1000000 ≤ b ∧ b ≤ 1000000) (hw : Below w.heap.size w wb) (hgl : G < wb.heap.size) (hbl : Blk wb G 139 #[.int .i64 20000]) (g1 g2 g3 : Nat) (hW : Below wb.heap.size wb W) (hs : ShiftBoxes W g1 g2 g3 G b f) (h1 : wb.heap.size ≤ g1) (h2 : wb.heap.size ≤ g2) (h3 : wb.heap.size ≤ g3) =>
    result_any w.heap.size G _ _ (shF b f) W (shift_change w.heap.size G g1 g2 g3 b f W hG hs (by omega) (by omega) (by omega) hb ⟨hf0, hf1⟩) hG t v (valid_all t hv) (hbl.of_eq (hW.block _ hgl)) ((ht.keep (Same.of_below (belowStep hW hw) (fun _ h => h)))))
  obtain ⟨ka, kn, kc, na, nn, nc, la, ln, lc, rfl, -, -, -⟩ := ht.shape
  obtain ⟨hbx, hbx2, hb⟩ := twoN_new w 28 28 #[.int .i64 t.op, .int .i64 t.n, .string t.s, .slice ka kn kc, .slice na nn nc, .slice la ln lc] #[.int .i64 0, .int .i64 0, .string ⟨#[]⟩, .slice none 0 0, .slice none 0 0, .slice none 0 0]
  have HBX := Lib.hid hbx
  have HZ := Lib.hid hbx2
  have HB := Lib.hid hb
  have c0 := hbx.cell 0 (.int .i64 t.op) rfl
  have c1 := hbx.cell 1 (.int .i64 t.n) rfl
  have c2 := hbx.cell 2 (.string t.s) rfl
  have c3 := hbx.cell 3 (.slice ka kn kc) rfl
  have c4 := hbx.cell 4 (.slice na nn nc) rfl
  have c5 := hbx.cell 5 (.slice la ln lc) rfl
  clear hbx hbx2 hb ht hb0 hb1 hf0 hf1
  go_enter Tryz.func44, Tryz.ntmps44
  go_wp2_with fail
  clear c0 c1 c2 c3 c4 c5
  generalize ((w.alloc (.cells #[.int .i64 t.op, .int .i64 t.n, .string t.s, .slice ka kn kc, .slice na nn nc, .slice la ln lc] 28)).alloc (.cells #[.int .i64 0, .int .i64 0, .string ⟨#[]⟩, .slice none 0 0, .slice none 0 0, .slice none 0 0] 28)) = w1 at *
  refine (HV.out _ HB.out).mono ?_
  rintro e w2 ⟨rfl, h2⟩
  replace HB := Lib.hid (belowStep h2 HB.out)
  replace HBX := Lib.hid (HBX.out.of_eq (h2.block _ HBX.out.lt))
  replace HZ := Lib.hid (HZ.out.of_eq (h2.block _ HZ.out.lt))
  clear h2
  cases hv : Con.validB t
  · clear HR
    have HO2 := Lib.hid (show shiftOut t b f = (Con.none0, 1) from by rw [HO.out, if_neg (by rw [hv]; simp)])
    have hzz := HZ.out
    have hz := store6_blk hzz 0 (.int .i64 0) (.int .i64 0) (.string ⟨#[]⟩) (.slice none 0 0) (.slice none 0 0) (.slice none 0 0)
    rw [put6_all] at hz
    have HE := Lib.hid (show OutF (shiftOut t b f) w (.returned (.tuple #[.agg #[.int .i64 0, .int .i64 0, .string ⟨#[]⟩, .slice none 0 0, .slice none 0 0, .slice none 0 0], .int .i64 1])) (store6 w2 (w.heap.size + 1) 0 (.int .i64 0) (.int .i64 0) (.string ⟨#[]⟩) (.slice none 0 0) (.slice none 0 0) (.slice none 0 0)) from ⟨⟨_, by rw [HO2.out], by rw [HO2.out]; exact conV_none _ _⟩, store6_below HB.out _ _ _ _ _ _ _ _ (Nat.le_succ _)⟩)
    unfold store6 at hz HE
    simp only [Nat.zero_add] at hz HE
    have z0 := hz.cell 0 (.int .i64 0) rfl
    have z1 := hz.cell 1 (.int .i64 0) rfl
    have z2 := hz.cell 2 (.string ⟨#[]⟩) rfl
    have z3 := hz.cell 3 (.slice none 0 0) rfl
    have z4 := hz.cell 4 (.slice none 0 0) rfl
    have z5 := hz.cell 5 (.slice none 0 0) rfl
    have r0 := hzz.cell 0 (.int .i64 0) rfl
    have r1 := hzz.cell 1 (.int .i64 0) rfl
    have r2 := hzz.cell 2 (.string ⟨#[]⟩) rfl
    have r3 := hzz.cell 3 (.slice none 0 0) rfl
    have r4 := hzz.cell 4 (.slice none 0 0) rfl
    have r5 := hzz.cell 5 (.slice none 0 0) rfl
    have t0 := hzz.thaw 0
    have t1 := hzz.thaw 1
    have t2 := hzz.thaw 2
    have t3 := hzz.thaw 3
    have t4 := hzz.thaw 4
    have t5 := hzz.thaw 5
    clear hz hzz HV HF HO HBX HZ HO2
    go_wp2
    refine bodyPost_ret (v := .tuple #[.agg #[.int .i64 0, .int .i64 0, .string ⟨#[]⟩, .slice none 0 0, .slice none 0 0, .slice none 0 0], .int .i64 1]) (by simp [results, Tryz.results44, go_sem, z0, z1, z2, z3, z4, z5]) rfl ?_
    exact HE.out
  have HVT := Lib.hid hv
  rw [hv] at HV
  clear hv
  cases q1 : decide (f < 0)
  rotate_left
  · clear HR
    have HO2 := Lib.hid (show shiftOut t b f = (Con.none0, 2) from by rw [HO.out, if_pos HVT.out, if_pos (.inl (of_decide_eq_true q1))])
    have hzz := HZ.out
    have hz := store6_blk hzz 0 (.int .i64 0) (.int .i64 0) (.string ⟨#[]⟩) (.slice none 0 0) (.slice none 0 0) (.slice none 0 0)
    rw [put6_all] at hz
    have HE := Lib.hid (show OutF (shiftOut t b f) w (.returned (.tuple #[.agg #[.int .i64 0, .int .i64 0, .string ⟨#[]⟩, .slice none 0 0, .slice none 0 0, .slice none 0 0], .int .i64 2])) (store6 w2 (w.heap.size + 1) 0 (.int .i64 0) (.int .i64 0) (.string ⟨#[]⟩) (.slice none 0 0) (.slice none 0 0) (.slice none 0 0)) from ⟨⟨_, by rw [HO2.out], by rw [HO2.out]; exact conV_none _ _⟩, store6_below HB.out _ _ _ _ _ _ _ _ (Nat.le_succ _)⟩)
    unfold store6 at hz HE
    simp only [Nat.zero_add] at hz HE
    have z0 := hz.cell 0 (.int .i64 0) rfl
    have z1 := hz.cell 1 (.int .i64 0) rfl
    have z2 := hz.cell 2 (.string ⟨#[]⟩) rfl
    have z3 := hz.cell 3 (.slice none 0 0) rfl
    have z4 := hz.cell 4 (.slice none 0 0) rfl
    have z5 := hz.cell 5 (.slice none 0 0) rfl
    have r0 := hzz.cell 0 (.int .i64 0) rfl
    have r1 := hzz.cell 1 (.int .i64 0) rfl
    have r2 := hzz.cell 2 (.string ⟨#[]⟩) rfl
    have r3 := hzz.cell 3 (.slice none 0 0) rfl
    have r4 := hzz.cell 4 (.slice none 0 0) rfl
    have r5 := hzz.cell 5 (.slice none 0 0) rfl
    have t0 := hzz.thaw 0
    have t1 := hzz.thaw 1
    have t2 := hzz.thaw 2
    have t3 := hzz.thaw 3
    have t4 := hzz.thaw 4
    have t5 := hzz.thaw 5
    clear hz hzz HV HF HO HBX HZ HO2
    go_wp2
    refine bodyPost_ret (v := .tuple #[.agg #[.int .i64 0, .int .i64 0, .string ⟨#[]⟩, .slice none 0 0, .slice none 0 0, .slice none 0 0], .int .i64 2]) (by simp [results, Tryz.results44, go_sem, z0, z1, z2, z3, z4, z5]) rfl ?_
    exact HE.out
  cases q2 : decide (b < -20000)
  rotate_left
  · clear HR
    have HO2 := Lib.hid (show shiftOut t b f = (Con.none0, 2) from by rw [HO.out, if_pos HVT.out, if_pos (.inr (.inl (of_decide_eq_true q2)))])
    have hzz := HZ.out
    have hz := store6_blk hzz 0 (.int .i64 0) (.int .i64 0) (.string ⟨#[]⟩) (.slice none 0 0) (.slice none 0 0) (.slice none 0 0)
    rw [put6_all] at hz
    have HE := Lib.hid (show OutF (shiftOut t b f) w (.returned (.tuple #[.agg #[.int .i64 0, .int .i64 0, .string ⟨#[]⟩, .slice none 0 0, .slice none 0 0, .slice none 0 0], .int .i64 2])) (store6 w2 (w.heap.size + 1) 0 (.int .i64 0) (.int .i64 0) (.string ⟨#[]⟩) (.slice none 0 0) (.slice none 0 0) (.slice none 0 0)) from ⟨⟨_, by rw [HO2.out], by rw [HO2.out]; exact conV_none _ _⟩, store6_below HB.out _ _ _ _ _ _ _ _ (Nat.le_succ _)⟩)
    unfold store6 at hz HE
    simp only [Nat.zero_add] at hz HE
    have z0 := hz.cell 0 (.int .i64 0) rfl
    have z1 := hz.cell 1 (.int .i64 0) rfl
    have z2 := hz.cell 2 (.string ⟨#[]⟩) rfl
    have z3 := hz.cell 3 (.slice none 0 0) rfl
    have z4 := hz.cell 4 (.slice none 0 0) rfl
    have z5 := hz.cell 5 (.slice none 0 0) rfl
    have r0 := hzz.cell 0 (.int .i64 0) rfl
    have r1 := hzz.cell 1 (.int .i64 0) rfl
    have r2 := hzz.cell 2 (.string ⟨#[]⟩) rfl
    have r3 := hzz.cell 3 (.slice none 0 0) rfl
    have r4 := hzz.cell 4 (.slice none 0 0) rfl
    have r5 := hzz.cell 5 (.slice none 0 0) rfl
    have t0 := hzz.thaw 0
    have t1 := hzz.thaw 1
    have t2 := hzz.thaw 2
    have t3 := hzz.thaw 3
    have t4 := hzz.thaw 4
    have t5 := hzz.thaw 5
    clear hz hzz HV HF HO HBX HZ HO2
    go_wp2
    refine bodyPost_ret (v := .tuple #[.agg #[.int .i64 0, .int .i64 0, .string ⟨#[]⟩, .slice none 0 0, .slice none 0 0, .slice none 0 0], .int .i64 2]) (by simp [results, Tryz.results44, go_sem, z0, z1, z2, z3, z4, z5]) rfl ?_
    exact HE.out
  cases q3 : decide (20000 < b)
  rotate_left
  · clear HR
    have HO2 := Lib.hid (show shiftOut t b f = (Con.none0, 2) from by rw [HO.out, if_pos HVT.out, if_pos (.inr (.inr (.inl (of_decide_eq_true q3))))])
    have hzz := HZ.out
    have hz := store6_blk hzz 0 (.int .i64 0) (.int .i64 0) (.string ⟨#[]⟩) (.slice none 0 0) (.slice none 0 0) (.slice none 0 0)
    rw [put6_all] at hz
    have HE := Lib.hid (show OutF (shiftOut t b f) w (.returned (.tuple #[.agg #[.int .i64 0, .int .i64 0, .string ⟨#[]⟩, .slice none 0 0, .slice none 0 0, .slice none 0 0], .int .i64 2])) (store6 w2 (w.heap.size + 1) 0 (.int .i64 0) (.int .i64 0) (.string ⟨#[]⟩) (.slice none 0 0) (.slice none 0 0) (.slice none 0 0)) from ⟨⟨_, by rw [HO2.out], by rw [HO2.out]; exact conV_none _ _⟩, store6_below HB.out _ _ _ _ _ _ _ _ (Nat.le_succ _)⟩)
    unfold store6 at hz HE
    simp only [Nat.zero_add] at hz HE
    have z0 := hz.cell 0 (.int .i64 0) rfl
    have z1 := hz.cell 1 (.int .i64 0) rfl
    have z2 := hz.cell 2 (.string ⟨#[]⟩) rfl
    have z3 := hz.cell 3 (.slice none 0 0) rfl
    have z4 := hz.cell 4 (.slice none 0 0) rfl
    have z5 := hz.cell 5 (.slice none 0 0) rfl
    have r0 := hzz.cell 0 (.int .i64 0) rfl
    have r1 := hzz.cell 1 (.int .i64 0) rfl
    have r2 := hzz.cell 2 (.string ⟨#[]⟩) rfl
    have r3 := hzz.cell 3 (.slice none 0 0) rfl
    have r4 := hzz.cell 4 (.slice none 0 0) rfl
    have r5 := hzz.cell 5 (.slice none 0 0) rfl
    have t0 := hzz.thaw 0
    have t1 := hzz.thaw 1
    have t2 := hzz.thaw 2
    have t3 := hzz.thaw 3
    have t4 := hzz.thaw 4
    have t5 := hzz.thaw 5
    clear hz hzz HV HF HO HBX HZ HO2
    go_wp2
    refine bodyPost_ret (v := .tuple #[.agg #[.int .i64 0, .int .i64 0, .string ⟨#[]⟩, .slice none 0 0, .slice none 0 0, .slice none 0 0], .int .i64 2]) (by simp [results, Tryz.results44, go_sem, z0, z1, z2, z3, z4, z5]) rfl ?_
    exact HE.out
  have c0 := HBX.out.cell 0 (.int .i64 t.op) rfl
  have c1 := HBX.out.cell 1 (.int .i64 t.n) rfl
  have c2 := HBX.out.cell 2 (.string t.s) rfl
  have c3 := HBX.out.cell 3 (.slice ka kn kc) rfl
  have c4 := HBX.out.cell 4 (.slice na nn nc) rfl
  have c5 := HBX.out.cell 5 (.slice la ln lc) rfl
  have HQ := Lib.hid (show ¬ f < 0 ∧ ¬ b < -20000 ∧ ¬ 20000 < b from ⟨of_decide_eq_false q1, of_decide_eq_false q2, of_decide_eq_false q3⟩)
  go_wp2_with fail
  clear c0 c1 c2 c3 c4 c5 q1 q2 q3
  refine (HF.out _ HB.out HVT.out (by have := HQ.out; omega)).mono ?_
  rintro e w3 ⟨rfl, h3⟩
  replace HB := Lib.hid (belowStep h3 HB.out)
  replace HBX := Lib.hid (HBX.out.of_eq (h3.block _ HBX.out.lt))
  replace HZ := Lib.hid (HZ.out.of_eq (h3.block _ HZ.out.lt))
  clear h3
  cases hfb : fallsB t b f
  rotate_left
  · clear HR
    have HO2 := Lib.hid (show shiftOut t b f = (Con.none0, 2) from by rw [HO.out, if_pos HVT.out, if_pos (.inr (.inr (.inr hfb)))])
    have hzz := HZ.out
    have hz := store6_blk hzz 0 (.int .i64 0) (.int .i64 0) (.string ⟨#[]⟩) (.slice none 0 0) (.slice none 0 0) (.slice none 0 0)
    rw [put6_all] at hz
    have HE := Lib.hid (show OutF (shiftOut t b f) w (.returned (.tuple #[.agg #[.int .i64 0, .int .i64 0, .string ⟨#[]⟩, .slice none 0 0, .slice none 0 0, .slice none 0 0], .int .i64 2])) (store6 w3 (w.heap.size + 1) 0 (.int .i64 0) (.int .i64 0) (.string ⟨#[]⟩) (.slice none 0 0) (.slice none 0 0) (.slice none 0 0)) from ⟨⟨_, by rw [HO2.out], by rw [HO2.out]; exact conV_none _ _⟩, store6_below HB.out _ _ _ _ _ _ _ _ (Nat.le_succ _)⟩)
    unfold store6 at hz HE
    simp only [Nat.zero_add] at hz HE
    have z0 := hz.cell 0 (.int .i64 0) rfl
    have z1 := hz.cell 1 (.int .i64 0) rfl
    have z2 := hz.cell 2 (.string ⟨#[]⟩) rfl
    have z3 := hz.cell 3 (.slice none 0 0) rfl
    have z4 := hz.cell 4 (.slice none 0 0) rfl
    have z5 := hz.cell 5 (.slice none 0 0) rfl
    have r0 := hzz.cell 0 (.int .i64 0) rfl
    have r1 := hzz.cell 1 (.int .i64 0) rfl
    have r2 := hzz.cell 2 (.string ⟨#[]⟩) rfl
    have r3 := hzz.cell 3 (.slice none 0 0) rfl
    have r4 := hzz.cell 4 (.slice none 0 0) rfl
    have r5 := hzz.cell 5 (.slice none 0 0) rfl
    have t0 := hzz.thaw 0
    have t1 := hzz.thaw 1
    have t2 := hzz.thaw 2
    have t3 := hzz.thaw 3
    have t4 := hzz.thaw 4
    have t5 := hzz.thaw 5
    clear hz hzz HV HF HO HBX HZ HO2
    go_wp2
    refine bodyPost_ret (v := .tuple #[.agg #[.int .i64 0, .int .i64 0, .string ⟨#[]⟩, .slice none 0 0, .slice none 0 0, .slice none 0 0], .int .i64 2]) (by simp [results, Tryz.results44, go_sem, z0, z1, z2, z3, z4, z5]) rfl ?_
    exact HE.out
  have HOUT := Lib.hid (show shiftOut t b f = fitOut (Con.reb (shF b f) t 0) from by
    rw [HO.out, if_pos HVT.out, if_neg (by rw [hfb]; have := HQ.out; simp; omega)]
    rfl)
  rw [hfb] at HF
  clear hfb HF HV HO
  go_wp2_with fail
  refine (newBuilder_any _).mono ?_
  rintro e wb ⟨rfl, hwb⟩
  have hnb := boxN_new w3 139 #[.int .i64 20000]
  rw [← hwb] at hnb
  have HGB := Lib.hid hnb.1
  have HGL := Lib.hid hnb.1.lt
  have HGS := Lib.hid (show w.heap.size + 1 < w3.heap.size from HZ.out.lt)
  have h4 := hnb.2
  replace HB := Lib.hid (belowStep h4 HB.out)
  replace HBX := Lib.hid (HBX.out.of_eq (h4.block _ HBX.out.lt))
  replace HZ := Lib.hid (HZ.out.of_eq (h4.block _ HZ.out.lt))
  clear hnb h4 hwb
  generalize w3.heap.size = G at *
  replace HR := Lib.hid (fun (W : World) => HR.out G (by have := HGS.out; omega) wb W HVT.out (by have := HQ.out; omega) HB.out HGL.out HGB.out)
  obtain ⟨u, c, hfo⟩ : ∃ u c, fitOut (Con.reb (shF b f) t 0) = (u, c) := ⟨_, _, rfl⟩
  have HFO := Lib.hid (show shiftOut t b f = (u, c) from HOUT.out.trans hfo)
  replace HR := Lib.hid (fun (W : World) g1 g2 g3 (hW : Below wb.heap.size wb W) (hs : ShiftBoxes W g1 g2 g3 G b f) (h1 : wb.heap.size ≤ g1) (h2 : wb.heap.size ≤ g2) (h3 : wb.heap.size ≤ g3) => (HR.out W g1 g2 g3 hW hs h1 h2 h3).mono (R' := fun e w' => Only G W w' ∧ ∃ y, e = .returned (.tuple #[y, .int .i64 c]) ∧ ConV w' (fun q => W.heap.size ≤ q ∧ q < w'.heap.size) u y) (by
    rintro e w' ⟨h1, y, h2, h3⟩
    rw [hfo] at h2 h3
    exact ⟨h1, y, h2, h3⟩))
  clear hfo HOUT
  have HSS := Lib.hid (fun W (hW : Only G wb W) => (show Below w.heap.size w W ∧ W.cell? ⟨w.heap.size, 0, none⟩ = some (.int .i64 t.op) ∧ W.cell? ⟨w.heap.size, 1, none⟩ = some (.int .i64 t.n) ∧ W.cell? ⟨w.heap.size, 2, none⟩ = some (.string t.s) ∧ W.cell? ⟨w.heap.size, 3, none⟩ = some (.slice ka kn kc) ∧ W.cell? ⟨w.heap.size, 4, none⟩ = some (.slice na nn nc) ∧ W.cell? ⟨w.heap.size, 5, none⟩ = some (.slice la ln lc) from by
    have h := hW.blk HBX.out (by have := HGS.out; omega)
    exact ⟨HB.out.trans (hW.to (by have := HGS.out; omega) HB.out.size), h.cell 0 _ rfl, h.cell 1 _ rfl, h.cell 2 _ rfl, h.cell 3 _ rfl, h.cell 4 _ rfl, h.cell 5 _ rfl⟩))
  have HST := Lib.hid (fun W (hW : Only G wb W) (x0 x1 x2 x3 x4 x5 : Value) => (show (fun W => Below w.heap.size w W ∧ W.cell? ⟨w.heap.size, 0, none⟩ = some (.int .i64 t.op) ∧ W.cell? ⟨w.heap.size, 1, none⟩ = some (.int .i64 t.n) ∧ W.cell? ⟨w.heap.size, 2, none⟩ = some (.string t.s) ∧ W.cell? ⟨w.heap.size, 3, none⟩ = some (.slice ka kn kc) ∧ W.cell? ⟨w.heap.size, 4, none⟩ = some (.slice na nn nc) ∧ W.cell? ⟨w.heap.size, 5, none⟩ = some (.slice la ln lc)) (((((((W).setCell ⟨w.heap.size + 1, 0, none⟩ x0).setCell ⟨w.heap.size + 1, 1, none⟩ x1).setCell ⟨w.heap.size + 1, 2, none⟩ x2).setCell ⟨w.heap.size + 1, 3, none⟩ x3).setCell ⟨w.heap.size + 1, 4, none⟩ x4).setCell ⟨w.heap.size + 1, 5, none⟩ x5) from by
    have h := (hW.blk HBX.out (by have := HGS.out; omega)).of_eq (store6_other W (w.heap.size + 1) 0 x0 x1 x2 x3 x4 x5 w.heap.size (by omega))
    have h2 := store6_below (HB.out.trans (hW.to (by have := HGS.out; omega) HB.out.size)) (w.heap.size + 1) 0 x0 x1 x2 x3 x4 x5 (Nat.le_succ _)
    unfold store6 at h h2
    simp only [Nat.zero_add] at h h2
    exact ⟨h2, h.cell 0 _ rfl, h.cell 1 _ rfl, h.cell 2 _ rfl, h.cell 3 _ rfl, h.cell 4 _ rfl, h.cell 5 _ rfl⟩))
  simp only at HST
  have HD0 := Lib.hid (Only.refl G wb).drew
  have HD1 := Lib.hid (Below.refl wb.heap.size wb).drew
  have HTH := Lib.hid (fun W (hW : Only G wb W) => hW.blk HZ.out (by have := HGS.out; omega))
  go_wp2_with fail
  go_region_held3 (fun W => Below w.heap.size w W ∧ W.cell? ⟨w.heap.size, 0, none⟩ = some (.int .i64 t.op) ∧ W.cell? ⟨w.heap.size, 1, none⟩ = some (.int .i64 t.n) ∧ W.cell? ⟨w.heap.size, 2, none⟩ = some (.string t.s) ∧ W.cell? ⟨w.heap.size, 3, none⟩ = some (.slice ka kn kc) ∧ W.cell? ⟨w.heap.size, 4, none⟩ = some (.slice na nn nc) ∧ W.cell? ⟨w.heap.size, 5, none⟩ = some (.slice la ln lc))
    (first | (with_reducible exact HSS.out _ HD0.out) | (with_reducible exact HSS.out _ (by assumption)) | (with_reducible exact HST.out _ (by assumption) _ _ _ _ _ _))
    (first
    | (go_at_call 101; (with_reducible refine (shifting_any G b f _).mono ?_); rintro e wn ⟨⟨g1, g2, g3, rfl, hsb, l1, l2, l3⟩, hbn⟩; have hbn2 := belowStep (a := wb) hbn (by first | assumption | exact HD1.out); have hon := only_below (N := G) hbn2; have k1 := Nat.le_trans HD1.out.size l1; have k2 := Nat.le_trans HD1.out.size l2; have k3 := Nat.le_trans HD1.out.size l3)
    | (go_at_call 61; (with_reducible refine (HR.out _ _ _ _ (by assumption) (by assumption) (by assumption) (by assumption) (by assumption)).mono ?_); rintro e wr ⟨hor, y, rfl, hy⟩; have hor2 := Only.trans hon hor; obtain ⟨ua, un, uc, va, vn, vc, xa, xn, xc, rfl, -, -, -⟩ := hy.shape; have hzr := HTH.out _ hor2; have t0 := hzr.thaw 0; have t1 := hzr.thaw 1; have t2 := hzr.thaw 2; have t3 := hzr.thaw 3; have t4 := hzr.thaw 4; have t5 := hzr.thaw 5; have r0 := hzr.cell 0 (.int .i64 0) rfl; have r1 := hzr.cell 1 (.int .i64 0) rfl; have r2 := hzr.cell 2 (.string ⟨#[]⟩) rfl; have r3 := hzr.cell 3 (.slice none 0 0) rfl; have r4 := hzr.cell 4 (.slice none 0 0) rfl; have r5 := hzr.cell 5 (.slice none 0 0) rfl))
  have hz := store6_blk hzr 0 (.int .i64 u.op) (.int .i64 u.n) (.string u.s) (.slice ua un uc) (.slice va vn vc) (.slice xa xn xc)
  rw [put6_all] at hz
  have HE := Lib.hid (show OutF (shiftOut t b f) w (.returned (.tuple #[.agg #[.int .i64 u.op, .int .i64 u.n, .string u.s, .slice ua un uc, .slice va vn vc, .slice xa xn xc], .int .i64 c])) (store6 wr (w.heap.size + 1) 0 (.int .i64 u.op) (.int .i64 u.n) (.string u.s) (.slice ua un uc) (.slice va vn vc) (.slice xa xn xc)) from by
    rw [HFO.out]
    refine ⟨⟨_, rfl, (hy.keep (fun q hq => store6_other _ _ _ _ _ _ _ _ _ q (by
      have := HGS.out
      have := hon.size
      have := HGL.out
      have := hq.1
      omega))).mono (fun q hq => ?_)⟩, store6_below (HB.out.trans (hor2.to (by have := HGS.out; omega) HB.out.size)) _ _ _ _ _ _ _ _ (Nat.le_succ _)⟩
    rw [store6_size]
    have := HGS.out
    have := hon.size
    have := HGL.out
    exact ⟨by have := hq.1; omega, hq.2⟩)
  unfold store6 at hz HE
  simp only [Nat.zero_add] at hz HE
  have z0 := hz.cell 0 (.int .i64 u.op) rfl
  have z1 := hz.cell 1 (.int .i64 u.n) rfl
  have z2 := hz.cell 2 (.string u.s) rfl
  have z3 := hz.cell 3 (.slice ua un uc) rfl
  have z4 := hz.cell 4 (.slice va vn vc) rfl
  have z5 := hz.cell 5 (.slice xa xn xc) rfl
  clear hy hzr hz HR HSS HST HTH HBX HZ HB hsb
  go_wp2
  refine bodyPost_ret (v := .tuple #[.agg #[.int .i64 u.op, .int .i64 u.n, .string u.s, .slice ua un uc, .slice va vn vc, .slice xa xn xc], .int .i64 c]) (by simp [results, Tryz.results44, go_sem, z0, z1, z2, z3, z4, z5]) rfl ?_
  exact HE.out
theorem cshift_any (t : Con) (b f : Int) (w : World) (v : Value) (ht : ConV w (· < w.heap.size) t v) (hb0 : -9223372036854775808 ≤ b) (hb1 : b ≤ 9223372036854775807) (hf0 : -9223372036854775808 ≤ f) (hf1 : f ≤ 9223372036854775807) :
    Calls Tryz.prog 44 #[v, .int .i64 b, .int .i64 f] w (OutP (shiftOut t b f) w) := (cshift_new t b f w v ht hb0 hb1 hf0 hf1).mono fun _ _ h => h.out
end Go.Proofs.YtpkgiemdnfbopaaGreat
namespace Go.Proofs.YtpkgiemdnfbopaaGreat
open Go Go.RowKit
open Pl (K Con)
set_option linter.unusedSimpArgs false
set_option linter.unusedVariables false

theorem cell_same {w w' : World} {g o : Nat} (h : w'.heap[g]? = w.heap[g]?) : w'.cell? ⟨g, o, none⟩ = w.cell? ⟨g, o, none⟩ := by
  simp only [World.cell?, h]
/-- the boxes of a substitution -/
structure SubBoxes (w : World) (g1 g2 G : Nat) (x : Value) : Prop where
  lst : Blk w g1 26 #[x]
  bld : Blk w g2 93 #[.pointer (some ⟨G, 0, none⟩)]
set_option maxRecDepth 100000 in
set_option maxHeartbeats 4000000 in
theorem subF_any (N G g1 g2 : Nat) (l : List Con) (xv : Value) (t : Con) (b d L : Int) (w : World) (v : Value) (hN : N ≤ G) (hs : SubBoxes w g1 g2 G xv) (hgn1 : g1 ≠ G) (hgn2 : g2 ≠ G) (hl : ConSl w (· < N) xv l) (hla : ∀ y ∈ l, Con.allB y = true) (hln : l.length ≤ 1000) (hG : Blk w G 139 #[.int .i64 L]) (ht : ConV w (· < N) t v) (ha : Con.nodeB t = true) (hlf : Con.leafy t b) (h0 : 0 ≤ L) (h1 : L ≤ 20000) (hb0 : 0 ≤ b) (hbd : b ≤ d) (hd0 : 1 ≤ d) (hd : d ≤ 401) :
    Calls Tryz.prog 102 #[v, .int .i64 b, .int .i64 d, .pointer (some ⟨g1, 0, none⟩), .pointer (some ⟨g2, 0, none⟩)] w (RebP N G (suF l t b) L d w) := by
  obtain ⟨hkv, hnl, hll⟩ := node_facts t ha
  have hnn := nodeB_n t ha
  have hgl := hG.lt
  have hl0 : t.l = [] := leaf_none t ha (by rcases hlf with h | h; exact .inr h; exact .inl h.1)
  have htt := (conV_iff _ _ _ _).1 ht
  obtain ⟨ka, kn, kc, na, nn, nc, la, ln, lc, rfl, -, -, -⟩ := ht.shape
  have HPRT := Lib.hid (show t.s.size ≤ maxLen ∧ KidV w (· < N) t.kind (.slice ka kn kc) ∧ StrSl w (· < N) (.slice na nn nc) t.names ∧ ConSl w (· < N) (.slice la ln lc) t.l from by
    obtain ⟨hs, kv', nv', lv', e, hk, hn, hl⟩ := htt
    simp only [Value.agg.injEq, Array.mk.injEq, List.cons.injEq, and_true, true_and] at e
    obtain ⟨rfl, rfl, rfl⟩ := e
    exact ⟨hs, hk, hn, hl⟩)
  clear htt
  obtain ⟨sa, lc9, rfl, -, -, -⟩ := hl.each
  obtain ⟨n, hn⟩ : ∃ n, n = l.length := ⟨_, rfl⟩
  have HN := Lib.hid hn
  have HL := Lib.hid hl
  rw [← hn] at hs hln HL
  obtain ⟨hbx, hbx2, hb⟩ := twoN_new w 28 28 #[.int .i64 t.op, .int .i64 t.n, .string t.s, .slice ka kn kc, .slice na nn nc, .slice la ln lc] #[.int .i64 0, .int .i64 0, .string ⟨#[]⟩, .slice none 0 0, .slice none 0 0, .slice none 0 0]
  have HGL := Lib.hid hgl
  have HBY0 := Lib.hid hbx2
  have HB := Lib.hid hb
  have HSB := Lib.hid (⟨hs.lst.of_eq (hb.block _ hs.lst.lt), hs.bld.of_eq (hb.block _ hs.bld.lt)⟩ : SubBoxes _ g1 g2 G _)
  have x1 := HSB.out.lst.cell 0 (.slice sa n lc9) rfl
  have x2 := HSB.out.bld.cell 0 (.pointer (some ⟨G, 0, none⟩)) rfl
  have c0 := hbx.cell 0 (.int .i64 t.op) rfl
  have c1 := hbx.cell 1 (.int .i64 t.n) rfl
  have c2 := hbx.cell 2 (.string t.s) rfl
  have c3 := hbx.cell 3 (.slice ka kn kc) rfl
  have c4 := hbx.cell 4 (.slice na nn nc) rfl
  have c5 := hbx.cell 5 (.slice la ln lc) rfl
  have fz := hbx.thaw 1
  have w2 : wrap64 (t.n - (n : Int)) = t.n - (n : Int) := by rw [wrap64]; omega
  by_cases h2 : t.op = 1
  rotate_left
  · have q1 : (t.op == 1) = false := by simpa using h2
    have HW := Lib.hid (show suF l t b = t from if_neg h2)
    rw [HW.out]
    obtain ⟨hbx9, hby9, hb9⟩ := twoN_new w 28 28 #[.int .i64 t.op, .int .i64 (t.n), .string t.s, .slice ka kn kc, .slice na nn nc, .slice la ln lc] #[.int .i64 0, .int .i64 0, .string ⟨#[]⟩, .slice none 0 0, .slice none 0 0, .slice none 0 0]
    have HSZ := Lib.hid (show ((w.alloc (.cells #[.int .i64 t.op, .int .i64 (t.n), .string t.s, .slice ka kn kc, .slice na nn nc, .slice la ln lc] 28)).alloc (.cells #[.int .i64 0, .int .i64 0, .string ⟨#[]⟩, .slice none 0 0, .slice none 0 0, .slice none 0 0] 28)).heap.size = w.heap.size + 2 by simp)
    have hgg := hG.of_eq (hb9.block _ hG.lt)
    have HBY := Lib.hid hby9
    have HOW := Lib.hid (only_below (N := G) hb9)
    have HNODE := Lib.hid (node_leaf N G t L d ((w.alloc (.cells #[.int .i64 t.op, .int .i64 (t.n), .string t.s, .slice ka kn kc, .slice na nn nc, .slice la ln lc] 28)).alloc (.cells #[.int .i64 0, .int .i64 0, .string ⟨#[]⟩, .slice none 0 0, .slice none 0 0, .slice none 0 0] 28)) (.agg #[.int .i64 t.op, .int .i64 (t.n), .string t.s, .slice ka kn kc, .slice na nn nc, .slice la ln lc]) hN hgg ((conV_iff _ _ _ _).2 (show t.s.size ≤ maxLen ∧ ∃ kv nv lv, (.agg #[.int .i64 t.op, .int .i64 (t.n), .string t.s, .slice ka kn kc, .slice na nn nc, .slice la ln lc] : Value) = .agg #[.int .i64 t.op, .int .i64 (t.n), .string t.s, kv, nv, lv] ∧ KidV _ _ t.kind kv ∧ StrSl _ _ nv t.names ∧ ConSl _ _ lv t.l from ⟨HPRT.out.1, _, _, _, rfl, HPRT.out.2.1.keep (Same.of_below hb9 (fun q (hq : q < N) => by omega)), HPRT.out.2.2.1.keep (Same.of_below hb9 (fun q (hq : q < N) => by omega)), HPRT.out.2.2.2.keep (Same.of_below hb9 (fun q (hq : q < N) => by omega))⟩)) hkv hl0 hnl h0 h1)
    have d0 := hbx9.cell 0 (.int .i64 t.op) rfl
    have d1 := hbx9.cell 1 (.int .i64 (t.n)) rfl
    have d2 := hbx9.cell 2 (.string t.s) rfl
    have d3 := hbx9.cell 3 (.slice ka kn kc) rfl
    have d4 := hbx9.cell 4 (.slice na nn nc) rfl
    have d5 := hbx9.cell 5 (.slice la ln lc) rfl
    clear hG ht ha hs hgl hlf h2 HPRT hbx9 hby9 hb9 hgg HW hl HL HSB HB HBY0 hbx hbx2 hb hla hn HN
    go_enter Tryz.func102, Tryz.ntmps102
    go_wp2_with fail
    clear c0 c1 c2 c3 c4 c5 d0 d1 d2 d3 d4 d5 x1 x2 q1 fz
    generalize ((w.alloc (.cells #[.int .i64 t.op, .int .i64 t.n, .string t.s, .slice ka kn kc, .slice na nn nc, .slice la ln lc] 28)).alloc (.cells #[.int .i64 0, .int .i64 0, .string ⟨#[]⟩, .slice none 0 0, .slice none 0 0, .slice none 0 0] 28)) = wa at *
    refine HNODE.out.mono ?_
    rintro e w3 ⟨ho3, y, u, c, rfl, hy, hg3, hc0, hc1, hfit⟩
    have hsz := HSZ.out
    have hss := ho3.size
    have hgl2 := HGL.out
    obtain ⟨ua, un, uc, va, vn, vc, xa, xn, xc, rfl, -, -, -⟩ := hy.shape
    have hby := ho3.blk HBY.out (show w.heap.size + 1 ≠ G from by have := HGL.out; omega)
    have t0 := hby.thaw 0
    have t1 := hby.thaw 1
    have t2 := hby.thaw 2
    have t3 := hby.thaw 3
    have t4 := hby.thaw 4
    have t5 := hby.thaw 5
    have r0 := hby.cell 0 (.int .i64 0) rfl
    have r1 := hby.cell 1 (.int .i64 0) rfl
    have r2 := hby.cell 2 (.string ⟨#[]⟩) rfl
    have r3 := hby.cell 3 (.slice none 0 0) rfl
    have r4 := hby.cell 4 (.slice none 0 0) rfl
    have r5 := hby.cell 5 (.slice none 0 0) rfl
    have hz := store6_blk hby 0 (.int .i64 u.op) (.int .i64 u.n) (.string u.s) (.slice ua un uc) (.slice va vn vc) (.slice xa xn xc)
    rw [put6_all] at hz
    have HE := Lib.hid (show RebP N G t L d w (.returned (.tuple #[.agg #[.int .i64 u.op, .int .i64 u.n, .string u.s, .slice ua un uc, .slice va vn vc, .slice xa xn xc], .bool (fitB t L d)])) (store6 w3 (w.heap.size + 1) 0 (.int .i64 u.op) (.int .i64 u.n) (.string u.s) (.slice ua un uc) (.slice va vn vc) (.slice xa xn xc)) from by
      refine ⟨store6_only (HOW.out.trans ho3) _ _ _ _ _ _ _ _ (.inr (Nat.le_succ _)), _, u, c, rfl, ?_, hg3.of_eq (store6_other _ _ _ _ _ _ _ _ _ G (by have := HGL.out; omega)), hc0, hc1, hfit⟩
      refine (hy.keep (fun q hq => store6_other _ _ _ _ _ _ _ _ _ q (by rcases hq with hq | hq <;> omega))).mono (fun q hq => ?_)
      rcases hq with hq | hq
      · exact .inl hq
      · exact .inr ⟨by omega, by rw [store6_size]; exact hq.2⟩)
    unfold store6 at hz HE
    simp only [Nat.zero_add] at hz HE
    have z0 := hz.cell 0 (.int .i64 u.op) rfl
    have z1 := hz.cell 1 (.int .i64 u.n) rfl
    have z2 := hz.cell 2 (.string u.s) rfl
    have z3 := hz.cell 3 (.slice ua un uc) rfl
    have z4 := hz.cell 4 (.slice va vn vc) rfl
    have z5 := hz.cell 5 (.slice xa xn xc) rfl
    clear hy hg3 hfit hby hz ho3 hsz hss hgl2 HNODE HOW HBY HSZ
    generalize fitB t L d = r at *
    go_wp2
    refine bodyPost_ret (v := .tuple #[.agg #[.int .i64 u.op, .int .i64 u.n, .string u.s, .slice ua un uc, .slice va vn vc, .slice xa xn xc], .bool r]) (by simp [results, Tryz.results102, go_sem, z0, z1, z2, z3, z4, z5]) rfl ?_
    exact HE.out
  have q1 : (t.op == 1) = true := by rw [h2]; rfl
  have hbn : b ≤ t.n := by
    rcases hlf with h | h
    · rw [h2] at h; cases h
    · exact h.2
  by_cases h3 : t.n - b < (n : Int)
  rotate_left
  · have w1 : wrap64 (t.n - b) = t.n - b := by rw [wrap64]; omega
    have q2 : decide (t.n - b < (n : Int)) = false := decide_eq_false h3
    have HW := Lib.hid (show suF l t b = (⟨t.op, t.n - (n : Int), t.s, t.kind, t.names, t.l⟩ : Con) from (by
      unfold suF
      rw [if_pos h2, if_neg (by rw [← HN.out]; exact h3), ← HN.out]))
    rw [HW.out]
    obtain ⟨hbx9, hby9, hb9⟩ := twoN_new w 28 28 #[.int .i64 t.op, .int .i64 (t.n - (n : Int)), .string t.s, .slice ka kn kc, .slice na nn nc, .slice la ln lc] #[.int .i64 0, .int .i64 0, .string ⟨#[]⟩, .slice none 0 0, .slice none 0 0, .slice none 0 0]
    have HSZ := Lib.hid (show ((w.alloc (.cells #[.int .i64 t.op, .int .i64 (t.n - (n : Int)), .string t.s, .slice ka kn kc, .slice na nn nc, .slice la ln lc] 28)).alloc (.cells #[.int .i64 0, .int .i64 0, .string ⟨#[]⟩, .slice none 0 0, .slice none 0 0, .slice none 0 0] 28)).heap.size = w.heap.size + 2 by simp)
    have hgg := hG.of_eq (hb9.block _ hG.lt)
    have HBY := Lib.hid hby9
    have HOW := Lib.hid (only_below (N := G) hb9)
    have HNODE := Lib.hid (node_leaf N G (⟨t.op, t.n - (n : Int), t.s, t.kind, t.names, t.l⟩ : Con) L d ((w.alloc (.cells #[.int .i64 t.op, .int .i64 (t.n - (n : Int)), .string t.s, .slice ka kn kc, .slice na nn nc, .slice la ln lc] 28)).alloc (.cells #[.int .i64 0, .int .i64 0, .string ⟨#[]⟩, .slice none 0 0, .slice none 0 0, .slice none 0 0] 28)) (.agg #[.int .i64 t.op, .int .i64 (t.n - (n : Int)), .string t.s, .slice ka kn kc, .slice na nn nc, .slice la ln lc]) hN hgg ((conV_iff _ _ _ _).2 (show t.s.size ≤ maxLen ∧ ∃ kv nv lv, (.agg #[.int .i64 t.op, .int .i64 (t.n - (n : Int)), .string t.s, .slice ka kn kc, .slice na nn nc, .slice la ln lc] : Value) = .agg #[.int .i64 t.op, .int .i64 (t.n - (n : Int)), .string t.s, kv, nv, lv] ∧ KidV _ _ t.kind kv ∧ StrSl _ _ nv t.names ∧ ConSl _ _ lv t.l from ⟨HPRT.out.1, _, _, _, rfl, HPRT.out.2.1.keep (Same.of_below hb9 (fun q (hq : q < N) => by omega)), HPRT.out.2.2.1.keep (Same.of_below hb9 (fun q (hq : q < N) => by omega)), HPRT.out.2.2.2.keep (Same.of_below hb9 (fun q (hq : q < N) => by omega))⟩)) hkv hl0 hnl h0 h1)
    have d0 := hbx9.cell 0 (.int .i64 t.op) rfl
    have d1 := hbx9.cell 1 (.int .i64 (t.n - (n : Int))) rfl
    have d2 := hbx9.cell 2 (.string t.s) rfl
    have d3 := hbx9.cell 3 (.slice ka kn kc) rfl
    have d4 := hbx9.cell 4 (.slice na nn nc) rfl
    have d5 := hbx9.cell 5 (.slice la ln lc) rfl
    obtain ⟨y1, y2⟩ : ((w.alloc (.cells #[.int .i64 t.op, .int .i64 (t.n - (n : Int)), .string t.s, .slice ka kn kc, .slice na nn nc, .slice la ln lc] 28)).alloc (.cells #[.int .i64 0, .int .i64 0, .string ⟨#[]⟩, .slice none 0 0, .slice none 0 0, .slice none 0 0] 28)).cell? ⟨g1, 0, none⟩ = some (.slice sa n lc9) ∧ ((w.alloc (.cells #[.int .i64 t.op, .int .i64 (t.n - (n : Int)), .string t.s, .slice ka kn kc, .slice na nn nc, .slice la ln lc] 28)).alloc (.cells #[.int .i64 0, .int .i64 0, .string ⟨#[]⟩, .slice none 0 0, .slice none 0 0, .slice none 0 0] 28)).cell? ⟨g2, 0, none⟩ = some (.pointer (some ⟨G, 0, none⟩)) := ⟨(hs.lst.of_eq (hb9.block _ hs.lst.lt)).cell 0 _ rfl, (hs.bld.of_eq (hb9.block _ hs.bld.lt)).cell 0 _ rfl⟩
    clear hG ht ha hs hgl hlf h2 HPRT hbx9 hby9 hb9 hgg HW hl HL HSB HB HBY0 hbx hbx2 hb hla hn HN h3
    go_enter Tryz.func102, Tryz.ntmps102
    go_wp2_with fail
    clear c0 c1 c2 c3 c4 c5 d0 d1 d2 d3 d4 d5 x1 x2 y1 y2 q1 q2 w1 w2 fz
    generalize ((w.alloc (.cells #[.int .i64 t.op, .int .i64 (t.n - (n : Int)), .string t.s, .slice ka kn kc, .slice na nn nc, .slice la ln lc] 28)).alloc (.cells #[.int .i64 0, .int .i64 0, .string ⟨#[]⟩, .slice none 0 0, .slice none 0 0, .slice none 0 0] 28)) = wa at *
    refine HNODE.out.mono ?_
    rintro e w3 ⟨ho3, y, u, c, rfl, hy, hg3, hc0, hc1, hfit⟩
    have hsz := HSZ.out
    have hss := ho3.size
    have hgl2 := HGL.out
    obtain ⟨ua, un, uc, va, vn, vc, xa, xn, xc, rfl, -, -, -⟩ := hy.shape
    have hby := ho3.blk HBY.out (show w.heap.size + 1 ≠ G from by have := HGL.out; omega)
    have t0 := hby.thaw 0
    have t1 := hby.thaw 1
    have t2 := hby.thaw 2
    have t3 := hby.thaw 3
    have t4 := hby.thaw 4
    have t5 := hby.thaw 5
    have r0 := hby.cell 0 (.int .i64 0) rfl
    have r1 := hby.cell 1 (.int .i64 0) rfl
    have r2 := hby.cell 2 (.string ⟨#[]⟩) rfl
    have r3 := hby.cell 3 (.slice none 0 0) rfl
    have r4 := hby.cell 4 (.slice none 0 0) rfl
    have r5 := hby.cell 5 (.slice none 0 0) rfl
    have hz := store6_blk hby 0 (.int .i64 u.op) (.int .i64 u.n) (.string u.s) (.slice ua un uc) (.slice va vn vc) (.slice xa xn xc)
    rw [put6_all] at hz
    have HE := Lib.hid (show RebP N G (⟨t.op, t.n - (n : Int), t.s, t.kind, t.names, t.l⟩ : Con) L d w (.returned (.tuple #[.agg #[.int .i64 u.op, .int .i64 u.n, .string u.s, .slice ua un uc, .slice va vn vc, .slice xa xn xc], .bool (fitB (⟨t.op, t.n - (n : Int), t.s, t.kind, t.names, t.l⟩ : Con) L d)])) (store6 w3 (w.heap.size + 1) 0 (.int .i64 u.op) (.int .i64 u.n) (.string u.s) (.slice ua un uc) (.slice va vn vc) (.slice xa xn xc)) from by
      refine ⟨store6_only (HOW.out.trans ho3) _ _ _ _ _ _ _ _ (.inr (Nat.le_succ _)), _, u, c, rfl, ?_, hg3.of_eq (store6_other _ _ _ _ _ _ _ _ _ G (by have := HGL.out; omega)), hc0, hc1, hfit⟩
      refine (hy.keep (fun q hq => store6_other _ _ _ _ _ _ _ _ _ q (by rcases hq with hq | hq <;> omega))).mono (fun q hq => ?_)
      rcases hq with hq | hq
      · exact .inl hq
      · exact .inr ⟨by omega, by rw [store6_size]; exact hq.2⟩)
    unfold store6 at hz HE
    simp only [Nat.zero_add] at hz HE
    have z0 := hz.cell 0 (.int .i64 u.op) rfl
    have z1 := hz.cell 1 (.int .i64 u.n) rfl
    have z2 := hz.cell 2 (.string u.s) rfl
    have z3 := hz.cell 3 (.slice ua un uc) rfl
    have z4 := hz.cell 4 (.slice va vn vc) rfl
    have z5 := hz.cell 5 (.slice xa xn xc) rfl
    clear hy hg3 hfit hby hz ho3 hsz hss hgl2 HNODE HOW HBY HSZ
    generalize fitB (⟨t.op, t.n - (n : Int), t.s, t.kind, t.names, t.l⟩ : Con) L d = r at *
    go_wp2
    refine bodyPost_ret (v := .tuple #[.agg #[.int .i64 u.op, .int .i64 u.n, .string u.s, .slice ua un uc, .slice va vn vc, .slice xa xn xc], .bool r]) (by simp [results, Tryz.results102, go_sem, z0, z1, z2, z3, z4, z5]) rfl ?_
    exact HE.out
  obtain ⟨k, hk⟩ : ∃ k : Nat, t.n - b = (k : Int) := ⟨(t.n - b).toNat, by omega⟩
  have hkn : k < n := by omega
  have hkl : k < l.length := by omega
  have w1 : wrap64 (t.n - b) = (k : Int) := by rw [wrap64]; omega
  have q2 : decide ((k : Int) < (n : Int)) = true := decide_eq_true (by omega)
  obtain ⟨bl, o, c', ya, yn, yc, ma, mn, mc, qa, qn, qc, e, hbl, f0, f1, f2, f3, f4, f5, hy0⟩ := hl.part k hkl
  injection e with e1 e2 e3
  subst e1 e3
  clear e2
  have HYA := Lib.hid (hla l[k] (List.getElem_mem hkl))
  have HW := Lib.hid (show suF l t b = Con.reb (shF b 0) l[k] 0 from (by
    unfold suF
    rw [if_pos h2, if_pos (by rw [← HN.out]; exact h3), hk, Int.toNat_natCast]
    simp [List.getD, List.getElem?_eq_getElem hkl]))
  rw [HW.out]
  generalize l[k] = y at *
  have HR0 := Lib.hid (fun (wx W : World) (g3 g4 g5 : Nat) (hx : Below w.heap.size w wx) (hW : Below wx.heap.size wx W) (hs : ShiftBoxes W g3 g4 g5 G b 0) (k1 : wx.heap.size ≤ g3) (k2 : wx.heap.size ≤ g4) (k3 : wx.heap.size ≤ g5) =>
    rebuilt_any N G _ _ (shF b 0) W (shift_change N G g3 g4 g5 b 0 W hN hs (by have := hx.size; omega) (by have := hx.size; omega) (by have := hx.size; omega) (by omega) (by omega)) hN y HYA.out L d 0 W _ (Only.refl G W) (hG.of_eq ((belowStep hW hx).block _ hgl)) (hy0.keep (Same.of_below (belowStep hW hx) (fun q (hq : q < N) => by omega))) h0 h1 (Int.le_refl _) (by omega) hd0 hd)
  have hbl2 : bl < w.heap.size ∧ bl ≠ G := ⟨by have : bl < N := hbl; omega, by have : bl < N := hbl; omega⟩
  have HYC := Lib.hid (fun (W : World) (hW : Only G w W) => (show W.cell? ⟨bl, o + k * 6, none⟩ = some (.int .i64 y.op) ∧ W.cell? ⟨bl, o + k * 6 + 1, none⟩ = some (.int .i64 y.n) ∧ W.cell? ⟨bl, o + k * 6 + 2, none⟩ = some (.string y.s) ∧ W.cell? ⟨bl, o + k * 6 + 3, none⟩ = some (.slice ya yn yc) ∧ W.cell? ⟨bl, o + k * 6 + 4, none⟩ = some (.slice ma mn mc) ∧ W.cell? ⟨bl, o + k * 6 + 5, none⟩ = some (.slice qa qn qc) from
    ⟨(cell_same (hW.heap hbl2.1 hbl2.2)).trans f0, (cell_same (hW.heap hbl2.1 hbl2.2)).trans f1, (cell_same (hW.heap hbl2.1 hbl2.2)).trans f2, (cell_same (hW.heap hbl2.1 hbl2.2)).trans f3, (cell_same (hW.heap hbl2.1 hbl2.2)).trans f4, (cell_same (hW.heap hbl2.1 hbl2.2)).trans f5⟩))
  have hgq1 : g1 ≠ w.heap.size + 1 := by have := hs.lst.lt; omega
  have hgq2 : g2 ≠ w.heap.size + 1 := by have := hs.bld.lt; omega
  clear hy0 HYA HW hl HL ht hla hlf HPRT hkv hnl hll hl0 hnn f0 f1 f2 f3 f4 f5 hbl hbl2 hn HN hkl
  have hGG := hG
  have hsz := (show ((w.alloc (.cells #[.int .i64 t.op, .int .i64 t.n, .string t.s, .slice ka kn kc, .slice na nn nc, .slice la ln lc] 28)).alloc (.cells #[.int .i64 0, .int .i64 0, .string ⟨#[]⟩, .slice none 0 0, .slice none 0 0, .slice none 0 0] 28)).heap.size = w.heap.size + 2 by simp)
  have HSZ := Lib.hid hsz
  clear hG hs hbx hbx2 hb hsz hGG h2 h3 hbn hgl
  have hwx : ((w.alloc (.cells #[.int .i64 t.op, .int .i64 t.n, .string t.s, .slice ka kn kc, .slice na nn nc, .slice la ln lc] 28)).alloc (.cells #[.int .i64 0, .int .i64 0, .string ⟨#[]⟩, .slice none 0 0, .slice none 0 0, .slice none 0 0] 28)) = ((w.alloc (.cells #[.int .i64 t.op, .int .i64 t.n, .string t.s, .slice ka kn kc, .slice na nn nc, .slice la ln lc] 28)).alloc (.cells #[.int .i64 0, .int .i64 0, .string ⟨#[]⟩, .slice none 0 0, .slice none 0 0, .slice none 0 0] 28)) := rfl
  go_enter Tryz.func102, Tryz.ntmps102
  go_wp2_with fail
  clear c0 c1 c2 c3 c4 c5 fz x1 x2 q1 q2 w1 w2 hwx
  generalize ((w.alloc (.cells #[.int .i64 t.op, .int .i64 t.n, .string t.s, .slice ka kn kc, .slice na nn nc, .slice la ln lc] 28)).alloc (.cells #[.int .i64 0, .int .i64 0, .string ⟨#[]⟩, .slice none 0 0, .slice none 0 0, .slice none 0 0] 28)) = wx at *
  have HR := Lib.hid (fun (W : World) g3 g4 g5 => HR0.out wx W g3 g4 g5 HB.out)
  have HOW := Lib.hid (only_below (N := G) HB.out)
  have HSS := Lib.hid (fun W (hW : Only G wx W) => (show Only G w W ∧ W.cell? ⟨g1, 0, none⟩ = some (.slice (some ⟨bl, o, none⟩) n lc9) ∧ W.cell? ⟨g2, 0, none⟩ = some (.pointer (some ⟨G, 0, none⟩)) ∧ W.cell? ⟨bl, o + k * 6, none⟩ = some (.int .i64 y.op) ∧ W.cell? ⟨bl, o + k * 6 + 1, none⟩ = some (.int .i64 y.n) ∧ W.cell? ⟨bl, o + k * 6 + 2, none⟩ = some (.string y.s) ∧ W.cell? ⟨bl, o + k * 6 + 3, none⟩ = some (.slice ya yn yc) ∧ W.cell? ⟨bl, o + k * 6 + 4, none⟩ = some (.slice ma mn mc) ∧ W.cell? ⟨bl, o + k * 6 + 5, none⟩ = some (.slice qa qn qc) from by
    have h := HOW.out.trans hW
    exact ⟨h, (hW.blk HSB.out.lst hgn1).cell 0 _ rfl, (hW.blk HSB.out.bld hgn2).cell 0 _ rfl, HYC.out W h⟩))
  have HST := Lib.hid (fun W (hW : Only G wx W) (x0 x1 x2 x3 x4 x5 : Value) => (show (fun W => Only G w W ∧ W.cell? ⟨g1, 0, none⟩ = some (.slice (some ⟨bl, o, none⟩) n lc9) ∧ W.cell? ⟨g2, 0, none⟩ = some (.pointer (some ⟨G, 0, none⟩)) ∧ W.cell? ⟨bl, o + k * 6, none⟩ = some (.int .i64 y.op) ∧ W.cell? ⟨bl, o + k * 6 + 1, none⟩ = some (.int .i64 y.n) ∧ W.cell? ⟨bl, o + k * 6 + 2, none⟩ = some (.string y.s) ∧ W.cell? ⟨bl, o + k * 6 + 3, none⟩ = some (.slice ya yn yc) ∧ W.cell? ⟨bl, o + k * 6 + 4, none⟩ = some (.slice ma mn mc) ∧ W.cell? ⟨bl, o + k * 6 + 5, none⟩ = some (.slice qa qn qc)) (((((((W).setCell ⟨w.heap.size + 1, 0, none⟩ x0).setCell ⟨w.heap.size + 1, 1, none⟩ x1).setCell ⟨w.heap.size + 1, 2, none⟩ x2).setCell ⟨w.heap.size + 1, 3, none⟩ x3).setCell ⟨w.heap.size + 1, 4, none⟩ x4).setCell ⟨w.heap.size + 1, 5, none⟩ x5) from by
    have h := HOW.out.trans hW
    have h5 := store6_only h (w.heap.size + 1) 0 x0 x1 x2 x3 x4 x5 (.inr (Nat.le_succ _))
    have h6 := ((hW.blk HSB.out.lst hgn1).of_eq (store6_other W (w.heap.size + 1) 0 x0 x1 x2 x3 x4 x5 g1 hgq1)).cell 0 _ rfl
    have h7 := ((hW.blk HSB.out.bld hgn2).of_eq (store6_other W (w.heap.size + 1) 0 x0 x1 x2 x3 x4 x5 g2 hgq2)).cell 0 _ rfl
    have h8 := HYC.out _ h5
    have h9 := And.intro h5 (And.intro h6 (And.intro h7 h8))
    unfold store6 at h9
    simp only [Nat.zero_add] at h9
    exact h9))
  simp only at HST
  have HD0 := Lib.hid (Only.refl G wx).drew
  have HD1 := Lib.hid (Below.refl wx.heap.size wx).drew
  have HTH := Lib.hid (fun W (hW : Only G wx W) => hW.blk HBY0.out (by have := HGL.out; omega))
  clear HR0 HYC
  go_wp2_with fail
  go_region_held3 (fun W => Only G w W ∧ W.cell? ⟨g1, 0, none⟩ = some (.slice (some ⟨bl, o, none⟩) n lc9) ∧ W.cell? ⟨g2, 0, none⟩ = some (.pointer (some ⟨G, 0, none⟩)) ∧ W.cell? ⟨bl, o + k * 6, none⟩ = some (.int .i64 y.op) ∧ W.cell? ⟨bl, o + k * 6 + 1, none⟩ = some (.int .i64 y.n) ∧ W.cell? ⟨bl, o + k * 6 + 2, none⟩ = some (.string y.s) ∧ W.cell? ⟨bl, o + k * 6 + 3, none⟩ = some (.slice ya yn yc) ∧ W.cell? ⟨bl, o + k * 6 + 4, none⟩ = some (.slice ma mn mc) ∧ W.cell? ⟨bl, o + k * 6 + 5, none⟩ = some (.slice qa qn qc))
    (first | (with_reducible exact HSS.out _ HD0.out) | (with_reducible exact HSS.out _ (by assumption)) | (with_reducible exact HST.out _ (by assumption) _ _ _ _ _ _))
    (first
    | (go_at_call 101; (with_reducible refine (shifting_any G b 0 _).mono ?_); rintro e wn ⟨⟨g3, g4, g5, rfl, hsb, l1, l2, l3⟩, hbn⟩; have hbn2 := belowStep (a := wx) hbn (by first | assumption | exact HD1.out); have hon := only_below (N := G) hbn2; have k1 := Nat.le_trans HD1.out.size l1; have k2 := Nat.le_trans HD1.out.size l2; have k3 := Nat.le_trans HD1.out.size l3)
    | (go_at_call 103; (with_reducible refine (HR.out _ _ _ _ (by assumption) (by assumption) (by assumption) (by assumption) (by assumption)).mono ?_); rintro e wr ⟨hor, yv, u, c, rfl, hy, hg3, hc0, hc1, hfit⟩; have hor2 := Only.trans hon hor; obtain ⟨ua, un, uc, va, vn, vc, xa, xn, xc, rfl, -, -, -⟩ := hy.shape; have hzr := HTH.out _ hor2; have t0 := hzr.thaw 0; have t1 := hzr.thaw 1; have t2 := hzr.thaw 2; have t3 := hzr.thaw 3; have t4 := hzr.thaw 4; have t5 := hzr.thaw 5; have r0 := hzr.cell 0 (.int .i64 0) rfl; have r1 := hzr.cell 1 (.int .i64 0) rfl; have r2 := hzr.cell 2 (.string ⟨#[]⟩) rfl; have r3 := hzr.cell 3 (.slice none 0 0) rfl; have r4 := hzr.cell 4 (.slice none 0 0) rfl; have r5 := hzr.cell 5 (.slice none 0 0) rfl))
  have hz := store6_blk hzr 0 (.int .i64 u.op) (.int .i64 u.n) (.string u.s) (.slice ua un uc) (.slice va vn vc) (.slice xa xn xc)
  rw [put6_all] at hz
  have hsz := HSZ.out
  have HE := Lib.hid (show RebP N G (Con.reb (shF b 0) y 0) L d w (.returned (.tuple #[.agg #[.int .i64 u.op, .int .i64 u.n, .string u.s, .slice ua un uc, .slice va vn vc, .slice xa xn xc], .bool (fitB (Con.reb (shF b 0) y 0) L d)])) (store6 wr (w.heap.size + 1) 0 (.int .i64 u.op) (.int .i64 u.n) (.string u.s) (.slice ua un uc) (.slice va vn vc) (.slice xa xn xc)) from by
    refine ⟨store6_only (HOW.out.trans hor2) _ _ _ _ _ _ _ _ (.inr (Nat.le_succ _)), _, u, c, rfl, ?_, hg3.of_eq (store6_other _ _ _ _ _ _ _ _ _ G (by have := HGL.out; omega)), hc0, hc1, hfit⟩
    have := hon.size
    have := HGL.out
    refine (hy.keep (fun q hq => store6_other _ _ _ _ _ _ _ _ _ q (by rcases hq with hq | hq <;> omega))).mono (fun q hq => ?_)
    rcases hq with hq | hq
    · exact .inl hq
    · exact .inr ⟨by omega, by rw [store6_size]; exact hq.2⟩)
  unfold store6 at hz HE
  simp only [Nat.zero_add] at hz HE
  have z0 := hz.cell 0 (.int .i64 u.op) rfl
  have z1 := hz.cell 1 (.int .i64 u.n) rfl
  have z2 := hz.cell 2 (.string u.s) rfl
  have z3 := hz.cell 3 (.slice ua un uc) rfl
  have z4 := hz.cell 4 (.slice va vn vc) rfl
  have z5 := hz.cell 5 (.slice xa xn xc) rfl
  clear hy hzr hz HR HSS HST HTH HBY0 HSB HB hsb hfit hsz HSZ HOW hg3
  generalize fitB (Con.reb (shF b 0) y 0) L d = r at *
  go_wp2
  refine bodyPost_ret (v := .tuple #[.agg #[.int .i64 u.op, .int .i64 u.n, .string u.s, .slice ua un uc, .slice va vn vc, .slice xa xn xc], .bool r]) (by simp [results, Tryz.results102, go_sem, z0, z1, z2, z3, z4, z5]) rfl ?_
  exact HE.out
end Go.Proofs.YtpkgiemdnfbopaaGreat
namespace Go.Proofs.YtpkgiemdnfbopaaGreat
open Go Go.RowKit
open Pl (K Con)
set_option linter.unusedSimpArgs false
set_option linter.unusedVariables false

/-- a substitution is a change -/
theorem sub_change (N G g1 g2 : Nat) (l : List Con) (xv : Value) (w : World) (hN : N ≤ G) (hgl : G < w.heap.size) (hs : SubBoxes w g1 g2 G xv) (h1 : g1 ≠ G) (h2 : g2 ≠ G) (hl : ConSl w (· < N) xv l) (hla : ∀ y ∈ l, Con.allB y = true) (hln : l.length ≤ 1000) :
    ChangeOk N G 102 #[.pointer (some ⟨g1, 0, none⟩), .pointer (some ⟨g2, 0, none⟩)] (suF l) w :=
  ⟨fun _ _ => by kernel_rfl, fun W t v b2 d L hW hg h0 h1' hb0 hbd hd0 hd1 hlf ha ht => subF_any N G g1 g2 l xv t b2 d L W v hN ⟨hW.blk hs.lst h1, hW.blk hs.bld h2⟩ h1 h2 (hl.keep (Same.of_only hW (fun q (hq : q < N) => ⟨by omega, by omega⟩))) hla hln hg ht ha hlf h0 h1' hb0 hbd hd0 hd1⟩
set_option maxRecDepth 100000 in
set_option maxHeartbeats 4000000 in
theorem csubst_new (t : Con) (l : List Con) (w : World) (v xv : Value) (ht : ConV w (· < w.heap.size) t v) (hl : ConSl w (· < w.heap.size) xv l) :
    Calls Tryz.prog 45 #[v, xv] w (OutF (substOut t l) w) := by
  have HV := Lib.hid (fun W (hW : Below w.heap.size w W) => cvalid_any (· < w.heap.size) t W v (fun q hq => Nat.lt_of_lt_of_le hq hW.size) (ht.keep (Same.of_below hW (fun _ h => h))))
  have HALL := Lib.hid (fun W (hW : Below w.heap.size w W) => allC_any 52 (fun _ _ => by kernel_rfl) Con.validB (· < w.heap.size) l (fun t _ W v h1 h2 => cvalid_any (· < w.heap.size) t W v h1 h2) W xv (fun q hq => Nat.lt_of_lt_of_le hq hW.size) (hl.keep (Same.of_below hW (fun _ h => h))))
  have HO := Lib.hid (substOut_eq t l)
  have HR := Lib.hid (fun (wb : World) (G g1 g2 : Nat) (hG : w.heap.size ≤ G) (hv : Con.validB t = true) (hlv : l.all Con.validB = true) (hln : l.length ≤ 1000) (hw : Below w.heap.size w wb) (hbl : Blk wb G 139 #[.int .i64 20000]) (hs : SubBoxes wb g1 g2 G xv) (h1 : g1 ≠ G) (h2 : g2 ≠ G) =>
    result_any w.heap.size G _ _ (suF l) wb (sub_change w.heap.size G g1 g2 l xv wb hG hbl.lt hs h1 h2 (hl.keep (Same.of_below hw (fun _ h => h))) (fun y hy => valid_all y (List.all_eq_true.1 hlv y hy)) hln) hG t v (valid_all t hv) hbl (ht.keep (Same.of_below hw (fun _ h => h))))
  obtain ⟨ka, kn, kc, na, nn, nc, la, ln, lc, rfl, -, -, -⟩ := ht.shape
  obtain ⟨sa, lc9, rfl, hmn, hmx, -⟩ := hl.each
  obtain ⟨n, hn⟩ : ∃ n, n = l.length := ⟨_, rfl⟩
  have HN := Lib.hid hn
  rw [← hn] at HALL HR HO hmn ⊢
  have hn63 : n ≤ 9223372036854775807 := by unfold maxLen at hmx; omega
  have hb1 := boxN_new w 28 #[.int .i64 t.op, .int .i64 t.n, .string t.s, .slice ka kn kc, .slice na nn nc, .slice la ln lc]
  have hb2 := boxN_new (w.alloc (.cells #[.int .i64 t.op, .int .i64 t.n, .string t.s, .slice ka kn kc, .slice na nn nc, .slice la ln lc] 28)) 26 #[.slice sa n lc9]
  have hb3 := boxN_new ((w.alloc (.cells #[.int .i64 t.op, .int .i64 t.n, .string t.s, .slice ka kn kc, .slice na nn nc, .slice la ln lc] 28)).alloc (.cells #[.slice sa n lc9] 26)) 28 #[.int .i64 0, .int .i64 0, .string ⟨#[]⟩, .slice none 0 0, .slice none 0 0, .slice none 0 0]
  have k1 := (hb1.1.alloc (.cells #[.slice sa n lc9] 26)).alloc (.cells #[.int .i64 0, .int .i64 0, .string ⟨#[]⟩, .slice none 0 0, .slice none 0 0, .slice none 0 0] 28)
  have k2 := hb2.1.alloc (.cells #[.int .i64 0, .int .i64 0, .string ⟨#[]⟩, .slice none 0 0, .slice none 0 0, .slice none 0 0] 28)
  have k3 := hb3.1
  have hbb := belowStep hb3.2 (belowStep hb2.2 hb1.2)
  rw [size_alloc] at k2
  rw [size_alloc, size_alloc] at k3
  have HBX := Lib.hid k1
  have HBL := Lib.hid k2
  have HZ := Lib.hid k3
  have HB := Lib.hid hbb
  have c0 := k1.cell 0 (.int .i64 t.op) rfl
  have c1 := k1.cell 1 (.int .i64 t.n) rfl
  have c2 := k1.cell 2 (.string t.s) rfl
  have c3 := k1.cell 3 (.slice ka kn kc) rfl
  have c4 := k1.cell 4 (.slice na nn nc) rfl
  have c5 := k1.cell 5 (.slice la ln lc) rfl
  clear hb1 hb2 hb3 k1 k2 k3 hbb ht hl hmx hmn hn
  go_enter Tryz.func45, Tryz.ntmps45
  go_wp2_with fail
  clear c0 c1 c2 c3 c4 c5
  generalize (((w.alloc (.cells #[.int .i64 t.op, .int .i64 t.n, .string t.s, .slice ka kn kc, .slice na nn nc, .slice la ln lc] 28)).alloc (.cells #[.slice sa n lc9] 26)).alloc (.cells #[.int .i64 0, .int .i64 0, .string ⟨#[]⟩, .slice none 0 0, .slice none 0 0, .slice none 0 0] 28)) = w1 at *
  refine (HV.out _ HB.out).mono ?_
  rintro e w2 ⟨rfl, h2⟩
  replace HB := Lib.hid (belowStep h2 HB.out)
  replace HBX := Lib.hid (HBX.out.of_eq (h2.block _ HBX.out.lt))
  replace HBL := Lib.hid (HBL.out.of_eq (h2.block _ HBL.out.lt))
  replace HZ := Lib.hid (HZ.out.of_eq (h2.block _ HZ.out.lt))
  clear h2
  cases hv : Con.validB t
  · clear HR
    have HO2 := Lib.hid (show substOut t l = (Con.none0, 1) from by rw [HO.out, if_neg (by rw [hv]; simp)])
    have hzz := HZ.out
    have hz := store6_blk hzz 0 (.int .i64 0) (.int .i64 0) (.string ⟨#[]⟩) (.slice none 0 0) (.slice none 0 0) (.slice none 0 0)
    rw [put6_all] at hz
    have HE := Lib.hid (show OutF (substOut t l) w (.returned (.tuple #[.agg #[.int .i64 0, .int .i64 0, .string ⟨#[]⟩, .slice none 0 0, .slice none 0 0, .slice none 0 0], .int .i64 1])) (store6 w2 (w.heap.size + 1 + 1) 0 (.int .i64 0) (.int .i64 0) (.string ⟨#[]⟩) (.slice none 0 0) (.slice none 0 0) (.slice none 0 0)) from ⟨⟨_, by rw [HO2.out], by rw [HO2.out]; exact conV_none _ _⟩, store6_below HB.out _ _ _ _ _ _ _ _ (by omega)⟩)
    unfold store6 at hz HE
    simp only [Nat.zero_add] at hz HE
    have z0 := hz.cell 0 (.int .i64 0) rfl
    have z1 := hz.cell 1 (.int .i64 0) rfl
    have z2 := hz.cell 2 (.string ⟨#[]⟩) rfl
    have z3 := hz.cell 3 (.slice none 0 0) rfl
    have z4 := hz.cell 4 (.slice none 0 0) rfl
    have z5 := hz.cell 5 (.slice none 0 0) rfl
    have r0 := hzz.cell 0 (.int .i64 0) rfl
    have r1 := hzz.cell 1 (.int .i64 0) rfl
    have r2 := hzz.cell 2 (.string ⟨#[]⟩) rfl
    have r3 := hzz.cell 3 (.slice none 0 0) rfl
    have r4 := hzz.cell 4 (.slice none 0 0) rfl
    have r5 := hzz.cell 5 (.slice none 0 0) rfl
    have t0 := hzz.thaw 0
    have t1 := hzz.thaw 1
    have t2 := hzz.thaw 2
    have t3 := hzz.thaw 3
    have t4 := hzz.thaw 4
    have t5 := hzz.thaw 5
    clear hz hzz HV HALL HO HBX HZ HO2
    go_wp2
    refine bodyPost_ret (v := .tuple #[.agg #[.int .i64 0, .int .i64 0, .string ⟨#[]⟩, .slice none 0 0, .slice none 0 0, .slice none 0 0], .int .i64 1]) (by simp [results, Tryz.results45, go_sem, z0, z1, z2, z3, z4, z5]) rfl ?_
    exact HE.out
  have HVT := Lib.hid hv
  rw [hv] at HV
  clear hv
  have x0 := HBL.out.cell 0 (.slice sa n lc9) rfl
  go_wp2_with fail
  clear x0
  refine (HALL.out _ HB.out).mono ?_
  rintro e w3 ⟨rfl, h3⟩
  replace HB := Lib.hid (belowStep h3 HB.out)
  replace HBX := Lib.hid (HBX.out.of_eq (h3.block _ HBX.out.lt))
  replace HBL := Lib.hid (HBL.out.of_eq (h3.block _ HBL.out.lt))
  replace HZ := Lib.hid (HZ.out.of_eq (h3.block _ HZ.out.lt))
  clear h3
  cases hlv : l.all Con.validB
  · clear HR
    have HO2 := Lib.hid (show substOut t l = (Con.none0, 1) from by rw [HO.out, if_neg (by rw [hlv]; simp)])
    have hzz := HZ.out
    have hz := store6_blk hzz 0 (.int .i64 0) (.int .i64 0) (.string ⟨#[]⟩) (.slice none 0 0) (.slice none 0 0) (.slice none 0 0)
    rw [put6_all] at hz
    have HE := Lib.hid (show OutF (substOut t l) w (.returned (.tuple #[.agg #[.int .i64 0, .int .i64 0, .string ⟨#[]⟩, .slice none 0 0, .slice none 0 0, .slice none 0 0], .int .i64 1])) (store6 w3 (w.heap.size + 1 + 1) 0 (.int .i64 0) (.int .i64 0) (.string ⟨#[]⟩) (.slice none 0 0) (.slice none 0 0) (.slice none 0 0)) from ⟨⟨_, by rw [HO2.out], by rw [HO2.out]; exact conV_none _ _⟩, store6_below HB.out _ _ _ _ _ _ _ _ (by omega)⟩)
    unfold store6 at hz HE
    simp only [Nat.zero_add] at hz HE
    have z0 := hz.cell 0 (.int .i64 0) rfl
    have z1 := hz.cell 1 (.int .i64 0) rfl
    have z2 := hz.cell 2 (.string ⟨#[]⟩) rfl
    have z3 := hz.cell 3 (.slice none 0 0) rfl
    have z4 := hz.cell 4 (.slice none 0 0) rfl
    have z5 := hz.cell 5 (.slice none 0 0) rfl
    have r0 := hzz.cell 0 (.int .i64 0) rfl
    have r1 := hzz.cell 1 (.int .i64 0) rfl
    have r2 := hzz.cell 2 (.string ⟨#[]⟩) rfl
    have r3 := hzz.cell 3 (.slice none 0 0) rfl
    have r4 := hzz.cell 4 (.slice none 0 0) rfl
    have r5 := hzz.cell 5 (.slice none 0 0) rfl
    have t0 := hzz.thaw 0
    have t1 := hzz.thaw 1
    have t2 := hzz.thaw 2
    have t3 := hzz.thaw 3
    have t4 := hzz.thaw 4
    have t5 := hzz.thaw 5
    clear hz hzz HV HALL HO HBX HZ HO2
    go_wp2
    refine bodyPost_ret (v := .tuple #[.agg #[.int .i64 0, .int .i64 0, .string ⟨#[]⟩, .slice none 0 0, .slice none 0 0, .slice none 0 0], .int .i64 1]) (by simp [results, Tryz.results45, go_sem, z0, z1, z2, z3, z4, z5]) rfl ?_
    exact HE.out
  have HLV := Lib.hid hlv
  rw [hlv] at HALL
  have x0 := HBL.out.cell 0 (.slice sa n lc9) rfl
  cases q1 : decide ((1000 : Int) < (n : Int))
  rotate_left
  · clear HR
    have HLN := Lib.hid (show 1000 < n from by have := of_decide_eq_true q1; omega)
    have HO2 := Lib.hid (show substOut t l = (Con.none0, 5) from by rw [HO.out, if_pos (by rw [HVT.out, HLV.out]; rfl), if_pos HLN.out])
    have hzz := HZ.out
    have hz := store6_blk hzz 0 (.int .i64 0) (.int .i64 0) (.string ⟨#[]⟩) (.slice none 0 0) (.slice none 0 0) (.slice none 0 0)
    rw [put6_all] at hz
    have HE := Lib.hid (show OutF (substOut t l) w (.returned (.tuple #[.agg #[.int .i64 0, .int .i64 0, .string ⟨#[]⟩, .slice none 0 0, .slice none 0 0, .slice none 0 0], .int .i64 5])) (store6 w3 (w.heap.size + 1 + 1) 0 (.int .i64 0) (.int .i64 0) (.string ⟨#[]⟩) (.slice none 0 0) (.slice none 0 0) (.slice none 0 0)) from ⟨⟨_, by rw [HO2.out], by rw [HO2.out]; exact conV_none _ _⟩, store6_below HB.out _ _ _ _ _ _ _ _ (by omega)⟩)
    unfold store6 at hz HE
    simp only [Nat.zero_add] at hz HE
    have z0 := hz.cell 0 (.int .i64 0) rfl
    have z1 := hz.cell 1 (.int .i64 0) rfl
    have z2 := hz.cell 2 (.string ⟨#[]⟩) rfl
    have z3 := hz.cell 3 (.slice none 0 0) rfl
    have z4 := hz.cell 4 (.slice none 0 0) rfl
    have z5 := hz.cell 5 (.slice none 0 0) rfl
    have r0 := hzz.cell 0 (.int .i64 0) rfl
    have r1 := hzz.cell 1 (.int .i64 0) rfl
    have r2 := hzz.cell 2 (.string ⟨#[]⟩) rfl
    have r3 := hzz.cell 3 (.slice none 0 0) rfl
    have r4 := hzz.cell 4 (.slice none 0 0) rfl
    have r5 := hzz.cell 5 (.slice none 0 0) rfl
    have t0 := hzz.thaw 0
    have t1 := hzz.thaw 1
    have t2 := hzz.thaw 2
    have t3 := hzz.thaw 3
    have t4 := hzz.thaw 4
    have t5 := hzz.thaw 5
    clear hz hzz HV HALL HO HBX HZ HO2
    go_wp2
    refine bodyPost_ret (v := .tuple #[.agg #[.int .i64 0, .int .i64 0, .string ⟨#[]⟩, .slice none 0 0, .slice none 0 0, .slice none 0 0], .int .i64 5]) (by simp [results, Tryz.results45, go_sem, z0, z1, z2, z3, z4, z5]) rfl ?_
    exact HE.out
  have HLN := Lib.hid (show n ≤ 1000 from by have := of_decide_eq_false q1; omega)
  have HOUT := Lib.hid (show substOut t l = fitOut (Con.reb (suF l) t 0) from by
    rw [HO.out, if_pos (by rw [HVT.out, HLV.out]; rfl), if_neg (by have := HLN.out; omega)]
    rfl)
  clear hlv HV HO HALL
  go_wp2_with fail
  refine (newBuilder_any _).mono ?_
  rintro e wb ⟨rfl, rfl⟩
  have hnb := boxN_new w3 139 #[.int .i64 20000]
  have hnc := boxN_new (w3.alloc (.cells #[.int .i64 20000] 139)) 93 #[.pointer (some ⟨w3.heap.size, 0, none⟩)]
  have hnd := hnb.1.alloc (.cells #[.pointer (some ⟨w3.heap.size, 0, none⟩)] 93)
  have hne := hnc.1
  rw [size_alloc] at hne
  have h4 := belowStep hnc.2 hnb.2
  have HGS := Lib.hid (show w.heap.size + 1 + 1 < w3.heap.size from HZ.out.lt)
  replace HB := Lib.hid (belowStep h4 HB.out)
  replace HBX := Lib.hid (HBX.out.of_eq (h4.block _ HBX.out.lt))
  replace HBL := Lib.hid (HBL.out.of_eq (h4.block _ HBL.out.lt))
  replace HZ := Lib.hid (HZ.out.of_eq (h4.block _ HZ.out.lt))
  have hfin : ∃ u c, fitOut (Con.reb (suF l) t 0) = (u, c) := ⟨_, _, rfl⟩
  obtain ⟨u, c, hfo⟩ := hfin
  have HFO := Lib.hid (show substOut t l = (u, c) from HOUT.out.trans hfo)
  have HRR := Lib.hid ((HR.out (((w3.alloc (.cells #[.int .i64 20000] 139)).alloc (.cells #[.pointer (some ⟨w3.heap.size, 0, none⟩)] 93))) w3.heap.size (w.heap.size + 1) (w3.heap.size + 1) (by have := HGS.out; omega) HVT.out HLV.out HLN.out HB.out hnd ⟨HBL.out, hne⟩ (by have := HGS.out; omega) (by omega)).mono (R' := fun e w' => Only w3.heap.size (((w3.alloc (.cells #[.int .i64 20000] 139)).alloc (.cells #[.pointer (some ⟨w3.heap.size, 0, none⟩)] 93))) w' ∧ ∃ y, e = .returned (.tuple #[y, .int .i64 c]) ∧ ConV w' (fun q => (((w3.alloc (.cells #[.int .i64 20000] 139)).alloc (.cells #[.pointer (some ⟨w3.heap.size, 0, none⟩)] 93))).heap.size ≤ q ∧ q < w'.heap.size) u y) (by
    rintro e w' ⟨h1, y, h2, h3⟩
    rw [hfo] at h2 h3
    exact ⟨h1, y, h2, h3⟩))
  have HGL := Lib.hid hnd.lt
  have c0 := HBX.out.cell 0 (.int .i64 t.op) rfl
  have c1 := HBX.out.cell 1 (.int .i64 t.n) rfl
  have c2 := HBX.out.cell 2 (.string t.s) rfl
  have c3 := HBX.out.cell 3 (.slice ka kn kc) rfl
  have c4 := HBX.out.cell 4 (.slice na nn nc) rfl
  have c5 := HBX.out.cell 5 (.slice la ln lc) rfl
  have x1 := hne.cell 0 (.pointer (some ⟨w3.heap.size, 0, none⟩)) rfl
  have x9 := hne.thaw 0
  clear hfo HOUT hnb hnc hnd hne h4 HR
  go_wp2_with fail
  clear c0 c1 c2 c3 c4 c5 x0 x1 x9 q1
  generalize (((w3.alloc (.cells #[.int .i64 20000] 139)).alloc (.cells #[.pointer (some ⟨w3.heap.size, 0, none⟩)] 93))) = wb at *
  generalize w3.heap.size = G at *
  refine HRR.out.mono ?_
  rintro e wr ⟨hor, y, rfl, hy⟩
  obtain ⟨ua, un, uc, va, vn, vc, xa, xn, xc, rfl, -, -, -⟩ := hy.shape
  have hzr := hor.blk HZ.out (by have := HGS.out; omega)
  have t0 := hzr.thaw 0
  have t1 := hzr.thaw 1
  have t2 := hzr.thaw 2
  have t3 := hzr.thaw 3
  have t4 := hzr.thaw 4
  have t5 := hzr.thaw 5
  have r0 := hzr.cell 0 (.int .i64 0) rfl
  have r1 := hzr.cell 1 (.int .i64 0) rfl
  have r2 := hzr.cell 2 (.string ⟨#[]⟩) rfl
  have r3 := hzr.cell 3 (.slice none 0 0) rfl
  have r4 := hzr.cell 4 (.slice none 0 0) rfl
  have r5 := hzr.cell 5 (.slice none 0 0) rfl
  have hz := store6_blk hzr 0 (.int .i64 u.op) (.int .i64 u.n) (.string u.s) (.slice ua un uc) (.slice va vn vc) (.slice xa xn xc)
  rw [put6_all] at hz
  have HE := Lib.hid (show OutF (substOut t l) w (.returned (.tuple #[.agg #[.int .i64 u.op, .int .i64 u.n, .string u.s, .slice ua un uc, .slice va vn vc, .slice xa xn xc], .int .i64 c])) (store6 wr (w.heap.size + 1 + 1) 0 (.int .i64 u.op) (.int .i64 u.n) (.string u.s) (.slice ua un uc) (.slice va vn vc) (.slice xa xn xc)) from by
    rw [HFO.out]
    refine ⟨⟨_, rfl, (hy.keep (fun q hq => store6_other _ _ _ _ _ _ _ _ _ q (by
      have := HGS.out
      have := HGL.out
      have := hq.1
      omega))).mono (fun q hq => ?_)⟩, store6_below (HB.out.trans (hor.to (by have := HGS.out; omega) HB.out.size)) _ _ _ _ _ _ _ _ (by omega)⟩
    rw [store6_size]
    have := HGS.out
    have := HGL.out
    exact ⟨by have := hq.1; omega, hq.2⟩)
  unfold store6 at hz HE
  simp only [Nat.zero_add] at hz HE
  have z0 := hz.cell 0 (.int .i64 u.op) rfl
  have z1 := hz.cell 1 (.int .i64 u.n) rfl
  have z2 := hz.cell 2 (.string u.s) rfl
  have z3 := hz.cell 3 (.slice ua un uc) rfl
  have z4 := hz.cell 4 (.slice va vn vc) rfl
  have z5 := hz.cell 5 (.slice xa xn xc) rfl
  clear hy hzr hz HRR HBX HBL HZ HB
  go_wp2
  refine bodyPost_ret (v := .tuple #[.agg #[.int .i64 u.op, .int .i64 u.n, .string u.s, .slice ua un uc, .slice va vn vc, .slice xa xn xc], .int .i64 c]) (by simp [results, Tryz.results45, go_sem, z0, z1, z2, z3, z4, z5]) rfl ?_
  exact HE.out
theorem csubst_any (t : Con) (l : List Con) (w : World) (v xv : Value) (ht : ConV w (· < w.heap.size) t v) (hl : ConSl w (· < w.heap.size) xv l) :
    Calls Tryz.prog 45 #[v, xv] w (OutP (substOut t l) w) := (csubst_new t l w v xv ht hl).mono fun _ _ h => h.out
/-- what the program's Shift and Subst answer -/
theorem codeS9 : CodeS9 := ⟨fun t b f W v ht h1 h2 h3 h4 => cshift_any t b f W v ht h1 h2 h3 h4, fun t l W v x ht hl => csubst_any t l W v x ht hl⟩
end Go.Proofs.YtpkgiemdnfbopaaGreat
namespace Go.Proofs.YtpkgiemdnfbopaaGreat
open Go Go.RowKit
open Pl (K Con)
set_option linter.unusedSimpArgs false
set_option linter.unusedVariables false

theorem copy_out (t : Con) (h : Con.allB t = true) : fitOut (Con.reb (shF 0 0) t 0) = outB t := by
  have e := reb_shift 0 0 (Int.le_refl _) t 0 h
  rw [show (0 : Int) + 0 = 0 from rfl, Con.shift_zero t 0 (clean_all t h)] at e
  rw [e]
  unfold fitOut outB
  rw [half_valid t (half_of_all t h)]
set_option maxRecDepth 100000 in
set_option maxHeartbeats 4000000 in
theorem ccopy_any (t : Con) (w : World) (v : Value) (ht : ConV w (· < w.heap.size) t v) (ha : Con.allB t = true) :
    Calls Tryz.prog 82 #[v] w (OutF (outB t) w) := by
  have HOUT := Lib.hid (copy_out t ha).symm
  have HR := Lib.hid (fun (G : Nat) (hG : w.heap.size ≤ G) (wb W : World) (hw : Below w.heap.size w wb) (hgl : G < wb.heap.size) (hbl : Blk wb G 139 #[.int .i64 20000]) (g1 g2 g3 : Nat) (hW : Below wb.heap.size wb W) (hs : ShiftBoxes W g1 g2 g3 G 0 0) (h1 : wb.heap.size ≤ g1) (h2 : wb.heap.size ≤ g2) (h3 : wb.heap.size ≤ g3) =>
    result_any w.heap.size G _ _ (shF 0 0) W (shift_change w.heap.size G g1 g2 g3 0 0 W hG hs (by omega) (by omega) (by omega) (by omega) (by omega)) hG t v ha (hbl.of_eq (hW.block _ hgl)) ((ht.keep (Same.of_below (belowStep hW hw) (fun _ h => h)))))
  obtain ⟨ka, kn, kc, na, nn, nc, la, ln, lc, rfl, -, -, -⟩ := ht.shape
  obtain ⟨hbx, hbx2, hb⟩ := twoN_new w 28 28 #[.int .i64 t.op, .int .i64 t.n, .string t.s, .slice ka kn kc, .slice na nn nc, .slice la ln lc] #[.int .i64 0, .int .i64 0, .string ⟨#[]⟩, .slice none 0 0, .slice none 0 0, .slice none 0 0]
  have HBX := Lib.hid hbx
  have HZ := Lib.hid hbx2
  have HB := Lib.hid hb
  clear hbx hbx2 hb ht ha
  go_enter Tryz.func82, Tryz.ntmps82
  go_upto_region 1 with fail
  generalize ((w.alloc (.cells #[.int .i64 t.op, .int .i64 t.n, .string t.s, .slice ka kn kc, .slice na nn nc, .slice la ln lc] 28)).alloc (.cells #[.int .i64 0, .int .i64 0, .string ⟨#[]⟩, .slice none 0 0, .slice none 0 0, .slice none 0 0] 28)) = w1 at *
  go_wp2_with fail
  refine (newBuilder_any _).mono ?_
  rintro e wb ⟨rfl, hwb⟩
  have hnb := boxN_new w1 139 #[.int .i64 20000]
  rw [← hwb] at hnb
  have HGB := Lib.hid hnb.1
  have HGL := Lib.hid hnb.1.lt
  have HGS := Lib.hid (show w.heap.size + 1 < w1.heap.size from HZ.out.lt)
  have h4 := hnb.2
  replace HB := Lib.hid (belowStep h4 HB.out)
  replace HBX := Lib.hid (HBX.out.of_eq (h4.block _ HBX.out.lt))
  replace HZ := Lib.hid (HZ.out.of_eq (h4.block _ HZ.out.lt))
  clear hnb h4 hwb
  generalize w1.heap.size = G at *
  replace HR := Lib.hid (fun (W : World) => HR.out G (by have := HGS.out; omega) wb W HB.out HGL.out HGB.out)
  obtain ⟨u, c, hfo⟩ : ∃ u c, fitOut (Con.reb (shF 0 0) t 0) = (u, c) := ⟨_, _, rfl⟩
  have HFO := Lib.hid (show outB t = (u, c) from HOUT.out.trans hfo)
  replace HR := Lib.hid (fun (W : World) g1 g2 g3 (hW : Below wb.heap.size wb W) (hs : ShiftBoxes W g1 g2 g3 G 0 0) (h1 : wb.heap.size ≤ g1) (h2 : wb.heap.size ≤ g2) (h3 : wb.heap.size ≤ g3) => (HR.out W g1 g2 g3 hW hs h1 h2 h3).mono (R' := fun e w' => Only G W w' ∧ ∃ y, e = .returned (.tuple #[y, .int .i64 c]) ∧ ConV w' (fun q => W.heap.size ≤ q ∧ q < w'.heap.size) u y) (by
    rintro e w' ⟨h1, y, h2, h3⟩
    rw [hfo] at h2 h3
    exact ⟨h1, y, h2, h3⟩))
  clear hfo HOUT
  have HSS := Lib.hid (fun W (hW : Only G wb W) => (show Below w.heap.size w W ∧ W.cell? ⟨w.heap.size, 0, none⟩ = some (.int .i64 t.op) ∧ W.cell? ⟨w.heap.size, 1, none⟩ = some (.int .i64 t.n) ∧ W.cell? ⟨w.heap.size, 2, none⟩ = some (.string t.s) ∧ W.cell? ⟨w.heap.size, 3, none⟩ = some (.slice ka kn kc) ∧ W.cell? ⟨w.heap.size, 4, none⟩ = some (.slice na nn nc) ∧ W.cell? ⟨w.heap.size, 5, none⟩ = some (.slice la ln lc) from by
    have h := hW.blk HBX.out (by have := HGS.out; omega)
    exact ⟨HB.out.trans (hW.to (by have := HGS.out; omega) HB.out.size), h.cell 0 _ rfl, h.cell 1 _ rfl, h.cell 2 _ rfl, h.cell 3 _ rfl, h.cell 4 _ rfl, h.cell 5 _ rfl⟩))
  have HST := Lib.hid (fun W (hW : Only G wb W) (x0 x1 x2 x3 x4 x5 : Value) => (show (fun W => Below w.heap.size w W ∧ W.cell? ⟨w.heap.size, 0, none⟩ = some (.int .i64 t.op) ∧ W.cell? ⟨w.heap.size, 1, none⟩ = some (.int .i64 t.n) ∧ W.cell? ⟨w.heap.size, 2, none⟩ = some (.string t.s) ∧ W.cell? ⟨w.heap.size, 3, none⟩ = some (.slice ka kn kc) ∧ W.cell? ⟨w.heap.size, 4, none⟩ = some (.slice na nn nc) ∧ W.cell? ⟨w.heap.size, 5, none⟩ = some (.slice la ln lc)) (((((((W).setCell ⟨w.heap.size + 1, 0, none⟩ x0).setCell ⟨w.heap.size + 1, 1, none⟩ x1).setCell ⟨w.heap.size + 1, 2, none⟩ x2).setCell ⟨w.heap.size + 1, 3, none⟩ x3).setCell ⟨w.heap.size + 1, 4, none⟩ x4).setCell ⟨w.heap.size + 1, 5, none⟩ x5) from by
    have h := (hW.blk HBX.out (by have := HGS.out; omega)).of_eq (store6_other W (w.heap.size + 1) 0 x0 x1 x2 x3 x4 x5 w.heap.size (by omega))
    have h2 := store6_below (HB.out.trans (hW.to (by have := HGS.out; omega) HB.out.size)) (w.heap.size + 1) 0 x0 x1 x2 x3 x4 x5 (Nat.le_succ _)
    unfold store6 at h h2
    simp only [Nat.zero_add] at h h2
    exact ⟨h2, h.cell 0 _ rfl, h.cell 1 _ rfl, h.cell 2 _ rfl, h.cell 3 _ rfl, h.cell 4 _ rfl, h.cell 5 _ rfl⟩))
  simp only at HST
  have HD0 := Lib.hid (Only.refl G wb).drew
  have HD1 := Lib.hid (Below.refl wb.heap.size wb).drew
  have HTH := Lib.hid (fun W (hW : Only G wb W) => hW.blk HZ.out (by have := HGS.out; omega))
  go_wp2_with fail
  go_region_held3 (fun W => Below w.heap.size w W ∧ W.cell? ⟨w.heap.size, 0, none⟩ = some (.int .i64 t.op) ∧ W.cell? ⟨w.heap.size, 1, none⟩ = some (.int .i64 t.n) ∧ W.cell? ⟨w.heap.size, 2, none⟩ = some (.string t.s) ∧ W.cell? ⟨w.heap.size, 3, none⟩ = some (.slice ka kn kc) ∧ W.cell? ⟨w.heap.size, 4, none⟩ = some (.slice na nn nc) ∧ W.cell? ⟨w.heap.size, 5, none⟩ = some (.slice la ln lc))
    (first | (with_reducible exact HSS.out _ HD0.out) | (with_reducible exact HSS.out _ (by assumption)) | (with_reducible exact HST.out _ (by assumption) _ _ _ _ _ _))
    (first
    | (go_at_call 101; (with_reducible refine (shifting_any G 0 0 _).mono ?_); rintro e wn ⟨⟨g1, g2, g3, rfl, hsb, l1, l2, l3⟩, hbn⟩; have hbn2 := belowStep (a := wb) hbn (by first | assumption | exact HD1.out); have hon := only_below (N := G) hbn2; have k1 := Nat.le_trans HD1.out.size l1; have k2 := Nat.le_trans HD1.out.size l2; have k3 := Nat.le_trans HD1.out.size l3)
    | (go_at_call 61; (with_reducible refine (HR.out _ _ _ _ (by assumption) (by assumption) (by assumption) (by assumption) (by assumption)).mono ?_); rintro e wr ⟨hor, y, rfl, hy⟩; have hor2 := Only.trans hon hor; obtain ⟨ua, un, uc, va, vn, vc, xa, xn, xc, rfl, -, -, -⟩ := hy.shape; have hzr := HTH.out _ hor2; have t0 := hzr.thaw 0; have t1 := hzr.thaw 1; have t2 := hzr.thaw 2; have t3 := hzr.thaw 3; have t4 := hzr.thaw 4; have t5 := hzr.thaw 5; have r0 := hzr.cell 0 (.int .i64 0) rfl; have r1 := hzr.cell 1 (.int .i64 0) rfl; have r2 := hzr.cell 2 (.string ⟨#[]⟩) rfl; have r3 := hzr.cell 3 (.slice none 0 0) rfl; have r4 := hzr.cell 4 (.slice none 0 0) rfl; have r5 := hzr.cell 5 (.slice none 0 0) rfl))
  have hz := store6_blk hzr 0 (.int .i64 u.op) (.int .i64 u.n) (.string u.s) (.slice ua un uc) (.slice va vn vc) (.slice xa xn xc)
  rw [put6_all] at hz
  have HE := Lib.hid (show OutF (outB t) w (.returned (.tuple #[.agg #[.int .i64 u.op, .int .i64 u.n, .string u.s, .slice ua un uc, .slice va vn vc, .slice xa xn xc], .int .i64 c])) (store6 wr (w.heap.size + 1) 0 (.int .i64 u.op) (.int .i64 u.n) (.string u.s) (.slice ua un uc) (.slice va vn vc) (.slice xa xn xc)) from by
    rw [HFO.out]
    refine ⟨⟨_, rfl, (hy.keep (fun q hq => store6_other _ _ _ _ _ _ _ _ _ q (by
      have := HGS.out
      have := hon.size
      have := HGL.out
      have := hq.1
      omega))).mono (fun q hq => ?_)⟩, store6_below (HB.out.trans (hor2.to (by have := HGS.out; omega) HB.out.size)) _ _ _ _ _ _ _ _ (Nat.le_succ _)⟩
    rw [store6_size]
    have := HGS.out
    have := hon.size
    have := HGL.out
    exact ⟨by have := hq.1; omega, hq.2⟩)
  unfold store6 at hz HE
  simp only [Nat.zero_add] at hz HE
  have z0 := hz.cell 0 (.int .i64 u.op) rfl
  have z1 := hz.cell 1 (.int .i64 u.n) rfl
  have z2 := hz.cell 2 (.string u.s) rfl
  have z3 := hz.cell 3 (.slice ua un uc) rfl
  have z4 := hz.cell 4 (.slice va vn vc) rfl
  have z5 := hz.cell 5 (.slice xa xn xc) rfl
  clear hy hzr hz HR HSS HST HTH HBX HZ HB hsb
  go_wp2
  refine bodyPost_ret (v := .tuple #[.agg #[.int .i64 u.op, .int .i64 u.n, .string u.s, .slice ua un uc, .slice va vn vc, .slice xa xn xc], .int .i64 c]) (by simp [results, Tryz.results82, go_sem, z0, z1, z2, z3, z4, z5]) rfl ?_
  exact HE.out
end Go.Proofs.YtpkgiemdnfbopaaGreat
namespace Go.Proofs.YtpkgiemdnfbopaaGreat
open Go Go.RowKit Go.Sort
open Pl (K Con)
set_option linter.unusedSimpArgs false
set_option linter.unusedVariables false
attribute [local go_sem] Oper.semAt_some

theorem infoInt : (Tryz.prog.info? 3).map (fun i => (i.zero, i.size, i.bytes)) = some (some (.int .i64 0), 1, 8) := by kernel_rfl
/-- the free indices, each once, in their order -/
def freeList (t : Con) : List Int := Lib.compact ((Con.frees t 0).mergeSort fun x y => decide (x ≤ y))
def freeOut (t : Con) : List Int × Int := if Con.validB t = true then (freeList t, 0) else ([], 1)
/-- an append to a row of its own, and its store, leave what is of another kind -/
theorem own_same {W w1 : World} {B4 k base : Nat} {v v' : Value} {xs : List Value} (x : Int) (h1 : Blk W B4 74 #[v]) (hown : W.ownsRow base 3 1 v k xs) (hgrow : (W.alloc (.cells #[.int .i64 x] 3)).grownBy w1 v.ownBlock) :
    ∀ (j : Nat) (o : Obj), W.heap[j]? = some o → (o.isCells = false ∨ ∃ cs, o = .cells cs 153 (0, 0)) → (w1.setCell ⟨B4, 0, none⟩ v').heap[j]? = some o := by
  intro j o ho hc
  have hjl : j < W.heap.size := (Array.getElem?_eq_some_iff.1 ho).1
  have hj4 : j ≠ B4 := by
    rintro rfl
    have h1 : W.heap[j]? = some (.cells #[v] 74 (0, 0)) := h1
    rw [h1] at ho
    injection ho with ho
    subst ho
    rcases hc with hc | ⟨cs, hc⟩
    · cases hc
    · cases hc
  have hjr : some j ≠ v.ownBlock := by
    intro e
    rcases hown.2 with ⟨rfl, _⟩ | ⟨g, cap, cur, rfl, _, hg, _⟩
    · cases e
    · have e : some j = some g := e
      injection e with e
      subst e
      rw [hg] at ho
      injection ho with ho
      subst ho
      rcases hc with hc | ⟨cs, hc⟩
      · cases hc
      · cases hc
  rw [Below.heap_setCell w1 _ _ j (show j ≠ B4 from hj4), hgrow.block j (by rw [size_alloc]; omega) hjr, Below.heap_alloc W _ j hjl, ho]
theorem ownsRow_own {β : Type} (s : β) {B base k : Nat} {v : Value} {xs : List Value} (A D : World) (row : Option Nat) (h : A.ownsRow base 3 1 v k xs) (hg : A.grownBy D row) (hr : ∀ r, row = some r → B ≤ r ∧ ∃ o : Obj, A.heap[r]? = some o ∧ o.isCells = false) : D.ownsRow base 3 1 v k xs := by
  refine h.kept hg ?_
  rcases h.2 with ⟨rfl, _⟩ | ⟨g, cap, cur, rfl, _, hgg, _⟩
  · exact .inl rfl
  · refine .inr (fun e => ?_)
    obtain ⟨-, o, ho, hoc⟩ := hr g e.symm
    rw [hgg] at ho
    injection ho with ho
    subst ho
    cases hoc
theorem ownsRow_base {w : World} {b1 b2 n : Nat} {e : TypeId} {v : Value} {xs : List Value} (h : w.ownsRow b1 e 1 v n xs) (hb : b2 ≤ b1) : w.ownsRow b2 e 1 v n xs :=
  ⟨h.1, h.2.imp id fun ⟨g, cap, cur, h1, h2, h3⟩ => ⟨g, cap, cur, h1, Nat.le_trans hb h2, h3⟩⟩
theorem heap_put (w : World) (g q : Nat) (d : Array Int) (k : Nat) (h : k ≠ g) : (putRow (Value.int .i64) (Sort.ahead w q) g 0 d).heap[k]? = w.heap[k]? := by
  have h : g ≠ k := fun e => h e.symm
  simp [putRow, mapBlock, Sort.ahead, Array.getElem?_modify, h]
theorem own_other {W : World} {B4 base k : Nat} {v v' : Value} {xs : List Value} (h : W.ownsRow base 3 1 v k xs) (hne : some B4 ≠ v.ownBlock) : (W.setCell ⟨B4, 0, none⟩ v').ownsRow base 3 1 v k xs := by
  refine ⟨h.1, ?_⟩
  rcases h.2 with hn | ⟨g, cap, cur, rfl, hb, hgg, rest⟩
  · exact .inl hn
  · exact .inr ⟨g, cap, cur, rfl, hb, (Below.heap_setCell W _ _ g (show g ≠ B4 from fun e => hne (by rw [e]; rfl))).trans hgg, rest⟩
def FreeP (r : List Int × Int) (w : World) (e : Ending) (w' : World) : Prop := (∃ y, e = .returned (.tuple #[y, .int .i64 r.2]) ∧ w'.ownsRow w.heap.size 3 1 y r.1.length (r.1.map (Value.int .i64))) ∧ Below w.heap.size w w'
set_option maxRecDepth 100000 in
set_option maxHeartbeats 4000000 in
theorem cfree_any (t : Con) (w : World) (v : Value) (ht : ConV w (· < w.heap.size) t v) :
    Calls Tryz.prog 43 #[v] w (FreeP (freeOut t) w) := by
  refine wide_of (n := 12) (fun F HF => ?_)
  have hd : F.depth = none := by rw [HF.out]; rfl
  have hro : F.round = none := by rw [HF.out]; rfl
  have hf1 : F.fn 43 := by rw [HF.out]; trivial
  have hf2 : F.fn 97 := by rw [HF.out]; trivial
  have hf3 : F.fn 134 := by rw [HF.out]; trivial
  have hf4 : F.fn 52 := by rw [HF.out]; trivial
  have hf5 : F.fn 98 := by rw [HF.out]; trivial
  have hf6 : F.fn 99 := by rw [HF.out]; trivial
  have hdd : ∀ k : Nat, (F.depth.isSome = true → 1 ≤ k) := fun k h => by rw [hd] at h; cases h
  have HV := Lib.hid (fun W (hW : Below w.heap.size w W) => cvalid_any (· < w.heap.size) t W v (fun q hq => Nat.lt_of_lt_of_le hq hW.size) (ht.keep (Same.of_below hW (fun _ h => h))))
  have HT := Lib.hid (fun W (hW : Below w.heap.size w W) => (ht.keep (Same.of_below hW (fun _ h => h))))
  obtain ⟨ka, kn, kc, na, nn, nc, la, ln, lc, rfl, -, -, -⟩ := ht.shape
  have HFI := Lib.hid (fun W => freeIndices_any W t.op t.n t.s ka na la kn kc nn nc ln lc)
  obtain ⟨hbx, hb⟩ := boxN_new w 28 #[.int .i64 t.op, .int .i64 t.n, .string t.s, .slice ka kn kc, .slice na nn nc, .slice la ln lc]
  have HBX := Lib.hid hbx
  have HB := Lib.hid hb
  have HO := Lib.hid (show freeOut t = if Con.validB t = true then (freeList t, 0) else ([], 1) from rfl)
  have c0 := hbx.cell 0 (.int .i64 t.op) rfl
  have c1 := hbx.cell 1 (.int .i64 t.n) rfl
  have c2 := hbx.cell 2 (.string t.s) rfl
  have c3 := hbx.cell 3 (.slice ka kn kc) rfl
  have c4 := hbx.cell 4 (.slice na nn nc) rfl
  have c5 := hbx.cell 5 (.slice la ln lc) rfl
  clear hbx hb ht
  refine callsIn_of_wp_marks Tryz.func43 rfl hf1 ?_ hro
  simp only [Tryz.ntmps43, List.size_toArray, List.length_cons, List.length_nil, Nat.reduceAdd, Nat.reduceSub, Array.replicate_succ, Array.replicate_zero, List.push_toArray, List.append_toArray, List.nil_append, List.cons_append]
  gi_wp2_with fail
  clear c0 c1 c2 c3 c4 c5
  generalize (w.alloc (.cells #[.int .i64 t.op, .int .i64 t.n, .string t.s, .slice ka kn kc, .slice na nn nc, .slice la ln lc] 28)) = w1 at *
  refine (toF HF _ (HV.out _ HB.out)).mono ?_
  rintro e w2 ⟨rfl, h2⟩
  replace HB := Lib.hid (belowStep h2 HB.out)
  replace HBX := Lib.hid (HBX.out.of_eq (h2.block _ HBX.out.lt))
  clear h2
  cases hv : Con.validB t
  · rw [hv] at HO
    have HE := Lib.hid (show FreeP (freeOut t) w (.returned (.tuple #[.slice none 0 0, .int .i64 1])) w2 from ⟨⟨_, by rw [HO.out]; rfl, by rw [HO.out]; exact World.ownsRow_nil _ _ _ _⟩, HB.out⟩)
    clear HV HT HFI HBX HB HO
    gi_wp2
    refine ⟨_, by simp [results, Tryz.results43, Tryz.f43, go_sem], HE.out⟩
  have HVT := Lib.hid hv
  have HOV := Lib.hid (show freeOut t = (freeList t, 0) from by rw [HO.out, if_pos HVT.out])
  have HTS := Lib.hid (show t.size ≤ 20000 from by
    have h := HVT.out
    unfold Con.validB Con.small at h
    simp only [Bool.and_eq_true, decide_eq_true_eq] at h
    omega)
  rw [hv] at HV
  clear hv HV HO
  obtain ⟨hb4, hbb4⟩ := boxN_new w2 74 #[.slice none 0 0]
  have HB4 := Lib.hid hb4
  have HBX2 := Lib.hid (HBX.out.of_eq (hbb4.block _ HBX.out.lt))
  have HBB := Lib.hid (belowStep hbb4 HB.out)
  have HSZ := Lib.hid (size_alloc w2 (.cells #[.slice none 0 0] 74))
  have c0 := HBX2.out.cell 0 (.int .i64 t.op) rfl
  have c1 := HBX2.out.cell 1 (.int .i64 t.n) rfl
  have c2 := HBX2.out.cell 2 (.string t.s) rfl
  have c3 := HBX2.out.cell 3 (.slice ka kn kc) rfl
  have c4 := HBX2.out.cell 4 (.slice na nn nc) rfl
  have c5 := HBX2.out.cell 5 (.slice la ln lc) rfl
  clear hb4 hbb4
  gi_wp2_with fail
  clear c0 c1 c2 c3 c4 c5
  have hsz0 := HSZ.out
  have hwb2 := HB.out.size
  have hb4s := HB4.out
  generalize w2.alloc (.cells #[.slice none 0 0] 74) = w4 at *
  generalize w2.heap.size = B4 at *
  refine (toF HF _ (HFI.out _)).mono ?_
  rintro e w5 ⟨rfl, rfl⟩
  obtain ⟨hbc, hb5⟩ := boxN_new w4 28 #[.int .i64 t.op, .int .i64 t.n, .string t.s, .slice ka kn kc, .slice na nn nc, .slice la ln lc]
  have hsz5 := size_alloc w4 (.cells #[.int .i64 t.op, .int .i64 t.n, .string t.s, .slice ka kn kc, .slice na nn nc, .slice la ln lc] 28)
  have h4 := HB4.out.of_eq (hb5.block _ HB4.out.lt)
  have hb6 := belowStep hb5 HBB.out
  have hht := HT.out _ hb6
  generalize w4.alloc (.cells #[.int .i64 t.op, .int .i64 t.n, .string t.s, .slice ka kn kc, .slice na nn nc, .slice la ln lc] 28) = w6 at *
  have hlt6 : w4.heap.size < w6.heap.size := by omega
  have hlt7 : w.heap.size ≤ w6.heap.size := by omega
  have hlt8 : B4 + 2 ≤ w6.heap.size := by omega
  clear hsz0 hsz5 HB HBX HSZ hb4s
  obtain ⟨ii, hii, hiz, his, hib⟩ := info_parts infoInt
  gi_wp2_with fail
  refine rangeO (a := _) hro (by omega) (gf := 134) (lb := #[.pointer (some ⟨w4.heap.size, 0, none⟩)]) rfl hf3 (enters_of Tryz.func134 (by kernel_rfl) rfl)
    (freeIdx_seq F HF (12 - 1) w4.heap.size w.heap.size w6.heap.size t ka na la kn kc nn nc ln lc w6 (by omega) hlt7 hlt7 hlt6 (valid_all t HVT.out) (valid_depth t HVT.out) hbc hht) (Nat.le_refl _) (fun h k => KpF.trans h k) (fun W o o' h1 h2 h3 => KpF.put hlt7 W o o' h1 h2 h3) (Below.refl _ _) (fun _ => rfl)
    (fun pre W => ∃ v, Blk W B4 74 #[v] ∧ W.ownsRow (B4 + 1) 3 1 v pre.length (pre.map fun x => Value.int .i64 x.1) ∧ Below w.heap.size w W)
    (fun pre W => False)
    (fun s A D row hs hg hr => by
      obtain ⟨v, h1, h2, h3⟩ := hs
      exact ⟨v, blk_own (β := Unit) () A D row h1 hg hr, ownsRow_own () A D row h2 hg hr, below_own (β := Unit) hlt7 () A D row h3 hg hr⟩)
    (fun s A D row hs hg hr => hs)
    ⟨_, h4, World.ownsRow_nil _ _ _ _, hb6⟩ (fun x => { tmps := #[.agg #[.int .i64 t.op, .int .i64 t.n, .string t.s, .slice ka kn kc, .slice na nn nc, .slice la ln lc], .pointer (some ⟨w.heap.size, 0, none⟩), .slice none 0 0, .int .i64 0, .pointer (some ⟨B4, 0, none⟩), .int .i64 x.1, .agg #[.int .i64 t.op, .int .i64 t.n, .string t.s, .slice ka kn kc, .slice na nn nc, .slice la ln lc], .bool true, .bool false, .agg #[.int .i64 t.op, .int .i64 t.n, .string t.s, .slice ka kn kc, .slice na nn nc, .slice la ln lc], .func (.func 134) #[] #[.pointer (some ⟨w4.heap.size, 0, none⟩)], .int .i64 x.1, undef, undef, undef, undef, undef, undef, undef, undef], defers := [] }) ?assign ?body ?done ?stop
  case assign =>
    intro lp x W K hK
    unfold encI
    gi_wp2
    exact hK
  case stop =>
    rintro D pre W hD hpf hF hK
    exact hF.elim
  case body =>
    rintro lp pre x W ⟨v, h1, h2, h3⟩ hlen
    have x4 := h1.cell 0 v rfl
    have f4 := h1.thaw 0
    have hlt4 := h1.lt
    have H1 := Lib.hid h1
    have H3 := Lib.hid h3
    have HLEN := Lib.hid (show pre.length < 20000 from by
      have := HTS.out
      omega)
    clear h1 h3 hlen HFI HBX2 HBB HB4 hbc hb5 h4 hb6 hht HT HOV
    gi_wp2_with (first
      | (gi_at_builtin; refine wpListIn_append_own _ rfl _ _ 74 rfl (B4 + 1) 3 ii (.int .i64 0) 1 8 Tryz.underlying74 hii hiz his hib rfl (by decide) _ _ _ rfl (h2.alloc _) ⟨W.heap.size, 0, none⟩ 1 1 [.int .i64 x.1] rfl rfl ?c1 ?c2 ?c3 ?c4 ?c5 ?_)
      | gi_in)
    case c1 =>
      intro j u hj
      match j, hj with
      | 0, hj => simp at hj; subst hj; simp [Addr.add]
    case c2 => intro u hu; simp at hu; subst hu; rfl
    case c3 => have := HLEN.out; unfold maxLen; omega
    case c4 => have := HLEN.out; omega
    case c5 => simp; omega
    · intro v9 W1 hown9 hgrow _
      obtain ⟨g9, cap9, rfl⟩ : ∃ g cap, v9 = .slice (some ⟨g, 0, none⟩) (pre.length + 1) cap := by
        rcases hown9.2 with ⟨_, h⟩ | ⟨g, cap, _, h, _⟩
        · omega
        · exact ⟨g, cap, h⟩
      have hne4 : some B4 ≠ v.ownBlock := fun e => by have := (h2.lt B4 e.symm).1; omega
      have h1a := H1.out.alloc (.cells #[.int .i64 x.1] 3)
      have h1b : Blk W1 B4 74 #[v] := (hgrow.block B4 h1a.lt hne4).trans h1a
      have x5 := h1b.cell 0 v rfl
      have f5 := h1b.thaw 0
      have hsame := own_same (v' := (.slice (some ⟨g9, 0, none⟩) (pre.length + 1) cap9)) x.1 H1.out h2 hgrow
      have hbel : Below w.heap.size W (W1.setCell ⟨B4, 0, none⟩ (.slice (some ⟨g9, 0, none⟩) (pre.length + 1) cap9)) := (((Below.refl w.heap.size W).alloc H3.out.size (.cells #[.int .i64 x.1] 3)).grown hgrow (Nat.le_trans H3.out.size (by rw [size_alloc]; omega)) (fun k e => by have := (h2.lt k e).1; omega)).setCell (p := ⟨B4, 0, none⟩) hwb2 (.slice (some ⟨g9, 0, none⟩) (pre.length + 1) cap9)
      have hgb : some B4 ≠ (.slice (some ⟨g9, 0, none⟩) (pre.length + 1) cap9 : Value).ownBlock := fun e => by have := (hown9.lt B4 e.symm).1; omega
      have HE := Lib.hid (show KeepsFrom w6.heap.size W (W1.setCell ⟨B4, 0, none⟩ (.slice (some ⟨g9, 0, none⟩) (pre.length + 1) cap9)) ∧ KpF w.heap.size w6.heap.size W (W1.setCell ⟨B4, 0, none⟩ (.slice (some ⟨g9, 0, none⟩) (pre.length + 1) cap9)) ∧ ∃ v, Blk (W1.setCell ⟨B4, 0, none⟩ (.slice (some ⟨g9, 0, none⟩) (pre.length + 1) cap9)) B4 74 #[v] ∧ (W1.setCell ⟨B4, 0, none⟩ (.slice (some ⟨g9, 0, none⟩) (pre.length + 1) cap9)).ownsRow (B4 + 1) 3 1 v (pre ++ [x]).length ((pre ++ [x]).map fun x => Value.int .i64 x.1) ∧ Below w.heap.size w (W1.setCell ⟨B4, 0, none⟩ (.slice (some ⟨g9, 0, none⟩) (pre.length + 1) cap9)) from
        ⟨⟨hbel.size, fun k o _ ho hc => hsame k o ho (.inl hc)⟩, ⟨hbel, fun k o _ ho hc => hsame k o ho hc⟩, (.slice (some ⟨g9, 0, none⟩) (pre.length + 1) cap9), blk_one h1b, by
          have h := own_other (v' := (.slice (some ⟨g9, 0, none⟩) (pre.length + 1) cap9)) hown9 hgb
          simpa using h, H3.out.trans hbel⟩)
      clear h2 hown9 hgrow h1a h1b hsame hbel hgb hne4
      gi_wp2
      exact HE.out
  case done =>
    rintro D xs W hD hS ⟨v, h1, h2, h3⟩ hK
    obtain ⟨zs, hzs⟩ : ∃ zs, zs = Con.frees t 0 := ⟨_, rfl⟩
    have hll : xs.length = zs.length := by rw [hzs, ← hS, List.length_map]
    have hmm : (xs.map fun x => Value.int .i64 x.1) = zs.map (Value.int .i64) := by rw [hzs, ← hS, List.map_map]; rfl
    rw [hll, hmm] at h2
    have HFL := Lib.hid (show freeOut t = (Lib.compact (zs.mergeSort fun x y => decide (x ≤ y)), 0) from by rw [HOV.out, hzs]; rfl)
    have hfr : (Con.frees t 0).length ≤ 20000 := by
      have h1 := leavesOf_size t 0
      have h2 := List.length_filterMap_le freeL (Con.leavesOf t 0)
      rw [← frees_leaves t 0 (valid_all t HVT.out)] at h2
      have := HTS.out
      omega
    rw [← hzs] at hfr
    clear hll hmm hS hzs HOV HFI HBX2 HBB HB4 hbc hb5 h4 hb6 hht HT
    rcases h2.2 with ⟨rfl, hz⟩ | ⟨g, cap, cur, rfl, hb, hgg, hn, hm, hs, htk⟩
    · have hz : zs = [] := List.eq_nil_of_length_eq_zero hz
      subst hz
      have x4 := h1.cell 0 (.slice none 0 0) rfl
      have HB7 := Lib.hid (h3.trans (belowK_b (w := w) (Nat.le_refl _) _ D _ (.deferred none) (Nat.le_trans hlt7 hD) hK rfl rfl))
      have HFE := Lib.hid (show freeOut t = ([], 0) from by rw [HFL.out, List.mergeSort_nil]; rfl)
      clear h1 h2 h3 hfr HFL
      gi_wp2_with fail
      refine (toF HF _ (Tryz.slices_Sort_int_none none 0 _)).mono ?_
      rintro e w5 ⟨rfl, rfl⟩
      gi_wp2_with fail
      refine (toF HF _ (Tryz.slices_Compact_int_empty none 0 _)).mono ?_
      rintro e w5 ⟨rfl, rfl⟩
      gi_wp2
      refine ⟨by simp, .inl ⟨_, _, rfl, run_takeDeferred hK, ?_⟩⟩
      refine ⟨.tuple #[.slice none 0 0, .int .i64 0], by simp [results, Tryz.results43, Tryz.f43, go_sem], ?_⟩
      exact ⟨⟨_, by rw [HFE.out], by rw [HFE.out]; exact World.ownsRow_nil _ _ _ _⟩, HB7.out⟩
    · have x4 := h1.cell 0 (.slice (some ⟨g, 0, none⟩) zs.length cap) rfl
      have hglt : g < W.heap.size := (Array.getElem?_eq_some_iff.1 hgg).1
      have hgD : D ≠ g := by
        rintro rfl
        rw [hgg] at hK
        cases hK
      have HSO := Lib.hid (Tryz.slices_Sort_int g 0 cap zs W (holds_of_blockI hgg (by simpa using htk)) hglt (by omega))
      have HNX := Lib.hid (fun nq os => (show (grow (putRow (Value.int .i64) (Sort.ahead W nq) g 0 (zs.mergeSort fun x y => decide (x ≤ y)).toArray) os).ownsRow (B4 + 1) 3 1 (.slice (some ⟨g, 0, none⟩) zs.length cap) zs.length ((zs.mergeSort fun x y => decide (x ≤ y)).map (Value.int .i64)) ∧ Blk (grow (putRow (Value.int .i64) (Sort.ahead W nq) g 0 (zs.mergeSort fun x y => decide (x ≤ y)).toArray) os) B4 74 #[.slice (some ⟨g, 0, none⟩) zs.length cap] ∧ (grow (putRow (Value.int .i64) (Sort.ahead W nq) g 0 (zs.mergeSort fun x y => decide (x ≤ y)).toArray) os).heap[D]? = some (.deferred (some [])) ∧ Below w.heap.size w (grow (putRow (Value.int .i64) (Sort.ahead W nq) g 0 (zs.mergeSort fun x y => decide (x ≤ y)).toArray) os) from by
        have hg5 := grownBy_sortedI (w := W) (g := g) (n := nq) (os := os) (zs.mergeSort fun x y => decide (x ≤ y)).toArray
        refine ⟨ownsRow_sortedI (List.length_mergeSort _) hb hgg hn hm hs, (hg5.block B4 h1.lt (fun e => by injection e with e; omega)).trans h1, (hg5.block D (Array.getElem?_eq_some_iff.1 hK).1 (fun e => by injection e with e; exact hgD e)).trans hK, h3.grown hg5 h3.size (fun k e => by injection e with e; omega)⟩))
      have htl : (zs.mergeSort fun x y => decide (x ≤ y)).length = zs.length := List.length_mergeSort _
      clear h1 h2 h3 hK hgg hglt hs htk
      gi_wp2_with fail
      refine (toF HF _ HSO.out).mono ?_
      rintro e w5 ⟨rfl, nq, os, rfl⟩
      obtain ⟨hown5, h15, hK5, hb5⟩ := HNX.out nq os
      clear HNX HSO x4
      generalize grow (putRow (Value.int .i64) (Sort.ahead W nq) g 0 (zs.mergeSort fun x y => decide (x ≤ y)).toArray) os = w5 at *
      generalize (zs.mergeSort fun x y => decide (x ≤ y)) = ts at *
      obtain ⟨g', cap', e', _, _, _, _, _, hH⟩ := Go.Lib.holds_of_ownsRow (α := Int) hown5 (by simp)
      injection e' with e1 _ e3
      injection e1 with e1
      injection e1 with e1
      subst e1 e3
      have HC := Tryz.slices_Compact_int g 0 cap ts w5 hH (by omega) (by omega)
      rw [htl] at HC
      have HCO := Lib.hid HC
      have hcl := Go.Lib.compact_length_le ts
      have HNX := Lib.hid (fun q => (show (putRow (Value.int .i64) (Sort.ahead w5 q) g 0 (Lib.compact ts ++ List.replicate (zs.length - (Lib.compact ts).length) 0).toArray).ownsRow (B4 + 1) 3 1 (.slice (some ⟨g, 0, none⟩) (Lib.compact ts).length cap) (Lib.compact ts).length ((Lib.compact ts).map (Value.int .i64)) ∧ (putRow (Value.int .i64) (Sort.ahead w5 q) g 0 (Lib.compact ts ++ List.replicate (zs.length - (Lib.compact ts).length) 0).toArray).heap[D]? = some (.deferred (some [])) ∧ Below w.heap.size w (putRow (Value.int .i64) (Sort.ahead w5 q) g 0 (Lib.compact ts ++ List.replicate (zs.length - (Lib.compact ts).length) 0).toArray) from by
        have h := Go.Lib.ownsRow_putRow (q := q) (k := (Lib.compact ts).length) (ys := Lib.compact ts ++ List.replicate (zs.length - (Lib.compact ts).length) 0) hown5 (by simp; omega) (by omega)
        rw [List.take_left] at h
        exact ⟨h, (heap_put _ _ _ _ _ hgD).trans hK5, Go.Lib.below_putRow hb5 (by omega)⟩))
      have x5 := h15.cell 0 (.slice (some ⟨g, 0, none⟩) zs.length cap) rfl
      clear HC hown5 h15 hb5 hH hK5 htl
      generalize Lib.compact ts = cs at *
      gi_wp2_with fail
      refine (toF HF _ HCO.out).mono ?_
      rintro e w7 ⟨rfl, q, rfl⟩
      obtain ⟨hown7, hK7, hb7⟩ := HNX.out q
      clear HNX HCO x5
      generalize putRow (Value.int .i64) (Sort.ahead w5 q) g 0 (cs ++ List.replicate (zs.length - cs.length) 0).toArray = w7 at *
      have HB7 := Lib.hid (hb7.trans (belowK_b (w := w) (Nat.le_refl _) _ D _ (.deferred none) (Nat.le_trans hlt7 hD) hK7 rfl rfl))
      have HOW7 := Lib.hid (ownsRow_base (b2 := w.heap.size) (ownsRow_own (B := D) () _ _ _ hown7 (grownBy_putObj' w7 D (.deferred none)) (fun r e => by cases e; exact ⟨Nat.le_refl _, _, hK7, rfl⟩)) (by omega))
      clear hown7 hb7
      gi_wp2
      refine ⟨by simp, .inl ⟨_, _, rfl, run_takeDeferred hK7, ?_⟩⟩
      refine ⟨.tuple #[.slice (some ⟨g, 0, none⟩) cs.length cap, .int .i64 0], by simp [results, Tryz.results43, Tryz.f43, go_sem], ?_⟩
      exact ⟨⟨_, by rw [HFL.out], by rw [HFL.out]; exact HOW7.out⟩, HB7.out⟩
end Go.Proofs.YtpkgiemdnfbopaaGreat
namespace Go.Proofs.YtpkgiemdnfbopaaGreat
open Go Go.RowKit
open Pl (K Con)
set_option linter.unusedSimpArgs false
set_option linter.unusedVariables false

def vr (n : Int) : Con := ⟨1, n, ByteArray.empty, .mk [], [], []⟩
def ap (t u : Con) : Con := ⟨12, 0, ByteArray.empty, .mk [], [], [t, u]⟩
def cint : Con := ⟨4, 0, ByteArray.empty, .mk [], [], []⟩
def exC : Con := lam (ap (vr 0) (vr 1))
def exS : Con := lam (ap (vr 0) (vr 3))
def exX : Con := lam (ap (vr 0) cint)
theorem ex_valid : Con.validB exC = true := by kernel_rfl
theorem ex_frees : Con.frees exC 0 = [0] := by kernel_rfl
theorem ex_free : freeOut exC = ([0], 0) := by
  unfold freeOut freeList
  rw [if_pos ex_valid, ex_frees, List.mergeSort_singleton]
  rfl
theorem ex_shift : shiftOut exC 2 0 = (exS, 0) := by kernel_rfl
theorem ex_subst : substOut exC [cint] = (exX, 0) := by kernel_rfl
theorem conV_leaf (op n : Int) (w : World) (P : Nat → Prop) : ConV w P ⟨op, n, ByteArray.empty, .mk [], [], []⟩ (.agg #[.int .i64 op, .int .i64 n, .string ByteArray.empty, .slice none 0 0, .slice none 0 0, .slice none 0 0]) := by
  rw [conV_iff]
  exact ⟨Nat.zero_le _, _, _, _, rfl, kidV_none _ _, ⟨none, 0, rfl, Nat.le_refl _, Nat.zero_le _, fun _ => rfl, (fun z hz => by cases hz), .inl rfl⟩, ⟨none, 0, rfl, Nat.le_refl _, Nat.zero_le _, fun _ => rfl, .inl rfl⟩⟩
set_option maxRecDepth 100000 in
theorem rvar_any (n : Int) (w : World) :
    Calls Tryz.prog 42 #[.int .i64 n] w fun e w' => e = .returned (.agg #[.int .i64 1, .int .i64 n, .string ByteArray.empty, .slice none 0 0, .slice none 0 0, .slice none 0 0]) ∧ Below w.heap.size w w' := by
  obtain ⟨hbx, hb⟩ := boxN_new w 28 #[.int .i64 1, .int .i64 n, .string ByteArray.empty, .slice none 0 0, .slice none 0 0, .slice none 0 0]
  have d0 := hbx.cell 0 (.int .i64 1) rfl
  have d1 := hbx.cell 1 (.int .i64 n) rfl
  have d2 := hbx.cell 2 (.string ByteArray.empty) rfl
  have d3 := hbx.cell 3 (.slice none 0 0) rfl
  have d4 := hbx.cell 4 (.slice none 0 0) rfl
  have d5 := hbx.cell 5 (.slice none 0 0) rfl
  have HB := Lib.hid hb
  clear hbx hb
  go_enter Tryz.func42, Tryz.ntmps42
  go_wp2_with fail
  refine bodyPost_ret (v := .agg #[.int .i64 1, .int .i64 n, .string ByteArray.empty, .slice none 0 0, .slice none 0 0, .slice none 0 0]) (by first | (simp [results, Tryz.results42, go_sem, d0, d1, d2, d3, d4, d5]; done) | (simp [results, Tryz.results42, go_sem, d0, d1, d2, d3, d4, d5]; rfl)) rfl ?_
  exact ⟨rfl, HB.out⟩
set_option maxRecDepth 100000 in
set_option maxHeartbeats 1000000 in
theorem rapp_any (t u : Con) (w : World) (v x : Value) (ht : ConV w (· < w.heap.size) t v) (hu : ConV w (· < w.heap.size) u x) :
    Calls Tryz.prog 41 #[v, x] w fun e w' => (∃ g, e = .returned (.agg #[.int .i64 12, .int .i64 0, .string ByteArray.empty, .slice none 0 0, .slice none 0 0, .slice (some ⟨g, 0, none⟩) 2 2]) ∧ ConV w' (· < w'.heap.size) (ap t u) (.agg #[.int .i64 12, .int .i64 0, .string ByteArray.empty, .slice none 0 0, .slice none 0 0, .slice (some ⟨g, 0, none⟩) 2 2])) ∧ Below w.heap.size w w' := by
  have HT := Lib.hid (fun W (hW : Below w.heap.size w W) => ht.grow hW)
  have HU := Lib.hid (fun W (hW : Below w.heap.size w W) => hu.grow hW)
  obtain ⟨ka, kn, kc, na, nn, nc, la, ln, lc, rfl, -, -, -⟩ := ht.shape
  obtain ⟨ka2, kn2, kc2, na2, nn2, nc2, la2, ln2, lc2, rfl, -, -, -⟩ := hu.shape
  clear ht hu
  go_enter Tryz.func41, Tryz.ntmps41
  have hX : Below w.heap.size w (((w.alloc (.cells #[.int .i64 t.op, .int .i64 t.n, .string t.s, .slice ka kn kc, .slice na nn nc, .slice la ln lc] 28)).alloc (.cells #[.int .i64 u.op, .int .i64 u.n, .string u.s, .slice ka2 kn2 kc2, .slice na2 nn2 nc2, .slice la2 ln2 lc2] 28)).alloc (.cells #[.int .i64 12, .int .i64 0, .string ByteArray.empty, .slice none 0 0, .slice none 0 0, .slice (some ⟨w.heap.size + 1 + 1 + 1, 0, none⟩) 2 2] 28)) := below_new (below_new (below_new (Below.refl _ _)))
  have hs : (((w.alloc (.cells #[.int .i64 t.op, .int .i64 t.n, .string t.s, .slice ka kn kc, .slice na nn nc, .slice la ln lc] 28)).alloc (.cells #[.int .i64 u.op, .int .i64 u.n, .string u.s, .slice ka2 kn2 kc2, .slice na2 nn2 nc2, .slice la2 ln2 lc2] 28)).alloc (.cells #[.int .i64 12, .int .i64 0, .string ByteArray.empty, .slice none 0 0, .slice none 0 0, .slice (some ⟨w.heap.size + 1 + 1 + 1, 0, none⟩) 2 2] 28)).heap.size = w.heap.size + 1 + 1 + 1 := by rw [size_alloc, size_alloc, size_alloc]
  obtain ⟨hbx, hb⟩ := boxN_new (((w.alloc (.cells #[.int .i64 t.op, .int .i64 t.n, .string t.s, .slice ka kn kc, .slice na nn nc, .slice la ln lc] 28)).alloc (.cells #[.int .i64 u.op, .int .i64 u.n, .string u.s, .slice ka2 kn2 kc2, .slice na2 nn2 nc2, .slice la2 ln2 lc2] 28)).alloc (.cells #[.int .i64 12, .int .i64 0, .string ByteArray.empty, .slice none 0 0, .slice none 0 0, .slice (some ⟨w.heap.size + 1 + 1 + 1, 0, none⟩) 2 2] 28)) 28 (#[.int .i64 t.op, .int .i64 t.n, .string t.s, .slice ka kn kc, .slice na nn nc, .slice la ln lc, .int .i64 u.op, .int .i64 u.n, .string u.s, .slice ka2 kn2 kc2, .slice na2 nn2 nc2, .slice la2 ln2 lc2])
  have hr := (blk_new ((w.alloc (.cells #[.int .i64 t.op, .int .i64 t.n, .string t.s, .slice ka kn kc, .slice na nn nc, .slice la ln lc] 28)).alloc (.cells #[.int .i64 u.op, .int .i64 u.n, .string u.s, .slice ka2 kn2 kc2, .slice na2 nn2 nc2, .slice la2 ln2 lc2] 28)) #[.int .i64 12, .int .i64 0, .string ByteArray.empty, .slice none 0 0, .slice none 0 0, .slice (some ⟨w.heap.size + 1 + 1 + 1, 0, none⟩) 2 2] 28).alloc (.cells (#[.int .i64 t.op, .int .i64 t.n, .string t.s, .slice ka kn kc, .slice na nn nc, .slice la ln lc, .int .i64 u.op, .int .i64 u.n, .string u.s, .slice ka2 kn2 kc2, .slice na2 nn2 nc2, .slice la2 ln2 lc2]) 28)
  rw [size_alloc, size_alloc] at hr
  have d0 := hr.cell 0 (.int .i64 12) rfl
  have d1 := hr.cell 1 (.int .i64 0) rfl
  have d2 := hr.cell 2 (.string ByteArray.empty) rfl
  have d3 := hr.cell 3 (.slice none 0 0) rfl
  have d4 := hr.cell 4 (.slice none 0 0) rfl
  have d5 := hr.cell 5 (.slice (some ⟨w.heap.size + 1 + 1 + 1, 0, none⟩) 2 2) rfl
  have HB := Lib.hid (belowStep hb hX)
  rw [hs] at hbx
  have HBX := Lib.hid hbx
  clear hbx hb hX hs hr
  go_wp2_with fail
  refine bodyPost_ret (v := .agg #[.int .i64 12, .int .i64 0, .string ByteArray.empty, .slice none 0 0, .slice none 0 0, .slice (some ⟨w.heap.size + 1 + 1 + 1, 0, none⟩) 2 2]) (by first | (simp [results, Tryz.results41, go_sem, d0, d1, d2, d3, d4, d5]; done) | (simp [results, Tryz.results41, go_sem, d0, d1, d2, d3, d4, d5]; rfl)) rfl ?_
  refine ⟨⟨w.heap.size + 1 + 1 + 1, rfl, ?_⟩, HB.out⟩
  rw [conV_iff]
  refine ⟨Nat.zero_le _, _, _, _, rfl, kidV_none _ _, ⟨none, 0, rfl, Nat.le_refl _, Nat.zero_le _, fun _ => rfl, (fun z hz => by cases hz), .inl rfl⟩, ?_⟩
  exact cons_two HBX.out HBX.out.lt (HT.out _ HB.out) (HU.out _ HB.out)
end Go.Proofs.YtpkgiemdnfbopaaGreat
namespace Go.Proofs.YtpkgiemdnfbopaaGreat
open Go Go.RowKit
open Pl (K Con)
set_option linter.unusedSimpArgs false
set_option linter.unusedVariables false

/-- a constructor applied to others -/
def appsC (t : Con) (l : List Con) : Con := l.foldl ap t
theorem appsC_snoc (t x : Con) (l : List Con) : appsC t (l ++ [x]) = ap (appsC t l) x := by unfold appsC; rw [List.foldl_append]; rfl
theorem ap_all (t x : Con) (ht : Con.allB t = true) (hx : Con.allB x = true) : Con.allB (ap t x) = true := by
  rw [allB_eq, Bool.and_eq_true]
  have he : ByteArray.empty.toList = [] := by rw [ByteArray.toList_eq]; rfl
  have e1 : Con.shapeB (ap t x) = true := by simp [Con.shapeB, ap, Con.partsOf]
  have e2 : Con.numB (ap t x) = true := by simp [Con.numB, ap]
  have e3 : Con.strB (ap t x) = true := by simp [Con.strB, ap, he]
  have e4 : Con.kindB (ap t x) = true := by simp [Con.kindB, ap, Con.binder]; rfl
  have e5 : (decide (1 ≤ (ap t x).op) && decide ((ap t x).op ≤ 13)) = true := by simp [ap]
  refine ⟨?_, ?_⟩
  · unfold Con.nodeB
    rw [e1, e2, e3, e4, e5]
    rfl
  · show [t, x].all Con.allB = true
    rw [List.all_cons, List.all_cons, ht, hx]; rfl
theorem appsC_all (t : Con) (l : List Con) (ht : Con.allB t = true) (hl : ∀ x ∈ l, Con.allB x = true) : Con.allB (appsC t l) = true := by
  unfold appsC
  induction l generalizing t with
  | nil => exact ht
  | cons x r ih => exact ih (ap t x) (ap_all t x ht (hl x List.mem_cons_self)) (fun y hy => hl y (List.mem_cons_of_mem _ hy))
/-- what Apps answers -/
def appsOut (t : Con) (l : List Con) : Con × Int := if (Con.validB t && l.all Con.validB) = true then (if 1000 < l.length then (Con.none0, 5) else outB (appsC t l)) else (Con.none0, 1)
set_option maxRecDepth 100000 in
set_option maxHeartbeats 4000000 in
theorem capps_new (t : Con) (l : List Con) (w : World) (v xv : Value) (ht : ConV w (· < w.heap.size) t v) (hl : ConSl w (· < w.heap.size) xv l) :
    Calls Tryz.prog 30 #[v, xv] w (OutF (appsOut t l) w) := by
  have HV := Lib.hid (fun W (hW : Below w.heap.size w W) => cvalid_any (· < w.heap.size) t W v (fun q hq => Nat.lt_of_lt_of_le hq hW.size) (ht.keep (Same.of_below hW (fun _ h => h))))
  have HALL := Lib.hid (fun W (hW : Below w.heap.size w W) => allC_any 52 (fun _ _ => by kernel_rfl) Con.validB (· < w.heap.size) l (fun t _ W v h1 h2 => cvalid_any (· < w.heap.size) t W v h1 h2) W xv (fun q hq => Nat.lt_of_lt_of_le hq hW.size) (hl.keep (Same.of_below hW (fun _ h => h))))
  have HO := Lib.hid (show appsOut t l = if (Con.validB t && l.all Con.validB) = true then (if 1000 < l.length then (Con.none0, 5) else outB (appsC t l)) else (Con.none0, 1) from rfl)
  have HT := Lib.hid (fun W (hW : Below w.heap.size w W) => (ht.keep (Same.of_below hW (fun _ h => h))))
  have HSL := Lib.hid (fun W (hW : Below w.heap.size w W) => hl.keep (Same.of_below hW (fun _ h => h)))
  obtain ⟨ka, kn, kc, na, nn, nc, la, ln, lc, rfl, -, -, -⟩ := ht.shape
  obtain ⟨sa, lc9, rfl, hmn, hmx, -⟩ := hl.each
  obtain ⟨n, hn⟩ : ∃ n, n = l.length := ⟨_, rfl⟩
  have HN := Lib.hid hn
  have hn63 : n ≤ 9223372036854775807 := by unfold maxLen at hmx; omega
  rw [← hn] at HALL HSL ⊢
  obtain ⟨hbx, hbx2, hb⟩ := twoN_new w 28 28 #[.int .i64 t.op, .int .i64 t.n, .string t.s, .slice ka kn kc, .slice na nn nc, .slice la ln lc] #[.int .i64 0, .int .i64 0, .string ⟨#[]⟩, .slice none 0 0, .slice none 0 0, .slice none 0 0]
  have HBX := Lib.hid hbx
  have HZ := Lib.hid hbx2
  have HB := Lib.hid hb
  clear hbx hbx2 hb ht hl hmx hmn hn
  go_enter Tryz.func30, Tryz.ntmps30
  go_upto_region 1 with fail
  generalize (w.alloc (.cells #[.int .i64 t.op, .int .i64 t.n, .string t.s, .slice ka kn kc, .slice na nn nc, .slice la ln lc] 28)).alloc (.cells #[.int .i64 0, .int .i64 0, .string ⟨#[]⟩, .slice none 0 0, .slice none 0 0, .slice none 0 0] 28) = w1 at *
  have c0 := HBX.out.cell 0 (.int .i64 t.op) rfl
  have c1 := HBX.out.cell 1 (.int .i64 t.n) rfl
  have c2 := HBX.out.cell 2 (.string t.s) rfl
  have c3 := HBX.out.cell 3 (.slice ka kn kc) rfl
  have c4 := HBX.out.cell 4 (.slice na nn nc) rfl
  have c5 := HBX.out.cell 5 (.slice la ln lc) rfl
  go_wp2_with fail
  clear c0 c1 c2 c3 c4 c5
  refine (HV.out _ HB.out).mono ?_
  rintro e w2 ⟨rfl, h2⟩
  replace HBX := Lib.hid (HBX.out.of_eq (h2.block _ HBX.out.lt))
  replace HZ := Lib.hid (HZ.out.of_eq (h2.block _ HZ.out.lt))
  replace HB := Lib.hid (belowStep h2 HB.out)
  clear h2
  cases hv : Con.validB t
  · have HO2 := Lib.hid (show appsOut t l = (Con.none0, 1) from by rw [HO.out, if_neg (by rw [hv]; simp)])
    have hzz := HZ.out
    have hz := store6_blk hzz 0 (.int .i64 0) (.int .i64 0) (.string ⟨#[]⟩) (.slice none 0 0) (.slice none 0 0) (.slice none 0 0)
    rw [put6_all] at hz
    have HE := Lib.hid (show OutF (appsOut t l) w (.returned (.tuple #[.agg #[.int .i64 0, .int .i64 0, .string ⟨#[]⟩, .slice none 0 0, .slice none 0 0, .slice none 0 0], .int .i64 1])) (store6 w2 (w.heap.size + 1) 0 (.int .i64 0) (.int .i64 0) (.string ⟨#[]⟩) (.slice none 0 0) (.slice none 0 0) (.slice none 0 0)) from ⟨⟨_, by rw [HO2.out], by rw [HO2.out]; exact conV_none _ _⟩, store6_below HB.out _ _ _ _ _ _ _ _ (by omega)⟩)
    unfold store6 at hz HE
    simp only [Nat.zero_add] at hz HE
    have z0 := hz.cell 0 (.int .i64 0) rfl
    have z1 := hz.cell 1 (.int .i64 0) rfl
    have z2 := hz.cell 2 (.string ⟨#[]⟩) rfl
    have z3 := hz.cell 3 (.slice none 0 0) rfl
    have z4 := hz.cell 4 (.slice none 0 0) rfl
    have z5 := hz.cell 5 (.slice none 0 0) rfl
    have r0 := hzz.cell 0 (.int .i64 0) rfl
    have r1 := hzz.cell 1 (.int .i64 0) rfl
    have r2 := hzz.cell 2 (.string ⟨#[]⟩) rfl
    have r3 := hzz.cell 3 (.slice none 0 0) rfl
    have r4 := hzz.cell 4 (.slice none 0 0) rfl
    have r5 := hzz.cell 5 (.slice none 0 0) rfl
    have t0 := hzz.thaw 0
    have t1 := hzz.thaw 1
    have t2 := hzz.thaw 2
    have t3 := hzz.thaw 3
    have t4 := hzz.thaw 4
    have t5 := hzz.thaw 5
    clear hz hzz HV HALL HO HBX HZ HO2
    go_wp2
    refine bodyPost_ret (v := .tuple #[.agg #[.int .i64 0, .int .i64 0, .string ⟨#[]⟩, .slice none 0 0, .slice none 0 0, .slice none 0 0], .int .i64 1]) (by simp [results, Tryz.results30, go_sem, z0, z1, z2, z3, z4, z5]) rfl ?_
    exact HE.out
  have HVT := Lib.hid hv
  rw [hv] at HV
  clear hv
  go_wp2_with fail
  refine (HALL.out _ HB.out).mono ?_
  rintro e w3 ⟨rfl, h3⟩
  replace HBX := Lib.hid (HBX.out.of_eq (h3.block _ HBX.out.lt))
  replace HZ := Lib.hid (HZ.out.of_eq (h3.block _ HZ.out.lt))
  replace HB := Lib.hid (belowStep h3 HB.out)
  clear h3
  cases hlv : l.all Con.validB
  · have HO2 := Lib.hid (show appsOut t l = (Con.none0, 1) from by rw [HO.out, if_neg (by rw [hlv]; simp)])
    have hzz := HZ.out
    have hz := store6_blk hzz 0 (.int .i64 0) (.int .i64 0) (.string ⟨#[]⟩) (.slice none 0 0) (.slice none 0 0) (.slice none 0 0)
    rw [put6_all] at hz
    have HE := Lib.hid (show OutF (appsOut t l) w (.returned (.tuple #[.agg #[.int .i64 0, .int .i64 0, .string ⟨#[]⟩, .slice none 0 0, .slice none 0 0, .slice none 0 0], .int .i64 1])) (store6 w3 (w.heap.size + 1) 0 (.int .i64 0) (.int .i64 0) (.string ⟨#[]⟩) (.slice none 0 0) (.slice none 0 0) (.slice none 0 0)) from ⟨⟨_, by rw [HO2.out], by rw [HO2.out]; exact conV_none _ _⟩, store6_below HB.out _ _ _ _ _ _ _ _ (by omega)⟩)
    unfold store6 at hz HE
    simp only [Nat.zero_add] at hz HE
    have z0 := hz.cell 0 (.int .i64 0) rfl
    have z1 := hz.cell 1 (.int .i64 0) rfl
    have z2 := hz.cell 2 (.string ⟨#[]⟩) rfl
    have z3 := hz.cell 3 (.slice none 0 0) rfl
    have z4 := hz.cell 4 (.slice none 0 0) rfl
    have z5 := hz.cell 5 (.slice none 0 0) rfl
    have r0 := hzz.cell 0 (.int .i64 0) rfl
    have r1 := hzz.cell 1 (.int .i64 0) rfl
    have r2 := hzz.cell 2 (.string ⟨#[]⟩) rfl
    have r3 := hzz.cell 3 (.slice none 0 0) rfl
    have r4 := hzz.cell 4 (.slice none 0 0) rfl
    have r5 := hzz.cell 5 (.slice none 0 0) rfl
    have t0 := hzz.thaw 0
    have t1 := hzz.thaw 1
    have t2 := hzz.thaw 2
    have t3 := hzz.thaw 3
    have t4 := hzz.thaw 4
    have t5 := hzz.thaw 5
    clear hz hzz HV HALL HO HBX HZ HO2
    go_wp2
    refine bodyPost_ret (v := .tuple #[.agg #[.int .i64 0, .int .i64 0, .string ⟨#[]⟩, .slice none 0 0, .slice none 0 0, .slice none 0 0], .int .i64 1]) (by simp [results, Tryz.results30, go_sem, z0, z1, z2, z3, z4, z5]) rfl ?_
    exact HE.out
  have HLV := Lib.hid hlv
  clear hlv HALL HV
  cases q1 : decide ((1000 : Int) < (n : Int))
  rotate_left
  · have HLN := Lib.hid (show 1000 < n from by have := of_decide_eq_true q1; omega)
    have HO2 := Lib.hid (show appsOut t l = (Con.none0, 5) from by rw [HO.out, if_pos (by rw [HVT.out, HLV.out]; rfl), if_pos (by rw [← HN.out]; exact HLN.out)])
    have hzz := HZ.out
    have hz := store6_blk hzz 0 (.int .i64 0) (.int .i64 0) (.string ⟨#[]⟩) (.slice none 0 0) (.slice none 0 0) (.slice none 0 0)
    rw [put6_all] at hz
    have HE := Lib.hid (show OutF (appsOut t l) w (.returned (.tuple #[.agg #[.int .i64 0, .int .i64 0, .string ⟨#[]⟩, .slice none 0 0, .slice none 0 0, .slice none 0 0], .int .i64 5])) (store6 w3 (w.heap.size + 1) 0 (.int .i64 0) (.int .i64 0) (.string ⟨#[]⟩) (.slice none 0 0) (.slice none 0 0) (.slice none 0 0)) from ⟨⟨_, by rw [HO2.out], by rw [HO2.out]; exact conV_none _ _⟩, store6_below HB.out _ _ _ _ _ _ _ _ (by omega)⟩)
    unfold store6 at hz HE
    simp only [Nat.zero_add] at hz HE
    have z0 := hz.cell 0 (.int .i64 0) rfl
    have z1 := hz.cell 1 (.int .i64 0) rfl
    have z2 := hz.cell 2 (.string ⟨#[]⟩) rfl
    have z3 := hz.cell 3 (.slice none 0 0) rfl
    have z4 := hz.cell 4 (.slice none 0 0) rfl
    have z5 := hz.cell 5 (.slice none 0 0) rfl
    have r0 := hzz.cell 0 (.int .i64 0) rfl
    have r1 := hzz.cell 1 (.int .i64 0) rfl
    have r2 := hzz.cell 2 (.string ⟨#[]⟩) rfl
    have r3 := hzz.cell 3 (.slice none 0 0) rfl
    have r4 := hzz.cell 4 (.slice none 0 0) rfl
    have r5 := hzz.cell 5 (.slice none 0 0) rfl
    have t0 := hzz.thaw 0
    have t1 := hzz.thaw 1
    have t2 := hzz.thaw 2
    have t3 := hzz.thaw 3
    have t4 := hzz.thaw 4
    have t5 := hzz.thaw 5
    clear hz hzz HO HBX HZ HO2
    go_wp2
    refine bodyPost_ret (v := .tuple #[.agg #[.int .i64 0, .int .i64 0, .string ⟨#[]⟩, .slice none 0 0, .slice none 0 0, .slice none 0 0], .int .i64 5]) (by simp [results, Tryz.results30, go_sem, z0, z1, z2, z3, z4, z5]) rfl ?_
    exact HE.out
  have HLN := Lib.hid (show n ≤ 1000 from by have := of_decide_eq_false q1; omega)
  have HOUT := Lib.hid (show appsOut t l = outB (appsC t l) from by rw [HO.out, if_pos (by rw [HVT.out, HLV.out]; rfl), if_neg (by rw [← HN.out]; have := HLN.out; omega)])
  have HALLB := Lib.hid (appsC_all t l (valid_all t HVT.out) (fun x hx => valid_all x (List.all_eq_true.1 HLV.out x hx)))
  clear HO
  have c0 := HBX.out.cell 0 (.int .i64 t.op) rfl
  have c1 := HBX.out.cell 1 (.int .i64 t.n) rfl
  have c2 := HBX.out.cell 2 (.string t.s) rfl
  have c3 := HBX.out.cell 3 (.slice ka kn kc) rfl
  have c4 := HBX.out.cell 4 (.slice na nn nc) rfl
  have c5 := HBX.out.cell 5 (.slice la ln lc) rfl
  obtain ⟨hb6, hbb⟩ := boxN_new w3 28 #[.int .i64 t.op, .int .i64 t.n, .string t.s, .slice ka kn kc, .slice na nn nc, .slice la ln lc]
  go_upto_region 7 with fail
  clear c0 c1 c2 c3 c4 c5
  have hsz4 := size_alloc w3 (.cells #[.int .i64 t.op, .int .i64 t.n, .string t.s, .slice ka kn kc, .slice na nn nc, .slice la ln lc] 28)
  obtain ⟨B6, hB6⟩ : ∃ b, b = w3.heap.size := ⟨_, rfl⟩
  rw [← hB6] at hb6 ⊢
  have hT4 := HT.out _ (belowStep hbb HB.out)
  have HGE := Lib.hid (show w.heap.size + 2 ≤ B6 from by have := HZ.out.lt; omega)
  replace HBX := Lib.hid (HBX.out.of_eq (hbb.block _ HBX.out.lt))
  replace HZ := Lib.hid (HZ.out.of_eq (hbb.block _ HZ.out.lt))
  replace HB := Lib.hid (belowStep hbb HB.out)
  generalize w3.alloc (.cells #[.int .i64 t.op, .int .i64 t.n, .string t.s, .slice ka kn kc, .slice na nn nc, .slice la ln lc] 28) = w4 at *
  have HS4 := Lib.hid (show B6 + 1 = w4.heap.size from by omega)
  clear hbb hsz4 hB6 q1
  go_loopg [25] (n + 1) (fun gk i wr => ∃ (k : Nat) (ka : Option Addr) (kn kc : Nat) (na : Option Addr) (nn nc : Nat) (la : Option Addr) (ln lc : Nat), k ≤ n ∧ i = .int .i64 k ∧ gk = n + 1 - k ∧ Blk wr B6 28 #[.int .i64 (appsC t (l.take k)).op, .int .i64 (appsC t (l.take k)).n, .string (appsC t (l.take k)).s, .slice ka kn kc, .slice na nn nc, .slice la ln lc] ∧ ConV wr (fun q => q < wr.heap.size ∧ q ≠ B6 ∧ q ≠ w.heap.size + 1) (appsC t (l.take k)) (.agg #[.int .i64 (appsC t (l.take k)).op, .int .i64 (appsC t (l.take k)).n, .string (appsC t (l.take k)).s, .slice ka kn kc, .slice na nn nc, .slice la ln lc]) ∧ Below B6 w4 wr)
  case atStart => exact ⟨0, _, _, _, _, _, _, _, _, _, Nat.zero_le _, rfl, by omega, by rw [List.take_zero]; exact hb6, by rw [List.take_zero]; exact hT4.mono (fun q hq => ⟨by have : q < w.heap.size := hq; have := HGE.out; have := HS4.out; omega, by have : q < w.heap.size := hq; have := HGE.out; omega, by have : q < w.heap.size := hq; omega⟩), Below.refl _ _⟩
  case round =>
    obtain ⟨k, ka2, kn2, kc2, na2, nn2, nc2, la2, ln2, lc2, hk, rfl, hgk, hbk, hck, hbw⟩ := hrel
    have HBK := Lib.hid hbk
    have HCK := Lib.hid hck
    have HBW := Lib.hid hbw
    clear hbk hck hbw hb6 hT4
    by_cases hlt : k < n
    · have hkl : k < l.length := by rw [← HN.out]; exact hlt
      have q5 : decide ((k : Int) < (n : Int)) = true := decide_eq_true (by omega)
      have HWW := Lib.hid (show Below w.heap.size w wr from HB.out.trans (HBW.out.mono (by have := HGE.out; omega)))
      obtain ⟨b, off, c', ya, yn, yc, za, zn, zc, pa, pn, pc, e, hPb, f0, f1, f2, f3, f4, f5, hx⟩ := (HSL.out wr HWW.out).part k hkl
      injection e with e1 e2 e3
      subst e1 e3
      clear e2
      have HTK := Lib.hid (show appsC t (l.take (k + 1)) = ap (appsC t (l.take k)) l[k] from by rw [List.take_succ_eq_append_getElem hkl, appsC_snoc])
      obtain ⟨u, hu⟩ : ∃ u, u = l[k] := ⟨_, rfl⟩
      rw [← hu] at f0 f1 f2 hx HTK
      have HX := Lib.hid hx
      clear hu hx
      obtain ⟨cc, hcc⟩ : ∃ c, c = appsC t (l.take k) := ⟨_, rfl⟩
      rw [← hcc] at HBK HCK HTK
      clear hcc
      obtain ⟨hbx, hb⟩ := boxN_new wr 28 #[.int .i64 u.op, .int .i64 u.n, .string u.s, .slice ya yn yc, .slice za zn zc, .slice pa pn pc]
      have hbk5 := HBK.out.of_eq (hb.block _ HBK.out.lt)
      have hc5 := HCK.out.keep (Same.of_below hb (fun q hq => hq.1))
      have hx5 := HX.out.keep (Same.of_below hb (fun q (h : q < w.heap.size) => Nat.lt_of_lt_of_le h HWW.out.size))
      have hsz5 := size_alloc wr (.cells #[.int .i64 u.op, .int .i64 u.n, .string u.s, .slice ya yn yc, .slice za zn zc, .slice pa pn pc] 28)
      have c0 := HBK.out.cell 0 (.int .i64 cc.op) rfl
      have c1 := HBK.out.cell 1 (.int .i64 cc.n) rfl
      have c2 := HBK.out.cell 2 (.string cc.s) rfl
      have c3 := HBK.out.cell 3 (.slice ka2 kn2 kc2) rfl
      have c4 := HBK.out.cell 4 (.slice na2 nn2 nc2) rfl
      have c5 := HBK.out.cell 5 (.slice la2 ln2 lc2) rfl
      go_upto_region 9 with fail
      clear c0 c1 c2 c3 c4 c5
      clear f0 f1 f2 f3 f4 f5
      generalize hw5 : wr.alloc (.cells #[.int .i64 u.op, .int .i64 u.n, .string u.s, .slice ya yn yc, .slice za zn zc, .slice pa pn pc] 28) = w5 at *
      have c0 := hbk5.cell 0 (.int .i64 cc.op) rfl
      have c1 := hbk5.cell 1 (.int .i64 cc.n) rfl
      have c2 := hbk5.cell 2 (.string cc.s) rfl
      have c3 := hbk5.cell 3 (.slice ka2 kn2 kc2) rfl
      have c4 := hbk5.cell 4 (.slice na2 nn2 nc2) rfl
      have c5 := hbk5.cell 5 (.slice la2 ln2 lc2) rfl
      have d0 := hbx.cell 0 (.int .i64 u.op) rfl
      have d1 := hbx.cell 1 (.int .i64 u.n) rfl
      have d2 := hbx.cell 2 (.string u.s) rfl
      have d3 := hbx.cell 3 (.slice ya yn yc) rfl
      have d4 := hbx.cell 4 (.slice za zn zc) rfl
      have d5 := hbx.cell 5 (.slice pa pn pc) rfl
      obtain ⟨hbs, hb6⟩ := boxN_new w5 28 #[.int .i64 cc.op, .int .i64 cc.n, .string cc.s, .slice ka2 kn2 kc2, .slice na2 nn2 nc2, .slice la2 ln2 lc2, .int .i64 u.op, .int .i64 u.n, .string u.s, .slice ya yn yc, .slice za zn zc, .slice pa pn pc]
      have hbk6 := hbk5.alloc (.cells #[.int .i64 cc.op, .int .i64 cc.n, .string cc.s, .slice ka2 kn2 kc2, .slice na2 nn2 nc2, .slice la2 ln2 lc2, .int .i64 u.op, .int .i64 u.n, .string u.s, .slice ya yn yc, .slice za zn zc, .slice pa pn pc] 28)
      have hsz6 := size_alloc w5 (.cells #[.int .i64 cc.op, .int .i64 cc.n, .string cc.s, .slice ka2 kn2 kc2, .slice na2 nn2 nc2, .slice la2 ln2 lc2, .int .i64 u.op, .int .i64 u.n, .string u.s, .slice ya yn yc, .slice za zn zc, .slice pa pn pc] 28)
      have HSL2 := Lib.hid (cons_two (P := fun q => q < w5.heap.size + 1 ∧ q ≠ B6 ∧ q ≠ w.heap.size + 1) hbs ⟨by omega, by have := HBK.out.lt; omega, by have := HZ.out.lt; have := HBW.out.size; omega⟩ ((hc5.keep (Same.of_below hb6 (fun q hq => by have := hq.1; omega))).mono (fun q hq => ⟨by have := hq.1; omega, hq.2⟩)) ((hx5.keep (Same.of_below hb6 (fun q (h : q < w.heap.size) => by have := HWW.out.size; omega))).mono (fun q hq => ⟨by have : q < w.heap.size := hq; have := HWW.out.size; omega, by have : q < w.heap.size := hq; have := HGE.out; omega, by have : q < w.heap.size := hq; omega⟩)))
      have t0 := hbk6.thaw 0
      have t1 := hbk6.thaw 1
      have t2 := hbk6.thaw 2
      have t3 := hbk6.thaw 3
      have t4 := hbk6.thaw 4
      have t5 := hbk6.thaw 5
      have r0 := hbk6.cell 0 (.int .i64 cc.op) rfl
      have r1 := hbk6.cell 1 (.int .i64 cc.n) rfl
      have r2 := hbk6.cell 2 (.string cc.s) rfl
      have r3 := hbk6.cell 3 (.slice ka2 kn2 kc2) rfl
      have r4 := hbk6.cell 4 (.slice na2 nn2 nc2) rfl
      have r5 := hbk6.cell 5 (.slice la2 ln2 lc2) rfl
      have HNB := Lib.hid (show B6 < w5.heap.size from hbk5.lt)
      have HS5 := Lib.hid (show w5.heap.size = wr.heap.size + 1 from hsz5)
      have hz := store6_blk hbk6 0 (.int .i64 12) (.int .i64 0) (.string ⟨#[]⟩) (.slice none 0 0) (.slice none 0 0) (.slice (some ⟨w5.heap.size, 0, none⟩) 2 2)
      rw [put6_all] at hz
      have hbe := store6_below (Below.trans HBW.out (Below.trans (hb.mono (by have := HBK.out.lt; omega)) (hb6.mono (by have := HNB.out; omega)))) B6 0 (.int .i64 12) (.int .i64 0) (.string ⟨#[]⟩) (.slice none 0 0) (.slice none 0 0) (.slice (some ⟨w5.heap.size, 0, none⟩) 2 2) (Nat.le_refl _)
      have hcv : ConSl (store6 (w5.alloc (.cells #[.int .i64 cc.op, .int .i64 cc.n, .string cc.s, .slice ka2 kn2 kc2, .slice na2 nn2 nc2, .slice la2 ln2 lc2, .int .i64 u.op, .int .i64 u.n, .string u.s, .slice ya yn yc, .slice za zn zc, .slice pa pn pc] 28)) B6 0 (.int .i64 12) (.int .i64 0) (.string ⟨#[]⟩) (.slice none 0 0) (.slice none 0 0) (.slice (some ⟨w5.heap.size, 0, none⟩) 2 2)) (fun q => q < w5.heap.size + 1 ∧ q ≠ B6 ∧ q ≠ w.heap.size + 1) (.slice (some ⟨w5.heap.size, 0, none⟩) 2 2) [cc, u] := HSL2.out.keep (fun q hq => store6_other _ _ _ _ _ _ _ _ _ q hq.2.1)
      have hss := store6_size (w5.alloc (.cells #[.int .i64 cc.op, .int .i64 cc.n, .string cc.s, .slice ka2 kn2 kc2, .slice na2 nn2 nc2, .slice la2 ln2 lc2, .int .i64 u.op, .int .i64 u.n, .string u.s, .slice ya yn yc, .slice za zn zc, .slice pa pn pc] 28)) B6 0 (.int .i64 12) (.int .i64 0) (.string ⟨#[]⟩) (.slice none 0 0) (.slice none 0 0) (.slice (some ⟨w5.heap.size, 0, none⟩) 2 2)
      have HE := Lib.hid (And.intro hz (And.intro hbe (And.intro hcv (hss.trans hsz6))))
      unfold store6 at HE
      simp only [Nat.zero_add] at HE
      clear hz hbe hcv hss hbs hb6 hbk6 hsz6 hbk5 hbx hb hc5 hx5 hsz5 hw5 HSL2 HX HCK HBK
      go_wp2
      go_roundg (gk - 1)
      case measure => omega
      case rel =>
        obtain ⟨h1, h2, h3, h4⟩ := HE.out
        refine ⟨k + 1, none, 0, 0, none, 0, 0, _, 2, 2, by omega, by go_num, by omega, by rw [HTK.out]; exact h1, ?_, h2⟩
        rw [HTK.out]
        rw [h4]
        exact (conV_iff _ _ _ _).2 ⟨Nat.zero_le _, _, _, _, rfl, kidV_none _ _, ⟨none, 0, rfl, Nat.le_refl _, Nat.zero_le _, fun _ => rfl, (fun z hz => by cases hz), .inl rfl⟩, h3⟩
    have hkn : k = n := by omega
    subst hkn
    have q5 : decide ((k : Int) < (k : Int)) = false := decide_eq_false (by omega)
    have hta : l.take k = l := List.take_of_length_le (by rw [HN.out]; exact Nat.le_refl _)
    rw [hta] at HBK HCK
    clear hta
    obtain ⟨cc, hcc⟩ : ∃ c, c = appsC t l := ⟨_, rfl⟩
    rw [← hcc] at HBK HCK HALLB HOUT
    clear hcc
    have HZ2 := Lib.hid (HZ.out.of_eq (HBW.out.block _ (by have := HGE.out; omega)))
    have HCP := Lib.hid (ccopy_any cc wr _ (HCK.out.mono (fun q hq => hq.1)) HALLB.out)
    obtain ⟨⟨u, ec⟩, hue⟩ : ∃ z : Con × Int, z = outB cc := ⟨_, rfl⟩
    rw [← hue] at HCP HOUT
    clear hue
    have HWW := Lib.hid (show Below w.heap.size w wr from HB.out.trans (HBW.out.mono (by have := HGE.out; omega)))
    have HLT := Lib.hid (show w.heap.size + 1 < wr.heap.size from HZ2.out.lt)
    have c0 := HBK.out.cell 0 (.int .i64 cc.op) rfl
    have c1 := HBK.out.cell 1 (.int .i64 cc.n) rfl
    have c2 := HBK.out.cell 2 (.string cc.s) rfl
    have c3 := HBK.out.cell 3 (.slice ka2 kn2 kc2) rfl
    have c4 := HBK.out.cell 4 (.slice na2 nn2 nc2) rfl
    have c5 := HBK.out.cell 5 (.slice la2 ln2 lc2) rfl
    go_wp2_with fail
    clear c0 c1 c2 c3 c4 c5
    refine HCP.out.mono ?_
    rintro e wq ⟨⟨y, rfl, hy⟩, hbq⟩
    obtain ⟨yka, ykn, ykc, yna, ynn, ync, yla, yln, ylc, rfl, -, -, -⟩ := hy.shape
    have hzr := HZ2.out.of_eq (hbq.block _ HZ2.out.lt)
    have HO2 := HOUT
    have t0 := hzr.thaw 0
    have t1 := hzr.thaw 1
    have t2 := hzr.thaw 2
    have t3 := hzr.thaw 3
    have t4 := hzr.thaw 4
    have t5 := hzr.thaw 5
    have r0 := hzr.cell 0 (.int .i64 0) rfl
    have r1 := hzr.cell 1 (.int .i64 0) rfl
    have r2 := hzr.cell 2 (.string ⟨#[]⟩) rfl
    have r3 := hzr.cell 3 (.slice none 0 0) rfl
    have r4 := hzr.cell 4 (.slice none 0 0) rfl
    have r5 := hzr.cell 5 (.slice none 0 0) rfl
    have hz := store6_blk hzr 0 (.int .i64 u.op) (.int .i64 u.n) (.string u.s) (.slice yka ykn ykc) (.slice yna ynn ync) (.slice yla yln ylc)
    rw [put6_all] at hz
    have HE := Lib.hid (show OutF (appsOut t l) w (.returned (.tuple #[.agg #[.int .i64 u.op, .int .i64 u.n, .string u.s, .slice yka ykn ykc, .slice yna ynn ync, .slice yla yln ylc], .int .i64 ec])) (store6 wq (w.heap.size + 1) 0 (.int .i64 u.op) (.int .i64 u.n) (.string u.s) (.slice yka ykn ykc) (.slice yna ynn ync) (.slice yla yln ylc)) from by
      rw [HO2.out]
      refine ⟨⟨_, rfl, (hy.keep (fun q hq => store6_other _ _ _ _ _ _ _ _ _ q (by have := HLT.out; have := hq.1; omega))).mono (fun q hq => ?_)⟩, store6_below (belowStep hbq HWW.out) _ _ _ _ _ _ _ _ (by omega)⟩
      rw [store6_size]
      exact ⟨by have := HLT.out; have := hq.1; omega, hq.2⟩)
    unfold store6 at hz HE
    simp only [Nat.zero_add] at hz HE
    have z0 := hz.cell 0 (.int .i64 u.op) rfl
    have z1 := hz.cell 1 (.int .i64 u.n) rfl
    have z2 := hz.cell 2 (.string u.s) rfl
    have z3 := hz.cell 3 (.slice yka ykn ykc) rfl
    have z4 := hz.cell 4 (.slice yna ynn ync) rfl
    have z5 := hz.cell 5 (.slice yla yln ylc) rfl
    clear hz hy hzr hbq HCP HZ2 HBK HCK HZ HBX
    go_wp2
    refine bodyPost_ret (v := .tuple #[.agg #[.int .i64 u.op, .int .i64 u.n, .string u.s, .slice yka ykn ykc, .slice yna ynn ync, .slice yla yln ylc], .int .i64 ec]) (by simp [results, Tryz.results30, go_sem, z0, z1, z2, z3, z4, z5]) rfl ?_
    exact HE.out
end Go.Proofs.YtpkgiemdnfbopaaGreat
namespace Go.Proofs.YtpkgiemdnfbopaaGreat
open Go Go.RowKit
open Pl (K Con)
set_option linter.unusedSimpArgs false
set_option linter.unusedVariables false

theorem str_key9 (s z : ByteArray) : Lit.string s.data.toList = Lit.string z.data.toList ↔ s = z := by
  constructor
  · intro h
    injection h with h
    have h1 : s.data = z.data := Array.toList_inj.1 h
    cases s; cases z; simp at h1; rw [h1]
  · intro h; rw [h]
/-- a map of names to the indices of bound variables: N names in all, these so far -/
def IdxAt (w : World) (b n N : Nat) (zs : List ByteArray) : Prop :=
  ∃ D : DataW Unit, w.ownsMap Tryz.prog 9 (plainElem Tryz.prog 3) b n D ∧ Maps.Tidy D ∧ (Maps.size D ≤ zs.length ∧ (Maps.size D = zs.length ↔ zs.Nodup)) ∧ (∀ s : ByteArray, Maps.has D (.string s.data.toList) = true ↔ s ∈ zs) ∧
    (zs.Nodup → ∀ (i : Nat) (h : i < zs.length) (z : DataW Unit), D.atKey (.string zs[i].data.toList) z = .lit (.int .i64 ((N : Int) - 1 - i)))
theorem idx_new (w : World) (N : Nat) : IdxAt (w.alloc (.map #[] 0)) w.heap.size 0 N [] :=
  ⟨.map [], w.ownsMap_made _ _ _, Maps.tidy_empty, ⟨Nat.le_refl _, by simp [Maps.size]⟩, fun s => by simp [Maps.has], fun _ i h => absurd h (Nat.not_lt_zero _)⟩
theorem nodup_snoc9 (zs : List ByteArray) (s : ByteArray) : (zs ++ [s]).Nodup ↔ zs.Nodup ∧ s ∉ zs := by
  rw [List.nodup_append]
  constructor
  · rintro ⟨h1, -, h3⟩
    exact ⟨h1, fun h => h3 s h s (by simp) rfl⟩
  · rintro ⟨h1, h2⟩
    exact ⟨h1, by simp, fun a ha b hb e => by rw [List.mem_singleton] at hb; subst hb; subst e; exact h2 ha⟩
theorem idx_put {w' : World} {b n N : Nat} {zs : List ByteArray} (s : ByteArray) {D : DataW Unit} (hT : Maps.Tidy D) (hS : Maps.size D ≤ zs.length ∧ (Maps.size D = zs.length ↔ zs.Nodup)) (hH : ∀ s : ByteArray, Maps.has D (.string s.data.toList) = true ↔ s ∈ zs)
    (hV : zs.Nodup → ∀ (i : Nat) (h : i < zs.length) (z : DataW Unit), D.atKey (.string zs[i].data.toList) z = .lit (.int .i64 ((N : Int) - 1 - i)))
    (h' : w'.ownsMap Tryz.prog 9 (plainElem Tryz.prog 3) b (n + 1) (D.put (.string s.data.toList) (.lit (.int .i64 ((N : Int) - 1 - zs.length))))) : IdxAt w' b (n + 1) N (zs ++ [s]) := by
  refine ⟨_, h', hT.put (by trivial) _, ?_, fun z => ?_, fun hn i hi z => ?_⟩
  · rw [Maps.size_put hT, List.length_append, List.length_singleton, nodup_snoc9]
    cases hh : Maps.has D (.string s.data.toList)
    · have hs : s ∉ zs := fun h => by rw [(hH s).2 h] at hh; cases hh
      rw [if_neg (by simp)]
      refine ⟨by omega, ?_⟩
      constructor
      · intro e; exact ⟨hS.2.1 (by omega), hs⟩
      · rintro ⟨e, -⟩; have := hS.2.2 e; omega
    · rw [if_pos rfl]
      refine ⟨by omega, ?_⟩
      constructor
      · intro e; omega
      · rintro ⟨-, e⟩; exact absurd ((hH s).1 hh) e
  · by_cases hz : z = s
    · subst hz
      rw [Maps.has_put_same hT.isMap (by trivial)]
      simp
    · rw [Maps.has_put_other (fun e => hz ((str_key9 z s).1 e)), hH z]
      simp [hz]
  · rw [nodup_snoc9] at hn
    by_cases hlt : i < zs.length
    · have hne : (zs ++ [s])[i] ≠ s := by
        rw [List.getElem_append_left hlt]
        intro e
        exact hn.2 (by rw [← e]; exact List.getElem_mem hlt)
      rw [Maps.atKey_put_other (fun e => hne ((str_key9 _ s).1 e))]
      have := hV hn.1 i hlt z
      simp only [List.getElem_append_left hlt]
      exact this
    · have hil : i = zs.length := by simp at hi; omega
      subst hil
      have e : (zs ++ [s])[zs.length] = s := by simp
      rw [e, Maps.atKey_put_same hT.isMap (by trivial)]
theorem make_idx (n : Int) (w : World) : (Instr.makeMap 90 (some (.int .i64 n))).run Tryz.prog w = .ok (.map (some w.heap.size)) (w.alloc (.map #[] 0)) := by
  first | kernel_rfl | simp [Instr.makeMap, go_sem]
theorem wf_i64 {n : Int} (h1 : -9223372036854775808 ≤ n) (h2 : n ≤ 9223372036854775807) : (Lit.int .i64 n).wf = true := by
  rw [Lit.wf, Bool.and_eq_true, decide_eq_true_iff, decide_eq_true_iff]
  exact ⟨h1, h2⟩
/-- the code of indicesOf -/
def idxCode (names : List ByteArray) : Int := if 1000 < names.length then 5 else if names.Nodup then 0 else 9
def IdxP (names : List ByteArray) (w : World) (e : Ending) (w' : World) : Prop :=
  (∃ m, e = .returned (.tuple #[m, .int .i64 (idxCode names)]) ∧ (idxCode names ≠ 0 → m = .map none) ∧ (idxCode names = 0 → ∃ b n, m = .map (some b) ∧ w.heap.size ≤ b ∧ b < w'.heap.size ∧ IdxAt w' b n names.length names)) ∧ Below w.heap.size w w'
set_option maxRecDepth 100000 in
set_option maxHeartbeats 4000000 in
theorem indices_any (P : Nat → Prop) (v : Value) (zs : List ByteArray) (w : World) (hP : ∀ b, P b → b < w.heap.size) (h : StrSl w P v zs) :
    Calls Tryz.prog 59 #[v] w (IdxP zs w) := by
  obtain ⟨a, c, rfl, h1, h2, -, h4, h5⟩ := h
  have HZ := Lib.hid h4
  have HAT := Lib.hid (show ∀ (k : Nat) (hk : k < zs.length), ∃ b off, a = some ⟨b, off, none⟩ ∧ ∀ W, Below w.heap.size w W → W.cell? ⟨b, off + k, none⟩ = some (.string zs[k]) from fun k hk => by
    rcases h5 with h5 | ⟨b, off, h6, h7, h8⟩
    · rw [h5] at hk; exact absurd hk (Nat.not_lt_zero _)
    · exact ⟨b, off, h6, fun W hW => (hW.cell (p := ⟨b, off + k, none⟩) (hP b h7)).trans (h8 k hk)⟩)
  have HB := Lib.hid (show Below w.heap.size w (w.alloc (.map #[] 0)) from (Below.refl _ _).alloc (Nat.le_refl _) _)
  obtain ⟨n, hn⟩ : ∃ n, n = zs.length := ⟨_, rfl⟩
  have HN := Lib.hid hn
  have hn63 : n ≤ 9223372036854775807 := by unfold maxLen at h2; omega
  have HS := Lib.hid (idx_new w n)
  have hmm := make_idx
  rw [← hn]
  clear h1 h2 h4 h5 hn hP
  go_enter Tryz.func59, Tryz.ntmps59
  cases q1 : decide ((1000 : Int) < (n : Int))
  rotate_left
  · have HC := Lib.hid (show idxCode zs = 5 from if_pos (by have := HN.out; have := of_decide_eq_true q1; omega))
    go_wp2
    go_ret2
    exact ⟨⟨_, by rw [HC.out]; rfl, fun _ => rfl, fun h => by rw [HC.out] at h; cases h⟩, Below.refl _ _⟩
  have HLE := Lib.hid (show n ≤ 1000 from by have := of_decide_eq_false q1; omega)
  go_wp2_with fail
  generalize w.alloc _ = w1 at *
  clear hmm q1
  go_loopg [15] (n + 1) (fun g v wr => ∃ k : Nat, k ≤ n ∧ v = .int .i64 k ∧ g = n + 1 - k ∧ IdxAt wr w.heap.size k n (zs.take k) ∧ Below w.heap.size w wr)
  case atStart => exact ⟨0, by omega, rfl, by omega, by rw [List.take_zero]; exact HS.out, HB.out⟩
  case round =>
    obtain ⟨k, hk, rfl, hg, ⟨D, hD, hT, hS, hH, hV⟩, hbw⟩ := hrel
    have HD := Lib.hid hD
    have HDT := Lib.hid hT
    have HDS := Lib.hid hS
    have HDH := Lib.hid hH
    have HDV := Lib.hid hV
    have HBW := Lib.hid hbw
    clear hD hT hS hH hV
    by_cases hlt : k < n
    · have q5 : decide ((k : Int) < (n : Int)) = true := decide_eq_true (by omega)
      have hkl : k < zs.length := by rw [← HN.out]; exact hlt
      obtain ⟨b, off, rfl, hc⟩ := HAT.out k hkl
      have a0 := hc wr hbw
      have hzk := HZ.out _ (List.getElem_mem hkl)
      have HTK := Lib.hid (List.take_succ_eq_append_getElem hkl)
      have HLK := Lib.hid (show (zs.take k).length = k from by rw [List.length_take]; omega)
      have HZK := Lib.hid hzk
      generalize zs[k] = z at *
      have w1' : wrap64 ((n : Int) - 1) = (n : Int) - 1 := by have := HLE.out; rw [wrap64]; omega
      have w2' : wrap64 ((n : Int) - 1 - (k : Int)) = (n : Int) - 1 - (k : Int) := by have := HLE.out; rw [wrap64]; omega
      have HWF := Lib.hid (show (Lit.int .i64 ((n : Int) - 1 - (k : Int))).wf = true from wf_i64 (by have := HLE.out; omega) (by have := HLE.out; omega))
      clear hbw hzk hc
      go_wp2_with (at_mapUpdate; refine wpList_mapUpdate_own _ rfl _ _ _ 90 rfl 9 3 (Maps.string_keyed Tryz.underlying9) Tryz.underlying90 _ w.heap.size k D rfl HD.out (by have := HLE.out; unfold maxLen; omega) _ _ _ rfl rfl (WideMaps.keyOf_string_mk Tryz.underlying9 HZK.out) (.lit (.int .i64 ((n : Int) - 1 - (k : Int)))) [] (plainElem_int Tryz.underlying3 HWF.out) ?_)
      intro w3 hown hgrow
      have HO := Lib.hid (idx_put (N := n) z HDT.out HDS.out HDH.out HDV.out (by rw [HLK.out]; exact hown))
      have HB3 := Lib.hid (show Below w.heap.size w w3 from ⟨(World.grownBy.os hgrow).trans HBW.out.os, (World.grownBy.tape hgrow).trans HBW.out.tape, (World.grownBy.output hgrow).trans HBW.out.output, Nat.le_trans HBW.out.size (World.grownBy.size hgrow), fun i hi => (World.grownBy.block hgrow i (Nat.lt_of_lt_of_le hi HBW.out.size) (fun e => by injection e with e; omega)).trans (HBW.out.block i hi)⟩)
      clear hown hgrow a0 HD HDT HDS HDH HDV w1' w2'
      go_wp2
      go_roundg (gk - 1)
      case measure => omega
      case rel => exact ⟨k + 1, by omega, by go_num, by omega, by rw [HTK.out]; exact HO.out, HB3.out⟩
    · have hkn : k = n := by omega
      subst hkn
      have q5 : decide ((k : Int) < (k : Int)) = false := decide_eq_false (by omega)
      have hta : zs.take k = zs := List.take_of_length_le (by rw [HN.out]; exact Nat.le_refl _)
      rw [hta] at HDS HDH HDV
      have hlen := HD.out.len Tryz.underlying90 3
      have HIX := Lib.hid (show IdxAt wr w.heap.size k k zs from ⟨D, HD.out, HDT.out, HDS.out, HDH.out, HDV.out⟩)
      have HLT := Lib.hid (HD.out.lt)
      rw [← HN.out] at HDS
      clear hta
      generalize Maps.size D = sz at *
      by_cases hnd : zs.Nodup
      · have hsz : sz = k := HDS.out.2.2 hnd
        have HC := Lib.hid (show idxCode zs = 0 from by unfold idxCode; rw [if_neg (by have := HN.out; have := HLE.out; omega), if_pos hnd])
        have q6 : decide (sz < k) = false := decide_eq_false (by omega)
        clear hsz hnd hbw
        go_wp2
        go_ret2
        exact ⟨⟨_, by rw [HC.out]; rfl, fun h => absurd HC.out h, fun _ => ⟨_, _, rfl, Nat.le_refl _, HLT.out, by rw [← HN.out]; exact HIX.out⟩⟩, HBW.out⟩
      · have hsz : sz < k := by
          have h1 := HDS.out.1
          have h2 : sz ≠ k := fun e => hnd (HDS.out.2.1 e)
          omega
        have HC := Lib.hid (show idxCode zs = 9 from by unfold idxCode; rw [if_neg (by have := HN.out; have := HLE.out; omega), if_neg hnd])
        have q6 : decide (sz < k) = true := decide_eq_true hsz
        clear hsz hnd hbw
        go_wp2
        go_ret2
        exact ⟨⟨_, by rw [HC.out]; rfl, fun _ => rfl, fun h => by rw [HC.out] at h; cases h⟩, HBW.out⟩
end Go.Proofs.YtpkgiemdnfbopaaGreat
