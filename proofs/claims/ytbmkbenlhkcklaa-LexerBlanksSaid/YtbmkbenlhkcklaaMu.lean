/-
  Walks of layer 2: slices.Grow and slices.Concat of two lists of tokens.
-/
import Derived.Test.YtbmkbenlhkcklaaMc
import Derived.Shelf.Spec.SlicesGrow
namespace Go.Proofs
open Go.Shelf
def Try.growT_ren : Go.Shelf.Ren := ⟨fun | 4 => 51 | n => n, fun | 22 => 24 | 25 => 43 | 3 => 3 | 4 => 4 | 9 => 9 | 20 => 20 | 0 => 0 | n => n, fun | n => n⟩
theorem Try.growT : Go.Proofs.Lays8.n4 Try.prog Try.growT_ren := {
  mixed := by kernel_rfl
  f4 := Exists.intro "slices.Grow[[]pilaster/api.Token,pilaster/api.Token]" ⟨by decide, Try.func51.trans (congrArg some (by kernel_rfl))⟩
  t0 := Try.underlying0
  a0 := Try.isAgg0
  z0 := Try.sizeOf0
  v0 := Try.zeroValue0
  t3 := Try.underlying3
  a3 := Try.isAgg3
  z3 := Try.sizeOf3
  v3 := Try.zeroValue3
  t4 := Try.underlying4
  a4 := Try.isAgg4
  z4 := Try.sizeOf4
  v4 := Try.zeroValue4
  t9 := Try.underlying9
  a9 := Try.isAgg9
  z9 := Try.sizeOf9
  v9 := Try.zeroValue9
  t20 := Try.underlying20
  a20 := Try.isAgg20
  z20 := Try.sizeOf20
  v20 := Try.zeroValue20
  t22 := Try.underlying24
  a22 := Try.isAgg24
  z22 := Try.sizeOf24
  v22 := Try.zeroValue24
}
end Go.Proofs
namespace Go.Proofs.Ytbmkbenlhkcklaa
open Go.RowKit
theorem grow_room (w : World) :
    Calls Try.prog 51 #[.slice none 0 0, .int .i64 0] w fun e w' => e = .returned (.slice none 0 0) ∧ w' = w :=
  Any8.slices_Grow_room Try.growT none 0 0 0 w (by omega) (by omega) (by omega) (by omega)
theorem grow_new (n : Nat) (w : World) (h : 1 ≤ n) (hn : n ≤ 100000) :
    Calls Try.prog 51 #[.slice none 0 0, .int .i64 n] w fun e w' => (∃ v, e = .returned v ∧ w'.ownsRow w.heap.size 43 4 v 0 []) ∧ Below w.heap.size w w' := by
  obtain ⟨i9, hi, hz0, hz1, hz2⟩ := info_parts tokenInfo
  refine (Any8.slices_Grow_grow Try.growT i9 (.agg #[.int .i64 0, .string ⟨#[]⟩, .int .i64 0, .int .i64 0]) hi hz0 (by rw [hz1]; decide) none 0 0 n [] w (by omega) (by omega) (by rw [hz2]; omega) (by omega) (by simp) (fun _ => rfl) (fun a h => by cases h)).mono ?_
  rintro e w' ⟨rfl, rfl⟩
  have hG1 := grownCap_ge w (0 + n) 0 (Try.growT_ren.t 25)
  have hG2 := grownCap_le_maxLen w (0 + n) 0 (Try.growT_ren.t 25) (by unfold maxLen; omega)
  refine ⟨⟨_, rfl, rfl, .inr ⟨w.heap.size, _, _, rfl, Nat.le_refl _, blk_new w.drew _ _, Nat.zero_le _, hG2, ?_, by simp⟩⟩, ?_⟩
  · generalize grownCap w (0 + n) 0 (Try.growT_ren.t 25) = G at hG1 hG2 ⊢
    simp [size_zeroCells, Value.cells]
    omega
  · exact ((Below.refl _ _).drew).alloc (Nat.le_refl _) _
theorem cells_read {w : World} {b off : Nat} {A : List Pl.Tok} (h : ∀ j (hj : j < A.length), TokAt w b (off + 4 * j) A[j]) : ∀ (q : Nat) (u : Value), (cells A)[q]? = some u → w.cell? ((⟨b, off, none⟩ : Addr).add q) = some u := by
  intro q u hq
  have hlt : q < A.length * 4 := by
    rw [← cells_length A]
    exact (List.getElem?_eq_some_iff.1 hq).1
  have hj : q / 4 < A.length := by omega
  obtain ⟨e1, e2, e3, e4⟩ := cells_at A (q / 4) hj
  obtain ⟨t1, t2, t3, t4⟩ := h (q / 4) hj
  have hadd : (⟨b, off, none⟩ : Addr).add q = ⟨b, off + q, none⟩ := by unfold Addr.add; split <;> simp_all
  rw [hadd]
  have hr : q = 4 * (q / 4) ∨ q = 4 * (q / 4) + 1 ∨ q = 4 * (q / 4) + 2 ∨ q = 4 * (q / 4) + 3 := by omega
  rcases hr with hr | hr | hr | hr
  · rw [hr] at hq; rw [e1] at hq; rw [← hq]; conv => lhs; rw [hr]
    exact t1
  · rw [hr] at hq; rw [e2] at hq; rw [← hq]; conv => lhs; rw [hr, ← Nat.add_assoc]
    exact t2
  · rw [hr] at hq; rw [e3] at hq; rw [← hq]; conv => lhs; rw [hr, ← Nat.add_assoc]
    exact t3
  · rw [hr] at hq; rw [e4] at hq; rw [← hq]; conv => lhs; rw [hr, ← Nat.add_assoc]
    exact t4
theorem cells_one (A : List Pl.Tok) : ∀ u ∈ cells A, u.oneCell' = true := by
  intro u hu
  unfold cells at hu
  rw [List.mem_flatMap] at hu
  obtain ⟨t, _, h⟩ := hu
  exact tokCells_one t u h
theorem cells_add (A B : List Pl.Tok) : cells (A ++ B) = cells A ++ cells B := by unfold cells; rw [List.flatMap_append]
theorem own_form {w : World} {base : Nat} {v : Value} {n : Nat} {xs : List Value} (h : w.ownsRow base 43 4 v n xs) : ∃ A c, v = .slice A n c := by
  rcases h.2 with ⟨hv, h0⟩ | ⟨g, cap, cur, hv, _⟩
  · exact ⟨none, 0, by rw [hv, h0]⟩
  · exact ⟨_, _, hv⟩
set_option maxRecDepth 100000 in
set_option maxHeartbeats 4000000 in
theorem concat_any (g b1 o1 c1 n1 b2 o2 c2 n2 : Nat) (A B : List Pl.Tok) (w : World) (hg : g < w.heap.size) (g0 : w.cell? ⟨g, 0, none⟩ = some (.slice (some ⟨b1, o1, none⟩) n1 c1)) (g1 : w.cell? ⟨g, 1, none⟩ = some (.slice (some ⟨b2, o2, none⟩) n2 c2))
    (hA : A.length = n1) (hB : B.length = n2) (h1 : 1 ≤ n2) (hm1 : n1 ≤ 20000) (hm2 : n2 ≤ 20001) (hb1 : b1 < w.heap.size) (hb2 : b2 < w.heap.size)
    (ha : ∀ j (hj : j < A.length), TokAt w b1 (o1 + 4 * j) A[j]) (hb : ∀ j (hj : j < B.length), TokAt w b2 (o2 + 4 * j) B[j]) :
    Calls Try.prog 27 #[.slice (some ⟨g, 0, none⟩) 2 2] w fun e w' => (∃ v, e = .returned v ∧ TokSlice w' v (A ++ B)) ∧ Below w.heap.size w w' := by
  obtain ⟨i9, hi, hz0, hz1, hz2⟩ := info_parts tokenInfo
  have HI := Lib.hid (And.intro hi (And.intro hz0 (And.intro hz1 hz2)))
  have HA := Lib.hid ha
  have HB := Lib.hid hb
  have HAL := Lib.hid hA
  have HBL := Lib.hid hB
  have G0 := Lib.hid g0
  have G1 := Lib.hid g1
  clear ha hb hA hB hi hz0 hz1 hz2
  go_enter Try.func27, Try.ntmps27
  go_wp2_with fail
  go_loopg [3, 11] 3 (fun m sz i wr => wr = w ∧ ((i = .int .i64 0 ∧ sz = .int .i64 0 ∧ m = 3) ∨ (i = .int .i64 1 ∧ sz = .int .i64 n1 ∧ m = 2) ∨ (i = .int .i64 2 ∧ sz = .int .i64 ((n1 : Int) + (n2 : Int)) ∧ m = 1)))
  case atStart => exact ⟨rfl, .inl ⟨rfl, rfl, rfl⟩⟩
  case round =>
    obtain ⟨rfl, ⟨rfl, rfl, hm⟩ | ⟨rfl, rfl, hm⟩ | ⟨rfl, rfl, hm⟩⟩ := hrel
    · go_wp2
      go_roundg (gk - 1)
      case measure => omega
      case rel => exact ⟨rfl, .inr (.inl ⟨rfl, by go_num, by omega⟩)⟩
    · have q0 : decide ((n1 : Int) + (n2 : Int) < 0) = false := by simp; omega
      go_wp2
      go_roundg (gk - 1)
      case measure => omega
      case rel => exact ⟨rfl, .inr (.inr ⟨rfl, by go_num, by omega⟩)⟩
    · have hgr := grow_new (n1 + n2) wr (by omega) (by omega)
      rw [Int.natCast_add] at hgr
      have HGR := Lib.hid hgr
      clear hgr hm
      go_wp2_with fail
      rename World => wa
      refine HGR.out.mono ?_
      rintro e w2 ⟨⟨v, rfl, hown⟩, hbw⟩
      obtain ⟨Av, cv, rfl⟩ := own_form hown
      have HOWN0 := Lib.hid hown
      have HBW0 := Lib.hid hbw
      clear hown hbw HGR
      go_wp2_with fail
      go_loopg [6, 27] 3 (fun m v i wr => Below wa.heap.size wa wr ∧ ((i = .int .i64 0 ∧ m = 3 ∧ wr.ownsRow wa.heap.size 43 4 v 0 []) ∨ (i = .int .i64 1 ∧ m = 2 ∧ wr.ownsRow wa.heap.size 43 4 v n1 (cells A)) ∨ (i = .int .i64 2 ∧ m = 1 ∧ wr.ownsRow wa.heap.size 43 4 v (n1 + n2) (cells A ++ cells B))))
      case atStart => exact ⟨HBW0.out, .inl ⟨rfl, rfl, HOWN0.out⟩⟩
      case round =>
        obtain ⟨hbw, ⟨rfl, hm, hown⟩ | ⟨rfl, hm, hown⟩ | ⟨rfl, hm, hown⟩⟩ := hrel
        · skip
          obtain ⟨Av, cv, rfl⟩ := own_form hown
          have hcell := (hbw.cell (p := ⟨g, 0, none⟩) hg).trans G0.out
          have hrd := cells_read (w := wr) (b := b1) (off := o1) (A := A) (fun j hj => (HA.out j hj).below hbw hb1)
          have HOWN := Lib.hid hown
          have HBW := Lib.hid hbw
          have HRD := Lib.hid hrd
          clear hown hbw hrd
          go_wp2_with (at_builtin; refine wpList_append_own _ rfl _ _ 24 rfl wa.heap.size 43 i9 (.agg #[.int .i64 0, .string ⟨#[]⟩, .int .i64 0, .int .i64 0]) 4 40 Try.underlying24 HI.out.1 HI.out.2.1 HI.out.2.2.1 HI.out.2.2.2 rfl (by decide) _ _ _ rfl HOWN.out ⟨b1, o1, none⟩ n1 c1 (cells A) rfl (by rw [cells_length, HAL.out]) ?a1 ?a2 ?a3 ?a4 ?a5 ?_)
          case a1 => exact HRD.out
          case a2 => exact cells_one _
          case a3 => unfold maxLen; omega
          case a4 => omega
          case a5 => exact HBW.out.size
          intro v' w4 hown' hgrow _
          have HB4 := Lib.hid (HBW.out.grown hgrow HBW.out.size (fun k hk => (HOWN.out.lt k hk).1))
          have HO4 := Lib.hid hown'
          clear hown' hgrow hcell
          obtain ⟨A4, c4, hv4⟩ := own_form HO4.out
          subst hv4
          go_wp2
          go_roundg (gk - 1)
          case measure => omega
          case rel => exact ⟨HB4.out, .inr (.inl ⟨by go_num, by omega, by have := HO4.out; simpa using this⟩)⟩
        · skip
          obtain ⟨Av, cv, rfl⟩ := own_form hown
          have hcell := (hbw.cell (p := ⟨g, 1, none⟩) hg).trans G1.out
          have hrd := cells_read (w := wr) (b := b2) (off := o2) (A := B) (fun j hj => (HB.out j hj).below hbw hb2)
          have HOWN := Lib.hid hown
          have HBW := Lib.hid hbw
          have HRD := Lib.hid hrd
          clear hown hbw hrd
          go_wp2_with (at_builtin; refine wpList_append_own _ rfl _ _ 24 rfl wa.heap.size 43 i9 (.agg #[.int .i64 0, .string ⟨#[]⟩, .int .i64 0, .int .i64 0]) 4 40 Try.underlying24 HI.out.1 HI.out.2.1 HI.out.2.2.1 HI.out.2.2.2 rfl (by decide) _ _ _ rfl HOWN.out ⟨b2, o2, none⟩ n2 c2 (cells B) rfl (by rw [cells_length, HBL.out]) ?b1 ?b2 ?b3 ?b4 ?b5 ?_)
          case b1 => exact HRD.out
          case b2 => exact cells_one _
          case b3 => unfold maxLen; omega
          case b4 => omega
          case b5 => exact HBW.out.size
          intro v' w4 hown' hgrow _
          have HB4 := Lib.hid (HBW.out.grown hgrow HBW.out.size (fun k hk => (HOWN.out.lt k hk).1))
          have HO4 := Lib.hid hown'
          clear hown' hgrow hcell
          obtain ⟨A4, c4, hv4⟩ := own_form HO4.out
          subst hv4
          go_wp2
          go_roundg (gk - 1)
          case measure => omega
          case rel => exact ⟨HB4.out, .inr (.inr ⟨by go_num, by omega, HO4.out⟩)⟩
        · have hts : TokSlice wr _ (A ++ B) := tokSlice_owns (ts := A ++ B) (by rw [List.length_append, HAL.out, HBL.out, cells_add]; exact hown)
          obtain ⟨Av, cv, rfl⟩ := own_form hown
          have HT := Lib.hid hts
          have HBW := Lib.hid hbw
          clear hts hbw hown
          go_wp2
          go_ret
          exact ⟨⟨_, rfl, HT.out⟩, HBW.out⟩
end Go.Proofs.Ytbmkbenlhkcklaa
