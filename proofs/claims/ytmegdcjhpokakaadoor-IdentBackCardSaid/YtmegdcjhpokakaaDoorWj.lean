/-
  Walks of layer 1, tenth part: the reference's ParsePath, and the texts of paths.
-/
import Derived.Test.YtmegdcjhpokakaaDoorWi
import Derived.Test.YtmegdcjhpokakaaDoorPr
namespace Go.Proofs.YtmegdcjhpokakaaDoor
open Go.RowKit

theorem infoStr : (Tryd.prog.info? 9).map (fun i => (i.zero, i.size, i.bytes)) = some (some (.string ByteArray.empty), 1, 16) := by kernel_rfl
/-- a row of the call's own that holds these strings is a slice of them -/
theorem sliceOf_owns {w : World} {base : Nat} {v : Value} {zs : List ByteArray} (h : w.ownsRow base 9 1 v zs.length (zs.map Value.string)) (h1 : 1 ≤ zs.length) (hs : ∀ s ∈ zs, s.size ≤ maxLen) : SliceOf w v zs := by
  obtain ⟨_, hf⟩ := id h
  rcases hf with ⟨_, h0⟩ | ⟨g, cap, cur, rfl, _, hg, hn, hm, _, _⟩
  · omega
  · have hlt : g < w.heap.size := by
      rcases Nat.lt_or_ge g w.heap.size with hb | hb
      · exact hb
      · have hx : w.heap[g]? = none := by simp; omega
        rw [hx] at hg; cases hg
    refine .inr ⟨g, 0, cap, rfl, h1, hn, hm, hlt, hs, fun j hj => ?_⟩
    rw [Nat.zero_add, h.cellAt j (by omega)]
    simp [List.getD, hj]
/-- what the reference's ParsePath answers -/
def RParse (s : ByteArray) (w : World) (e : Ending) (w' : World) : Prop :=
  (Pl.isPath (Pl.splitS s) = true ∧ ∃ v, e = .returned (.tuple #[v, .bool true]) ∧ SliceOf w' v (Pl.splitS s) ∧ Below w.heap.size w w') ∨
  (Pl.isPath (Pl.splitS s) = false ∧ e = .returned (.tuple #[.slice none 0 0, .bool false]) ∧ Below w.heap.size w w')
theorem below_append {w wr w1 : World} {v : Value} {B n : Nat} {e : TypeId} {xs : List Value} {o : Obj} (hbr : Below B w wr) (hB : B ≤ wr.heap.size) (hown : wr.ownsRow B e 1 v n xs) (hg : (wr.alloc o).grownBy w1 v.ownBlock) : Below B w w1 :=
  (hbr.alloc hB o).grown hg (by simp; omega) (fun j hj => (hown.lt j hj).1)
set_option maxHeartbeats 1000000 in
theorem rParsePath_any (s : ByteArray) (w : World) (hs : s.size ≤ 1000) :
    Calls Tryd.prog 27 #[.string s] w (RParse s w) := by
  obtain ⟨i9, hi, hz0, hz1, hz2⟩ := info_parts infoStr
  go_enter Tryd.func27, Tryd.ntmps27
  go_wp2
  go_loopw [4, 5, 6] (fun v la i wr => ∃ (done : List ByteArray) (l k : Nat), la = .int .i64 l ∧ i = .int .i64 k ∧ k ≤ s.size + 1 ∧ Pl.PathRel s done l k ∧ done.length ≤ k ∧ wr.ownsRow w.heap.size 9 1 v done.length (done.map Value.string) ∧ Below w.heap.size w wr) (fun _ _ i _ => s.size + 1 - (intOf i).toNat)
  case atStart => exact ⟨[], 0, 0, rfl, rfl, by omega, Pl.pathRel_zero s, by simp, World.ownsRow_nil _ _ _ _, Below.refl _ _⟩
  case round =>
    obtain ⟨done, l, k, rfl, rfl, hk, hrel', hdl, hown, hbr⟩ := hrel
    by_cases hle : k ≤ s.size
    · have hlk := Pl.pathRel_last s done l k hle hrel'
      have HR := Lib.hid hrel'
      have HBR := Lib.hid hbr
      have hsz := hbr.size
      clear hrel' hbr
      by_cases he : k = s.size
      · have hek : ((k : Int) == (s.size : Int)) = true := beq_iff_eq.2 (by omega)
        have HST := Lib.hid (Pl.pathRel_end s done l k he HR.out)
        clear he
        go_wp2_with (at_builtin; refine wpList_append_own _ rfl _ _ 33 rfl w.heap.size 9 i9 (.string ByteArray.empty) 1 16 Tryd.underlying33 hi hz0 hz1 hz2 rfl (by decide) _ _ _ rfl (hown.alloc _) ⟨wr.heap.size, 0, none⟩ 1 1 [.string (s.extract l k)] rfl rfl ?c1 ?c2 ?c3 ?c4 ?c5 ?_)
        case c1 =>
          intro j u hj
          match j, hj with
          | 0, hj => simp at hj; subst hj; simp [Addr.add]
        case c2 => intro u hu; simp at hu; subst hu; rfl
        case c3 => unfold maxLen; omega
        case c4 => omega
        case c5 => simp; omega
        intro v' w1 hown' hgrow _
        have HB1 := Lib.hid (below_append HBR.out hsz hown hgrow)
        have HO := Lib.hid hown'
        clear hown' hgrow hown
        go_wp2
        go_roundw
        case rel => exact ⟨done ++ [s.extract l k], k + 1, k + 1, by go_num, by go_num, by omega, HST.out, by rw [List.length_append]; simp; omega, by simpa using HO.out, HB1.out⟩
        case measure => simp [intOf]; omega
      · have hek : ((k : Int) == (s.size : Int)) = false := beq_eq_false_iff_ne.2 (by omega)
        have hks : k < s.size := by omega
        by_cases hb : s[k] = 46
        · have hb2 : ((s[k].toNat : Int) == 46) = true := by rw [hb]; rfl
          have HST := Lib.hid (Pl.pathRel_dot s done l k hks hb HR.out)
          clear he hb
          go_wp2_with (at_builtin; refine wpList_append_own _ rfl _ _ 33 rfl w.heap.size 9 i9 (.string ByteArray.empty) 1 16 Tryd.underlying33 hi hz0 hz1 hz2 rfl (by decide) _ _ _ rfl (hown.alloc _) ⟨wr.heap.size, 0, none⟩ 1 1 [.string (s.extract l k)] rfl rfl ?d1 ?d2 ?d3 ?d4 ?d5 ?_)
          case d1 =>
            intro j u hj
            match j, hj with
            | 0, hj => simp at hj; subst hj; simp [Addr.add]
          case d2 => intro u hu; simp at hu; subst hu; rfl
          case d3 => unfold maxLen; omega
          case d4 => omega
          case d5 => simp; omega
          intro v' w1 hown' hgrow _
          have HB1 := Lib.hid (below_append HBR.out hsz hown hgrow)
          have HO := Lib.hid hown'
          clear hown' hgrow hown
          go_wp2
          go_roundw
          case rel => exact ⟨done ++ [s.extract l k], k + 1, k + 1, by go_num, by go_num, by omega, HST.out, by rw [List.length_append]; simp; omega, by simpa using HO.out, HB1.out⟩
          case measure => simp [intOf]; omega
        · have hb2 : ((s[k].toNat : Int) == 46) = false := beq_eq_false_iff_ne.2 (fun h => hb ((Pl.u8_eq _ _).2 h))
          have HST := Lib.hid (Pl.pathRel_step s done l k hks hb HR.out)
          have HO := Lib.hid hown
          clear he hb hown
          go_wp2
          go_roundw
          case rel => exact ⟨done, l, k + 1, by go_num, by go_num, by omega, HST.out, by omega, HO.out, HBR.out⟩
          case measure => simp [intOf]; omega
    · have hdone := Pl.pathRel_done s done l k (by omega) hrel'
      subst hdone
      have h1 : 1 ≤ (Pl.splitS s).length := by rw [Pl.splitS_length]; omega
      have hso := sliceOf_owns hown h1 (splitS_size s (by unfold maxLen; omega))
      have HSO := Lib.hid hso
      have HBR := Lib.hid hbr
      have hip := rIsPath_of hso
      have HIP := Lib.hid hip
      clear hso hip h1 hown hbr hrel' hdl
      cases hp : Pl.isPath (Pl.splitS s)
      · have HP := Lib.hid hp
        rw [hp] at HIP
        clear hp
        go_wp2_with (go_at_call 29; refine HIP.out.mono ?_; rintro e w2 ⟨rfl, hb2⟩; have HB2 := Lib.hid hb2; clear hb2)
        go_ret2
        exact .inr ⟨HP.out, rfl, HBR.out.trans (HB2.out.mono HBR.out.size)⟩
      · have HP := Lib.hid hp
        rw [hp] at HIP
        clear hp
        go_wp2_with (go_at_call 29; refine HIP.out.mono ?_; rintro e w2 ⟨rfl, hb2⟩; have HB2 := Lib.hid hb2; clear hb2)
        go_ret2
        exact .inl ⟨HP.out, _, rfl, HSO.out.below HB2.out, HBR.out.trans (HB2.out.mono HBR.out.size)⟩
end Go.Proofs.YtmegdcjhpokakaaDoor
