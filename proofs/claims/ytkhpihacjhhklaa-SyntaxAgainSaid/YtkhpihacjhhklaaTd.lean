/-
  Walks of layer 3: no two names are equal.
-/
import Derived.Test.YtkhpihacjhhklaaTc
import Derived.Maps.OwnSet
import Derived.Maps.Views
import Derived.Carry
namespace Go.Proofs.Ytkhpihacjhhklaa
open Go Go.RowKit
open Pl (Syn)
set_option linter.unusedSimpArgs false

def memB (s : ByteArray) (zs : List ByteArray) : Bool := zs.any fun z => decide (z = s)
theorem memB_iff (s : ByteArray) (zs : List ByteArray) : memB s zs = true ↔ s ∈ zs := by
  unfold memB
  rw [List.any_eq_true]
  constructor
  · rintro ⟨z, hz, h⟩
    have h' : z = s := by simpa using h
    rw [← h']; exact hz
  · intro h; exact ⟨s, h, by simp⟩
/-- the names that a map has -/
def Seen (w : World) (b n : Nat) (zs : List ByteArray) : Prop :=
  ∃ D : DataW Unit, w.ownsMap Try.prog 9 (plainElem Try.prog 4) b n D ∧ ∀ s : ByteArray, D.atKey (.string s.data.toList) (.lit (.bool false)) = .lit (.bool (memB s zs))
theorem make_seen (n : Int) (w : World) : (Instr.makeMap 75 (some (.int .i64 n))).run Try.prog w = .ok (.map (some w.heap.size)) (w.alloc (.map #[] 0)) := by
  first | kernel_rfl | simp [Instr.makeMap, go_sem]
theorem seen_new (w : World) : Seen (w.alloc (.map #[] 0)) w.heap.size 0 [] := ⟨.map [], w.ownsMap_made _ _ _, fun s => by simp [DataW.atKey, memB]⟩
theorem seen_look {w : World} {b n : Nat} {zs : List ByteArray} (h : Seen w b n zs) (s : ByteArray) (hs : s.size ≤ maxLen) : (Instr.lookup 75 (.map (some b)) (.string s) false).run Try.prog w = .ok (.bool (memB s zs)) w := by
  obtain ⟨D, hD, hat⟩ := h
  obtain ⟨v, ps, h1, h2⟩ := hD.lookup (Maps.string_keyed Try.underlying9) Try.underlying75 (z := .bool false) (by simp [go_sem]) (zd := .lit (.bool false)) (zp := []) (by simp [plainElem, go_sem]) (WideMaps.keyOf_string_mk Try.underlying9 hs)
  rw [hat s] at h2
  rw [h1]
  have : v = .bool (memB s zs) := by
    unfold plainElem at h2
    rw [Try.underlying4] at h2
    cases v <;> simp at h2
    rw [h2.1]
  rw [this]
theorem str_key (s z : ByteArray) : Lit.string s.data.toList = Lit.string z.data.toList ↔ s = z := by
  constructor
  · intro h
    injection h with h
    have h1 : s.data = z.data := Array.toList_inj.1 h
    cases s; cases z; simp at h1; rw [h1]
  · intro h; rw [h]
theorem seen_put {w : World} {b n : Nat} {zs : List ByteArray} (s : ByteArray) {D : DataW Unit} {w' : World}
    (hD : w.ownsMap Try.prog 9 (plainElem Try.prog 4) b n D) (hat : ∀ s : ByteArray, D.atKey (.string s.data.toList) (.lit (.bool false)) = .lit (.bool (memB s zs)))
    (h' : w'.ownsMap Try.prog 9 (plainElem Try.prog 4) b (n + 1) (D.put (.string s.data.toList) (.lit (.bool true)))) : Seen w' b (n + 1) (zs ++ [s]) := by
  refine ⟨_, h', fun z => ?_⟩
  by_cases hz : z = s
  · subst hz
    rw [Maps.atKey_put_same hD.isMap (by trivial), (memB_iff _ _).2 (by simp)]
  · rw [Maps.atKey_put_other (fun e => hz ((str_key z s).1 e)), hat z]
    have : memB z (zs ++ [s]) = memB z zs := by
      rw [Bool.eq_iff_iff, memB_iff, memB_iff]; simp [hz]
    rw [this]
theorem nodup_snoc (zs : List ByteArray) (k : Nat) (hk : k < zs.length) (h : (zs.take k).Nodup) : (zs.take (k + 1)).Nodup ↔ zs[k] ∉ zs.take k := by
  rw [List.take_succ_eq_append_getElem hk, List.nodup_append]
  simp [h]
  constructor
  · intro h1 h2; exact h1 _ h2 rfl
  · intro h1 a ha e; rw [e] at ha; exact h1 ha
theorem nodup_take {zs : List ByteArray} (h : zs.Nodup) (k : Nat) : (zs.take k).Nodup := h.sublist (List.take_sublist _ _)
set_option maxRecDepth 100000 in
set_option maxHeartbeats 4000000 in
theorem differ_any (P : Nat → Prop) (v : Value) (zs : List ByteArray) (w : World) (hP : ∀ b, P b → b < w.heap.size) (h : StrSl w P v zs) :
    Calls Try.prog 74 #[v] w fun e w' => e = .returned (.bool (Pl.noTwin zs)) ∧ Below w.heap.size w w' := by
  obtain ⟨a, c, rfl, h1, h2, -, h4, h5⟩ := h
  unfold maxLen at h2
  have HB := Lib.hid (show Below w.heap.size w (w.alloc (.map #[] 0)) from (Below.refl _ _).alloc (Nat.le_refl _) _)
  have HS := Lib.hid (seen_new w)
  have hmm := make_seen
  rcases h5 with rfl | ⟨b, off, rfl, hPb, h5⟩
  · go_enter Try.func74, Try.ntmps74
    go_wp2_with fail
    generalize w.alloc _ = w1 at *
    go_loopg [11] 1 (fun g v wr => v = .int .i64 0 ∧ wr = w1)
    case atStart => exact ⟨rfl, rfl⟩
    case round =>
      obtain ⟨rfl, rfl⟩ := hrel
      go_wp2
      go_ret
      exact ⟨rfl, HB.out⟩
  · have H5 := Lib.hid h5
    have HZ := Lib.hid h4
    have HPB := Lib.hid (hP b hPb)
    generalize hn : zs.length = n at *
    have HN := Lib.hid hn
    clear h4 h5 hn hP hPb
    go_enter Try.func74, Try.ntmps74
    go_wp2_with fail
    generalize w.alloc _ = w1 at *
    go_loopg [11] (n + 1) (fun g v wr => ∃ k : Nat, k ≤ n ∧ v = .int .i64 k ∧ g = n + 1 - k ∧ Seen wr w.heap.size k (zs.take k) ∧ Below w.heap.size w wr ∧ (zs.take k).Nodup)
    case atStart => exact ⟨0, by omega, rfl, by omega, HS.out, HB.out, by simp⟩
    case round =>
      obtain ⟨k, hk, rfl, hg, hseen, hbw, hnd⟩ := hrel
      by_cases hlt : k < n
      · have hkl : k < zs.length := by rw [HN.out]; exact hlt
        have a0 := (hbw.cell (p := ⟨b, off + k, none⟩) HPB.out).trans (H5.out k hkl)
        have hzk := HZ.out _ (List.getElem_mem hkl)
        have hlook := seen_look hseen zs[k] hzk
        have HSN := Lib.hid (nodup_snoc zs k hkl hnd)
        have HNT := Lib.hid (fun h : zs.Nodup => nodup_take h (k + 1))
        have HTK := Lib.hid (List.take_succ_eq_append_getElem hkl)
        obtain ⟨D, hD, hat⟩ := hseen
        have HD := Lib.hid hD
        have HAT := Lib.hid hat
        have HBW := Lib.hid hbw
        have HZK := Lib.hid hzk
        generalize zs[k] = z at *
        clear hD hat hbw hnd hzk
        by_cases hm : z ∈ zs.take k
        · rw [(memB_iff _ _).2 hm] at hlook
          have HM := Lib.hid hm
          clear hm
          go_wp2
          go_ret
          refine ⟨ret_bool ?_, HBW.out⟩
          unfold Pl.noTwin
          symm
          rw [decide_eq_false_iff_not]
          exact fun h => HSN.out.1 (HNT.out h) HM.out
        · rw [show memB z (zs.take k) = false from by rw [Bool.eq_false_iff]; exact fun e => hm ((memB_iff _ _).1 e)] at hlook
          have HM := Lib.hid hm
          clear hm
          go_wp2_with (at_mapUpdate; refine wpList_mapUpdate_own _ rfl _ _ _ 75 rfl 9 4 (Maps.string_keyed Try.underlying9) Try.underlying75 _ w.heap.size k D rfl HD.out (by unfold maxLen; omega) _ _ _ rfl rfl (WideMaps.keyOf_string_mk Try.underlying9 HZK.out) (.lit (.bool true)) [] (by simp [plainElem, go_sem]) ?_)
          intro w3 hown hgrow
          have HO := Lib.hid (seen_put z HD.out HAT.out hown)
          have HB3 := Lib.hid (show Below w.heap.size w w3 from ⟨(World.grownBy.os hgrow).trans HBW.out.os, (World.grownBy.tape hgrow).trans HBW.out.tape, (World.grownBy.output hgrow).trans HBW.out.output, Nat.le_trans HBW.out.size (World.grownBy.size hgrow), fun i hi => (World.grownBy.block hgrow i (Nat.lt_of_lt_of_le hi HBW.out.size) (fun e => by injection e with e; omega)).trans (HBW.out.block i hi)⟩)
          clear hown hgrow a0 hlook
          go_wp2
          go_roundg (gk - 1)
          case measure => omega
          case rel => exact ⟨k + 1, by omega, by go_num, by omega, by rw [HTK.out]; exact HO.out, HB3.out, HSN.out.2 HM.out⟩
      · have HT := Lib.hid (show zs.take k = zs from List.take_of_length_le (by rw [HN.out]; omega))
        have HND := Lib.hid hnd
        have HBW := Lib.hid hbw
        clear hnd hbw hseen
        go_wp2
        go_ret
        refine ⟨ret_bool ?_, HBW.out⟩
        have := HND.out
        rw [HT.out] at this
        unfold Pl.noTwin
        exact (decide_eq_true this).symm
end Go.Proofs.Ytkhpihacjhhklaa
