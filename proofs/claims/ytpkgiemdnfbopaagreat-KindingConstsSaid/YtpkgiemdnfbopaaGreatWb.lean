/-
  Walks of layer 1, second part: key words and names.
-/
import Derived.Test.YtpkgiemdnfbopaaGreatWa
import Derived.Lib.SlicesS
namespace Go.Proofs.YtpkgiemdnfbopaaGreat
open Go.RowKit

def keyStrs : List ByteArray := Pl.keys.map fun l => ⟨l.toArray⟩
theorem mem_keyStrs (s : ByteArray) : s ∈ keyStrs ↔ Pl.isKey s.toList = true := by
  unfold keyStrs Pl.isKey
  rw [List.contains_iff_mem, List.mem_map, Pl.toList_eq]
  constructor
  · rintro ⟨l, hl, rfl⟩; simpa using hl
  · intro h; exact ⟨_, h, rfl⟩
/-- What a slice's cells hold: these strings. -/
def StrsAt (w : World) (b off : Nat) (zs : List ByteArray) : Prop := ∀ j, j < zs.length → w.cell? ⟨b, off + j, none⟩ = some (.string (zs.getD j ByteArray.empty))
theorem StrsAt.below {w w' : World} {B b off : Nat} {zs : List ByteArray} (h : StrsAt w b off zs) (hb : Below B w w') (hB : b < B) : StrsAt w' b off zs := fun j hj => by
  rw [hb.cell (p := ⟨b, off + j, none⟩) hB]; exact h j hj
theorem strsAt_alloc (w : World) (zs : List ByteArray) (t : TypeId) : StrsAt (w.alloc (.cells (zs.map Value.string).toArray t)) w.heap.size 0 zs := fun j hj => by
  rw [World.cell?_alloc_new]
  simp [List.getD, hj]
set_option maxHeartbeats 400000 in
theorem rFind_any (b off n c : Nat) (zs : List ByteArray) (x : ByteArray) (w : World) (hz : n ≤ zs.length) (hn : n ≤ maxLen) (hc : StrsAt w b off zs) :
    Calls Tryz.prog 124 #[.slice (some ⟨b, off, none⟩) n c, .string x] w fun e w' => e = .returned (.int .i64 (Lib.idxOfS (zs.take n) x)) ∧ w = w' := by
  unfold maxLen at hn
  have HC := Lib.hid hc
  clear hc
  go_enter Tryz.func124, Tryz.ntmps124
  go_wp2
  go_loop [5] (fun i => ∃ k : Nat, k ≤ n ∧ i = .int .i64 k ∧ ∀ j, j < k → zs.getD j ByteArray.empty ≠ x) (fun i => n - (intOf i).toNat)
  case atStart => exact ⟨0, by omega, rfl, fun j hj => absurd hj (Nat.not_lt_zero _)⟩
  case round =>
    obtain ⟨k, hk, rfl, hin⟩ := hrel
    have HI := Lib.hid hin
    clear hin
    by_cases hlt : k < n
    · have hcell : w.cell? ⟨b, off + k, none⟩ = some (.string (zs.getD k ByteArray.empty)) := HC.out k (by omega)
      generalize hzk : zs.getD k ByteArray.empty = z at hcell
      have HZ := Lib.hid hzk
      clear hzk
      by_cases he : z = x
      · have he2 : (z.toList == x.toList) = true := (Lib.bytes_beq_iff z x).2 he
        have HE := Lib.hid he
        clear he
        go_wp2
        go_ret
        exact ⟨ret_int (Lib.idxOfS_hit zs n k x hlt hz (HZ.out.trans HE.out) HI.out).symm, rfl⟩
      · have he2 : (z.toList == x.toList) = false := (Lib.bytes_beq_false_iff z x).2 he
        have HE := Lib.hid he
        clear he
        go_wp2
        go_round
        case rel => exact ⟨k + 1, by omega, by go_num, fun j hj => by
          rcases Nat.lt_succ_iff_lt_or_eq.1 hj with h | h
          · exact HI.out j h
          · subst h; rw [HZ.out]; exact HE.out⟩
        case measure => simp [intOf]; omega
    · go_wp2
      go_ret
      exact ⟨ret_int (Lib.idxOfS_miss zs n x (fun j hj => HI.out j (by omega))).symm, rfl⟩
end Go.Proofs.YtpkgiemdnfbopaaGreat
