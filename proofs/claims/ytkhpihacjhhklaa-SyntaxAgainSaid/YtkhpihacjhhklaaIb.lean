/-
  Walks of layer 1, second part: key words and names.
-/
import Derived.Test.YtkhpihacjhhklaaIa
import Derived.Test.YtkhpihacjhhklaaShelf
namespace Go.Proofs.Ytkhpihacjhhklaa
open Go.RowKit

set_option maxHeartbeats 400000 in
theorem isKey_no (s : ByteArray) (w : World) (h : Pl.isKey s.toList = false) :
    Calls Try.prog 88 #[.string s] w fun e w' => e = .returned (.bool false) ∧ w = w' := by
  simp only [Pl.isKey, Pl.keys, List.contains_cons, Bool.or_eq_false_iff] at h
  obtain ⟨h1, h2, h3, h4, h5, h6, h7, h8, h9, h10, h11, h12, h13, h14, h15, h16, h17, h18, h19, h20, h21, h22, h23, h24, h25, h26, h27, h28, h29, h30, h31, h32⟩ := h
  go_enter Try.func88, Try.ntmps88
  go_wp2
  go_ret
  exact ⟨rfl, rfl⟩
set_option maxHeartbeats 4000000 in
theorem isKey_yes (s : ByteArray) (w : World) (h : Pl.isKey s.toList = true) :
    Calls Try.prog 88 #[.string s] w fun e w' => e = .returned (.bool true) ∧ w = w' := by
  have h' : s.toList ∈ Pl.keys := by simpa [Pl.isKey] using h
  clear h
  simp only [Pl.keys, List.mem_cons, List.mem_nil_iff, or_false] at h'
  rcases h' with h | h | h | h | h | h | h | h | h | h | h | h | h | h | h | h | h | h | h | h | h | h | h | h | h | h | h | h | h | h | h
  all_goals
    go_enter Try.func88, Try.ntmps88
    go_wp2
    go_ret
    exact ⟨rfl, rfl⟩
theorem isKey_any (s : ByteArray) (w : World) :
    Calls Try.prog 88 #[.string s] w fun e w' => e = .returned (.bool (Pl.isKey s.toList)) ∧ w = w' := by
  cases h : Pl.isKey s.toList
  · exact isKey_no s w h
  · exact isKey_yes s w h

def keyStrs : List ByteArray := Pl.keys.map fun l => ⟨l.toArray⟩
set_option maxHeartbeats 400000 in
theorem keys_any (w : World) :
    Calls Try.prog 113 #[] w fun e w' => e = .returned (.slice (some ⟨w.heap.size, 0, none⟩) 31 31) ∧ w.alloc (.cells (keyStrs.map Value.string).toArray 9) = w' := by
  go_enter Try.func113, Try.ntmps113
  go_wp2
  go_ret
  exact ⟨rfl, rfl⟩
theorem mem_keyStrs (s : ByteArray) : s ∈ keyStrs ↔ Pl.isKey s.toList = true := by
  unfold keyStrs Pl.isKey
  rw [List.contains_iff_mem, List.mem_map, Pl.toList_eq]
  constructor
  · rintro ⟨l, hl, rfl⟩; simpa using hl
  · intro h; exact ⟨_, h, rfl⟩
/-- What a slice's cells hold: these strings. -/
def StrsAt (w : World) (b off : Nat) (zs : List ByteArray) : Prop := ∀ j, j < zs.length → w.cell? ⟨b, off + j, none⟩ = some (.string (zs.getD j ByteArray.empty))
theorem StrsAt.below {w w' : World} {B b off : Nat} {zs : List ByteArray} (h : StrsAt w b off zs) (hb : Below B w w') (hB : b < B) : StrsAt w' b off zs := fun j hj => by
  rw [hb.cell (p := ⟨b, off + j, none⟩) hB]; exact h j hj
theorem strsAt_alloc (w : World) (zs : List ByteArray) (t : TypeId) : StrsAt (w.alloc (.cells (zs.map Value.string).toArray t)) w.heap.size 0 zs := fun j hj => by
  rw [World.cell?_alloc_new]
  simp [List.getD, hj]
set_option maxHeartbeats 400000 in
theorem rFind_any (b off n c : Nat) (zs : List ByteArray) (x : ByteArray) (w : World) (hz : n ≤ zs.length) (hn : n ≤ maxLen) (hc : StrsAt w b off zs) :
    Calls Try.prog 112 #[.slice (some ⟨b, off, none⟩) n c, .string x] w fun e w' => e = .returned (.int .i64 (Lib.idxOfS (zs.take n) x)) ∧ w = w' := by
  unfold maxLen at hn
  have HC := Lib.hid hc
  clear hc
  go_enter Try.func112, Try.ntmps112
  go_wp2
  go_loop [5] (fun i => ∃ k : Nat, k ≤ n ∧ i = .int .i64 k ∧ ∀ j, j < k → zs.getD j ByteArray.empty ≠ x) (fun i => n - (intOf i).toNat)
  case atStart => exact ⟨0, by omega, rfl, fun j hj => absurd hj (Nat.not_lt_zero _)⟩
  case round =>
    obtain ⟨k, hk, rfl, hin⟩ := hrel
    have HI := Lib.hid hin
    clear hin
    by_cases hlt : k < n
    · have hcell : w.cell? ⟨b, off + k, none⟩ = some (.string (zs.getD k ByteArray.empty)) := HC.out k (by omega)
      generalize hzk : zs.getD k ByteArray.empty = z at hcell
      have HZ := Lib.hid hzk
      clear hzk
      by_cases he : z = x
      · have he2 : (z.toList == x.toList) = true := (Lib.bytes_beq_iff z x).2 he
        have HE := Lib.hid he
        clear he
        go_wp2
        go_ret
        exact ⟨ret_int (Lib.idxOfS_hit zs n k x hlt hz (HZ.out.trans HE.out) HI.out).symm, rfl⟩
      · have he2 : (z.toList == x.toList) = false := (Lib.bytes_beq_false_iff z x).2 he
        have HE := Lib.hid he
        clear he
        go_wp2
        go_round
        case rel => exact ⟨k + 1, by omega, by go_num, fun j hj => by
          rcases Nat.lt_succ_iff_lt_or_eq.1 hj with h | h
          · exact HI.out j h
          · subst h; rw [HZ.out]; exact HE.out⟩
        case measure => simp [intOf]; omega
    · go_wp2
      go_ret
      exact ⟨ret_int (Lib.idxOfS_miss zs n x (fun j hj => HI.out j (by omega))).symm, rfl⟩
end Go.Proofs.Ytkhpihacjhhklaa
