/-
  Walks of layer 1, seventh part: lists of strings that came in.
-/
import Derived.Test.YtmegdcjhpokakaaDoorWf
import Derived.BigQuiet
import Derived.Deep.QuietTactic
namespace Go.Proofs.YtmegdcjhpokakaaDoor
open Go.RowKit

/-- A value that is a slice of these strings: nil or empty, or somewhere in memory. -/
def SliceOf (w : World) (v : Value) (zs : List ByteArray) : Prop :=
  (zs = [] ∧ ∃ a c, v = .slice a 0 c) ∨
  ∃ b off c, v = .slice (some ⟨b, off, none⟩) zs.length c ∧ 1 ≤ zs.length ∧ zs.length ≤ c ∧ c ≤ maxLen ∧ b < w.heap.size ∧ (∀ s ∈ zs, s.size ≤ maxLen) ∧ StrsAt w b off zs
theorem SliceOf.below {w w' : World} {v : Value} {zs : List ByteArray} (h : SliceOf w v zs) (hb : Below w.heap.size w w') : SliceOf w' v zs := by
  rcases h with h | ⟨b, off, c, h1, h2, h3, h4, h5, h6, h7⟩
  · exact .inl h
  · exact .inr ⟨b, off, c, h1, h2, h3, h4, Nat.lt_of_lt_of_le h5 hb.size, h6, h7.below hb h5⟩
theorem isPath_of {w : World} {v : Value} {zs : List ByteArray} (h : SliceOf w v zs) :
    Calls Tryd.prog 56 #[v] w fun e w' => e = .returned (.bool (Pl.isPath zs)) ∧ w = w' := by
  rcases h with ⟨rfl, a, c, rfl⟩ | ⟨b, off, c, rfl, h2, h3, h4, _, h6, h7⟩
  · exact isPath_empty a c w
  · exact isPath_any b off zs.length c zs w rfl h2 h3 h4 h6 h7
theorem rIsPath_of {w : World} {v : Value} {zs : List ByteArray} (h : SliceOf w v zs) :
    Calls Tryd.prog 29 #[v] w fun e w' => e = .returned (.bool (Pl.isPath zs)) ∧ Below w.heap.size w w' := by
  rcases h with ⟨rfl, a, c, rfl⟩ | ⟨b, off, c, rfl, h2, h3, h4, h5, h6, h7⟩
  · exact rIsPath_empty a c w
  · exact rIsPath_any b off zs.length c zs w rfl h2 (Nat.le_trans h3 h4) h5 h6 h7

/-- one element of such a list, as the walk meets it -/
theorem StrsAt.cell {w : World} {b off : Nat} {zs : List ByteArray} (h : StrsAt w b off zs) (k : Nat) (hk : k < zs.length) : w.cell? ⟨b, off + k, none⟩ = some (.string (Pl.el zs k)) := h k hk
theorem el_size {zs : List ByteArray} (h : ∀ s ∈ zs, s.size ≤ maxLen) (k : Nat) (hk : k < zs.length) : (Pl.el zs k).size ≤ maxLen := by
  have e : Pl.el zs k = zs[k] := by simp [Pl.el, List.getD, hk]
  rw [e]; exact h _ (List.getElem_mem _)
def tooLong (s : ByteArray) : Bool := decide (300 < s.size)
theorem el_any (p : ByteArray → Bool) (zs : List ByteArray) (k : Nat) (hk : k < zs.length) (h : p (Pl.el zs k) = true) : zs.any p = true := by
  have e : Pl.el zs k = zs[k] := by simp [Pl.el, List.getD, hk]
  rw [e] at h
  exact List.any_eq_true.2 ⟨_, List.getElem_mem _, h⟩
theorem any_none (p : ByteArray → Bool) (zs : List ByteArray) (h : ∀ k, k < zs.length → p (Pl.el zs k) = false) : zs.any p = false := by
  rw [List.any_eq_false]
  intro s hs
  obtain ⟨k, hk, rfl⟩ := List.getElem_of_mem hs
  have e : Pl.el zs k = zs[k] := by simp [Pl.el, List.getD, hk]
  have := h k hk
  rw [e] at this; simp [this]

theorem long1_any (s : ByteArray) (w : World) (hs : s.size ≤ maxLen) :
    Calls Tryd.prog 54 #[.string s] w fun e w' => e = .returned (.bool (tooLong s)) ∧ w = w' := by
  unfold maxLen at hs
  have HT := Lib.hid (show tooLong s = decide (300 < s.size) from rfl)
  go_enter Tryd.func54, Tryd.ntmps54
  go_wp2
  go_ret
  exact ⟨ret_bool (by rw [HT.out, decide_eq_decide]; omega), rfl⟩
theorem indexFunc_empty (a : Option Addr) (c : Nat) (w : World) :
    Calls Tryd.prog 64 #[.slice a 0 c, .func (.func 54) #[] #[]] w fun e w' => e = .returned (.int .i64 (-1)) ∧ w = w' := by
  go_enter Tryd.func64, Tryd.ntmps64
  go_wp2
  go_loop [8] (fun i => i = .int .i64 0) (fun _ => 0)
  case atStart => exact rfl
  case round =>
    subst hrel
    go_wp2
    go_ret
    exact ⟨rfl, rfl⟩
/-- what IndexFunc answers: -1, or a place, as there is a string that is too long -/
def Found (zs : List ByteArray) (w : World) (e : Ending) (w' : World) : Prop := ∃ r : Int, e = .returned (.int .i64 r) ∧ decide (0 ≤ r) = zs.any tooLong ∧ w = w'
theorem indexFunc_any (b off n c : Nat) (zs : List ByteArray) (w : World) (hz : zs.length = n) (hn : n ≤ maxLen) (hsz : ∀ s ∈ zs, s.size ≤ maxLen) (hc : StrsAt w b off zs) :
    Calls Tryd.prog 64 #[.slice (some ⟨b, off, none⟩) n c, .func (.func 54) #[] #[]] w (Found zs w) := by
  have hn2 : n ≤ 9223372036854775807 := hn
  clear hn
  have HZ := Lib.hid hz
  have HC := Lib.hid hc.cell
  have HS := Lib.hid (el_size hsz)
  clear hz hc hsz
  go_enter Tryd.func64, Tryd.ntmps64
  go_wp2
  go_loop [8] (fun i => ∃ k : Nat, k ≤ n ∧ i = .int .i64 k ∧ ∀ j, j < k → tooLong (Pl.el zs j) = false) (fun i => n - (intOf i).toNat)
  case atStart => exact ⟨0, by omega, rfl, fun j hj => absurd hj (Nat.not_lt_zero _)⟩
  case round =>
    obtain ⟨k, hk, rfl, hin⟩ := hrel
    have HI := Lib.hid hin
    clear hin
    by_cases hlt : k < n
    · have hcell := HC.out k (by rw [HZ.out]; exact hlt)
      have hes := HS.out k (by rw [HZ.out]; exact hlt)
      have hyes := el_any tooLong zs k (by rw [HZ.out]; exact hlt)
      have hno : tooLong (Pl.el zs k) = false → ∀ j, j < k + 1 → tooLong (Pl.el zs j) = false := fun hq j hj => by
        rcases Nat.lt_succ_iff_lt_or_eq.1 hj with h | h
        · exact HI.out j h
        · subst h; exact hq
      generalize Pl.el zs k = z at hcell hes hyes hno
      have HE := Lib.hid hes
      have HY := Lib.hid hyes
      have HNO := Lib.hid hno
      clear hes hyes hno
      cases ht : tooLong z
      · have HT := Lib.hid ht
        go_wp2_with (go_at_call 54; refine (long1_any _ _ HE.out).mono ?_; rintro e w' ⟨rfl, rfl⟩)
        exact ⟨⟨k + 1, by omega, by go_num, HNO.out HT.out⟩, by simp [intOf]; omega⟩
      · have HT := Lib.hid ht
        go_wp2_with (go_at_call 54; refine (long1_any _ _ HE.out).mono ?_; rintro e w' ⟨rfl, rfl⟩)
        go_ret
        exact ⟨_, rfl, by rw [HY.out HT.out]; simp, rfl⟩
    · go_wp2
      go_ret
      exact ⟨_, rfl, by rw [any_none tooLong zs (fun j hj => HI.out j (by rw [HZ.out] at hj; omega))]; simp, rfl⟩
theorem indexFunc_of {w : World} {v : Value} {zs : List ByteArray} (h : SliceOf w v zs) :
    Calls Tryd.prog 64 #[v, .func (.func 54) #[] #[]] w (Found zs w) := by
  rcases h with ⟨rfl, a, c, rfl⟩ | ⟨b, off, c, rfl, h2, h3, h4, h5, h6, h7⟩
  · exact (indexFunc_empty a c w).mono fun e w' ⟨he, hw⟩ => ⟨-1, he, rfl, hw⟩
  · exact indexFunc_any b off zs.length c zs w rfl (Nat.le_trans h3 h4) h6 h7
theorem containsFunc_of {w : World} {v : Value} {zs : List ByteArray} (h : SliceOf w v zs) :
    Calls Tryd.prog 53 #[v, .func (.func 54) #[] #[]] w fun e w' => e = .returned (.bool (zs.any tooLong)) ∧ w = w' := by
  have HF := Lib.hid (indexFunc_of h)
  clear h
  go_enter Tryd.func53, Tryd.ntmps53
  go_wp2_with (go_at_call 64; refine HF.out.mono ?_; rintro e w' ⟨r, rfl, hr, rfl⟩; have HR := Lib.hid hr; clear hr)
  go_ret
  exact ⟨ret_bool HR.out, rfl⟩
def isLong (zs : List ByteArray) : Bool := decide (50 < zs.length) || zs.any tooLong
theorem long_of {w : World} {v : Value} {zs : List ByteArray} (h : SliceOf w v zs) :
    Calls Tryd.prog 24 #[v] w fun e w' => e = .returned (.bool (isLong zs)) ∧ w = w' := by
  have HF := Lib.hid (containsFunc_of h)
  have HL := Lib.hid (show isLong zs = (decide (50 < zs.length) || zs.any tooLong) from rfl)
  obtain ⟨a, n, c, rfl, hn, hm⟩ : ∃ a n c, v = .slice a n c ∧ zs.length = n ∧ n ≤ 9223372036854775807 := by
    rcases h with ⟨rfl, a, c, rfl⟩ | ⟨b, off, c, rfl, h2, h3, h4, h5, h6, h7⟩
    · exact ⟨a, 0, c, rfl, rfl, by omega⟩
    · exact ⟨_, _, c, rfl, rfl, Nat.le_trans h3 h4⟩
  rw [hn] at HL
  clear h hn
  generalize zs.any tooLong = t at HF HL
  by_cases h50 : 50 < n
  · have h50' : decide ((50 : Int) < (n : Int)) = true := by simp; omega
    go_enter Tryd.func24, Tryd.ntmps24
    go_wp2
    go_ret
    exact ⟨ret_bool (by rw [HL.out]; simp [h50]), rfl⟩
  · have h50' : decide ((50 : Int) < (n : Int)) = false := by simp; omega
    go_enter Tryd.func24, Tryd.ntmps24
    go_wp2_with (go_at_call 53; refine HF.out.mono ?_; rintro e w' ⟨rfl, rfl⟩)
    go_ret
    exact ⟨ret_bool (by rw [HL.out]; simp [h50]), rfl⟩
end Go.Proofs.YtmegdcjhpokakaaDoor
