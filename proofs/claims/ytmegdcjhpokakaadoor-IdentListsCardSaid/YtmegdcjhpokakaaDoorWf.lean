/-
  Walks of layer 1, sixth part: ParsePath and PathText, and the laws' own examples.
-/
import Derived.Test.YtmegdcjhpokakaaDoorWe
namespace Go.Proofs.YtmegdcjhpokakaaDoor
open Go.RowKit

/-- What every walk is handed of the world: the library's own variable holds a number. -/
def Wok (w : World) : Prop := (∃ m, w.cell? ⟨0, 0, none⟩ = some (.int .i64 m)) ∧ 0 < w.heap.size
theorem Wok.below {w w' : World} (h : Wok w) (hb : Below w.heap.size w w') : Wok w' := by
  obtain ⟨⟨m, hm⟩, h1⟩ := h
  exact ⟨⟨m, (hb.cell (p := ⟨0, 0, none⟩) h1).trans hm⟩, Nat.lt_of_lt_of_le h1 hb.size⟩
theorem splitS_size (s : ByteArray) (hs : s.size ≤ maxLen) : ∀ z ∈ Pl.splitS s, z.size ≤ maxLen := fun z hz => Nat.le_trans (Pl.splitS_le s z hz) hs
theorem count_dot (s : ByteArray) (w : World) :
    Calls Tryd.prog 38 #[.string s, .string ⟨#[46]⟩] w fun e w' => e = .returned (.int .i64 ((s.toList.count 46 : Nat) : Int)) ∧ w = w' := by
  refine (Tryd.strings_Count_one s 46 w).mono ?_
  rintro e w' ⟨rfl, rfl⟩
  exact ⟨by rw [Pl.toList_eq]; rfl, rfl⟩
theorem split_dot (s : ByteArray) (w : World) (hs : s.size < 4294967281) (hw : Wok w) :
    Calls Tryd.prog 55 #[.string s, .string ⟨#[46]⟩] w fun e w' => e = .returned (.slice (some ⟨w.heap.size, 0, none⟩) (Pl.splitS s).length (Pl.splitS s).length) ∧ w.alloc (.cells ((Pl.splitS s).map Value.string).toArray 9) = w' := by
  obtain ⟨⟨m, hm⟩, _⟩ := hw
  have h := Tryd.strings_Split s ⟨#[46]⟩ m w hs hm (by decide)
  rw [Pl.splitB_eq, Pl.countB_eq, ← Pl.splitS_length] at h
  exact h.mono fun e w' ⟨h1, h2⟩ => ⟨h1, h2.symm⟩
/-- what the call gives, if the text is a path, and if it is none -/
theorem parsePath_no (s : ByteArray) (w : World) (hs : s.size < 4294967281) (hw : Wok w) (hp : Pl.isPath (Pl.splitS s) = false) :
    Calls Tryd.prog 25 #[.string s] w fun e w' => e = .returned (.tuple #[.slice none 0 0, .int .i64 3]) ∧ Below w.heap.size w w' := by
  have HC := Lib.hid (count_dot s w)
  have hl := Pl.splitS_length s
  by_cases h8 : s.toList.count 46 < 8
  · have HSP := Lib.hid (split_dot s w hs hw)
    have HIP := Lib.hid (isPath_any w.heap.size 0 (Pl.splitS s).length (Pl.splitS s).length (Pl.splitS s) _ rfl (by omega) (Nat.le_refl _) (by unfold maxLen; omega) (splitS_size s (by unfold maxLen; omega)) (strsAt_alloc w (Pl.splitS s) 9))
    rw [hp] at HIP
    have h8' : ¬ (8 : Int) ≤ ((s.toList.count 46 : Nat) : Int) := by omega
    clear hl h8
    generalize s.toList.count 46 = cnt at HC h8'
    generalize hzs : Pl.splitS s = zs at HSP HIP
    clear hzs hp hw hs
    go_enter Tryd.func25, Tryd.ntmps25
    go_wp2_with (first | (go_at_call 38; refine HC.out.mono ?_; rintro e w' ⟨rfl, rfl⟩) | (go_at_call 55; refine HSP.out.mono ?_; rintro e w' ⟨rfl, rfl⟩) | (go_at_call 56; refine HIP.out.mono ?_; rintro e w' ⟨rfl, rfl⟩))
    go_ret2
    exact ⟨rfl, (Below.refl _ _).alloc (Nat.le_refl _) _⟩
  · have h8' : (8 : Int) ≤ ((s.toList.count 46 : Nat) : Int) := by omega
    generalize s.toList.count 46 = cnt at HC h8'
    clear hl h8 hp hw hs
    go_enter Tryd.func25, Tryd.ntmps25
    go_wp2_with (first | (go_at_call 38; refine HC.out.mono ?_; rintro e w' ⟨rfl, rfl⟩))
    go_ret2
    exact ⟨rfl, Below.refl _ _⟩
theorem parsePath_yes (s : ByteArray) (w : World) (hs : s.size < 4294967281) (hw : Wok w) (hp : Pl.isPath (Pl.splitS s) = true) :
    Calls Tryd.prog 25 #[.string s] w fun e w' => e = .returned (.tuple #[.slice (some ⟨w.heap.size, 0, none⟩) (Pl.splitS s).length (Pl.splitS s).length, .int .i64 0]) ∧ w.alloc (.cells ((Pl.splitS s).map Value.string).toArray 9) = w' := by
  have HC := Lib.hid (count_dot s w)
  have hl := Pl.splitS_length s
  have h8 : s.toList.count 46 < 8 := by
    have : (Pl.splitS s).length ≤ 8 := by
      by_cases h : 8 < (Pl.splitS s).length
      · rw [Pl.isPath_long _ h] at hp; cases hp
      · omega
    omega
  have HSP := Lib.hid (split_dot s w hs hw)
  have HIP := Lib.hid (isPath_any w.heap.size 0 (Pl.splitS s).length (Pl.splitS s).length (Pl.splitS s) _ rfl (by omega) (Nat.le_refl _) (by unfold maxLen; omega) (splitS_size s (by unfold maxLen; omega)) (strsAt_alloc w (Pl.splitS s) 9))
  rw [hp] at HIP
  have h8' : ¬ (8 : Int) ≤ ((s.toList.count 46 : Nat) : Int) := by omega
  clear hl h8
  generalize s.toList.count 46 = cnt at HC h8'
  generalize Pl.splitS s = zs at HSP HIP
  clear hp hw hs
  go_enter Tryd.func25, Tryd.ntmps25
  go_wp2_with (first | (go_at_call 38; refine HC.out.mono ?_; rintro e w' ⟨rfl, rfl⟩) | (go_at_call 55; refine HSP.out.mono ?_; rintro e w' ⟨rfl, rfl⟩) | (go_at_call 56; refine HIP.out.mono ?_; rintro e w' ⟨rfl, rfl⟩))
  go_ret2
  exact ⟨rfl, rfl⟩
theorem equal_any (b1 o1 c b2 o2 d : Nat) (xs ys : List ByteArray) (w : World) (n m : Nat) (hn : xs.length = n) (hm : ys.length = m) (hx : xs.length ≤ maxLen) (hy : ys.length ≤ maxLen) (h1 : StrsAt w b1 o1 xs) (h2 : StrsAt w b2 o2 ys) :
    Calls Tryd.prog 28 #[.slice (some ⟨b1, o1, none⟩) n c, .slice (some ⟨b2, o2, none⟩) m d] w fun e w' => e = .returned (.bool (decide (xs = ys))) ∧ ∃ q, w' = w.drewN q := by
  subst hn; subst hm
  have h := Tryd.slices_Equal_string b1 o1 xs.length c b2 o2 ys.length d xs ys w (Nat.le_refl _) (Nat.le_refl _) hx hy h1 h2
  rw [List.take_length, List.take_length] at h
  exact h
theorem two_at (W : World) (zs : List ByteArray) : StrsAt ((W.alloc (.cells (zs.map Value.string).toArray 9)).alloc (.cells (zs.map Value.string).toArray 9)) W.heap.size 0 zs ∧ StrsAt ((W.alloc (.cells (zs.map Value.string).toArray 9)).alloc (.cells (zs.map Value.string).toArray 9)) (W.heap.size + 1) 0 zs := by
  refine ⟨(strsAt_alloc W zs 9).below (B := W.heap.size + 1) (Below.alloc (Below.refl _ _) (by simp) _) (Nat.lt_succ_self _), ?_⟩
  have h := strsAt_alloc (W.alloc (.cells (zs.map Value.string).toArray 9)) zs 9
  have e : (W.alloc (.cells (zs.map Value.string).toArray 9)).heap.size = W.heap.size + 1 := by simp
  rw [e] at h; exact h
/-- the examples of the chapter hold -/
theorem awake_any (w : World) (hw : Wok w) :
    Calls Tryd.prog 10 #[] w fun e w' => e = .returned (.bool true) ∧ Below w.heap.size w w' := by
  have HL := Lib.hid (label_any 4 ⟨#[88]⟩ w (by decide))
  have e1 : (Pl.label 4 (⟨#[88]⟩ : ByteArray).toList) = ([109, 111, 100, 46, 88], 0) := by rw [Pl.toList_eq]; decide
  rw [e1, show Pl.mk [109, 111, 100, 46, 88] = ⟨#[109, 111, 100, 46, 88]⟩ from rfl] at HL
  have e2 : Pl.splitS ⟨#[77, 46, 120]⟩ = [⟨#[77]⟩, ⟨#[120]⟩] := by unfold Pl.splitS; rw [Pl.toList_eq]; rfl
  have HPP := Lib.hid (parsePath_yes ⟨#[77, 46, 120]⟩ w (by decide) hw (by rw [e2]; unfold Pl.isPath; decide +kernel))
  rw [e2] at HPP
  have HEQ := Lib.hid (equal_any w.heap.size 0 2 (w.heap.size + 1) 0 2 [⟨#[77]⟩, ⟨#[120]⟩] [⟨#[77]⟩, ⟨#[120]⟩] _ 2 2 rfl rfl (by decide) (by decide) (two_at w [⟨#[77]⟩, ⟨#[120]⟩]).1 (two_at w [⟨#[77]⟩, ⟨#[120]⟩]).2)
  rw [decide_eq_true rfl] at HEQ
  have HM2 := Lib.hid (fun wx => isLower_any ⟨#[109, 111, 100, 50]⟩ wx (by decide))
  rw [show Pl.isLower (⟨#[109, 111, 100, 50]⟩ : ByteArray).toList = true from by rw [Pl.toList_eq]; decide] at HM2
  have HM := Lib.hid (fun wx => isLower_any ⟨#[109, 111, 100]⟩ wx (by decide))
  rw [show Pl.isLower (⟨#[109, 111, 100]⟩ : ByteArray).toList = false from by rw [Pl.toList_eq]; decide] at HM
  clear e1 e2
  go_enter Tryd.func10, Tryd.ntmps10
  go_wp2_with (first | (go_at_call 19; refine HL.out.mono ?_; rintro e w' ⟨rfl, rfl⟩) | (go_at_call 25; refine HPP.out.mono ?_; rintro e w' ⟨rfl, rfl⟩) | (go_at_call 28; refine HEQ.out.mono ?_; rintro e w' ⟨rfl, q, rfl⟩) | (with_reducible refine (HM2.out _).mono ?_; rintro e w' ⟨rfl, rfl⟩) | (with_reducible refine (HM.out _).mono ?_; rintro e w' ⟨rfl, rfl⟩))
  go_ret
  exact ⟨rfl, below_drewN (((Below.refl _ _).alloc (Nat.le_refl _) _).alloc (by simp) _) q⟩
end Go.Proofs.YtmegdcjhpokakaaDoor
