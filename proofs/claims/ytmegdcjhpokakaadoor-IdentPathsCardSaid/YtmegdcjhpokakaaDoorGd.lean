/-
  The law IdentPaths, as a walk.
-/
import Derived.Test.YtmegdcjhpokakaaDoorWk
namespace Go.Proofs.YtmegdcjhpokakaaDoor
open Go.RowKit

theorem identPaths_long {w : World} {v : Value} {zs : List ByteArray} (s : ByteArray) (hs : s.size ≤ maxLen) (h : SliceOf w v zs) (hw : Wok w) (hl : 1000 < s.size ∨ s.size ≤ 1000 ∧ isLong zs = true) :
    Calls Tryd.prog 5 #[.string s, v] w fun e w' => e = .returned (.bool true) ∧ Below w.heap.size w w' := by
  unfold maxLen at hs
  rcases hl with hl | ⟨hl, hlo⟩
  · have hl' : decide ((1000 : Int) < (s.size : Int)) = true := by simp; omega
    clear h
    go_enter Tryd.func5, Tryd.ntmps5
    go_wp2_with fail
    refine (awake_any _ hw).mono ?_
    rintro e w1 ⟨rfl, hb1⟩
    have hw1 := hw.below hb1
    have HB1 := Lib.hid hb1
    clear hb1
    go_wp2_with fail
    refine (awake_any _ hw1).mono ?_
    rintro e w2 ⟨rfl, hb2⟩
    have HB2 := Lib.hid hb2
    clear hb2
    go_wp2
    go_ret
    exact ⟨rfl, HB1.out.trans (HB2.out.mono HB1.out.size)⟩
  · have hl' : decide ((1000 : Int) < (s.size : Int)) = false := by simp; omega
    go_enter Tryd.func5, Tryd.ntmps5
    go_wp2_with fail
    refine (awake_any _ hw).mono ?_
    rintro e w1 ⟨rfl, hb1⟩
    have hw1 := hw.below hb1
    have hx := long_of (h.below hb1)
    rw [hlo] at hx
    have HX := Lib.hid hx
    have HB1 := Lib.hid hb1
    clear hb1 hx hlo h
    go_wp2_with fail
    refine HX.out.mono ?_
    rintro e w' ⟨rfl, rfl⟩
    go_wp2_with fail
    refine (awake_any _ hw1).mono ?_
    rintro e w2 ⟨rfl, hb2⟩
    have HB2 := Lib.hid hb2
    clear hb2
    go_wp2
    go_ret
    exact ⟨rfl, HB1.out.trans (HB2.out.mono HB1.out.size)⟩
set_option maxHeartbeats 1000000 in
theorem identPaths_walk {w : World} {v : Value} {zs : List ByteArray} (s : ByteArray) (hs : s.size ≤ maxLen) (h : SliceOf w v zs) (hw : Wok w) :
    Calls Tryd.prog 5 #[.string s, v] w fun e w' => e = .returned (.bool true) ∧ Below w.heap.size w w' := by
  by_cases hl : s.size ≤ 1000
  · cases hlo : isLong zs
    · have hl' : decide ((1000 : Int) < (s.size : Int)) = false := by simp; omega
      cases hp : Pl.isPath (Pl.splitS s)
      · cases hq : Pl.isPath zs
        · go_enter Tryd.func5, Tryd.ntmps5
          go_wp2_with fail
          refine (awake_any _ hw).mono ?_
          rintro e w1 ⟨rfl, hb1⟩
          have hw1 := hw.below hb1
          have h1 := h.below hb1
          have hx := long_of h1
          rw [hlo] at hx
          have HX := Lib.hid hx
          have HB1 := Lib.hid hb1
          have HPP := Lib.hid (parsePath_no s w1 (by omega) hw1 hp)
          clear hb1 hx
          go_wp2_with fail
          refine HX.out.mono ?_
          rintro e w' ⟨rfl, rfl⟩
          go_wp2_with fail
          refine HPP.out.mono ?_
          rintro e w2 ⟨rfl, hb2⟩
          have h2 := h1.below hb2
          have HB2 := Lib.hid (HB1.out.trans (hb2.mono HB1.out.size))
          have HPT := Lib.hid (pathText_no h2 hq)
          clear hb2
          go_wp2_with fail
          refine HPT.out.mono ?_
          rintro e w' ⟨rfl, rfl⟩
          have HRP := Lib.hid (rParsePath_no s w2 hl hp)
          go_wp2_with fail
          refine HRP.out.mono ?_
          rintro e w4 ⟨rfl, hb4⟩
          have h4 := h2.below hb4
          have HB4 := Lib.hid (HB2.out.trans (hb4.mono HB2.out.size))
          clear hb4
          have hri := rIsPath_of h4
          rw [hq] at hri
          have HRI := Lib.hid hri
          clear hri
          go_wp2_with fail
          refine HRI.out.mono ?_
          rintro e w6 ⟨rfl, hb6⟩
          have HB6 := Lib.hid (HB4.out.trans (hb6.mono HB4.out.size))
          clear hb6
          go_wp2
          go_ret
          exact ⟨rfl, HB6.out⟩
        · go_enter Tryd.func5, Tryd.ntmps5
          go_wp2_with fail
          refine (awake_any _ hw).mono ?_
          rintro e w1 ⟨rfl, hb1⟩
          have hw1 := hw.below hb1
          have h1 := h.below hb1
          have hx := long_of h1
          rw [hlo] at hx
          have HX := Lib.hid hx
          have HB1 := Lib.hid hb1
          have HPP := Lib.hid (parsePath_no s w1 (by omega) hw1 hp)
          clear hb1 hx
          go_wp2_with fail
          refine HX.out.mono ?_
          rintro e w' ⟨rfl, rfl⟩
          go_wp2_with fail
          refine HPP.out.mono ?_
          rintro e w2 ⟨rfl, hb2⟩
          have h2 := h1.below hb2
          have HB2 := Lib.hid (HB1.out.trans (hb2.mono HB1.out.size))
          have HPT := Lib.hid (pathText_yes h2 hq)
          clear hb2
          go_wp2_with fail
          refine HPT.out.mono ?_
          rintro e w3 ⟨rfl, hb3⟩
          have h3 := h2.below hb3
          have HB3 := Lib.hid (HB2.out.trans (hb3.mono HB2.out.size))
          clear hb3
          have HRP := Lib.hid (rParsePath_no s w3 hl hp)
          go_wp2_with fail
          refine HRP.out.mono ?_
          rintro e w4 ⟨rfl, hb4⟩
          have h4 := h3.below hb4
          have HB4 := Lib.hid (HB3.out.trans (hb4.mono HB3.out.size))
          clear hb4
          have hri := rIsPath_of h4
          rw [hq] at hri
          have HRI := Lib.hid hri
          clear hri
          go_wp2_with fail
          refine HRI.out.mono ?_
          rintro e w6 ⟨rfl, hb6⟩
          have HB6 := Lib.hid (HB4.out.trans (hb6.mono HB4.out.size))
          have HRT := Lib.hid (rPathText_of (h4.below hb6) hq)
          clear hb6
          go_wp2_with fail
          refine HRT.out.mono ?_
          rintro e w' ⟨rfl, rfl⟩
          go_wp2
          go_ret
          exact ⟨rfl, HB6.out⟩
      · cases hq : Pl.isPath zs
        · go_enter Tryd.func5, Tryd.ntmps5
          go_wp2_with fail
          refine (awake_any _ hw).mono ?_
          rintro e w1 ⟨rfl, hb1⟩
          have hw1 := hw.below hb1
          have h1 := h.below hb1
          have hx := long_of h1
          rw [hlo] at hx
          have HX := Lib.hid hx
          have HB1 := Lib.hid hb1
          have HPP := Lib.hid (parsePath_ok s w1 hl hw1 hp)
          clear hb1 hx
          go_wp2_with fail
          refine HX.out.mono ?_
          rintro e w' ⟨rfl, rfl⟩
          go_wp2_with fail
          refine HPP.out.mono ?_
          rintro e w2 ⟨v1, rfl, hv1, hb2⟩
          have h2 := h1.below hb2
          have HB2 := Lib.hid (HB1.out.trans (hb2.mono HB1.out.size))
          have HV1 := Lib.hid hv1
          clear hv1
          have HPT := Lib.hid (pathText_no h2 hq)
          clear hb2
          go_wp2_with fail
          refine HPT.out.mono ?_
          rintro e w' ⟨rfl, rfl⟩
          have HRP := Lib.hid (rParsePath_ok s w2 hl hp)
          go_wp2_with fail
          refine HRP.out.mono ?_
          rintro e w4 ⟨v2, rfl, hv2, hb4⟩
          have h4 := h2.below hb4
          have HB4 := Lib.hid (HB2.out.trans (hb4.mono HB2.out.size))
          have HEQ := Lib.hid (equal_of (HV1.out.below hb4) hv2 (Pl.path_len _ hp).1)
          clear hv2
          clear hb4
          go_wp2_with fail
          refine HEQ.out.mono ?_
          rintro e w5 ⟨rfl, hb5⟩
          have h5 := h4.below hb5
          have HB5 := Lib.hid (HB4.out.trans (hb5.mono HB4.out.size))
          clear hb5
          have hri := rIsPath_of h5
          rw [hq] at hri
          have HRI := Lib.hid hri
          clear hri
          go_wp2_with fail
          refine HRI.out.mono ?_
          rintro e w6 ⟨rfl, hb6⟩
          have HB6 := Lib.hid (HB5.out.trans (hb6.mono HB5.out.size))
          clear hb6
          go_wp2
          go_ret
          exact ⟨rfl, HB6.out⟩
        · go_enter Tryd.func5, Tryd.ntmps5
          go_wp2_with fail
          refine (awake_any _ hw).mono ?_
          rintro e w1 ⟨rfl, hb1⟩
          have hw1 := hw.below hb1
          have h1 := h.below hb1
          have hx := long_of h1
          rw [hlo] at hx
          have HX := Lib.hid hx
          have HB1 := Lib.hid hb1
          have HPP := Lib.hid (parsePath_ok s w1 hl hw1 hp)
          clear hb1 hx
          go_wp2_with fail
          refine HX.out.mono ?_
          rintro e w' ⟨rfl, rfl⟩
          go_wp2_with fail
          refine HPP.out.mono ?_
          rintro e w2 ⟨v1, rfl, hv1, hb2⟩
          have h2 := h1.below hb2
          have HB2 := Lib.hid (HB1.out.trans (hb2.mono HB1.out.size))
          have HV1 := Lib.hid hv1
          clear hv1
          have HPT := Lib.hid (pathText_yes h2 hq)
          clear hb2
          go_wp2_with fail
          refine HPT.out.mono ?_
          rintro e w3 ⟨rfl, hb3⟩
          have h3 := h2.below hb3
          have HB3 := Lib.hid (HB2.out.trans (hb3.mono HB2.out.size))
          have HV1b := Lib.hid (HV1.out.below hb3)
          clear hb3
          have HRP := Lib.hid (rParsePath_ok s w3 hl hp)
          go_wp2_with fail
          refine HRP.out.mono ?_
          rintro e w4 ⟨v2, rfl, hv2, hb4⟩
          have h4 := h3.below hb4
          have HB4 := Lib.hid (HB3.out.trans (hb4.mono HB3.out.size))
          have HEQ := Lib.hid (equal_of (HV1b.out.below hb4) hv2 (Pl.path_len _ hp).1)
          clear hv2
          clear hb4
          go_wp2_with fail
          refine HEQ.out.mono ?_
          rintro e w5 ⟨rfl, hb5⟩
          have h5 := h4.below hb5
          have HB5 := Lib.hid (HB4.out.trans (hb5.mono HB4.out.size))
          clear hb5
          have hri := rIsPath_of h5
          rw [hq] at hri
          have HRI := Lib.hid hri
          clear hri
          go_wp2_with fail
          refine HRI.out.mono ?_
          rintro e w6 ⟨rfl, hb6⟩
          have HB6 := Lib.hid (HB5.out.trans (hb6.mono HB5.out.size))
          have HRT := Lib.hid (rPathText_of (h5.below hb6) hq)
          clear hb6
          go_wp2_with fail
          refine HRT.out.mono ?_
          rintro e w' ⟨rfl, rfl⟩
          go_wp2
          go_ret
          exact ⟨rfl, HB6.out⟩
    · exact identPaths_long s hs h hw (.inr ⟨hl, hlo⟩)
  · exact identPaths_long s hs h hw (.inl (by omega))
end Go.Proofs.YtmegdcjhpokakaaDoor
