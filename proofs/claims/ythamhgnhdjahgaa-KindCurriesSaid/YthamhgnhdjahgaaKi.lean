/-
  Walks of layer 8: the reference's Text.
-/
import Derived.Test.YthamhgnhdjahgaaKh
namespace Go.Proofs.Ythamhgnhdjahgaa
open Go Go.RowKit
open Pl (K)
set_option linter.unusedSimpArgs false

namespace Pl.K
/-- the text of a kind -/
def text : K → List UInt8
  | mk [] => [42]
  | mk [a, b] => (if a.l.length = 0 then text a else 40 :: (text a ++ [41])) ++ ([32, 45, 62, 32] ++ text b)
  | mk _ => []
theorem text_star : text (.mk []) = [42] := by rw [text]
theorem text_two (a b : K) : text (.mk [a, b]) = (if a.l.length = 0 then text a else 40 :: (text a ++ [41])) ++ ([32, 45, 62, 32] ++ text b) := by rw [text]
theorem ok_two {a b : K} (h : ok (.mk [a, b]) = true) : ok a = true ∧ ok b = true := by
  rw [ok, oks, oks, oks] at h
  simp only [Bool.and_eq_true] at h
  exact ⟨h.2.1, h.2.2.1⟩
theorem size_two (a b : K) : size (.mk [a, b]) = 1 + (size a + size b) := by rw [size, sizes, sizes, sizes]; omega
/-- what is well-formed has no part or two -/
theorem ok_cases {t : K} (h : ok t = true) : t = .mk [] ∨ ∃ a b, t = .mk [a, b] := by
  obtain ⟨l⟩ := t
  rw [ok, Bool.and_eq_true] at h
  match l, h with
  | [], _ => exact .inl rfl
  | [_], h => exact absurd h.1 (by simp)
  | [a, b], _ => exact .inr ⟨a, b, rfl⟩
  | _ :: _ :: _ :: _, h => exact absurd h.1 (by simp)
theorem text_len (t : K) (h : ok t = true) : (text t).length + 5 ≤ 6 * size t := by
  induction t using K.ind with
  | h t ih =>
    rcases ok_cases h with rfl | ⟨a, b, rfl⟩
    · rw [text_star, size, sizes]; simp
    · have h2 := ok_two h
      have ha := ih a (by simp [K.l]) h2.1
      have hb := ih b (by simp [K.l]) h2.2
      rw [text_two, size_two, List.length_append, List.length_append]
      split
      · simp only [List.length_cons, List.length_nil]; omega
      · simp only [List.length_cons, List.length_nil, List.length_append]; omega
end Pl.K
/-- bytes as a string -/
def mkB (l : List UInt8) : ByteArray := ⟨l.toArray⟩
theorem mkB_app (a b : List UInt8) : mkB a ++ mkB b = mkB (a ++ b) := by
  apply ByteArray.ext
  rw [ByteArray.data_append]
  simp [mkB]
theorem mkB_size (l : List UInt8) : (mkB l).size = l.length := by show l.toArray.size = _; simp
set_option maxRecDepth 100000 in
theorem rtext_any (P : Nat → Prop) (t : K) : ∀ (w : World) (v : Value), (∀ b, P b → b < w.heap.size) → KV w P t v → K.ok t = true → K.size t ≤ 1000000 →
    Calls Try.prog 28 #[v] w fun e w' => e = .returned (.string (mkB (K.text t))) ∧ Below w.heap.size w w' := by
  induction t using K.ind with
  | h t ih =>
  intro w v hP ht hok hsz
  obtain ⟨a, c, rfl⟩ := ht.form
  have hk := ht.kid
  clear ht
  rcases K.ok_cases hok with rfl | ⟨x, y, rfl⟩
  · clear hk ih
    change Calls _ _ #[.agg #[.slice a 0 c]] _ _
    obtain ⟨hbx, hb⟩ := box_new w 24 (.slice a 0 c)
    have c0 := hbx.cell 0 (.slice a 0 c) rfl
    have HB := Lib.hid hb
    clear hbx hb
    go_enter Try.func28, Try.ntmps28
    go_wp2
    go_ret
    exact ⟨by rw [K.text_star]; rfl, HB.out⟩
  · obtain ⟨a5, c5, e5, -, -, hka⟩ := KSl.each (show KSl w P (.slice a 2 c) [x, y] from hk)
    injection e5 with e5 e9 e6
    subst e5 e6
    clear e9
    obtain ⟨b0, o0, rfl, hPb, hke⟩ := kids_each hka (by simp)
    obtain ⟨x0, hx0, hkx⟩ := hke 0 (by simp)
    obtain ⟨y0, hy0, hky⟩ := hke 1 (by simp)
    have hkx : KidV w P x x0 := hkx
    have hky : KidV w P y y0 := hky
    rw [Nat.add_zero] at hx0
    have h2 := K.ok_two hok
    have hs2 := K.size_two x y
    have hlx := K.text_len x h2.1
    have hly := K.text_len y h2.2
    obtain ⟨a7, c7, rfl⟩ := hkx.form
    obtain ⟨a8, c8, rfl⟩ := hky.form
    have HX := Lib.hid (fun W (hW : Below w.heap.size w W) => ih x (by simp [K.l]) W (.agg #[.slice a7 x.l.length c7]) (fun b h => Nat.lt_of_lt_of_le (hP b h) hW.size) ⟨_, rfl, hkx.keep (Same.of_below hW hP)⟩ h2.1 (by omega))
    have HY := Lib.hid (fun W (hW : Below w.heap.size w W) => ih y (by simp [K.l]) W (.agg #[.slice a8 y.l.length c8]) (fun b h => Nat.lt_of_lt_of_le (hP b h) hW.size) ⟨_, rfl, hky.keep (Same.of_below hW hP)⟩ h2.2 (by omega))
    have HR := Lib.hid (K.text_two x y)
    have hb0 := hP b0 hPb
    generalize K.text (.mk [x, y]) = R at HR ⊢
    generalize y.l.length = n8 at *
    generalize hn7 : x.l.length = n7 at *
    have g1 : ¬ 9223372036854775807 < 1 + (mkB (K.text x)).size := by rw [mkB_size]; omega
    have g2 : ¬ 9223372036854775807 < 1 + (mkB (K.text x)).size + 1 := by rw [mkB_size]; omega
    have g3 : ¬ 9223372036854775807 < (mkB (K.text x)).size + 4 := by rw [mkB_size]; omega
    have g4 : ¬ 9223372036854775807 < (mkB (K.text x)).size + 4 + (mkB (K.text y)).size := by rw [mkB_size, mkB_size]; omega
    have g5 : ¬ 9223372036854775807 < 1 + (mkB (K.text x)).size + 1 + 4 := by rw [mkB_size]; omega
    have g6 : ¬ 9223372036854775807 < 1 + (mkB (K.text x)).size + 1 + 4 + (mkB (K.text y)).size := by rw [mkB_size, mkB_size]; omega
    clear hk hka hke hkx hky h2 hs2 hlx hly hP hok hsz ih hPb
    change Calls _ _ #[.agg #[.slice (some ⟨b0, o0, none⟩) 2 c]] _ _
    obtain ⟨hbx, hb⟩ := box_new w 24 (.slice (some ⟨b0, o0, none⟩) 2 c)
    have c0 := hbx.cell 0 (.slice (some ⟨b0, o0, none⟩) 2 c) rfl
    have x1 := (hb.cell (p := ⟨b0, o0, none⟩) hb0).trans hx0
    have HB := Lib.hid hb
    have HBX := Lib.hid hbx
    have HX0 := Lib.hid hx0
    have HY0 := Lib.hid hy0
    clear hbx hb hx0 hy0
    go_enter Try.func28, Try.ntmps28
    go_wp2_with fail
    generalize w.alloc (.cells #[.slice (some ⟨b0, o0, none⟩) 2 c] 24) = w2 at *
    refine (HX.out _ HB.out).mono ?_
    rintro e w3 ⟨rfl, hb3⟩
    have HB3 := Lib.hid (belowStep hb3 HB.out)
    have HBX3 := Lib.hid (HBX.out.of_eq (hb3.block _ HBX.out.lt))
    clear hb3 c0 x1
    have c0 := HBX3.out.cell 0 (.slice (some ⟨b0, o0, none⟩) 2 c) rfl
    have x1 := (HB3.out.cell (p := ⟨b0, o0, none⟩) hb0).trans HX0.out
    have y1 := (HB3.out.cell (p := ⟨b0, o0 + 1, none⟩) hb0).trans HY0.out
    by_cases h0 : n7 = 0
    · subst h0
      rw [if_pos rfl] at HR
      go_wp2_with fail
      refine (HY.out _ HB3.out).mono ?_
      rintro e w4 ⟨rfl, hb4⟩
      have HB4 := Lib.hid (belowStep hb4 HB3.out)
      clear hb4 c0 x1 y1
      go_wp2
      go_ret
      refine ⟨?_, HB4.out⟩
      rw [HR.out, ← mkB_app, ← mkB_app]
      show Ending.returned (.string (mkB (K.text x) ++ mkB [32, 45, 62, 32] ++ mkB (K.text y))) = _
      rw [ByteArray.append_assoc]
    · have q1 : decide ((0 : Int) < (n7 : Int)) = true := decide_eq_true (by omega)
      rw [if_neg h0] at HR
      go_wp2_with fail
      refine (HY.out _ HB3.out).mono ?_
      rintro e w4 ⟨rfl, hb4⟩
      have HB4 := Lib.hid (belowStep hb4 HB3.out)
      clear hb4 c0 x1 y1
      go_wp2
      go_ret
      refine ⟨?_, HB4.out⟩
      rw [HR.out, ← mkB_app, ← mkB_app]
      show Ending.returned (.string (mkB [40] ++ mkB (K.text x) ++ mkB [41] ++ mkB [32, 45, 62, 32] ++ mkB (K.text y))) = _
      rw [mkB_app, mkB_app, ByteArray.append_assoc]
      rfl
end Go.Proofs.Ythamhgnhdjahgaa
