/-
  Walks of layer 1, eleventh part: the text of a path, of the program and of the reference.
-/
import Derived.Test.YtmegdcjhpokakaaDoorWj
namespace Go.Proofs.YtmegdcjhpokakaaDoor
open Go.RowKit

theorem join_of {w : World} {v : Value} {zs : List ByteArray} (h : SliceOf w v zs) (hp : Pl.isPath zs = true) :
    Calls Tryd.prog 57 #[v, .string ⟨#[46]⟩] w fun e w' => e = .returned (.string (Pl.mk (Pl.jn zs))) ∧ Below w.heap.size w w' := by
  have hl := Pl.path_len zs hp
  rcases h with ⟨rfl, _⟩ | ⟨b, off, c, rfl, h2, h3, h4, h5, h6, h7⟩
  · simp at hl
  · have hj := Pl.take_jn_len zs hp zs.length (Nat.le_refl _)
    rw [List.take_length] at hj
    refine (Tryd.strings_Join b off c zs ⟨#[46]⟩ w (fun j x hx => ?_) h5 (by omega) h3 (by show (Pl.jn zs).length ≤ _; omega)).mono fun e w' ⟨he, hb⟩ => ⟨he, hb⟩
    have hlt : j < zs.length := (List.getElem?_eq_some_iff.1 hx).1
    rw [h7 j hlt]
    simp [List.getD, hx]
theorem pathText_yes {w : World} {v : Value} {zs : List ByteArray} (h : SliceOf w v zs) (hp : Pl.isPath zs = true) :
    Calls Tryd.prog 26 #[v] w fun e w' => e = .returned (.tuple #[.string (Pl.mk (Pl.jn zs)), .int .i64 0]) ∧ Below w.heap.size w w' := by
  have hi := isPath_of h
  rw [hp] at hi
  have HI := Lib.hid hi
  have HJ := Lib.hid (join_of h hp)
  clear hi h hp
  go_enter Tryd.func26, Tryd.ntmps26
  go_wp2_with (first | (go_at_call 56; refine HI.out.mono ?_; rintro e w' ⟨rfl, rfl⟩) | (go_at_call 57; refine HJ.out.mono ?_; rintro e w1 ⟨rfl, hb⟩; have HB := Lib.hid hb; clear hb))
  go_ret2
  exact ⟨rfl, HB.out⟩
theorem pathText_no {w : World} {v : Value} {zs : List ByteArray} (h : SliceOf w v zs) (hp : Pl.isPath zs = false) :
    Calls Tryd.prog 26 #[v] w fun e w' => e = .returned (.tuple #[.string ⟨#[]⟩, .int .i64 1]) ∧ w = w' := by
  have hi := isPath_of h
  rw [hp] at hi
  have HI := Lib.hid hi
  clear hi h hp
  go_enter Tryd.func26, Tryd.ntmps26
  go_wp2_with (first | (go_at_call 56; refine HI.out.mono ?_; rintro e w' ⟨rfl, rfl⟩))
  go_ret2
  exact ⟨rfl, rfl⟩
set_option maxHeartbeats 1000000 in
theorem rPathText_any (b off n c : Nat) (zs : List ByteArray) (w : World) (hz : zs.length = n) (hp : Pl.isPath zs = true) (hc : StrsAt w b off zs) :
    Calls Tryd.prog 30 #[.slice (some ⟨b, off, none⟩) n c] w fun e w' => e = .returned (.string (Pl.mk (Pl.jn zs))) ∧ w = w' := by
  have hl := Pl.path_len zs hp
  rw [hz] at hl
  obtain ⟨hl1, hl8⟩ := hl
  have HZ := Lib.hid hz
  have HC := Lib.hid hc.cell
  have HP := Lib.hid hp
  clear hz hc hp
  go_enter Tryd.func30, Tryd.ntmps30
  go_wp2
  go_loop [3, 4] (fun t i => ∃ k : Nat, k ≤ n ∧ i = .int .i64 k ∧ t = .string (Pl.mk (Pl.jn (zs.take k)))) (fun _ i => n - (intOf i).toNat)
  case atStart => exact ⟨0, by omega, rfl, rfl⟩
  case round =>
    obtain ⟨k, hk, rfl, rfl⟩ := hrel
    by_cases hlt : k < n
    · have hcell := HC.out k (by rw [HZ.out]; exact hlt)
      have hnm := Pl.name_size _ (Pl.path_el zs HP.out k (by rw [HZ.out]; exact hlt))
      have hel := Pl.el_take zs k (by rw [HZ.out]; exact hlt)
      have hlen := Pl.take_jn_len zs HP.out k (by rw [HZ.out]; omega)
      have hszt : (Pl.mk (Pl.jn (zs.take k))).size ≤ 200 := by rw [Pl.mk_size]; exact hlen
      generalize Pl.el zs k = z at hcell hnm hel
      rcases Nat.eq_zero_or_pos k with hk0 | hk0
      · subst hk0
        rw [Nat.add_zero] at hcell
        have HS := Lib.hid (show Pl.mk (Pl.jn (zs.take 0)) ++ z = Pl.mk (Pl.jn (zs.take (0 + 1))) from by
          rw [hel, List.take_zero, List.nil_append, Pl.jn_one, Pl.jn_nil, Pl.add_mk]; rfl)
        generalize Pl.mk (Pl.jn (zs.take 0)) = t at hszt HS ⊢
        clear hlen hel
        have hcat : t.size + z.size ≤ 9223372036854775807 := by omega
        go_wp2
        exact ⟨⟨0 + 1, by omega, by go_num, by rw [HS.out]⟩, by simp [intOf]; omega⟩
      · have HS := Lib.hid (show Pl.mk (Pl.jn (zs.take k)) ++ (⟨#[46]⟩ : ByteArray) ++ z = Pl.mk (Pl.jn (zs.take (k + 1))) from by
          rw [hel, Pl.jn_snoc _ _ (by rw [List.length_take, HZ.out]; omega), Pl.add_mk, Pl.add_mk]
          rw [show (⟨#[46]⟩ : ByteArray).toList = [46] from by rw [Pl.toList_eq]])
        generalize Pl.mk (Pl.jn (zs.take k)) = t at hszt HS ⊢
        clear hlen hel
        have h1 : (⟨#[46]⟩ : ByteArray).size = 1 := rfl
        have hcat1 : t.size + (⟨#[46]⟩ : ByteArray).size ≤ 9223372036854775807 := by omega
        have hcat2 : (t ++ (⟨#[46]⟩ : ByteArray)).size + z.size ≤ 9223372036854775807 := by rw [ByteArray.size_append]; omega
        clear h1
        go_wp2
        exact ⟨⟨k + 1, by omega, by go_num, by rw [HS.out]⟩, by simp [intOf]; omega⟩
    · have hkn : k = n := by omega
      subst hkn
      have HT := Lib.hid (show zs.take k = zs from List.take_of_length_le (by rw [HZ.out]; exact Nat.le_refl _))
      go_wp2
      go_ret
      exact ⟨by rw [HT.out]; rfl, rfl⟩
theorem rPathText_of {w : World} {v : Value} {zs : List ByteArray} (h : SliceOf w v zs) (hp : Pl.isPath zs = true) :
    Calls Tryd.prog 30 #[v] w fun e w' => e = .returned (.string (Pl.mk (Pl.jn zs))) ∧ w = w' := by
  have hl := Pl.path_len zs hp
  rcases h with ⟨rfl, _⟩ | ⟨b, off, c, rfl, h2, h3, h4, h5, h6, h7⟩
  · simp at hl
  · exact rPathText_any b off zs.length c zs w rfl hp h7
/-- ParsePath of a text that is a path, and of one that is none -/
theorem parsePath_ok (s : ByteArray) (w : World) (hs : s.size ≤ 1000) (hw : Wok w) (hp : Pl.isPath (Pl.splitS s) = true) :
    Calls Tryd.prog 25 #[.string s] w fun e w' => ∃ v, e = .returned (.tuple #[v, .int .i64 0]) ∧ SliceOf w' v (Pl.splitS s) ∧ Below w.heap.size w w' := by
  have hl := Pl.path_len _ hp
  refine (parsePath_yes s w (by omega) hw hp).mono fun e w' ⟨he, hw'⟩ => ⟨_, he, ?_, ?_⟩
  · subst hw'
    exact .inr ⟨_, 0, _, rfl, hl.1, Nat.le_refl _, by unfold maxLen; omega, by simp, splitS_size s (by unfold maxLen; omega), strsAt_alloc w _ _⟩
  · subst hw'
    exact (Below.refl _ _).alloc (Nat.le_refl _) _
theorem rParsePath_ok (s : ByteArray) (w : World) (hs : s.size ≤ 1000) (hp : Pl.isPath (Pl.splitS s) = true) :
    Calls Tryd.prog 27 #[.string s] w fun e w' => ∃ v, e = .returned (.tuple #[v, .bool true]) ∧ SliceOf w' v (Pl.splitS s) ∧ Below w.heap.size w w' := by
  refine (rParsePath_any s w hs).mono fun e w' h => ?_
  rcases h with ⟨_, v, h1, h2, h3⟩ | ⟨h, _⟩
  · exact ⟨v, h1, h2, h3⟩
  · rw [hp] at h; cases h
theorem rParsePath_no (s : ByteArray) (w : World) (hs : s.size ≤ 1000) (hp : Pl.isPath (Pl.splitS s) = false) :
    Calls Tryd.prog 27 #[.string s] w fun e w' => e = .returned (.tuple #[.slice none 0 0, .bool false]) ∧ Below w.heap.size w w' := by
  refine (rParsePath_any s w hs).mono fun e w' h => ?_
  rcases h with ⟨h, _⟩ | ⟨_, h1, h2⟩
  · rw [hp] at h; cases h
  · exact ⟨h1, h2⟩
theorem equal_of {w : World} {v1 v2 : Value} {zs : List ByteArray} (h1 : SliceOf w v1 zs) (h2 : SliceOf w v2 zs) (hn : 1 ≤ zs.length) :
    Calls Tryd.prog 28 #[v1, v2] w fun e w' => e = .returned (.bool true) ∧ Below w.heap.size w w' := by
  rcases h1 with ⟨rfl, _⟩ | ⟨b, off, c, rfl, a2, a3, a4, a5, a6, a7⟩
  · simp at hn
  · rcases h2 with ⟨rfl, _⟩ | ⟨b', off', c', rfl, b2, b3, b4, b5, b6, b7⟩
    · simp at hn
    · refine (equal_any b off c b' off' c' zs zs w _ _ rfl rfl (Nat.le_trans a3 a4) (Nat.le_trans a3 a4) a7 b7).mono fun e w' ⟨he, q, hw⟩ => ⟨?_, ?_⟩
      · rw [he, decide_eq_true rfl]
      · subst hw; exact below_drewN (Below.refl _ _) q
end Go.Proofs.YtmegdcjhpokakaaDoor
