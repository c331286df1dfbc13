/-
  The law LexerPlaces, as a walk: long and wrong sources, and all.
-/
import Derived.Test.YtbmkbenlhkcklaaDoorNd
namespace Go.Proofs.YtbmkbenlhkcklaaDoor
open Go.RowKit

set_option maxRecDepth 100000 in
theorem places_long (s : ByteArray) (w : World) (hs : s.size ≤ maxLen) (hl : 1500 < s.size) :
    Calls Tryd.prog 3 #[.string s] w fun e w' => e = .returned (.bool true) ∧ Below w.heap.size w w' := by
  unfold maxLen at hs
  have l1 : decide ((1500 : Int) < (s.size : Int)) = true := by simp; omega
  go_enter Tryd.func3, Tryd.ntmps3
  go_wp2_with fail
  refine (awake_any _).mono ?_
  rintro e w1 ⟨rfl, hb1⟩
  have HB1 := Lib.hid hb1
  clear hb1
  go_wp2
  go_ret
  exact ⟨rfl, HB1.out⟩
set_option maxRecDepth 100000 in
set_option maxHeartbeats 1000000 in
theorem places_wrong (s : ByteArray) (w : World) (hs : s.size ≤ 1500) (hw : Wok w) (h : (Pl.tokens s.toList).err ≠ 0) :
    Calls Tryd.prog 3 #[.string s] w fun e w' => e = .returned (.bool true) ∧ Below w.heap.size w w' := by
  have l1 : decide ((1500 : Int) < (s.size : Int)) = false := by simp; omega
  have HLS := Lib.hid fun W => lexTokens_any s W (by unfold maxLen; omega)
  obtain ⟨L, hL⟩ : ∃ L, Pl.lines s.toList = L := ⟨_, rfl⟩
  have hln := lines_few s hs L hL
  obtain ⟨x, c, hin⟩ := Pl.places_bad s.toList (by rw [Pl.len_size]; exact hs) h
  have hx : x.length ≤ 100000 := by
    have hl := Pl.len_size s
    obtain ⟨k, _, _, hk, _⟩ := hin
    have := Pl.lines_le s.toList x (List.mem_of_getElem? hk)
    omega
  rw [hL] at hin
  have HSP := Lib.hid fun W (hW : Wok W) => split_lines s L hL W (by omega) hW
  have hmf : ∀ (fn : Fn) (first cap : Array Value) (w : World), (Instr.makeFunc fn first cap).run Tryd.prog w = .ok (.func fn first cap) w := fun _ _ _ _ => rfl
  generalize Pl.tokens s.toList = O at HLS h hin
  have p0 : (O.err != 0) = true := by simpa using h
  go_enter Tryd.func3, Tryd.ntmps3
  go_wp2_with fail
  refine (awake_any _).mono ?_
  rintro e w1 ⟨rfl, hb1⟩
  have HB1 := Lib.hid hb1
  clear hb1
  go_wp2_with fail
  refine (HLS.out _).mono ?_
  rintro e w2 (⟨he, -⟩ | ⟨-, -, rfl, hb2⟩)
  · exact absurd he h
  have HB2 := Lib.hid (HB1.out.trans (hb2.mono HB1.out.size))
  have HKP := Lib.hid (blk_new w2 #[.int .i64 O.line, .int .i64 O.col] 25)
  have HWA := Lib.hid (show Below w2.heap.size w2 (w2.alloc (.cells #[.int .i64 O.line, .int .i64 O.col] 25)) from (Below.refl _ _).alloc (Nat.le_refl _) _)
  clear hb2 HLS
  go_wp2_with fail
  generalize w2.alloc (.cells #[.int .i64 O.line, .int .i64 O.col] 25) = wa at HWA HKP ⊢
  refine (HSP.out _ ((hw.below HB2.out).below HWA.out)).mono ?_
  rintro e w3 ⟨rfl, rfl⟩
  have hl0 := lines_laid wa L
  have hbe : Below wa.heap.size wa ((wa.alloc (.cells (L.map fun x => Value.string (Pl.mk x)).toArray 9)).alloc (.cells #[.slice (some ⟨wa.heap.size, 0, none⟩) L.length L.length] 29)) := ((Below.refl _ _).alloc (Nat.le_refl _) _).alloc (by simp) _
  have hkp := HKP.out.below hbe HKP.out.lt
  obtain ⟨d0, d1, -, -⟩ := psAt_of hkp
  have HWE := Lib.hid (HWA.out.trans (hbe.mono HWA.out.size))
  have HL := Lib.hid hl0
  clear HSP hl0 hbe hkp HKP
  go_wp2_with fail
  refine (rest_any _ _ _ L _ _ x c HL.out hln hin hx).mono ?_
  rintro e w4 ⟨⟨r, rfl, -⟩, hb4⟩
  have HB4 := Lib.hid (HB2.out.trans ((HWE.out.trans (hb4.mono HWE.out.size)).mono HB2.out.size))
  clear hb4 d0 d1
  go_wp2
  go_ret
  exact ⟨rfl, HB4.out⟩
theorem lexerPlaces_walk (s : ByteArray) (w : World) (hs : s.size ≤ maxLen) (hw : Wok w) :
    Calls Tryd.prog 3 #[.string s] w fun e w' => e = .returned (.bool true) ∧ Below w.heap.size w w' := by
  by_cases hl : 1500 < s.size
  · exact places_long s w hs hl
  by_cases h : (Pl.tokens s.toList).err = 0
  · exact places_good s w (by omega) hw h
  · exact places_wrong s w (by omega) hw h
end Go.Proofs.YtbmkbenlhkcklaaDoor
