/-
  Walks of layer 2, first part: classes of bytes, of the program and of the reference.
-/
import Derived.Test.YtbmkbenlhkcklaaDoorProg
import Derived.Test.YtbmkbenlhkcklaaDoorLa
import Derived.WalkKit
import Derived.WalkSpells
import Derived.WalkLawsBesides
import Derived.Lib.Hide
namespace Go.Proofs.YtbmkbenlhkcklaaDoor
open Go.RowKit

theorem ret_int {k : IntKind} {a b : Int} (h : a = b) : Ending.returned (.int k a) = .returned (.int k b) := by rw [h]
theorem ret_bool {a b : Bool} (h : a = b) : Ending.returned (.bool a) = .returned (.bool b) := by rw [h]

set_option maxHeartbeats 400000 in
theorem isBlank_any (c : Int) (w : World) :
    Calls Tryd.prog 27 #[.int .u8 c] w fun e w' => e = .returned (.bool (Pl.blank c)) ∧ w = w' := by
  go_enter Tryd.func27, Tryd.ntmps27
  go_wp2
  all_goals
    go_ret
    refine ⟨ret_bool ?_, rfl⟩
    unfold Pl.blank
    first | (simp [*]; done) | (rw [Bool.eq_iff_iff]; simp only [Bool.or_eq_true, beq_iff_eq, decide_eq_true_eq])
set_option maxHeartbeats 400000 in
theorem isSmall_any (c : Int) (w : World) :
    Calls Tryd.prog 29 #[.int .u8 c] w fun e w' => e = .returned (.bool (Pl.small c)) ∧ w = w' := by
  go_enter Tryd.func29, Tryd.ntmps29
  go_wp2
  all_goals
    go_ret
    refine ⟨ret_bool ?_, rfl⟩
    unfold Pl.small
    simp; try omega
set_option maxHeartbeats 400000 in
theorem isCapital_any (c : Int) (w : World) :
    Calls Tryd.prog 30 #[.int .u8 c] w fun e w' => e = .returned (.bool (Pl.capital c)) ∧ w = w' := by
  go_enter Tryd.func30, Tryd.ntmps30
  go_wp2
  all_goals
    go_ret
    refine ⟨ret_bool ?_, rfl⟩
    unfold Pl.capital
    simp; try omega
set_option maxHeartbeats 400000 in
theorem isDigit_any (c : Int) (w : World) :
    Calls Tryd.prog 33 #[.int .u8 c] w fun e w' => e = .returned (.bool (Pl.digit c)) ∧ w = w' := by
  go_enter Tryd.func33, Tryd.ntmps33
  go_wp2
  all_goals
    go_ret
    refine ⟨ret_bool ?_, rfl⟩
    unfold Pl.digit
    simp; try omega
set_option maxHeartbeats 400000 in
theorem isPrintable_any (c : Int) (w : World) :
    Calls Tryd.prog 21 #[.int .u8 c] w fun e w' => e = .returned (.bool (Pl.printable c)) ∧ w = w' := by
  go_enter Tryd.func21, Tryd.ntmps21
  go_wp2
  all_goals
    go_ret
    refine ⟨ret_bool ?_, rfl⟩
    unfold Pl.printable
    simp; try omega
set_option maxHeartbeats 400000 in
theorem isOfName_any (c : Int) (w : World) :
    Calls Tryd.prog 43 #[.int .u8 c] w fun e w' => e = .returned (.bool (Pl.inner c)) ∧ w = w' := by
  go_enter Tryd.func43, Tryd.ntmps43
  go_wp2_with (first | (go_at_call 29; refine (isSmall_any _ _).mono ?_; rintro e w' ⟨rfl, rfl⟩) | (go_at_call 30; refine (isCapital_any _ _).mono ?_; rintro e w' ⟨rfl, rfl⟩) | (go_at_call 33; refine (isDigit_any _ _).mono ?_; rintro e w' ⟨rfl, rfl⟩))
  all_goals
    go_ret
    refine ⟨ret_bool ?_, rfl⟩
    unfold Pl.inner
    simp_all
  exact (decide_eq_decide.2 Iff.rfl)
/-- what meaning answers -/
def meant (b : UInt8) : Value := match Pl.meaning b with
  | some m => .tuple #[.int .u8 m.toNat, .bool true]
  | none => .tuple #[.int .u8 0, .bool false]
set_option maxHeartbeats 400000 in
theorem meaning_any (b : UInt8) (w : World) :
    Calls Tryd.prog 46 #[.int .u8 b.toNat] w fun e w' => e = .returned (meant b) ∧ w = w' := by
  by_cases h1 : b = 34
  · subst h1
    go_enter Tryd.func46, Tryd.ntmps46
    go_wp2
    go_ret2
    exact ⟨rfl, rfl⟩
  by_cases h2 : b = 92
  · subst h2
    go_enter Tryd.func46, Tryd.ntmps46
    go_wp2
    go_ret2
    exact ⟨rfl, rfl⟩
  by_cases h3 : b = 110
  · subst h3
    go_enter Tryd.func46, Tryd.ntmps46
    go_wp2
    go_ret2
    exact ⟨rfl, rfl⟩
  have HM := Lib.hid (show meant b = .tuple #[.int .u8 0, .bool false] from by unfold meant Pl.meaning; rw [if_neg h1, if_neg h2, if_neg h3])
  have t1 : ((b.toNat : Int) == 34) = false := beq_eq_false_iff_ne.2 (fun h => h1 ((Pl.u8_eq _ _).2 h))
  have t2 : ((b.toNat : Int) == 92) = false := beq_eq_false_iff_ne.2 (fun h => h2 ((Pl.u8_eq _ _).2 h))
  have t3 : ((b.toNat : Int) == 110) = false := beq_eq_false_iff_ne.2 (fun h => h3 ((Pl.u8_eq _ _).2 h))
  clear h1 h2 h3
  go_enter Tryd.func46, Tryd.ntmps46
  go_wp2
  go_ret2
  exact ⟨by rw [HM.out]; rfl, rfl⟩

theorem isSymbol_no (s : ByteArray) (w : World) (h : Pl.isSym s.toList = false) :
    Calls Tryd.prog 55 #[.string s] w fun e w' => e = .returned (.bool false) ∧ w = w' := by
  simp only [Pl.isSym, Pl.sym1, Pl.sym2, List.contains_cons, Bool.or_eq_false_iff] at h
  obtain ⟨⟨h1, h2, h3, h4, -⟩, g1, g2, g3, g4, g5, g6, g7, g8, g9, g10, g11, g12, g13, g14, g15, -⟩ := h
  go_enter Tryd.func55, Tryd.ntmps55
  go_wp2
  go_ret
  exact ⟨rfl, rfl⟩
set_option maxHeartbeats 4000000 in
theorem isSymbol_yes (s : ByteArray) (w : World) (h : Pl.isSym s.toList = true) :
    Calls Tryd.prog 55 #[.string s] w fun e w' => e = .returned (.bool true) ∧ w = w' := by
  have h' : s.toList ∈ Pl.sym2 ++ Pl.sym1 := by simpa [Pl.isSym] using h
  clear h
  simp only [Pl.sym1, Pl.sym2, List.cons_append, List.nil_append, List.mem_cons, List.mem_nil_iff, or_false] at h'
  rcases h' with h | h | h | h | h | h | h | h | h | h | h | h | h | h | h | h | h | h | h
  all_goals
    go_enter Tryd.func55, Tryd.ntmps55
    go_wp2
    go_ret
    exact ⟨rfl, rfl⟩
theorem isSymbol_any (s : ByteArray) (w : World) :
    Calls Tryd.prog 55 #[.string s] w fun e w' => e = .returned (.bool (Pl.isSym s.toList)) ∧ w = w' := by
  cases h : Pl.isSym s.toList
  · exact isSymbol_no s w h
  · exact isSymbol_yes s w h
set_option maxHeartbeats 400000 in
theorem keyword_no (s : ByteArray) (w : World) (h : Pl.isKey s.toList = false) :
    Calls Tryd.prog 44 #[.string s] w fun e w' => e = .returned (.bool false) ∧ w = w' := by
  simp only [Pl.isKey, Pl.keys, List.contains_cons, Bool.or_eq_false_iff] at h
  obtain ⟨h1, h2, h3, h4, h5, h6, h7, h8, h9, h10, h11, h12, h13, h14, h15, h16, h17, h18, h19, h20, h21, h22, h23, h24, h25, h26, h27, h28, h29, h30, h31, h32⟩ := h
  go_enter Tryd.func44, Tryd.ntmps44
  go_wp2
  go_ret
  exact ⟨rfl, rfl⟩
set_option maxHeartbeats 4000000 in
theorem keyword_yes (s : ByteArray) (w : World) (h : Pl.isKey s.toList = true) :
    Calls Tryd.prog 44 #[.string s] w fun e w' => e = .returned (.bool true) ∧ w = w' := by
  have h' : s.toList ∈ Pl.keys := by simpa [Pl.isKey] using h
  clear h
  simp only [Pl.keys, List.mem_cons, List.mem_nil_iff, or_false] at h'
  rcases h' with h | h | h | h | h | h | h | h | h | h | h | h | h | h | h | h | h | h | h | h | h | h | h | h | h | h | h | h | h | h | h
  all_goals
    go_enter Tryd.func44, Tryd.ntmps44
    go_wp2
    go_ret
    exact ⟨rfl, rfl⟩
theorem keyword_any (s : ByteArray) (w : World) :
    Calls Tryd.prog 44 #[.string s] w fun e w' => e = .returned (.bool (Pl.isKey s.toList)) ∧ w = w' := by
  cases h : Pl.isKey s.toList
  · exact keyword_no s w h
  · exact keyword_yes s w h
end Go.Proofs.YtbmkbenlhkcklaaDoor
