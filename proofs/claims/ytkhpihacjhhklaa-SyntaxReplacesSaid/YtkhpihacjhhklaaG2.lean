/-
  Walks and plain mathematics, several texts in one (Ia Ib Ic).
-/
import Derived.Test.YtkhpihacjhhklaaProg
import Derived.Test.YtkhpihacjhhklaaG1
import Derived.WalkKit
import Derived.WalkSpells
import Derived.WalkLawsBesides
import Derived.Lib.Hide
import Derived.Test.YtkhpihacjhhklaaShelf
/-
  Walks of layer 1, first part: classes of bytes.
-/
namespace Go.Proofs.Ytkhpihacjhhklaa
open Go.RowKit

theorem ret_int {k : IntKind} {a b : Int} (h : a = b) : Ending.returned (.int k a) = .returned (.int k b) := by rw [h]
theorem ret_bool {a b : Bool} (h : a = b) : Ending.returned (.bool a) = .returned (.bool b) := by rw [h]

set_option maxHeartbeats 400000 in
theorem class_any (c : Int) (w : World) :
    Calls Try.prog 103 #[.int .u8 c] w fun e w' => e = .returned (.int .i64 (Pl.cls c)) ∧ w = w' := by
  go_enter Try.func103, Try.ntmps103
  go_wp2
  all_goals
    go_ret
    refine ⟨ret_int ?_, rfl⟩
    (try simp only [beq_iff_eq, beq_eq_false_iff_ne] at *)
    unfold Pl.cls
    repeat' split
    all_goals omega
set_option maxHeartbeats 400000 in
theorem rsmall_any (c : Int) (w : World) :
    Calls Try.prog 109 #[.int .u8 c] w fun e w' => e = .returned (.bool (Pl.small c)) ∧ w = w' := by
  go_enter Try.func109, Try.ntmps109
  go_wp2
  all_goals
    go_ret
    refine ⟨ret_bool ?_, rfl⟩
    unfold Pl.small
    simp; try omega
set_option maxHeartbeats 400000 in
theorem rcapital_any (c : Int) (w : World) :
    Calls Try.prog 114 #[.int .u8 c] w fun e w' => e = .returned (.bool (Pl.capital c)) ∧ w = w' := by
  go_enter Try.func114, Try.ntmps114
  go_wp2
  all_goals
    go_ret
    refine ⟨ret_bool ?_, rfl⟩
    unfold Pl.capital
    simp; try omega
set_option maxHeartbeats 400000 in
theorem rdigit_any (c : Int) (w : World) :
    Calls Try.prog 116 #[.int .u8 c] w fun e w' => e = .returned (.bool (Pl.digit c)) ∧ w = w' := by
  go_enter Try.func116, Try.ntmps116
  go_wp2
  all_goals
    go_ret
    refine ⟨ret_bool ?_, rfl⟩
    unfold Pl.digit
    simp; try omega
set_option maxHeartbeats 400000 in
theorem rinnerc_any (c : Int) (w : World) :
    Calls Try.prog 115 #[.int .u8 c] w fun e w' => e = .returned (.bool (Pl.inner c)) ∧ w = w' := by
  go_enter Try.func115, Try.ntmps115
  go_wp2_with (first | (go_at_call 109; refine (rsmall_any _ _).mono ?_; rintro e w' ⟨rfl, rfl⟩) | (go_at_call 114; refine (rcapital_any _ _).mono ?_; rintro e w' ⟨rfl, rfl⟩) | (go_at_call 116; refine (rdigit_any _ _).mono ?_; rintro e w' ⟨rfl, rfl⟩))
  all_goals
    go_ret
    refine ⟨ret_bool ?_, rfl⟩
    unfold Pl.inner
    simp_all
  exact (decide_eq_decide.2 Iff.rfl)

set_option maxHeartbeats 400000 in
theorem isWord_any (s : ByteArray) (f : Int) (w : World) (hs : s.size ≤ maxLen) :
    Calls Try.prog 87 #[.string s, .int .i64 f] w fun e w' => e = .returned (.bool (Pl.word1 f s.toList)) ∧ w = w' := by
  unfold maxLen at hs
  by_cases h0 : 0 < s.size
  · have he : ¬ s.toList = [] := by intro h; have := Pl.len_size s; rw [h] at this; simp at this; omega
    have he2 : s.toList.isEmpty = false := by simpa using he
    have HW := Lib.hid (Pl.word1_pos s f h0)
    by_cases hf : Pl.cls s[0].toNat = f
    · have hf2 : (Pl.cls s[0].toNat != f) = false := by simpa using hf
      have HF := Lib.hid hf
      clear hf
      go_enter Try.func87, Try.ntmps87
      go_wp2_with (go_at_call 103; refine (class_any _ _).mono ?_; rintro e w' ⟨rfl, rfl⟩)
      go_loop [5] (fun i => ∃ k : Nat, 1 ≤ k ∧ k ≤ s.size ∧ i = .int .i64 k ∧ Pl.innerL ((s.toList.take k).drop 1) = true) (fun i => s.size - (intOf i).toNat)
      case atStart => exact ⟨1, by omega, by omega, rfl, by simp [Pl.innerL]⟩
      case round =>
        obtain ⟨k, hk1, hk, rfl, hin⟩ := hrel
        have HI := Lib.hid hin
        clear hin
        by_cases hlt : k < s.size
        · go_wp2_with (go_at_call 103; refine (class_any _ _).mono ?_; rintro e w' ⟨rfl, rfl⟩)
          · go_ret
            have hc : (Pl.cls ↑s[k].toNat == 0) = true := by assumption
            exact ⟨ret_bool (by rw [HW.out, Pl.rest_false s k hk1 hlt (Pl.not_inner_of_cls _ (.inl (by simpa using hc)))]; simp), rfl⟩
          · go_ret
            have hc : (Pl.cls ↑s[k].toNat == 5) = true := by assumption
            exact ⟨ret_bool (by rw [HW.out, Pl.rest_false s k hk1 hlt (Pl.not_inner_of_cls _ (.inr (by simpa using hc)))]; simp), rfl⟩
          · have hc0 : (Pl.cls ↑s[k].toNat == 0) = false := by assumption
            have hc5 : (Pl.cls ↑s[k].toNat == 5) = false := by assumption
            exact ⟨⟨k + 1, by omega, by omega, by go_num, Pl.inner_step1 s k hk1 hlt HI.out (Pl.inner_of_cls _ (by simpa using hc0) (by simpa using hc5))⟩, by simp [intOf]; omega⟩
        · go_wp2
          go_ret
          refine ⟨ret_bool ?_, rfl⟩
          have hi := HI.out
          rw [Pl.take_all s k (by omega)] at hi
          rw [HW.out, hi, HF.out]; simp
    · have hf2 : (Pl.cls s[0].toNat != f) = true := by simpa using hf
      go_enter Try.func87, Try.ntmps87
      go_wp2_with (go_at_call 103; refine (class_any _ _).mono ?_; rintro e w' ⟨rfl, rfl⟩)
      go_ret
      exact ⟨ret_bool (by rw [HW.out]; simp [hf]), rfl⟩
  · have he := Pl.nil_of_zero s h0
    have he2 : s.toList.isEmpty = true := by rw [he]; rfl
    have HE := Lib.hid he
    go_enter Try.func87, Try.ntmps87
    go_wp2
    go_ret
    exact ⟨ret_bool (by rw [HE.out]; rfl), rfl⟩

set_option maxHeartbeats 400000 in
theorem rinner_any (s : ByteArray) (w : World) (hs : s.size ≤ maxLen) :
    Calls Try.prog 110 #[.string s] w fun e w' => e = .returned (.bool (Pl.innerL s.toList)) ∧ w = w' := by
  unfold maxLen at hs
  go_enter Try.func110, Try.ntmps110
  go_wp2
  go_loop [3] (fun i => ∃ k : Nat, k ≤ s.size ∧ i = .int .i64 k ∧ Pl.innerL (s.toList.take k) = true) (fun i => s.size - (intOf i).toNat)
  case atStart => exact ⟨0, by omega, rfl, by simp [Pl.innerL]⟩
  case round =>
    obtain ⟨k, hk, rfl, hin⟩ := hrel
    have HI := Lib.hid hin
    clear hin
    by_cases hlt : k < s.size
    · by_cases hb : Pl.innerB s[k] = true
      · have hb2 : Pl.inner (s[k].toNat : Int) = true := hb
        go_wp2_with (go_at_call 115; refine (rinnerc_any _ _).mono ?_; rintro e w' ⟨rfl, rfl⟩)
        go_round
        case rel => exact ⟨k + 1, by omega, by go_num, Pl.inner_step s k hlt HI.out hb⟩
        case measure => simp [intOf]; omega
      · have hb2 : Pl.inner (s[k].toNat : Int) = false := by simpa [Pl.innerB] using hb
        go_wp2_with (go_at_call 115; refine (rinnerc_any _ _).mono ?_; rintro e w' ⟨rfl, rfl⟩)
        go_ret
        exact ⟨ret_bool (Pl.all_false _ s k hlt (by simpa using hb)).symm, rfl⟩
    · go_wp2
      go_ret
      have hi := HI.out
      rw [Pl.take_all s k (by omega)] at hi
      exact ⟨ret_bool hi.symm, rfl⟩
set_option maxHeartbeats 400000 in
theorem rWord_any (s : ByteArray) (w : World) (hs : s.size ≤ maxLen) :
    Calls Try.prog 111 #[.string s] w fun e w' => e = .returned (.bool (Pl.isWord s.toList)) ∧ w = w' := by
  have hs' := hs
  unfold maxLen at hs
  have HW := Lib.hid (show Pl.isWord s.toList = (decide (1 ≤ s.size) && decide (s.size ≤ 24) && Pl.innerL s.toList) from by unfold Pl.isWord; rw [Pl.len_size])
  go_enter Try.func111, Try.ntmps111
  go_wp2_with (go_at_call 110; refine (rinner_any _ _ hs').mono ?_; rintro e w' ⟨rfl, rfl⟩)
  all_goals
    go_ret
    refine ⟨ret_bool ?_, rfl⟩
    rw [HW.out]
    simp
    try omega
set_option maxHeartbeats 400000 in
theorem rIsUpper_any (s : ByteArray) (w : World) (hs : s.size ≤ maxLen) :
    Calls Try.prog 107 #[.string s] w fun e w' => e = .returned (.bool (Pl.isUpper s.toList)) ∧ w = w' := by
  go_enter Try.func107, Try.ntmps107
  by_cases hw : Pl.isWord s.toList = true
  · have h0 : 0 < s.size := by have := hw; unfold Pl.isWord at this; simp [Pl.len_size] at this; omega
    have HU := Lib.hid (show Pl.isUpper s.toList = Pl.capital s[0].toNat from by unfold Pl.isUpper; rw [hw, Pl.head_pos _ s h0]; rfl)
    go_wp2_with (first | (go_at_call 111; refine (rWord_any _ _ hs).mono ?_; rintro e w' ⟨rfl, rfl⟩) | (go_at_call 114; refine (rcapital_any _ _).mono ?_; rintro e w' ⟨rfl, rfl⟩))
    go_ret
    exact ⟨ret_bool HU.out.symm, rfl⟩
  · have hw2 : Pl.isWord s.toList = false := by simpa using hw
    go_wp2_with (first | (go_at_call 111; refine (rWord_any _ _ hs).mono ?_; rintro e w' ⟨rfl, rfl⟩) | (go_at_call 114; refine (rcapital_any _ _).mono ?_; rintro e w' ⟨rfl, rfl⟩))
    go_ret
    exact ⟨ret_bool (by unfold Pl.isUpper; rw [hw2]; rfl), rfl⟩
end Go.Proofs.Ytkhpihacjhhklaa

/-
  Walks of layer 1, second part: key words and names.
-/
namespace Go.Proofs.Ytkhpihacjhhklaa
open Go.RowKit

set_option maxHeartbeats 400000 in
theorem isKey_no (s : ByteArray) (w : World) (h : Pl.isKey s.toList = false) :
    Calls Try.prog 88 #[.string s] w fun e w' => e = .returned (.bool false) ∧ w = w' := by
  simp only [Pl.isKey, Pl.keys, List.contains_cons, Bool.or_eq_false_iff] at h
  obtain ⟨h1, h2, h3, h4, h5, h6, h7, h8, h9, h10, h11, h12, h13, h14, h15, h16, h17, h18, h19, h20, h21, h22, h23, h24, h25, h26, h27, h28, h29, h30, h31, h32⟩ := h
  go_enter Try.func88, Try.ntmps88
  go_wp2
  go_ret
  exact ⟨rfl, rfl⟩
set_option maxHeartbeats 4000000 in
theorem isKey_yes (s : ByteArray) (w : World) (h : Pl.isKey s.toList = true) :
    Calls Try.prog 88 #[.string s] w fun e w' => e = .returned (.bool true) ∧ w = w' := by
  have h' : s.toList ∈ Pl.keys := by simpa [Pl.isKey] using h
  clear h
  simp only [Pl.keys, List.mem_cons, List.mem_nil_iff, or_false] at h'
  rcases h' with h | h | h | h | h | h | h | h | h | h | h | h | h | h | h | h | h | h | h | h | h | h | h | h | h | h | h | h | h | h | h
  all_goals
    go_enter Try.func88, Try.ntmps88
    go_wp2
    go_ret
    exact ⟨rfl, rfl⟩
theorem isKey_any (s : ByteArray) (w : World) :
    Calls Try.prog 88 #[.string s] w fun e w' => e = .returned (.bool (Pl.isKey s.toList)) ∧ w = w' := by
  cases h : Pl.isKey s.toList
  · exact isKey_no s w h
  · exact isKey_yes s w h

def keyStrs : List ByteArray := Pl.keys.map fun l => ⟨l.toArray⟩
set_option maxHeartbeats 400000 in
theorem keys_any (w : World) :
    Calls Try.prog 113 #[] w fun e w' => e = .returned (.slice (some ⟨w.heap.size, 0, none⟩) 31 31) ∧ w.alloc (.cells (keyStrs.map Value.string).toArray 9) = w' := by
  go_enter Try.func113, Try.ntmps113
  go_wp2
  go_ret
  exact ⟨rfl, rfl⟩
theorem mem_keyStrs (s : ByteArray) : s ∈ keyStrs ↔ Pl.isKey s.toList = true := by
  unfold keyStrs Pl.isKey
  rw [List.contains_iff_mem, List.mem_map, Pl.toList_eq]
  constructor
  · rintro ⟨l, hl, rfl⟩; simpa using hl
  · intro h; exact ⟨_, h, rfl⟩
/-- What a slice's cells hold: these strings. -/
def StrsAt (w : World) (b off : Nat) (zs : List ByteArray) : Prop := ∀ j, j < zs.length → w.cell? ⟨b, off + j, none⟩ = some (.string (zs.getD j ByteArray.empty))
theorem StrsAt.below {w w' : World} {B b off : Nat} {zs : List ByteArray} (h : StrsAt w b off zs) (hb : Below B w w') (hB : b < B) : StrsAt w' b off zs := fun j hj => by
  rw [hb.cell (p := ⟨b, off + j, none⟩) hB]; exact h j hj
theorem strsAt_alloc (w : World) (zs : List ByteArray) (t : TypeId) : StrsAt (w.alloc (.cells (zs.map Value.string).toArray t)) w.heap.size 0 zs := fun j hj => by
  rw [World.cell?_alloc_new]
  simp [List.getD, hj]
set_option maxHeartbeats 400000 in
theorem rFind_any (b off n c : Nat) (zs : List ByteArray) (x : ByteArray) (w : World) (hz : n ≤ zs.length) (hn : n ≤ maxLen) (hc : StrsAt w b off zs) :
    Calls Try.prog 112 #[.slice (some ⟨b, off, none⟩) n c, .string x] w fun e w' => e = .returned (.int .i64 (Lib.idxOfS (zs.take n) x)) ∧ w = w' := by
  unfold maxLen at hn
  have HC := Lib.hid hc
  clear hc
  go_enter Try.func112, Try.ntmps112
  go_wp2
  go_loop [5] (fun i => ∃ k : Nat, k ≤ n ∧ i = .int .i64 k ∧ ∀ j, j < k → zs.getD j ByteArray.empty ≠ x) (fun i => n - (intOf i).toNat)
  case atStart => exact ⟨0, by omega, rfl, fun j hj => absurd hj (Nat.not_lt_zero _)⟩
  case round =>
    obtain ⟨k, hk, rfl, hin⟩ := hrel
    have HI := Lib.hid hin
    clear hin
    by_cases hlt : k < n
    · have hcell : w.cell? ⟨b, off + k, none⟩ = some (.string (zs.getD k ByteArray.empty)) := HC.out k (by omega)
      generalize hzk : zs.getD k ByteArray.empty = z at hcell
      have HZ := Lib.hid hzk
      clear hzk
      by_cases he : z = x
      · have he2 : (z.toList == x.toList) = true := (Lib.bytes_beq_iff z x).2 he
        have HE := Lib.hid he
        clear he
        go_wp2
        go_ret
        exact ⟨ret_int (Lib.idxOfS_hit zs n k x hlt hz (HZ.out.trans HE.out) HI.out).symm, rfl⟩
      · have he2 : (z.toList == x.toList) = false := (Lib.bytes_beq_false_iff z x).2 he
        have HE := Lib.hid he
        clear he
        go_wp2
        go_round
        case rel => exact ⟨k + 1, by omega, by go_num, fun j hj => by
          rcases Nat.lt_succ_iff_lt_or_eq.1 hj with h | h
          · exact HI.out j h
          · subst h; rw [HZ.out]; exact HE.out⟩
        case measure => simp [intOf]; omega
    · go_wp2
      go_ret
      exact ⟨ret_int (Lib.idxOfS_miss zs n x (fun j hj => HI.out j (by omega))).symm, rfl⟩
end Go.Proofs.Ytkhpihacjhhklaa

/-
  Walks of layer 1, third part: names, type variables and labels, of the program and of the reference.
-/
namespace Go.Proofs.Ytkhpihacjhhklaa
open Go.RowKit

theorem key_found (s : ByteArray) : decide (Lib.idxOfS (keyStrs.take 31) s < 0) = !Pl.isKey s.toList := by
  have h := (Lib.idxOfS_nonneg_iff keyStrs s).trans (mem_keyStrs s)
  rw [show keyStrs.take 31 = keyStrs from rfl]
  cases hk : Pl.isKey s.toList
  · rw [hk] at h; simp at h ⊢; omega
  · rw [hk] at h; simp at h ⊢; omega
set_option maxHeartbeats 400000 in
theorem rIsLower_any (s : ByteArray) (w : World) (hs : s.size ≤ maxLen) :
    Calls Try.prog 106 #[.string s] w fun e w' => e = .returned (.bool (Pl.isLower s.toList)) ∧ Below w.heap.size w w' := by
  by_cases hw : Pl.isWord s.toList = true
  · have h0 : 0 < s.size := by have := hw; unfold Pl.isWord at this; simp [Pl.len_size] at this; omega
    by_cases hsm : Pl.small s[0].toNat = true
    · have HL := Lib.hid (show Pl.isLower s.toList = !Pl.isKey s.toList from by unfold Pl.isLower; rw [hw, Pl.head_pos _ s h0, hsm]; rfl)
      go_enter Try.func106, Try.ntmps106
      go_wp2_with (first | (go_at_call 111; refine (rWord_any _ _ hs).mono ?_; rintro e w' ⟨rfl, rfl⟩) | (go_at_call 109; refine (rsmall_any _ _).mono ?_; rintro e w' ⟨rfl, rfl⟩) | (go_at_call 113; refine (keys_any _).mono ?_; rintro e w' ⟨rfl, rfl⟩) | (go_at_call 112; refine (rFind_any w.heap.size 0 31 31 keyStrs s _ (by decide) (by decide) (strsAt_alloc w keyStrs _)).mono ?_; rintro e w' ⟨rfl, rfl⟩))
      go_ret
      exact ⟨ret_bool (by rw [HL.out, key_found]), (Below.refl _ _).alloc (Nat.le_refl _) _⟩
    · have hsm2 : Pl.small s[0].toNat = false := by simpa using hsm
      have HL := Lib.hid (show Pl.isLower s.toList = false from by unfold Pl.isLower; rw [hw, Pl.head_pos _ s h0, hsm2]; rfl)
      go_enter Try.func106, Try.ntmps106
      go_wp2_with (first | (go_at_call 111; refine (rWord_any _ _ hs).mono ?_; rintro e w' ⟨rfl, rfl⟩) | (go_at_call 109; refine (rsmall_any _ _).mono ?_; rintro e w' ⟨rfl, rfl⟩))
      go_ret
      exact ⟨ret_bool HL.out.symm, Below.refl _ _⟩
  · have hw2 : Pl.isWord s.toList = false := by simpa using hw
    have HL := Lib.hid (show Pl.isLower s.toList = false from by unfold Pl.isLower; rw [hw2]; rfl)
    go_enter Try.func106, Try.ntmps106
    go_wp2_with (first | (go_at_call 111; refine (rWord_any _ _ hs).mono ?_; rintro e w' ⟨rfl, rfl⟩))
    go_ret
    exact ⟨ret_bool HL.out.symm, Below.refl _ _⟩

set_option maxHeartbeats 400000 in
theorem isLower_any (s : ByteArray) (w : World) (hs : s.size ≤ maxLen) :
    Calls Try.prog 68 #[.string s] w fun e w' => e = .returned (.bool (Pl.isLower s.toList)) ∧ w = w' := by
  have hs' := hs
  unfold maxLen at hs
  have HL := Lib.hid (show Pl.isLower s.toList = (decide (s.size ≤ 24) && Pl.word1 1 s.toList && !Pl.isKey s.toList) from by unfold Pl.isLower; rw [← Pl.lower_eq, Pl.len_size])
  go_enter Try.func68, Try.ntmps68
  go_wp2_with (first | (go_at_call 87; refine (isWord_any _ _ _ hs').mono ?_; rintro e w' ⟨rfl, rfl⟩) | (go_at_call 88; refine (isKey_any _ _).mono ?_; rintro e w' ⟨rfl, rfl⟩))
  all_goals
    go_ret
    refine ⟨ret_bool ?_, rfl⟩
    rw [HL.out]
    simp_all
    try omega
set_option maxHeartbeats 400000 in
theorem isUpper_any (s : ByteArray) (w : World) (hs : s.size ≤ maxLen) :
    Calls Try.prog 69 #[.string s] w fun e w' => e = .returned (.bool (Pl.isUpper s.toList)) ∧ w = w' := by
  have hs' := hs
  unfold maxLen at hs
  have HL := Lib.hid (show Pl.isUpper s.toList = (decide (s.size ≤ 24) && Pl.word1 2 s.toList) from by rw [← Pl.upper_eq, Pl.len_size])
  go_enter Try.func69, Try.ntmps69
  go_wp2_with (first | (go_at_call 87; refine (isWord_any _ _ _ hs').mono ?_; rintro e w' ⟨rfl, rfl⟩))
  all_goals
    go_ret
    refine ⟨ret_bool ?_, rfl⟩
    rw [HL.out]
    simp_all
    try omega
theorem cutQ (s : ByteArray) (w : World) (h : 0 < s.size) : Calls Try.prog 86 #[.string s, .string ⟨#[39]⟩] w fun e w' =>
    e = .returned (.tuple #[.string (if (s[0].toNat : Int) = 39 then s.extract 1 s.size else s), .bool (decide ((s[0].toNat : Int) = 39))]) ∧ w = w' := by
  refine (Try.strings_CutPrefix s ⟨#[39]⟩ w).mono ?_
  rintro e w' ⟨rfl, rfl⟩
  refine ⟨?_, rfl⟩
  have h1 : s.data.toList = s[0] :: s.data.toList.drop 1 := by have := Pl.drop_cons s 0 h; rw [Pl.toList_eq] at this; exact this
  have hp : Lib.hasPrefix s.data.toList [39] = decide ((s[0].toNat : Int) = 39) := by
    rw [h1]
    simp only [Lib.hasPrefix, List.isPrefixOf, Bool.and_true]
    rw [Bool.eq_iff_iff, beq_iff_eq, decide_eq_true_eq, Pl.u8_eq]
    constructor <;> intro h2 <;> exact h2.symm
  rw [show (⟨#[39]⟩ : ByteArray).data.toList = [39] from rfl, hp]
  unfold Lib.trimPrefix
  rw [hp]
  by_cases hq : (s[0].toNat : Int) = 39
  · simp only [hq, decide_true, if_true]
    congr 5
    rw [← Pl.toList_eq, show [(39 : UInt8)].length = 1 from rfl, ← Pl.extract_end s 1, Pl.toList_eq]
  · simp only [hq, decide_false, if_false, Bool.false_eq_true]
set_option maxHeartbeats 400000 in
theorem isVar_any (s : ByteArray) (w : World) (hs : s.size ≤ maxLen) :
    Calls Try.prog 67 #[.string s] w fun e w' => e = .returned (.bool (Pl.isVar s.toList)) ∧ w = w' := by
  have hs' := hs
  unfold maxLen at hs
  by_cases h0 : 0 < s.size
  · by_cases hq : (s[0].toNat : Int) = 39
    · have HL := Lib.hid (show Pl.isVar s.toList = (decide (s.size ≤ 24) && Pl.word1 1 (s.extract 1 s.size).toList) from by rw [Pl.isVar_cons s h0, Pl.extract_end]; simp [hq])
      have hc := cutQ s w h0
      rw [if_pos hq, decide_eq_true hq] at hc
      have HC := Lib.hid hc
      clear hc hq
      have hs2 : (s.extract 1 s.size).size ≤ maxLen := by rw [ByteArray.size_extract]; unfold maxLen; omega
      have HS := Lib.hid hs2
      clear hs2
      go_enter Try.func67, Try.ntmps67
      go_wp2_with (first | (go_at_call 86; refine (HC.out).mono ?_; rintro e w' ⟨rfl, rfl⟩) | (go_at_call 87; refine (isWord_any _ _ _ HS.out).mono ?_; rintro e w' ⟨rfl, rfl⟩))
      all_goals
        go_ret
        refine ⟨ret_bool ?_, rfl⟩
        rw [HL.out]
        simp
        try omega
    · have HL := Lib.hid (show Pl.isVar s.toList = false from by rw [Pl.isVar_cons s h0]; simp [hq])
      have hc := cutQ s w h0
      rw [if_neg hq, decide_eq_false hq] at hc
      have HC := Lib.hid hc
      clear hc hq
      go_enter Try.func67, Try.ntmps67
      go_wp2_with (first | (go_at_call 86; refine (HC.out).mono ?_; rintro e w' ⟨rfl, rfl⟩))
      go_ret
      exact ⟨ret_bool HL.out.symm, rfl⟩
  · have he := Pl.nil_of_zero s h0
    have HL := Lib.hid (show Pl.isVar s.toList = false from by rw [he]; rfl)
    have hp : Lib.hasPrefix s.data.toList [39] = false := by rw [← Pl.toList_eq, he]; rfl
    clear he
    go_enter Try.func67, Try.ntmps67
    go_wp2_with (first | (go_at_call 86; refine (Try.strings_CutPrefix _ _ _).mono ?_; rintro e w' ⟨rfl, rfl⟩))
    go_ret
    exact ⟨ret_bool HL.out.symm, rfl⟩
set_option maxHeartbeats 400000 in
theorem rIsVar_any (s : ByteArray) (w : World) (hs : s.size ≤ maxLen) :
    Calls Try.prog 105 #[.string s] w fun e w' => e = .returned (.bool (Pl.isVar s.toList)) ∧ w = w' := by
  have hs' := hs
  unfold maxLen at hs
  by_cases h2 : 2 ≤ s.size
  · have HL := Lib.hid (Pl.isVar_two s h2)
    have hs2 : (s.extract 1 s.size).size ≤ maxLen := by rw [ByteArray.size_extract]; unfold maxLen; omega
    have HS := Lib.hid hs2
    clear hs2
    go_enter Try.func105, Try.ntmps105
    go_wp2_with (first | (go_at_call 109; refine (rsmall_any _ _).mono ?_; rintro e w' ⟨rfl, rfl⟩) | (go_at_call 110; refine (rinner_any _ _ HS.out).mono ?_; rintro e w' ⟨rfl, rfl⟩))
    all_goals
      go_ret
      refine ⟨ret_bool ?_, rfl⟩
      rw [HL.out]
      simp_all
      try omega
  · have HL := Lib.hid (Pl.isVar_short s h2)
    go_enter Try.func105, Try.ntmps105
    go_wp2
    go_ret
    exact ⟨ret_bool HL.out.symm, rfl⟩
end Go.Proofs.Ytkhpihacjhhklaa
