/-
  Walks of layer 2: the reference's words, symbols, texts and literals.
-/
import Derived.Test.YtbmkbenlhkcklaaLt
import Derived.Lib.SlicesS
namespace Go.Proofs.Ytbmkbenlhkcklaa
open Go.RowKit
namespace Pl
abbrev el (zs : List ByteArray) (k : Nat) : ByteArray := zs.getD k ByteArray.empty
end Pl
def keyStrs : List ByteArray := Pl.keys.map fun l => ⟨l.toArray⟩
theorem mem_keyStrs (s : ByteArray) : s ∈ keyStrs ↔ Pl.isKey s.toList = true := by
  unfold keyStrs Pl.isKey
  rw [List.contains_iff_mem, List.mem_map, Pl.toList_eq]
  constructor
  · rintro ⟨l, hl, rfl⟩; simpa using hl
  · intro h; exact ⟨_, h, rfl⟩
/-- What a slice's cells hold: these strings. -/
def StrsAt (w : World) (b off : Nat) (zs : List ByteArray) : Prop := ∀ j, j < zs.length → w.cell? ⟨b, off + j, none⟩ = some (.string (zs.getD j ByteArray.empty))
theorem StrsAt.below {w w' : World} {B b off : Nat} {zs : List ByteArray} (h : StrsAt w b off zs) (hb : Below B w w') (hB : b < B) : StrsAt w' b off zs := fun j hj => by
  rw [hb.cell (p := ⟨b, off + j, none⟩) hB]; exact h j hj
theorem strsAt_alloc (w : World) (zs : List ByteArray) (t : TypeId) : StrsAt (w.alloc (.cells (zs.map Value.string).toArray t)) w.heap.size 0 zs := fun j hj => by
  rw [World.cell?_alloc_new]
  simp [List.getD, hj]
/-- one element of such a list, as the walk meets it -/
theorem StrsAt.cell {w : World} {b off : Nat} {zs : List ByteArray} (h : StrsAt w b off zs) (k : Nat) (hk : k < zs.length) : w.cell? ⟨b, off + k, none⟩ = some (.string (Pl.el zs k)) := h k hk

theorem words_any (w : World) :
    Calls Try.prog 38 #[] w fun e w' => e = .returned (.slice (some ⟨w.heap.size, 0, none⟩) 31 31) ∧ w.alloc (.cells (keyStrs.map Value.string).toArray 9) = w' := by
  go_enter Try.func38, Try.ntmps38
  go_wp2
  go_ret
  exact ⟨rfl, rfl⟩
set_option maxRecDepth 100000 in
set_option maxHeartbeats 1000000 in
theorem rWord_any (s : ByteArray) (w : World) :
    Calls Try.prog 18 #[.string s] w fun e w' => e = .returned (.bool (Pl.isKey s.toList)) ∧ Below w.heap.size w w' := by
  go_enter Try.func18, Try.ntmps18
  go_wp2_with fail
  refine (words_any w).mono ?_
  rintro e w1 ⟨rfl, hw1⟩
  have hat := strsAt_alloc w keyStrs 9
  rw [hw1] at hat
  have HAT := Lib.hid hat.cell
  have HB := Lib.hid (show Below w.heap.size w w1 from by rw [← hw1]; exact (Below.refl _ _).alloc (Nat.le_refl _) _)
  clear hw1 hat
  go_wp2
  go_loop [4] (fun i => ∃ k : Nat, k ≤ 31 ∧ i = .int .i64 k ∧ ∀ j, j < k → Pl.el keyStrs j ≠ s) (fun i => 31 - (intOf i).toNat)
  case atStart => exact ⟨0, by omega, rfl, fun j hj => absurd hj (Nat.not_lt_zero _)⟩
  case round =>
    obtain ⟨k, hk, rfl, hin⟩ := hrel
    have HI := Lib.hid hin
    clear hin
    by_cases hlt : k < 31
    · have hcell := HAT.out k (by show k < 31; exact hlt)
      rw [Nat.zero_add] at hcell
      have hmem : Pl.el keyStrs k ∈ keyStrs := by
        have hl : k < keyStrs.length := hlt
        rw [show Pl.el keyStrs k = keyStrs[k] from by simp [Pl.el, List.getD, hl]]; exact List.getElem_mem _
      generalize hz : Pl.el keyStrs k = z at hcell hmem
      have HZ := Lib.hid hz
      clear hz
      by_cases he : z = s
      · have he2 : (z.toList == s.toList) = true := (Lib.bytes_beq_iff z s).2 he
        have HK := Lib.hid ((mem_keyStrs s).1 (he ▸ hmem))
        clear he hmem
        go_wp2
        go_ret
        exact ⟨ret_bool HK.out.symm, HB.out⟩
      · have he2 : (z.toList == s.toList) = false := (Lib.bytes_beq_false_iff z s).2 he
        have HE := Lib.hid he
        clear he hmem
        go_wp2
        go_round
        case rel => exact ⟨k + 1, by omega, by go_num, fun j hj => by
          rcases Nat.lt_succ_iff_lt_or_eq.1 hj with h | h
          · exact HI.out j h
          · subst h; rw [HZ.out]; exact HE.out⟩
        case measure => simp [intOf]; omega
    · have HK := Lib.hid (show Pl.isKey s.toList = false from by
        rw [Bool.eq_false_iff]
        intro hkey
        obtain ⟨j, hj, he⟩ := List.getElem_of_mem ((mem_keyStrs s).2 hkey)
        have hj' : j < 31 := hj
        exact HI.out j (by omega) (by rw [← he]; simp [Pl.el, List.getD, hj]))
      go_wp2
      go_ret
      exact ⟨ret_bool HK.out.symm, HB.out⟩
theorem begins_any (s z : ByteArray) (w : World) :
    Calls Try.prog 39 #[.string s, .string z] w fun e w' => e = .returned (.bool (z.toList.isPrefixOf s.toList)) ∧ w = w' := by
  have hx := extract_take s 0 z.size
  rw [Nat.zero_add, List.drop_zero] at hx
  have hl : (s.extract 0 z.size).toList = s.toList.take z.size := by rw [hx, Pl.mk_toList]
  by_cases hle : z.size ≤ s.size
  · have hle2 : decide ((z.size : Int) ≤ (s.size : Int)) = true := by simp; omega
    have HR := Lib.hid (show (z.toList.isPrefixOf s.toList) = ((s.extract 0 z.size).toList == z.toList) from by
      rw [hl, Bool.eq_iff_iff, List.isPrefixOf_iff_prefix, beq_iff_eq, List.prefix_iff_eq_take, Pl.len_size]
      constructor <;> intro h <;> exact h.symm)
    clear hx hl
    go_enter Try.func39, Try.ntmps39
    go_wp2
    go_ret
    exact ⟨ret_bool (by rw [HR.out]), rfl⟩
  · have hle2 : decide ((z.size : Int) ≤ (s.size : Int)) = false := by simp; omega
    have HR := Lib.hid (show (z.toList.isPrefixOf s.toList) = false from by
      rw [Bool.eq_false_iff]
      intro h
      have := (List.isPrefixOf_iff_prefix.1 h).length_le
      rw [Pl.len_size, Pl.len_size] at this; omega)
    clear hx hl
    go_enter Try.func39, Try.ntmps39
    go_wp2
    go_ret
    exact ⟨ret_bool (by rw [HR.out]), rfl⟩
namespace Pl
def symList : List Bytes := sym2 ++ sym1
abbrev sy (k : Nat) : Bytes := symList.getD k []
theorem sy_two (k : Nat) (h : k < 4) : sy k ∈ sym2 ∧ (sy k).length = 2 := by
  rcases (show k = 0 ∨ k = 1 ∨ k = 2 ∨ k = 3 by omega) with rfl | rfl | rfl | rfl <;> decide
theorem sy_one (k : Nat) (h : k < 19) (h4 : 4 ≤ k) : sy k ∈ sym1 ∧ (sy k).length = 1 := by
  have : ∀ k, k < 19 → 4 ≤ k → sy k ∈ sym1 ∧ (sy k).length = 1 := by decide
  exact this k h h4
theorem sy_of2 (x : Bytes) (h : x ∈ sym2) : ∃ j, j < 4 ∧ sy j = x := by
  have : ∀ x ∈ sym2, ∃ j, j < 4 ∧ sy j = x := by decide
  exact this x h
theorem sy_of1 (x : Bytes) (h : x ∈ sym1) : ∃ j, j < 19 ∧ sy j = x := by
  have : ∀ x ∈ sym1, ∃ j, j < 19 ∧ sy j = x := by decide
  exact this x h
theorem take_prefix (l : Bytes) (n : Nat) : (l.take n).isPrefixOf l = true := List.isPrefixOf_iff_prefix.2 (List.take_prefix n l)
theorem no_two (l : Bytes) (k : Nat) (h4 : 4 ≤ k) (hno : ∀ j, j < k → (sy j).isPrefixOf l = false) : sym2.contains (l.take 2) = false := by
  rw [Bool.eq_false_iff]
  intro hc
  obtain ⟨j, hj, he⟩ := sy_of2 _ (List.contains_iff_mem.1 hc)
  have := hno j (by omega)
  rw [he, take_prefix] at this; cases this
theorem sy_hit (l : Bytes) (k : Nat) (hk : k < 19) (ho : opens l = false) (hno : ∀ j, j < k → (sy j).isPrefixOf l = false) (h : (sy k).isPrefixOf l = true) : sy k = l.take (symLen l) := by
  have hp := List.prefix_iff_eq_take.1 (List.isPrefixOf_iff_prefix.1 h)
  by_cases h4 : k < 4
  · obtain ⟨h1, h2⟩ := sy_two k h4
    rw [h2] at hp
    have hc : sym2.contains (l.take 2) = true := by rw [← hp]; exact List.contains_iff_mem.2 h1
    have : symLen l = 2 := by unfold symLen; rw [ho, hc]; rfl
    rw [this, ← hp]
  · obtain ⟨h1, h2⟩ := sy_one k hk (by omega)
    rw [h2] at hp
    have hc : sym1.contains (l.take 1) = true := by rw [← hp]; exact List.contains_iff_mem.2 h1
    have : symLen l = 1 := by unfold symLen; rw [ho, no_two l k (by omega) hno, hc]; rfl
    rw [this, ← hp]
theorem sy_none (l : Bytes) (hno : ∀ j, j < 19 → (sy j).isPrefixOf l = false) : symLen l = 0 := by
  unfold symLen
  split
  · rfl
  · rw [no_two l 19 (by omega) hno, if_neg (by simp)]
    have hc : sym1.contains (l.take 1) = false := by
      rw [Bool.eq_false_iff]
      intro hc
      obtain ⟨j, hj, he⟩ := sy_of1 _ (List.contains_iff_mem.1 hc)
      have := hno j hj
      rw [he, take_prefix] at this; cases this
    rw [hc]; rfl
end Pl
def symStrs : List ByteArray := Pl.symList.map Pl.mk
theorem symStrs_el (k : Nat) (h : k < 19) : Pl.el symStrs k = Pl.mk (Pl.sy k) := by
  have : ∀ k, k < 19 → Pl.el symStrs k = Pl.mk (Pl.sy k) := by decide
  exact this k h
/-- the text of the longest symbol with which a text begins -/
def symStr (l : Pl.Bytes) : ByteArray := Pl.mk (l.take (Pl.symLen l))
set_option maxRecDepth 100000 in
set_option maxHeartbeats 1000000 in
theorem rSymbol_any (s : ByteArray) (w : World) :
    Calls Try.prog 19 #[.string s] w fun e w' => e = .returned (.string (symStr s.toList)) ∧ Below w.heap.size w w' := by
  have hcall := begins_any s ⟨#[40, 42]⟩ w
  rw [show (⟨#[40, 42]⟩ : ByteArray) = Pl.mk [40, 42] from rfl, Pl.mk_toList] at hcall
  have hc2 : Calls Try.prog 39 #[.string s, .string ⟨#[40, 42]⟩] w fun e w' => e = .returned (.bool (Pl.opens s.toList)) ∧ w = w' := hcall
  clear hcall
  cases ho : Pl.opens s.toList
  · rw [ho] at hc2
    have HC := Lib.hid hc2
    have HO := Lib.hid ho
    clear hc2 ho
    have hat := strsAt_alloc w symStrs 9
    have hbw : Below w.heap.size w (w.alloc (.cells (symStrs.map Value.string).toArray 9)) := (Below.refl _ _).alloc (Nat.le_refl _) _
    have HAT := Lib.hid hat.cell
    have HB := Lib.hid hbw
    clear hat hbw
    go_enter Try.func19, Try.ntmps19
    go_wp2_with fail
    refine HC.out.mono ?_
    rintro e w' ⟨rfl, rfl⟩
    go_wp2
    generalize hwa : w.alloc (.cells (symStrs.map Value.string).toArray 9) = wa at HAT HB
    have hwa2 : w.alloc (.cells #[.string ⟨#[58, 62]⟩, .string ⟨#[61, 62]⟩, .string ⟨#[45, 62]⟩, .string ⟨#[60, 61]⟩, .string ⟨#[40]⟩, .string ⟨#[41]⟩, .string ⟨#[44]⟩, .string ⟨#[59]⟩, .string ⟨#[58]⟩, .string ⟨#[61]⟩, .string ⟨#[124]⟩, .string ⟨#[95]⟩, .string ⟨#[46]⟩, .string ⟨#[42]⟩, .string ⟨#[43]⟩, .string ⟨#[45]⟩, .string ⟨#[60]⟩, .string ⟨#[94]⟩, .string ⟨#[126]⟩] 9) = wa := hwa
    rw [hwa2]
    clear hwa hwa2
    go_loop [4] (fun i => ∃ k : Nat, k ≤ 19 ∧ i = .int .i64 k ∧ ∀ j, j < k → (Pl.sy j).isPrefixOf s.toList = false) (fun i => 19 - (intOf i).toNat)
    case atStart => exact ⟨0, by omega, rfl, fun j hj => absurd hj (Nat.not_lt_zero _)⟩
    case round =>
      obtain ⟨k, hk, rfl, hin⟩ := hrel
      have HI := Lib.hid hin
      clear hin
      by_cases hlt : k < 19
      · have hcell := HAT.out k (by show k < 19; exact hlt)
        rw [Nat.zero_add, symStrs_el k hlt] at hcell
        have hb := begins_any s (Pl.mk (Pl.sy k)) wa
        rw [Pl.mk_toList] at hb
        have HY := Lib.hid (fun h => Pl.sy_hit s.toList k hlt HO.out HI.out h)
        cases hp : (Pl.sy k).isPrefixOf s.toList
        · rw [hp] at hb
          have HBG := Lib.hid hb
          have HP := Lib.hid hp
          generalize Pl.mk (Pl.sy k) = z at hcell HBG
          clear hb hp
          go_wp2_with (go_at_call 39; refine HBG.out.mono ?_; rintro e w' ⟨rfl, rfl⟩)
          go_round
          case rel => exact ⟨k + 1, by omega, by go_num, fun j hj => by
            rcases Nat.lt_succ_iff_lt_or_eq.1 hj with h | h
            · exact HI.out j h
            · subst h; exact HP.out⟩
          case measure => simp [intOf]; omega
        · rw [hp] at hb
          have HBG := Lib.hid hb
          have HF := Lib.hid (show Pl.mk (Pl.sy k) = symStr s.toList from by unfold symStr; rw [HY.out hp])
          generalize Pl.mk (Pl.sy k) = z at hcell HBG HF
          clear hb hp
          go_wp2_with (go_at_call 39; refine HBG.out.mono ?_; rintro e w' ⟨rfl, rfl⟩)
          go_ret
          exact ⟨by rw [← HF.out]; rfl, HB.out⟩
      · have HS := Lib.hid (show symStr s.toList = ⟨#[]⟩ from by unfold symStr; rw [Pl.sy_none _ (fun j hj => HI.out j (by omega))]; rfl)
        go_wp2
        go_ret
        exact ⟨by rw [HS.out]; rfl, HB.out⟩
  · rw [ho] at hc2
    have HC := Lib.hid hc2
    have HS := Lib.hid (show symStr s.toList = ⟨#[]⟩ from by unfold symStr; rw [Pl.symLen_opens _ ho]; rfl)
    clear hc2 ho
    go_enter Try.func19, Try.ntmps19
    go_wp2_with fail
    refine HC.out.mono ?_
    rintro e w' ⟨rfl, rfl⟩
    go_wp2
    go_ret
    exact ⟨by rw [HS.out]; rfl, Below.refl _ _⟩
end Go.Proofs.Ytbmkbenlhkcklaa
