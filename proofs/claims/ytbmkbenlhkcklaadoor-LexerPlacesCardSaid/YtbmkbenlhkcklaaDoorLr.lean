/-
  Walks of layer 2: Quote and Unquote.
-/
import Derived.Test.YtbmkbenlhkcklaaDoorLq
namespace Go.Proofs.YtbmkbenlhkcklaaDoor
open Go.RowKit
namespace Pl
def escB (b : UInt8) : Bytes := if b = 10 then [92, 110] else if b = 34 ∨ b = 92 then [92, b] else [b]
def body (l : Bytes) : Bytes := l.flatMap escB
/-- the literal of a text -/
def lit (l : Bytes) : Bytes := 34 :: body l ++ [34]
def isText (l : Bytes) : Bool := l.all textB
def quote (l : Bytes) : Bytes × Int := if 16384 < l.length then ([], 5) else if isText l then (lit l, 0) else ([], 3)
def unquote (l : Bytes) : Bytes × Int :=
  if 32770 < l.length then ([], 5) else if headIs (fun c => decide (c = 34)) l then
    (if (txt (l.drop 1) false [] 1).err = 0 ∧ (txt (l.drop 1) false [] 1).len = l.length ∧ (txt (l.drop 1) false [] 1).text.length ≤ 16384 then ((txt (l.drop 1) false [] 1).text, 0) else ([], 3))
  else ([], 3)
theorem escB_le (b : UInt8) : 1 ≤ (escB b).length ∧ (escB b).length ≤ 2 := by
  unfold escB
  repeat' split
  all_goals simp
theorem body_snoc (s : ByteArray) (k : Nat) (h : k < s.size) : body (s.toList.take (k + 1)) = body (s.toList.take k) ++ escB s[k] := by
  rw [take_snoc s k h]; unfold body; simp
theorem body_len : ∀ l : Bytes, l.length ≤ (body l).length ∧ (body l).length ≤ 2 * l.length := by
  intro l
  unfold body
  induction l with
  | nil => exact ⟨Nat.zero_le _, Nat.zero_le _⟩
  | cons b r ih =>
    rw [List.flatMap_cons, List.length_append]
    have := escB_le b
    simp only [List.length_cons]; omega
theorem body_take_len (s : ByteArray) (k : Nat) : (body (s.toList.take k)).length ≤ 2 * k := by
  have h1 := (body_len (s.toList.take k)).2
  have h2 : (s.toList.take k).length ≤ k := List.length_take_le _ _
  omega
end Pl
theorem writeByte_92 (B b : Nat) (l : List UInt8) (w : World) (h : Bld B b l w) (hlen : l.length + 1 ≤ 140737488355328) (hBw : B ≤ w.heap.size) :
    Calls Tryd.prog 22 #[.pointer (some ⟨b, 0, none⟩), .int .u8 92] w fun e w' => e = .returned .nilIface ∧ Bld B b (l ++ [92]) w' ∧ Below B w w' := by
  have := writeByte_any B b l 92 w h hlen hBw
  rw [show (((92 : UInt8).toNat : Nat) : Int) = 92 from rfl] at this
  exact this
theorem writeByte_34 (B b : Nat) (l : List UInt8) (w : World) (h : Bld B b l w) (hlen : l.length + 1 ≤ 140737488355328) (hBw : B ≤ w.heap.size) :
    Calls Tryd.prog 22 #[.pointer (some ⟨b, 0, none⟩), .int .u8 34] w fun e w' => e = .returned .nilIface ∧ Bld B b (l ++ [34]) w' ∧ Below B w w' := by
  have := writeByte_any B b l 34 w h hlen hBw
  rw [show (((34 : UInt8).toNat : Nat) : Int) = 34 from rfl] at this
  exact this
theorem writeString_n (B b : Nat) (l : List UInt8) (w : World) (h : Bld B b l w) (hlen : l.length + 2 ≤ 140737488355328) (hBw : B ≤ w.heap.size) :
    Calls Tryd.prog 23 #[.pointer (some ⟨b, 0, none⟩), .string ⟨#[92, 110]⟩] w fun e w' => e = .returned (.tuple #[.int .i64 2, .nilIface]) ∧ Bld B b (l ++ [92, 110]) w' ∧ Below B w w' := by
  have := writeString_any B b l (Pl.mk [92, 110]) w h hlen hBw
  rw [Pl.mk_toList] at this
  exact this
set_option maxRecDepth 100000 in
set_option maxHeartbeats 1000000 in
theorem isText_any (s : ByteArray) (w : World) (hs : s.size ≤ maxLen) :
    Calls Tryd.prog 12 #[.string s] w fun e w' => e = .returned (.bool (Pl.isText s.toList)) ∧ w = w' := by
  unfold maxLen at hs
  go_enter Tryd.func12, Tryd.ntmps12
  go_wp2
  go_loop [6] (fun i => ∃ k : Nat, k ≤ s.size ∧ i = .int .i64 k ∧ (s.toList.take k).all Pl.textB = true) (fun i => s.size - (intOf i).toNat)
  case atStart => exact ⟨0, by omega, rfl, by simp⟩
  case round =>
    obtain ⟨k, hk, rfl, hin⟩ := hrel
    have HI := Lib.hid hin
    clear hin
    by_cases hlt : k < s.size
    · by_cases h10 : s[k] = 10
      · have q1 : ((s[k].toNat : Int) != 10) = false := by rw [h10]; rfl
        have HN := Lib.hid (Pl.all_take Pl.textB s k hlt)
        have HT := Lib.hid (show Pl.textB s[k] = true from by rw [h10]; rfl)
        clear h10
        go_wp2
        go_round
        case rel => exact ⟨k + 1, by omega, by go_num, by rw [HN.out, HI.out, HT.out]; rfl⟩
        case measure => simp [intOf]; omega
      · have q0 : ¬ (s[k].toNat : Int) = 10 := fun h => h10 ((Pl.u8_eq _ _).2 h)
        have q1 : ((s[k].toNat : Int) != 10) = true := by simpa using q0
        have hcall := fun W => isPrintable_any (s[k].toNat : Int) W
        have hte : Pl.textB s[k] = Pl.printable s[k].toNat := by unfold Pl.textB Pl.textual; rw [decide_eq_false q0, Bool.false_or]
        cases hp : Pl.printable (s[k].toNat : Int)
        · rw [hp] at hcall hte
          have HC := Lib.hid hcall
          have HF := Lib.hid (Pl.all_false Pl.textB s k hlt hte)
          clear hcall hte hp h10 q0
          go_wp2_with (go_at_call 21; refine (HC.out _).mono ?_; rintro e w' ⟨rfl, rfl⟩)
          go_ret
          exact ⟨ret_bool (by unfold Pl.isText; exact HF.out.symm), rfl⟩
        · rw [hp] at hcall hte
          have HC := Lib.hid hcall
          have HN := Lib.hid (Pl.all_take Pl.textB s k hlt)
          have HT := Lib.hid hte
          clear hcall hte hp h10 q0
          go_wp2_with (go_at_call 21; refine (HC.out _).mono ?_; rintro e w' ⟨rfl, rfl⟩)
          go_round
          case rel => exact ⟨k + 1, by omega, by go_num, by rw [HN.out, HI.out, HT.out]; rfl⟩
          case measure => simp [intOf]; omega
    · go_wp2
      go_ret
      have hi := HI.out
      rw [Pl.take_all s k (by omega)] at hi
      exact ⟨ret_bool (by unfold Pl.isText; exact hi.symm), rfl⟩
set_option maxRecDepth 100000 in
set_option maxHeartbeats 1000000 in
theorem literal_any (s : ByteArray) (w : World) (hs : s.size ≤ 1000000) :
    Calls Tryd.prog 13 #[.string s] w fun e w' => e = .returned (.string (Pl.mk (Pl.lit s.toList))) ∧ Below w.heap.size w w' := by
  have hbl := bld_new w
  have hb0 : Below w.heap.size w (w.alloc (.cells #[.pointer none, .slice none 0 0] 56)) := (Below.refl _ _).alloc (Nat.le_refl _) _
  have HBL := Lib.hid hbl
  have HB0 := Lib.hid hb0
  clear hbl hb0
  go_enter Tryd.func13, Tryd.ntmps13
  go_wp2_with fail
  generalize w.alloc (.cells #[.pointer none, .slice none 0 0] 56) = w0 at HBL HB0 ⊢
  refine (writeByte_34 _ _ _ _ HBL.out (by simp) HB0.out.size).mono ?_
  rintro e w1 ⟨rfl, hbl1, hb1⟩
  have HBL1 : Hid (Bld w.heap.size w.heap.size [34] w1) := hbl1
  have HB1 := Lib.hid (HB0.out.trans hb1)
  clear hbl1 hb1 HBL HB0
  go_wp2
  go_loopw [9] (fun v wr => ∃ k : Nat, k ≤ s.size ∧ v = .int .i64 k ∧ Bld w.heap.size w.heap.size (34 :: Pl.body (s.toList.take k)) wr ∧ Below w.heap.size w wr) (fun v _ => s.size - (intOf v).toNat)
  case atStart => exact ⟨0, by omega, rfl, HBL1.out, HB1.out⟩
  case round =>
    obtain ⟨k, hk, rfl, hbl, hb⟩ := hrel
    have HBL := Lib.hid hbl
    have HB := Lib.hid hb
    have hlen := Pl.body_take_len s k
    clear hbl hb
    by_cases hlt : k < s.size
    · have HSN := Lib.hid (Pl.body_snoc s k hlt)
      generalize Pl.body (s.toList.take k) = bd at HBL HSN hlen
      by_cases h10 : s[k] = 10
      · have q1 : ((s[k].toNat : Int) == 10) = true := by rw [h10]; rfl
        have HE := Lib.hid (show Pl.escB s[k] = [92, 110] from by unfold Pl.escB; rw [if_pos h10])
        clear h10
        go_wp2_with fail
        refine (writeString_n _ _ _ _ HBL.out (by simp; omega) HB.out.size).mono ?_
        rintro e w2 ⟨rfl, hbl2, hb2⟩
        have HBL2 := Lib.hid hbl2
        have HB2 := Lib.hid (HB.out.trans hb2)
        clear hbl2 hb2
        go_wp2
        go_roundw
        case rel => exact ⟨k + 1, by omega, by go_num, by rw [HSN.out, HE.out]; exact HBL2.out, HB2.out⟩
        case measure => simp [intOf]; omega
      · have q1 : ((s[k].toNat : Int) == 10) = false := beq_eq_false_iff_ne.2 (fun h => h10 ((Pl.u8_eq _ _).2 h))
        by_cases hq : s[k] = 34 ∨ s[k] = 92
        · have HE := Lib.hid (show Pl.escB s[k] = [92, s[k]] from by unfold Pl.escB; rw [if_neg h10, if_pos hq])
          have q2 : ((s[k].toNat : Int) == 34) = true ∨ ((s[k].toNat : Int) == 34) = false ∧ ((s[k].toNat : Int) == 92) = true := by
            rcases hq with hq | hq
            · left; rw [hq]; rfl
            · right; rw [hq]; exact ⟨rfl, rfl⟩
          clear h10 hq
          rcases q2 with q2 | ⟨q2, q3⟩
          all_goals
            go_wp2_with fail
            refine (writeByte_92 _ _ _ _ HBL.out (by simp; omega) HB.out.size).mono ?_
            rintro e w2 ⟨rfl, hbl2, hb2⟩
            have HBL2 := Lib.hid hbl2
            have HB2 := Lib.hid (HB.out.trans hb2)
            clear hbl2 hb2
            go_wp2_with fail
            refine (writeByte_any _ _ _ _ _ HBL2.out (by simp; omega) HB2.out.size).mono ?_
            rintro e w3 ⟨rfl, hbl3, hb3⟩
            have HBL3 := Lib.hid hbl3
            have HB3 := Lib.hid (HB2.out.trans hb3)
            clear hbl3 hb3
            go_wp2
            go_roundw
            case rel => exact ⟨k + 1, by omega, by go_num, by rw [HSN.out, HE.out]; have := HBL3.out; simpa using this, HB3.out⟩
            case measure => simp [intOf]; omega
        · have HE := Lib.hid (show Pl.escB s[k] = [s[k]] from by unfold Pl.escB; rw [if_neg h10, if_neg hq])
          have q2 : ((s[k].toNat : Int) == 34) = false := beq_eq_false_iff_ne.2 (fun h => hq (.inl ((Pl.u8_eq _ _).2 h)))
          have q3 : ((s[k].toNat : Int) == 92) = false := beq_eq_false_iff_ne.2 (fun h => hq (.inr ((Pl.u8_eq _ _).2 h)))
          clear h10 hq
          go_wp2_with fail
          refine (writeByte_any _ _ _ _ _ HBL.out (by simp; omega) HB.out.size).mono ?_
          rintro e w2 ⟨rfl, hbl2, hb2⟩
          have HBL2 := Lib.hid hbl2
          have HB2 := Lib.hid (HB.out.trans hb2)
          clear hbl2 hb2
          go_wp2
          go_roundw
          case rel => exact ⟨k + 1, by omega, by go_num, by rw [HSN.out, HE.out]; exact HBL2.out, HB2.out⟩
          case measure => simp [intOf]; omega
    · have HTA := Lib.hid (Pl.take_all s k (by omega))
      go_wp2_with fail
      refine (writeByte_34 _ _ _ _ HBL.out (by simp; omega) HB.out.size).mono ?_
      rintro e w2 ⟨rfl, hbl2, hb2⟩
      have HBL2 := Lib.hid hbl2
      have HB2 := Lib.hid (HB.out.trans hb2)
      clear hbl2 hb2
      go_wp2_with fail
      refine (string_any _ _ _ _ HBL2.out HB2.out.size).mono ?_
      rintro e w3 ⟨rfl, -, hb3⟩
      have HB3 := Lib.hid (HB2.out.trans hb3)
      clear hb3
      go_wp2
      go_ret
      exact ⟨by rw [HTA.out]; rfl, HB3.out⟩

def pair (r : Pl.Bytes × Int) : Value := .tuple #[.string (Pl.mk r.1), .int .i64 r.2]
set_option maxRecDepth 100000 in
set_option maxHeartbeats 1000000 in
theorem quote_any (s : ByteArray) (w : World) (hs : s.size ≤ maxLen) :
    Calls Tryd.prog 8 #[.string s] w fun e w' => e = .returned (pair (Pl.quote s.toList)) ∧ Below w.heap.size w w' := by
  have hs' := hs
  unfold maxLen at hs
  by_cases hl : 16384 < s.size
  · have hl2 : decide ((16384 : Int) < (s.size : Int)) = true := by simp; omega
    have HQ := Lib.hid (show Pl.quote s.toList = ([], 5) from by unfold Pl.quote; rw [if_pos (by rw [Pl.len_size]; exact hl)])
    go_enter Tryd.func8, Tryd.ntmps8
    go_wp2
    go_ret2
    exact ⟨by rw [HQ.out]; rfl, Below.refl _ _⟩
  · have hl2 : decide ((16384 : Int) < (s.size : Int)) = false := by simp; omega
    have hcall := fun W => isText_any s W hs'
    cases ht : Pl.isText s.toList
    · rw [ht] at hcall
      have HC := Lib.hid hcall
      have HQ := Lib.hid (show Pl.quote s.toList = ([], 3) from by unfold Pl.quote; rw [if_neg (by rw [Pl.len_size]; exact hl), ht]; rfl)
      clear hcall ht
      go_enter Tryd.func8, Tryd.ntmps8
      go_wp2_with (go_at_call 12; refine (HC.out _).mono ?_; rintro e w' ⟨rfl, rfl⟩)
      go_ret2
      exact ⟨by rw [HQ.out]; rfl, Below.refl _ _⟩
    · rw [ht] at hcall
      have HC := Lib.hid hcall
      have HQ := Lib.hid (show Pl.quote s.toList = (Pl.lit s.toList, 0) from by unfold Pl.quote; rw [if_neg (by rw [Pl.len_size]; exact hl), ht]; rfl)
      clear hcall ht
      go_enter Tryd.func8, Tryd.ntmps8
      go_wp2_with fail
      refine (HC.out _).mono ?_
      rintro e w' ⟨rfl, rfl⟩
      go_wp2_with fail
      refine (literal_any s _ (by omega)).mono ?_
      rintro e w2 ⟨rfl, hb⟩
      have HB := Lib.hid hb
      clear hb
      go_wp2
      go_ret2
      exact ⟨by rw [HQ.out]; rfl, HB.out⟩
/-- what Unquote does with the text that is read -/
def unqOf (n : Nat) (t : Pl.Tk) : Pl.Bytes × Int := if t.err = 0 ∧ t.len = n ∧ t.text.length ≤ 16384 then (t.text, 0) else ([], 3)
theorem hasPrefix_quote (s : ByteArray) (w : World) :
    Calls Tryd.prog 9 #[.string s, .string ⟨#[34]⟩] w fun e w' => e = .returned (.bool (Pl.headIs (fun c => decide (c = 34)) s.toList)) ∧ w = w' := by
  have h := hasPrefix_any s ⟨#[34]⟩ w
  have e : ((⟨#[34]⟩ : ByteArray).toList.isPrefixOf s.toList) = Pl.headIs (fun c => decide (c = 34)) s.toList := by
    rw [show (⟨#[34]⟩ : ByteArray) = Pl.mk [34] from rfl, Pl.mk_toList]
    cases s.toList with
    | nil => rfl
    | cons b r =>
      show (((34 : UInt8) == b) && true) = decide ((b.toNat : Int) = 34)
      rw [Bool.and_true, Bool.eq_iff_iff, beq_iff_eq, decide_eq_true_eq]
      constructor
      · rintro rfl; rfl
      · intro h; exact ((Pl.u8_eq b 34).2 h).symm
  rw [e] at h
  exact h
theorem txt_fine (s : ByteArray) (h : 0 < s.size) (h34 : Pl.headIs (fun c => decide (c = 34)) s.toList = true) : Pl.Fine s.toList (Pl.txt (s.toList.drop 1) false [] 1) := by
  have e : s.toList = [s[0]] ++ s.toList.drop 1 := by
    have := Pl.drop_cons s 0 h
    simpa using this
  have hb : s[0] ≠ 10 := by
    intro hx
    have h0 := Pl.headIs_at (fun c => decide (c = 34)) s 0 h
    rw [List.drop_zero, h34, hx] at h0
    exact absurd h0 (by decide)
  have := Pl.fine_txt (s.toList.drop 1) [s[0]] false [] (by simp) (by simpa using fun e : (10 : UInt8) = s[0] => hb e.symm) (fun h => by cases h)
  rw [← e] at this
  exact this
end Go.Proofs.YtbmkbenlhkcklaaDoor
