/-
  The law LexerParts, as a walk: each call returns true, and nothing that lay in memory before it turns.
-/
import Derived.Test.YtbmkbenlhkcklaaLv
namespace Go.Proofs.Ytbmkbenlhkcklaa
open Go.RowKit

def longB (n : Nat) : Bool := (decide (1500 < n) && decide (n ≤ 16384)) || decide (20000 < n)
theorem long_any (s : ByteArray) (w : World) (hs : s.size ≤ maxLen) :
    Calls Try.prog 10 #[.string s] w fun e w' => e = .returned (.bool (longB s.size)) ∧ w = w' := by
  unfold maxLen at hs
  by_cases h1 : 1500 < s.size
  · have q1 : decide ((1500 : Int) < (s.size : Int)) = true := by simp; omega
    by_cases h2 : s.size ≤ 16384
    · have q2 : decide ((s.size : Int) ≤ 16384) = true := by simp; omega
      have HL := Lib.hid (show longB s.size = true from by unfold longB; rw [decide_eq_true h1, decide_eq_true h2]; rfl)
      go_enter Try.func10, Try.ntmps10
      go_wp2
      go_ret
      exact ⟨ret_bool HL.out.symm, rfl⟩
    · have q2 : decide ((s.size : Int) ≤ 16384) = false := by simp; omega
      by_cases h3 : 20000 < s.size
      · have q3 : decide ((20000 : Int) < (s.size : Int)) = true := by simp; omega
        have HL := Lib.hid (show longB s.size = true from by unfold longB; rw [decide_eq_true h3, Bool.or_true])
        go_enter Try.func10, Try.ntmps10
        go_wp2
        go_ret
        exact ⟨ret_bool HL.out.symm, rfl⟩
      · have q3 : decide ((20000 : Int) < (s.size : Int)) = false := by simp; omega
        have HL := Lib.hid (show longB s.size = false from by unfold longB; rw [decide_eq_false h2, decide_eq_false h3]; simp)
        go_enter Try.func10, Try.ntmps10
        go_wp2
        go_ret
        exact ⟨ret_bool HL.out.symm, rfl⟩
  · have q1 : decide ((1500 : Int) < (s.size : Int)) = false := by simp; omega
    have q3 : decide ((20000 : Int) < (s.size : Int)) = false := by simp; omega
    have HL := Lib.hid (show longB s.size = false from by unfold longB; rw [decide_eq_false h1, decide_eq_false (show ¬ 20000 < s.size by omega)]; rfl)
    go_enter Try.func10, Try.ntmps10
    go_wp2
    go_ret
    exact ⟨ret_bool HL.out.symm, rfl⟩
/-- what the reference's Unquote answers -/
def ruVal (r : Pl.Bytes × Int) : Value := .tuple #[.string (Pl.mk r.1), .bool (decide (r.2 = 0))]
set_option maxRecDepth 100000 in
set_option maxHeartbeats 1000000 in
theorem rUnquote_any (s : ByteArray) (w : World) (hs : s.size ≤ 32770) :
    Calls Try.prog 22 #[.string s] w fun e w' => e = .returned (ruVal (Pl.unquote s.toList)) ∧ w = w' := by
  by_cases h0 : 0 < s.size
  · have he : ¬ s.toList = [] := by intro h; have := Pl.len_size s; rw [h] at this; simp at this; omega
    have he2 : s.toList.isEmpty = false := by simpa using he
    have hhd := Pl.headIs_at (fun c => decide (c = 34)) s 0 h0
    rw [List.drop_zero] at hhd
    by_cases h34 : (s[0].toNat : Int) = 34
    · have q1 : ((s[0].toNat : Int) != 34) = false := by simp [h34]
      have hhd2 : Pl.headIs (fun c => decide (c = 34)) s.toList = true := by rw [hhd]; exact decide_eq_true h34
      have hU : Pl.unquote s.toList = unqOf s.size (Pl.txt (s.toList.drop 1) false [] 1) := by
        unfold unqOf Pl.unquote
        rw [if_neg (show ¬ 32770 < s.toList.length from by rw [Pl.len_size]; omega), hhd2, if_pos rfl, Pl.len_size]
      have hlit := fun W => rLiteral_any s W (by omega) (by omega)
      rw [hU]
      generalize Pl.txt (s.toList.drop 1) false [] 1 = T at hlit
      have HLIT := Lib.hid hlit
      have htl : (Pl.mk T.text).size = T.text.length := Pl.mk_size _
      clear hhd hhd2 hU hlit h34
      by_cases herr : T.err = 0
      · have t1 : (T.err != 0) = false := by rw [herr]; rfl
        by_cases hn : T.len = s.size
        · have t2 : ((T.len : Int) != (s.size : Int)) = false := by simp [hn]
          by_cases ht : T.text.length ≤ 16384
          · have t3 : decide ((16384 : Int) < ((Pl.mk T.text).size : Int)) = false := by rw [htl]; simp; omega
            have HF := Lib.hid (show unqOf s.size T = (T.text, 0) from by unfold unqOf; rw [if_pos ⟨herr, hn, ht⟩])
            clear htl herr hn ht
            go_enter Try.func22, Try.ntmps22
            go_wp2_with fail
            refine (HLIT.out _).mono ?_
            rintro e w' ⟨rfl, rfl⟩
            unfold tkVal
            go_wp2
            go_ret2
            exact ⟨by rw [HF.out]; rfl, rfl⟩
          · have t3 : decide ((16384 : Int) < ((Pl.mk T.text).size : Int)) = true := by rw [htl]; simp; omega
            have HF := Lib.hid (show unqOf s.size T = ([], 3) from by unfold unqOf; rw [if_neg (fun h => ht h.2.2)])
            clear htl herr hn ht
            go_enter Try.func22, Try.ntmps22
            go_wp2_with fail
            refine (HLIT.out _).mono ?_
            rintro e w' ⟨rfl, rfl⟩
            unfold tkVal
            go_wp2
            go_ret2
            exact ⟨by rw [HF.out]; rfl, rfl⟩
        · have t2 : ((T.len : Int) != (s.size : Int)) = true := by
            have : ¬ (T.len : Int) = (s.size : Int) := by omega
            simpa using this
          have HF := Lib.hid (show unqOf s.size T = ([], 3) from by unfold unqOf; rw [if_neg (fun h => hn h.2.1)])
          clear htl herr hn
          go_enter Try.func22, Try.ntmps22
          go_wp2_with fail
          refine (HLIT.out _).mono ?_
          rintro e w' ⟨rfl, rfl⟩
          unfold tkVal
          go_wp2
          go_ret2
          exact ⟨by rw [HF.out]; rfl, rfl⟩
      · have t1 : (T.err != 0) = true := by simpa using herr
        have HF := Lib.hid (show unqOf s.size T = ([], 3) from by unfold unqOf; rw [if_neg (fun h => herr h.1)])
        clear htl herr
        go_enter Try.func22, Try.ntmps22
        go_wp2_with fail
        refine (HLIT.out _).mono ?_
        rintro e w' ⟨rfl, rfl⟩
        unfold tkVal
        go_wp2
        go_ret2
        exact ⟨by rw [HF.out]; rfl, rfl⟩
    · have q1 : ((s[0].toNat : Int) != 34) = true := by simpa using h34
      have HF := Lib.hid (show Pl.unquote s.toList = ([], 3) from by
        unfold Pl.unquote
        rw [if_neg (show ¬ 32770 < s.toList.length from by rw [Pl.len_size]; omega), hhd, decide_eq_false h34]; rfl)
      clear hhd h34
      go_enter Try.func22, Try.ntmps22
      go_wp2
      go_ret2
      exact ⟨by rw [HF.out]; rfl, rfl⟩
  · have he := Pl.nil_of_zero s h0
    have he2 : s.toList.isEmpty = true := by rw [he]; rfl
    have HF := Lib.hid (show Pl.unquote s.toList = ([], 3) from by rw [he]; rfl)
    go_enter Try.func22, Try.ntmps22
    go_wp2
    go_ret2
    exact ⟨by rw [HF.out]; rfl, rfl⟩
/-- the program's Symbol and the reference's -/
theorem sym_both (s : ByteArray) (hs : s.size ≤ maxLen) : ∃ (Y : ByteArray) (ok : Bool),
    (∀ W, Calls Try.prog 14 #[.string s] W fun e w' => e = .returned (.tuple #[.string Y, .bool ok]) ∧ W = w') ∧
    (∀ W, Calls Try.prog 19 #[.string s] W fun e w' => e = .returned (.string Y) ∧ Below W.heap.size W w') ∧
    (Y.toList = [] ∧ ok = false ∨ (¬ Y.toList = [] ∧ Y.toList.isEmpty = false) ∧ ok = true) := by
  refine ⟨symStr s.toList, decide (Pl.symLen s.toList ≠ 0), fun W => symbol_any s W hs, fun W => rSymbol_any s W, ?_⟩
  unfold symStr
  rw [Pl.mk_toList]
  by_cases h : Pl.symLen s.toList = 0
  · left; rw [h]; exact ⟨rfl, rfl⟩
  · right
    have hl := Pl.symLen_len s.toList
    have hne : ¬ s.toList.take (Pl.symLen s.toList) = [] := by
      intro hx
      have := congrArg List.length hx
      rw [List.length_take, List.length_nil] at this
      omega
    exact ⟨⟨hne, by simpa using hne⟩, decide_eq_true h⟩

theorem parts_skip (s : ByteArray) (w : World) (hs : s.size ≤ maxLen) (hl : longB s.size = true) (hr : s.size < 40000) :
    Calls Try.prog 4 #[.string s] w fun e w' => e = .returned (.bool true) ∧ Below w.heap.size w w' := by
  have hlo := fun W => long_any s W hs
  rw [hl] at hlo
  have q1 : decide ((s.size : Int) < 40000) = true := by simp; omega
  have HLO := Lib.hid hlo
  clear hlo hl
  go_enter Try.func4, Try.ntmps4
  go_wp2_with fail
  refine (awake_any _).mono ?_
  rintro e v1 ⟨rfl, hb1⟩
  have HB1 := Lib.hid hb1
  clear hb1
  go_wp2_with fail
  refine (HLO.out _).mono ?_
  rintro e w' ⟨rfl, rfl⟩
  go_wp2
  go_ret
  exact ⟨rfl, HB1.out⟩
theorem parts_far (s : ByteArray) (w : World) (hs : s.size ≤ maxLen) (hr : 50000 < s.size) :
    Calls Try.prog 4 #[.string s] w fun e w' => e = .returned (.bool true) ∧ Below w.heap.size w w' := by
  have hlo := fun W => long_any s W hs
  rw [show longB s.size = true from by unfold longB; rw [decide_eq_true (show 20000 < s.size by omega), Bool.or_true]] at hlo
  have q1 : decide ((s.size : Int) < 40000) = false := by simp; omega
  have q2 : decide ((50000 : Int) < (s.size : Int)) = true := by simp; omega
  have HLO := Lib.hid hlo
  clear hlo
  go_enter Try.func4, Try.ntmps4
  go_wp2_with fail
  refine (awake_any _).mono ?_
  rintro e v1 ⟨rfl, hb1⟩
  have HB1 := Lib.hid hb1
  clear hb1
  go_wp2_with fail
  refine (HLO.out _).mono ?_
  rintro e w' ⟨rfl, rfl⟩
  go_wp2
  go_ret
  exact ⟨rfl, HB1.out⟩

set_option maxRecDepth 100000 in
set_option maxHeartbeats 4000000 in
theorem parts_text (s : ByteArray) (w : World) (hr : s.size ≤ 1500) (ht : Pl.isText s.toList = true) :
    Calls Try.prog 4 #[.string s] w fun e w' => e = .returned (.bool true) ∧ Below w.heap.size w w' := by
  have hm : s.size ≤ maxLen := by unfold maxLen; omega
  obtain ⟨Y, ok, hsy, hrs, hy⟩ := sym_both s hm
  have hq := fun W => quote_any s W hm
  have hu := fun W => unquote_any s W hm
  have hkw := fun W => keyword_any s W
  have hwd := fun W => rWord_any s W
  have hlo := fun W => long_any s W hm
  generalize Pl.isKey s.toList = kb at hkw hwd
  have HSY := Lib.hid hsy
  have HRS := Lib.hid hrs
  have HKW := Lib.hid hkw
  have HWD := Lib.hid hwd
  clear hsy hrs hkw hwd
  rw [show longB s.size = false from by unfold longB; rw [decide_eq_false (show ¬ 1500 < s.size by omega), decide_eq_false (show ¬ 20000 < s.size by omega)]; rfl] at hlo
  have HLO := Lib.hid hlo
  have hqv : Pl.quote s.toList = (Pl.lit s.toList, 0) := Pl.quote_text _ ht (by rw [Pl.len_size]; omega)
  rw [hqv] at hq
  unfold pair at hq
  have hpl := fun W => rPlain_any s W hm
  rw [ht] at hpl
  have hrq := fun W => rQuote_any s W (by omega)
  have HQ := Lib.hid hq
  have HPL := Lib.hid hpl
  have HRQ := Lib.hid hrq
  generalize Pl.mk (Pl.lit s.toList) = qz at HQ HRQ
  clear hlo hq hpl hrq hqv ht
  have q2 : decide ((50000 : Int) < (s.size : Int)) = false := by simp; omega
  have q3 : decide ((16384 : Int) < (s.size : Int)) = false := by simp; omega
  have q4 : decide ((32770 : Int) < (s.size : Int)) = false := by simp; omega
  have hru := fun W => rUnquote_any s W (by omega)
  have hu3 : (Pl.unquote s.toList).2 = 0 ∨ Pl.unquote s.toList = ([], 3) := by
    unfold Pl.unquote
    rw [if_neg (show ¬ 32770 < s.toList.length from by rw [Pl.len_size]; omega)]
    split
    · split
      · exact .inl rfl
      · exact .inr rfl
    · exact .inr rfl
  generalize Pl.unquote s.toList = R at hu hru hu3
  obtain ⟨ut, ue⟩ := R
  unfold pair at hu
  unfold ruVal at hru
  rcases hu3 with h | h
  · have h' : ue = 0 := h
    subst h'
    have HU := Lib.hid hu
    have HRU := Lib.hid hru
    generalize Pl.mk ut = z at HU HRU
    clear hu hru h
    rcases hy with ⟨hy, rfl⟩ | ⟨⟨hy, hy2⟩, rfl⟩
    all_goals
      go_enter Try.func4, Try.ntmps4
      go_wp2_with fail
      refine (awake_any _).mono ?_
      rintro e v1 ⟨rfl, hb1⟩
      have HB1 := Lib.hid hb1
      clear hb1
      go_wp2_with fail
      refine (HLO.out _).mono ?_
      rintro e w' ⟨rfl, rfl⟩
      go_wp2_with fail
      refine (HSY.out _).mono ?_
      rintro e w' ⟨rfl, rfl⟩
      go_wp2_with fail
      refine (HQ.out _).mono ?_
      rintro e v2 ⟨rfl, hb2⟩
      have HB2 := Lib.hid (HB1.out.trans (hb2.mono HB1.out.size))
      clear hb2
      go_wp2_with fail
      refine (HU.out _).mono ?_
      rintro e v3 ⟨rfl, hb3⟩
      have HB3 := Lib.hid (HB2.out.trans (hb3.mono HB2.out.size))
      clear hb3
      go_wp2_with fail
      refine (HKW.out _).mono ?_
      rintro e w' ⟨rfl, rfl⟩
      go_wp2_with fail
      refine (HWD.out _).mono ?_
      rintro e v4 ⟨rfl, hb4⟩
      have HB4 := Lib.hid (HB3.out.trans (hb4.mono HB3.out.size))
      clear hb4
      go_wp2_with fail
      refine (HRS.out _).mono ?_
      rintro e v5 ⟨rfl, hb5⟩
      have HB5 := Lib.hid (HB4.out.trans (hb5.mono HB4.out.size))
      clear hb5
      go_wp2_with fail
      refine (HPL.out _).mono ?_
      rintro e w' ⟨rfl, rfl⟩
      go_wp2_with fail
      refine (HRQ.out _).mono ?_
      rintro e w' ⟨rfl, rfl⟩
      go_wp2_with fail
      refine (HRU.out _).mono ?_
      rintro e w' ⟨rfl, rfl⟩
      go_wp2
      go_ret
      exact ⟨rfl, HB5.out⟩
  · obtain ⟨rfl, rfl⟩ := Prod.mk.inj h
    have HU := Lib.hid hu
    have HRU := Lib.hid hru
    have m0 := Pl.mk_toList []
    clear hu hru h
    rcases hy with ⟨hy, rfl⟩ | ⟨⟨hy, hy2⟩, rfl⟩
    all_goals
      go_enter Try.func4, Try.ntmps4
      go_wp2_with fail
      refine (awake_any _).mono ?_
      rintro e v1 ⟨rfl, hb1⟩
      have HB1 := Lib.hid hb1
      clear hb1
      go_wp2_with fail
      refine (HLO.out _).mono ?_
      rintro e w' ⟨rfl, rfl⟩
      go_wp2_with fail
      refine (HSY.out _).mono ?_
      rintro e w' ⟨rfl, rfl⟩
      go_wp2_with fail
      refine (HQ.out _).mono ?_
      rintro e v2 ⟨rfl, hb2⟩
      have HB2 := Lib.hid (HB1.out.trans (hb2.mono HB1.out.size))
      clear hb2
      go_wp2_with fail
      refine (HU.out _).mono ?_
      rintro e v3 ⟨rfl, hb3⟩
      have HB3 := Lib.hid (HB2.out.trans (hb3.mono HB2.out.size))
      clear hb3
      go_wp2_with fail
      refine (HKW.out _).mono ?_
      rintro e w' ⟨rfl, rfl⟩
      go_wp2_with fail
      refine (HWD.out _).mono ?_
      rintro e v4 ⟨rfl, hb4⟩
      have HB4 := Lib.hid (HB3.out.trans (hb4.mono HB3.out.size))
      clear hb4
      go_wp2_with fail
      refine (HRS.out _).mono ?_
      rintro e v5 ⟨rfl, hb5⟩
      have HB5 := Lib.hid (HB4.out.trans (hb5.mono HB4.out.size))
      clear hb5
      go_wp2_with fail
      refine (HPL.out _).mono ?_
      rintro e w' ⟨rfl, rfl⟩
      go_wp2_with fail
      refine (HRQ.out _).mono ?_
      rintro e w' ⟨rfl, rfl⟩
      go_wp2_with fail
      refine (HRU.out _).mono ?_
      rintro e w' ⟨rfl, rfl⟩
      go_wp2
      go_ret
      exact ⟨rfl, HB5.out⟩

set_option maxRecDepth 100000 in
set_option maxHeartbeats 4000000 in
theorem parts_notext (s : ByteArray) (w : World) (hr : s.size ≤ 1500) (ht : Pl.isText s.toList = false) :
    Calls Try.prog 4 #[.string s] w fun e w' => e = .returned (.bool true) ∧ Below w.heap.size w w' := by
  have hm : s.size ≤ maxLen := by unfold maxLen; omega
  obtain ⟨Y, ok, hsy, hrs, hy⟩ := sym_both s hm
  have hq := fun W => quote_any s W hm
  have hu := fun W => unquote_any s W hm
  have hkw := fun W => keyword_any s W
  have hwd := fun W => rWord_any s W
  have hlo := fun W => long_any s W hm
  generalize Pl.isKey s.toList = kb at hkw hwd
  have HSY := Lib.hid hsy
  have HRS := Lib.hid hrs
  have HKW := Lib.hid hkw
  have HWD := Lib.hid hwd
  clear hsy hrs hkw hwd
  rw [show longB s.size = false from by unfold longB; rw [decide_eq_false (show ¬ 1500 < s.size by omega), decide_eq_false (show ¬ 20000 < s.size by omega)]; rfl] at hlo
  have HLO := Lib.hid hlo
  have hqv : Pl.quote s.toList = ([], 3) := by unfold Pl.quote; rw [if_neg (show ¬ 16384 < s.toList.length from by rw [Pl.len_size]; omega), ht]; rfl
  rw [hqv] at hq
  unfold pair at hq
  have hpl := fun W => rPlain_any s W hm
  rw [ht] at hpl
  have HQ := Lib.hid hq
  have HPL := Lib.hid hpl
  have mq := Pl.mk_toList []
  clear hlo hq hpl hqv ht
  have q2 : decide ((50000 : Int) < (s.size : Int)) = false := by simp; omega
  have q3 : decide ((16384 : Int) < (s.size : Int)) = false := by simp; omega
  have q4 : decide ((32770 : Int) < (s.size : Int)) = false := by simp; omega
  have hru := fun W => rUnquote_any s W (by omega)
  have hu3 : (Pl.unquote s.toList).2 = 0 ∨ Pl.unquote s.toList = ([], 3) := by
    unfold Pl.unquote
    rw [if_neg (show ¬ 32770 < s.toList.length from by rw [Pl.len_size]; omega)]
    split
    · split
      · exact .inl rfl
      · exact .inr rfl
    · exact .inr rfl
  generalize Pl.unquote s.toList = R at hu hru hu3
  obtain ⟨ut, ue⟩ := R
  unfold pair at hu
  unfold ruVal at hru
  rcases hu3 with h | h
  · have h' : ue = 0 := h
    subst h'
    have HU := Lib.hid hu
    have HRU := Lib.hid hru
    generalize Pl.mk ut = z at HU HRU
    clear hu hru h
    rcases hy with ⟨hy, rfl⟩ | ⟨⟨hy, hy2⟩, rfl⟩
    all_goals
      go_enter Try.func4, Try.ntmps4
      go_wp2_with fail
      refine (awake_any _).mono ?_
      rintro e v1 ⟨rfl, hb1⟩
      have HB1 := Lib.hid hb1
      clear hb1
      go_wp2_with fail
      refine (HLO.out _).mono ?_
      rintro e w' ⟨rfl, rfl⟩
      go_wp2_with fail
      refine (HSY.out _).mono ?_
      rintro e w' ⟨rfl, rfl⟩
      go_wp2_with fail
      refine (HQ.out _).mono ?_
      rintro e v2 ⟨rfl, hb2⟩
      have HB2 := Lib.hid (HB1.out.trans (hb2.mono HB1.out.size))
      clear hb2
      go_wp2_with fail
      refine (HU.out _).mono ?_
      rintro e v3 ⟨rfl, hb3⟩
      have HB3 := Lib.hid (HB2.out.trans (hb3.mono HB2.out.size))
      clear hb3
      go_wp2_with fail
      refine (HKW.out _).mono ?_
      rintro e w' ⟨rfl, rfl⟩
      go_wp2_with fail
      refine (HWD.out _).mono ?_
      rintro e v4 ⟨rfl, hb4⟩
      have HB4 := Lib.hid (HB3.out.trans (hb4.mono HB3.out.size))
      clear hb4
      go_wp2_with fail
      refine (HRS.out _).mono ?_
      rintro e v5 ⟨rfl, hb5⟩
      have HB5 := Lib.hid (HB4.out.trans (hb5.mono HB4.out.size))
      clear hb5
      go_wp2_with fail
      refine (HPL.out _).mono ?_
      rintro e w' ⟨rfl, rfl⟩
      go_wp2_with fail
      refine (HRU.out _).mono ?_
      rintro e w' ⟨rfl, rfl⟩
      go_wp2
      go_ret
      exact ⟨rfl, HB5.out⟩
  · obtain ⟨rfl, rfl⟩ := Prod.mk.inj h
    have HU := Lib.hid hu
    have HRU := Lib.hid hru
    have m0 := Pl.mk_toList []
    clear hu hru h
    rcases hy with ⟨hy, rfl⟩ | ⟨⟨hy, hy2⟩, rfl⟩
    all_goals
      go_enter Try.func4, Try.ntmps4
      go_wp2_with fail
      refine (awake_any _).mono ?_
      rintro e v1 ⟨rfl, hb1⟩
      have HB1 := Lib.hid hb1
      clear hb1
      go_wp2_with fail
      refine (HLO.out _).mono ?_
      rintro e w' ⟨rfl, rfl⟩
      go_wp2_with fail
      refine (HSY.out _).mono ?_
      rintro e w' ⟨rfl, rfl⟩
      go_wp2_with fail
      refine (HQ.out _).mono ?_
      rintro e v2 ⟨rfl, hb2⟩
      have HB2 := Lib.hid (HB1.out.trans (hb2.mono HB1.out.size))
      clear hb2
      go_wp2_with fail
      refine (HU.out _).mono ?_
      rintro e v3 ⟨rfl, hb3⟩
      have HB3 := Lib.hid (HB2.out.trans (hb3.mono HB2.out.size))
      clear hb3
      go_wp2_with fail
      refine (HKW.out _).mono ?_
      rintro e w' ⟨rfl, rfl⟩
      go_wp2_with fail
      refine (HWD.out _).mono ?_
      rintro e v4 ⟨rfl, hb4⟩
      have HB4 := Lib.hid (HB3.out.trans (hb4.mono HB3.out.size))
      clear hb4
      go_wp2_with fail
      refine (HRS.out _).mono ?_
      rintro e v5 ⟨rfl, hb5⟩
      have HB5 := Lib.hid (HB4.out.trans (hb5.mono HB4.out.size))
      clear hb5
      go_wp2_with fail
      refine (HPL.out _).mono ?_
      rintro e w' ⟨rfl, rfl⟩
      go_wp2_with fail
      refine (HRU.out _).mono ?_
      rintro e w' ⟨rfl, rfl⟩
      go_wp2
      go_ret
      exact ⟨rfl, HB5.out⟩

set_option maxRecDepth 100000 in
set_option maxHeartbeats 4000000 in
theorem parts_mid (s : ByteArray) (w : World) (hr1 : 16384 < s.size) (hr2 : s.size ≤ 20000) :
    Calls Try.prog 4 #[.string s] w fun e w' => e = .returned (.bool true) ∧ Below w.heap.size w w' := by
  have hm : s.size ≤ maxLen := by unfold maxLen; omega
  obtain ⟨Y, ok, hsy, hrs, hy⟩ := sym_both s hm
  have hq := fun W => quote_any s W hm
  have hu := fun W => unquote_any s W hm
  have hkw := fun W => keyword_any s W
  have hwd := fun W => rWord_any s W
  have hlo := fun W => long_any s W hm
  generalize Pl.isKey s.toList = kb at hkw hwd
  have HSY := Lib.hid hsy
  have HRS := Lib.hid hrs
  have HKW := Lib.hid hkw
  have HWD := Lib.hid hwd
  clear hsy hrs hkw hwd
  rw [show longB s.size = false from by unfold longB; rw [decide_eq_false (show ¬ s.size ≤ 16384 by omega), decide_eq_false (show ¬ 20000 < s.size by omega)]; simp] at hlo
  have HLO := Lib.hid hlo
  have hqv : Pl.quote s.toList = ([], 5) := by unfold Pl.quote; rw [if_pos (by rw [Pl.len_size]; omega)]
  rw [hqv] at hq
  unfold pair at hq
  have HQ := Lib.hid hq
  have mq := Pl.mk_toList []
  clear hlo hq hqv
  have q2 : decide ((50000 : Int) < (s.size : Int)) = false := by simp; omega
  have q3 : decide ((16384 : Int) < (s.size : Int)) = true := by simp; omega
  have q4 : decide ((32770 : Int) < (s.size : Int)) = false := by simp; omega
  have hru := fun W => rUnquote_any s W (by omega)
  have hu3 : (Pl.unquote s.toList).2 = 0 ∨ Pl.unquote s.toList = ([], 3) := by
    unfold Pl.unquote
    rw [if_neg (show ¬ 32770 < s.toList.length from by rw [Pl.len_size]; omega)]
    split
    · split
      · exact .inl rfl
      · exact .inr rfl
    · exact .inr rfl
  generalize Pl.unquote s.toList = R at hu hru hu3
  obtain ⟨ut, ue⟩ := R
  unfold pair at hu
  unfold ruVal at hru
  rcases hu3 with h | h
  · have h' : ue = 0 := h
    subst h'
    have HU := Lib.hid hu
    have HRU := Lib.hid hru
    generalize Pl.mk ut = z at HU HRU
    clear hu hru h
    rcases hy with ⟨hy, rfl⟩ | ⟨⟨hy, hy2⟩, rfl⟩
    all_goals
      go_enter Try.func4, Try.ntmps4
      go_wp2_with fail
      refine (awake_any _).mono ?_
      rintro e v1 ⟨rfl, hb1⟩
      have HB1 := Lib.hid hb1
      clear hb1
      go_wp2_with fail
      refine (HLO.out _).mono ?_
      rintro e w' ⟨rfl, rfl⟩
      go_wp2_with fail
      refine (HSY.out _).mono ?_
      rintro e w' ⟨rfl, rfl⟩
      go_wp2_with fail
      refine (HQ.out _).mono ?_
      rintro e v2 ⟨rfl, hb2⟩
      have HB2 := Lib.hid (HB1.out.trans (hb2.mono HB1.out.size))
      clear hb2
      go_wp2_with fail
      refine (HU.out _).mono ?_
      rintro e v3 ⟨rfl, hb3⟩
      have HB3 := Lib.hid (HB2.out.trans (hb3.mono HB2.out.size))
      clear hb3
      go_wp2_with fail
      refine (HKW.out _).mono ?_
      rintro e w' ⟨rfl, rfl⟩
      go_wp2_with fail
      refine (HWD.out _).mono ?_
      rintro e v4 ⟨rfl, hb4⟩
      have HB4 := Lib.hid (HB3.out.trans (hb4.mono HB3.out.size))
      clear hb4
      go_wp2_with fail
      refine (HRS.out _).mono ?_
      rintro e v5 ⟨rfl, hb5⟩
      have HB5 := Lib.hid (HB4.out.trans (hb5.mono HB4.out.size))
      clear hb5
      go_wp2_with fail
      refine (HRU.out _).mono ?_
      rintro e w' ⟨rfl, rfl⟩
      go_wp2
      go_ret
      exact ⟨rfl, HB5.out⟩
  · obtain ⟨rfl, rfl⟩ := Prod.mk.inj h
    have HU := Lib.hid hu
    have HRU := Lib.hid hru
    have m0 := Pl.mk_toList []
    clear hu hru h
    rcases hy with ⟨hy, rfl⟩ | ⟨⟨hy, hy2⟩, rfl⟩
    all_goals
      go_enter Try.func4, Try.ntmps4
      go_wp2_with fail
      refine (awake_any _).mono ?_
      rintro e v1 ⟨rfl, hb1⟩
      have HB1 := Lib.hid hb1
      clear hb1
      go_wp2_with fail
      refine (HLO.out _).mono ?_
      rintro e w' ⟨rfl, rfl⟩
      go_wp2_with fail
      refine (HSY.out _).mono ?_
      rintro e w' ⟨rfl, rfl⟩
      go_wp2_with fail
      refine (HQ.out _).mono ?_
      rintro e v2 ⟨rfl, hb2⟩
      have HB2 := Lib.hid (HB1.out.trans (hb2.mono HB1.out.size))
      clear hb2
      go_wp2_with fail
      refine (HU.out _).mono ?_
      rintro e v3 ⟨rfl, hb3⟩
      have HB3 := Lib.hid (HB2.out.trans (hb3.mono HB2.out.size))
      clear hb3
      go_wp2_with fail
      refine (HKW.out _).mono ?_
      rintro e w' ⟨rfl, rfl⟩
      go_wp2_with fail
      refine (HWD.out _).mono ?_
      rintro e v4 ⟨rfl, hb4⟩
      have HB4 := Lib.hid (HB3.out.trans (hb4.mono HB3.out.size))
      clear hb4
      go_wp2_with fail
      refine (HRS.out _).mono ?_
      rintro e v5 ⟨rfl, hb5⟩
      have HB5 := Lib.hid (HB4.out.trans (hb5.mono HB4.out.size))
      clear hb5
      go_wp2_with fail
      refine (HRU.out _).mono ?_
      rintro e w' ⟨rfl, rfl⟩
      go_wp2
      go_ret
      exact ⟨rfl, HB5.out⟩

set_option maxRecDepth 100000 in
set_option maxHeartbeats 4000000 in
theorem parts_large (s : ByteArray) (w : World) (hr1 : 40000 ≤ s.size) (hr2 : s.size ≤ 50000) :
    Calls Try.prog 4 #[.string s] w fun e w' => e = .returned (.bool true) ∧ Below w.heap.size w w' := by
  have hm : s.size ≤ maxLen := by unfold maxLen; omega
  obtain ⟨Y, ok, hsy, hrs, hy⟩ := sym_both s hm
  have hq := fun W => quote_any s W hm
  have hu := fun W => unquote_any s W hm
  have hkw := fun W => keyword_any s W
  have hwd := fun W => rWord_any s W
  have hlo := fun W => long_any s W hm
  generalize Pl.isKey s.toList = kb at hkw hwd
  have HSY := Lib.hid hsy
  have HRS := Lib.hid hrs
  have HKW := Lib.hid hkw
  have HWD := Lib.hid hwd
  clear hsy hrs hkw hwd
  rw [show longB s.size = true from by unfold longB; rw [decide_eq_true (show 20000 < s.size by omega), Bool.or_true]] at hlo
  have HLO := Lib.hid hlo
  have hqv : Pl.quote s.toList = ([], 5) := by unfold Pl.quote; rw [if_pos (by rw [Pl.len_size]; omega)]
  have huv : Pl.unquote s.toList = ([], 5) := by unfold Pl.unquote; rw [if_pos (by rw [Pl.len_size]; omega)]
  rw [hqv] at hq
  rw [huv] at hu
  unfold pair at hq hu
  have HQ := Lib.hid hq
  have HU := Lib.hid hu
  have mq := Pl.mk_toList []
  clear hlo hq hqv hu huv
  have q1 : decide ((s.size : Int) < 40000) = false := by simp; omega
  have q2 : decide ((50000 : Int) < (s.size : Int)) = false := by simp; omega
  have q3 : decide ((16384 : Int) < (s.size : Int)) = true := by simp; omega
  have q4 : decide ((32770 : Int) < (s.size : Int)) = true := by simp; omega
  rcases hy with ⟨hy, rfl⟩ | ⟨⟨hy, hy2⟩, rfl⟩
  all_goals
    go_enter Try.func4, Try.ntmps4
    go_wp2_with fail
    refine (awake_any _).mono ?_
    rintro e v1 ⟨rfl, hb1⟩
    have HB1 := Lib.hid hb1
    clear hb1
    go_wp2_with fail
    refine (HLO.out _).mono ?_
    rintro e w' ⟨rfl, rfl⟩
    go_wp2_with fail
    refine (HSY.out _).mono ?_
    rintro e w' ⟨rfl, rfl⟩
    go_wp2_with fail
    refine (HQ.out _).mono ?_
    rintro e v2 ⟨rfl, hb2⟩
    have HB2 := Lib.hid (HB1.out.trans (hb2.mono HB1.out.size))
    clear hb2
    go_wp2_with fail
    refine (HU.out _).mono ?_
    rintro e v3 ⟨rfl, hb3⟩
    have HB3 := Lib.hid (HB2.out.trans (hb3.mono HB2.out.size))
    clear hb3
    go_wp2_with fail
    refine (HKW.out _).mono ?_
    rintro e w' ⟨rfl, rfl⟩
    go_wp2_with fail
    refine (HWD.out _).mono ?_
    rintro e v4 ⟨rfl, hb4⟩
    have HB4 := Lib.hid (HB3.out.trans (hb4.mono HB3.out.size))
    clear hb4
    go_wp2_with fail
    refine (HRS.out _).mono ?_
    rintro e v5 ⟨rfl, hb5⟩
    have HB5 := Lib.hid (HB4.out.trans (hb5.mono HB4.out.size))
    clear hb5
    go_wp2
    go_ret
    exact ⟨rfl, HB5.out⟩
theorem lexerParts_walk (s : ByteArray) (w : World) (hs : s.size ≤ maxLen) :
    Calls Try.prog 4 #[.string s] w fun e w' => e = .returned (.bool true) ∧ Below w.heap.size w w' := by
  by_cases h1 : s.size ≤ 1500
  · cases ht : Pl.isText s.toList
    · exact parts_notext s w h1 ht
    · exact parts_text s w h1 ht
  by_cases h2 : s.size ≤ 16384
  · exact parts_skip s w hs (by unfold longB; rw [decide_eq_true (show 1500 < s.size by omega), decide_eq_true h2]; rfl) (by omega)
  by_cases h3 : s.size ≤ 20000
  · exact parts_mid s w (by omega) h3
  by_cases h4 : s.size < 40000
  · exact parts_skip s w hs (by unfold longB; rw [decide_eq_true (show 20000 < s.size by omega), Bool.or_true]) h4
  by_cases h5 : s.size ≤ 50000
  · exact parts_large s w (by omega) h5
  · exact parts_far s w hs (by omega)
end Go.Proofs.Ytbmkbenlhkcklaa
