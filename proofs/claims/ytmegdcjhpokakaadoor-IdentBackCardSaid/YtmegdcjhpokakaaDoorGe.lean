/-
  The law IdentBack, as a walk.
-/
import Derived.Test.YtmegdcjhpokakaaDoorGd
import Derived.Test.YtmegdcjhpokakaaDoorGc
import Derived.Test.YtmegdcjhpokakaaDoorPs
namespace Go.Proofs.YtmegdcjhpokakaaDoor
open Go.RowKit

theorem identBack_long {w : World} {v : Value} {zs : List ByteArray} (k : Int) (s : ByteArray) (hs : s.size ≤ maxLen) (h : SliceOf w v zs) (hw : Wok w) (hl : 1000 < s.size ∨ s.size ≤ 1000 ∧ isLong zs = true) :
    Calls Tryd.prog 8 #[.int .i64 k, .string s, v] w fun e w' => e = .returned (.bool true) ∧ Below w.heap.size w w' := by
  unfold maxLen at hs
  rcases hl with hl | ⟨hl, hlo⟩
  · have hl' : decide ((1000 : Int) < (s.size : Int)) = true := by simp; omega
    clear h
    go_enter Tryd.func8, Tryd.ntmps8
    go_wp2_with fail
    refine (awake_any _ hw).mono ?_
    rintro e w1 ⟨rfl, hb1⟩
    have hw1 := hw.below hb1
    have HB1 := Lib.hid hb1
    clear hb1
    go_wp2_with fail
    refine (awake_any _ hw1).mono ?_
    rintro e w2 ⟨rfl, hb2⟩
    have HB2 := Lib.hid hb2
    clear hb2
    go_wp2
    go_ret
    exact ⟨rfl, HB1.out.trans (HB2.out.mono HB1.out.size)⟩
  · have hl' : decide ((1000 : Int) < (s.size : Int)) = false := by simp; omega
    go_enter Tryd.func8, Tryd.ntmps8
    go_wp2_with fail
    refine (awake_any _ hw).mono ?_
    rintro e w1 ⟨rfl, hb1⟩
    have hw1 := hw.below hb1
    have hx := long_of (h.below hb1)
    rw [hlo] at hx
    have HX := Lib.hid hx
    have HB1 := Lib.hid hb1
    clear hb1 hx hlo h
    go_wp2_with fail
    refine HX.out.mono ?_
    rintro e w' ⟨rfl, rfl⟩
    go_wp2_with fail
    refine (awake_any _ hw1).mono ?_
    rintro e w2 ⟨rfl, hb2⟩
    have HB2 := Lib.hid hb2
    clear hb2
    go_wp2
    go_ret
    exact ⟨rfl, HB1.out.trans (HB2.out.mono HB1.out.size)⟩
/-- what Label makes is read again -/
theorem back_label (n : Nat) (s : ByteArray) (hn1 : 1 ≤ n) (hn5 : n ≤ 5) (hf : Pl.fits (n : Int) s.toList = true) :
    ∃ x : ByteArray, Pl.label (n : Int) s.toList = (x.toList, 0) ∧ x.size ≤ 29 ∧ Pl.parts x.toList = ((n : Int), s.toList) ∧ Pl.isLabel x.toList = true ∧ Lib.hasSuffix x.data.toList ((⟨#[46]⟩ : ByteArray) ++ s).data.toList = true := by
  have hle := Pl.fits_le _ _ hf
  have hh := Pl.head_le (n : Int)
  refine ⟨Pl.mk (Pl.head (n : Int) ++ s.toList), ?_, ?_, ?_, ?_, ?_⟩
  · rw [Pl.mk_toList]; unfold Pl.label; rw [show Pl.isKind (n : Int) = true from by unfold Pl.isKind; simp; omega, hf]; rfl
  · rw [Pl.mk_size, List.length_append]; omega
  · rw [Pl.mk_toList]; exact Pl.parts_label n hn1 hn5 _ hf
  · rw [Pl.mk_toList]; exact Pl.isLabel_label n _ hf
  · have e : (⟨#[46]⟩ : ByteArray) ++ s = Pl.mk (46 :: s.toList) := Pl.add_mk [46] s
    rw [e, ← Pl.toList_eq, ← Pl.toList_eq, Pl.mk_toList, Pl.mk_toList]
    exact Pl.suffix_label n hn1 hn5 _
/-- what a slice's value looks like -/
theorem SliceOf.form {w : World} {v : Value} {zs : List ByteArray} (h : SliceOf w v zs) : ∃ a n c, v = .slice a n c ∧ zs.length = n := by
  rcases h with ⟨rfl, a, c, rfl⟩ | ⟨b, off, c, rfl, _⟩
  · exact ⟨a, 0, c, rfl, rfl⟩
  · exact ⟨_, _, c, rfl, rfl⟩
set_option maxHeartbeats 1000000 in
theorem identBack_walk {w : World} {v : Value} {zs : List ByteArray} (k : Int) (s : ByteArray) (hs : s.size ≤ maxLen) (h : SliceOf w v zs) (hw : Wok w) :
    Calls Tryd.prog 8 #[.int .i64 k, .string s, v] w fun e w' => e = .returned (.bool true) ∧ Below w.heap.size w w' := by
  by_cases hl : s.size ≤ 1000
  · cases hlo : isLong zs
    · have hl' : decide ((1000 : Int) < (s.size : Int)) = false := by simp; omega
      obtain ⟨a0, len, cap, rfl, hlen⟩ := h.form
      have hla := fun wx => label_any k s wx hs
      have hjl : Pl.isPath zs = true → (Pl.jn zs).length ≤ 200 := fun hq => by
        have := Pl.take_jn_len zs hq zs.length (Nat.le_refl _)
        rwa [List.take_length] at this
      have hcn : Pl.isPath zs = true → ∀ wx, Calls Tryd.prog 38 #[.string (Pl.mk (Pl.jn zs)), .string ⟨#[46]⟩] wx fun e w' => e = .returned (.int .i64 ((len : Int) - 1)) ∧ wx = w' := fun hq wx => by
        have hc := count_dot (Pl.mk (Pl.jn zs)) wx
        rw [Pl.mk_toList, Pl.jn_count zs hq, hlen] at hc
        have h1 := (Pl.path_len zs hq).1
        rw [hlen] at h1
        rw [show ((len - 1 : Nat) : Int) = (len : Int) - 1 from by omega] at hc
        exact hc
      have hl63 : len ≤ 9223372036854775807 := by
        rcases h with ⟨rfl, _⟩ | ⟨b, off, c, _, _, h3, h4, _⟩
        · simp at hlen; omega
        · unfold maxLen at h4; omega
      have HLN := Lib.hid hlen
      clear hlen
      rcases labelWay k s with ⟨_, hlb⟩ | ⟨_, _, _, hlb⟩ | ⟨h1, h5, hf, hlb⟩
      · rw [hlb] at hla
        have hla2 : ∀ wx, Calls Tryd.prog 19 #[.int .i64 k, .string s] wx fun e w' => e = .returned (.tuple #[.string ⟨#[]⟩, .int .i64 2]) ∧ wx = w' := hla
        have HLA := Lib.hid hla2
        clear hla hla2 hlb
        cases hq : Pl.isPath zs
        · clear hcn hjl
          go_enter Tryd.func8, Tryd.ntmps8
          go_wp2_with fail
          refine (awake_any _ hw).mono ?_
          rintro e w1 ⟨rfl, hb1⟩
          have hw1 := hw.below hb1
          have h1 := h.below hb1
          have hx := long_of h1
          rw [hlo] at hx
          have HX := Lib.hid hx
          have HB1 := Lib.hid hb1
          clear hb1 hx
          go_wp2_with fail
          refine HX.out.mono ?_
          rintro e w' ⟨rfl, rfl⟩
          go_wp2_with fail
          refine (HLA.out _).mono ?_
          rintro e w' ⟨rfl, rfl⟩
          have HPT := Lib.hid (pathText_no h1 hq)
          go_wp2_with fail
          refine HPT.out.mono ?_
          rintro e w' ⟨rfl, rfl⟩
          go_wp2
          go_ret
          exact ⟨rfl, HB1.out⟩
        · have HCN := Lib.hid (hcn hq)
          have hj2 := hjl hq
          have hz1 : 1 ≤ len := by have := (Pl.path_len zs hq).1; rw [HLN.out] at this; exact this
          clear hcn hjl
          go_enter Tryd.func8, Tryd.ntmps8
          go_wp2_with fail
          refine (awake_any _ hw).mono ?_
          rintro e w1 ⟨rfl, hb1⟩
          have hw1 := hw.below hb1
          have h1 := h.below hb1
          have hx := long_of h1
          rw [hlo] at hx
          have HX := Lib.hid hx
          have HB1 := Lib.hid hb1
          clear hb1 hx
          go_wp2_with fail
          refine HX.out.mono ?_
          rintro e w' ⟨rfl, rfl⟩
          go_wp2_with fail
          refine (HLA.out _).mono ?_
          rintro e w' ⟨rfl, rfl⟩
          have HPT := Lib.hid (pathText_yes h1 hq)
          go_wp2_with fail
          refine HPT.out.mono ?_
          rintro e w2 ⟨rfl, hb2⟩
          have hw2 := hw1.below hb2
          have h2 := h1.below hb2
          have HB2 := Lib.hid (HB1.out.trans (hb2.mono HB1.out.size))
          have HPP := Lib.hid (parsePath_ok (Pl.mk (Pl.jn zs)) w2 (by rw [Pl.mk_size]; omega) hw2 (by rw [Pl.splitS_jn zs hq]; exact hq))
          rw [Pl.splitS_jn zs hq] at HPP
          clear hb2
          go_wp2_with fail
          refine HPP.out.mono ?_
          rintro e w3 ⟨v1, rfl, hv1, hb3⟩
          have HB3 := Lib.hid (HB2.out.trans (hb3.mono HB2.out.size))
          have HEQ := Lib.hid (equal_of hv1 (h2.below hb3) (Pl.path_len _ hq).1)
          clear hv1 hb3
          go_wp2_with fail
          refine HEQ.out.mono ?_
          rintro e w4 ⟨rfl, hb4⟩
          have HB4 := Lib.hid (HB3.out.trans (hb4.mono HB3.out.size))
          clear hb4
          go_wp2_with fail
          refine (HCN.out _).mono ?_
          rintro e w' ⟨rfl, rfl⟩
          go_wp2
          go_ret
          exact ⟨rfl, HB4.out⟩
      · rw [hlb] at hla
        have hla2 : ∀ wx, Calls Tryd.prog 19 #[.int .i64 k, .string s] wx fun e w' => e = .returned (.tuple #[.string ⟨#[]⟩, .int .i64 3]) ∧ wx = w' := hla
        have HLA := Lib.hid hla2
        clear hla hla2 hlb
        cases hq : Pl.isPath zs
        · clear hcn hjl
          go_enter Tryd.func8, Tryd.ntmps8
          go_wp2_with fail
          refine (awake_any _ hw).mono ?_
          rintro e w1 ⟨rfl, hb1⟩
          have hw1 := hw.below hb1
          have h1 := h.below hb1
          have hx := long_of h1
          rw [hlo] at hx
          have HX := Lib.hid hx
          have HB1 := Lib.hid hb1
          clear hb1 hx
          go_wp2_with fail
          refine HX.out.mono ?_
          rintro e w' ⟨rfl, rfl⟩
          go_wp2_with fail
          refine (HLA.out _).mono ?_
          rintro e w' ⟨rfl, rfl⟩
          have HPT := Lib.hid (pathText_no h1 hq)
          go_wp2_with fail
          refine HPT.out.mono ?_
          rintro e w' ⟨rfl, rfl⟩
          go_wp2
          go_ret
          exact ⟨rfl, HB1.out⟩
        · have HCN := Lib.hid (hcn hq)
          have hj2 := hjl hq
          have hz1 : 1 ≤ len := by have := (Pl.path_len zs hq).1; rw [HLN.out] at this; exact this
          clear hcn hjl
          go_enter Tryd.func8, Tryd.ntmps8
          go_wp2_with fail
          refine (awake_any _ hw).mono ?_
          rintro e w1 ⟨rfl, hb1⟩
          have hw1 := hw.below hb1
          have h1 := h.below hb1
          have hx := long_of h1
          rw [hlo] at hx
          have HX := Lib.hid hx
          have HB1 := Lib.hid hb1
          clear hb1 hx
          go_wp2_with fail
          refine HX.out.mono ?_
          rintro e w' ⟨rfl, rfl⟩
          go_wp2_with fail
          refine (HLA.out _).mono ?_
          rintro e w' ⟨rfl, rfl⟩
          have HPT := Lib.hid (pathText_yes h1 hq)
          go_wp2_with fail
          refine HPT.out.mono ?_
          rintro e w2 ⟨rfl, hb2⟩
          have hw2 := hw1.below hb2
          have h2 := h1.below hb2
          have HB2 := Lib.hid (HB1.out.trans (hb2.mono HB1.out.size))
          have HPP := Lib.hid (parsePath_ok (Pl.mk (Pl.jn zs)) w2 (by rw [Pl.mk_size]; omega) hw2 (by rw [Pl.splitS_jn zs hq]; exact hq))
          rw [Pl.splitS_jn zs hq] at HPP
          clear hb2
          go_wp2_with fail
          refine HPP.out.mono ?_
          rintro e w3 ⟨v1, rfl, hv1, hb3⟩
          have HB3 := Lib.hid (HB2.out.trans (hb3.mono HB2.out.size))
          have HEQ := Lib.hid (equal_of hv1 (h2.below hb3) (Pl.path_len _ hq).1)
          clear hv1 hb3
          go_wp2_with fail
          refine HEQ.out.mono ?_
          rintro e w4 ⟨rfl, hb4⟩
          have HB4 := Lib.hid (HB3.out.trans (hb4.mono HB3.out.size))
          clear hb4
          go_wp2_with fail
          refine (HCN.out _).mono ?_
          rintro e w' ⟨rfl, rfl⟩
          go_wp2
          go_ret
          exact ⟨rfl, HB4.out⟩
      · obtain ⟨n, rfl⟩ := Int.eq_ofNat_of_zero_le (show 0 ≤ k by omega)
        obtain ⟨x, hx1, hx2, hx3, hx4, hx5⟩ := back_label n s (by omega) (by omega) hf
        rw [hx1] at hla
        have hla2 : ∀ wx, Calls Tryd.prog 19 #[.int .i64 (n : Int), .string s] wx fun e w' => e = .returned (.tuple #[.string x, .int .i64 0]) ∧ wx = w' := fun wx => by have := hla wx; rw [Pl.mk_of] at this; exact this
        have HLA := Lib.hid hla2
        have hxm : x.size ≤ maxLen := by unfold maxLen; omega
        have hsp := fun wx => split_any x wx hxm
        rw [hx3] at hsp
        have hsp2 : ∀ wx, Calls Tryd.prog 20 #[.string x] wx fun e w' => e = .returned (.tuple #[.int .i64 (n : Int), .string s, .int .i64 0]) ∧ wx = w' := fun wx => by have h := hsp wx; simp only [Pl.mk_of, show splitCode (n : Int) = 0 from if_neg (by omega)] at h; exact h
        have HSP := Lib.hid hsp2
        have hil := fun wx => isLabel_any x wx hxm
        rw [hx4] at hil
        have HIL := Lib.hid hil
        have hsu : ∀ wx, Calls Tryd.prog 37 #[.string x, .string ((⟨#[46]⟩ : ByteArray) ++ s)] wx fun e w' => e = .returned (.bool true) ∧ wx = w' := fun wx => by have h := Tryd.strings_HasSuffix x ((⟨#[46]⟩ : ByteArray) ++ s) wx (by omega); rw [hx5] at h; exact h.mono fun e w' ⟨a, b⟩ => ⟨a, b.symm⟩
        have HSU := Lib.hid hsu
        have hcat : (⟨#[46]⟩ : ByteArray).size + s.size ≤ 9223372036854775807 := by rw [show (⟨#[46]⟩ : ByteArray).size = 1 from rfl]; omega
        clear hla hla2 hlb hsp hsp2 hil hsu hx1 hx2 hx3 hx4 hx5 hxm hf
        cases hq : Pl.isPath zs
        · clear hcn hjl
          go_enter Tryd.func8, Tryd.ntmps8
          go_wp2_with fail
          refine (awake_any _ hw).mono ?_
          rintro e w1 ⟨rfl, hb1⟩
          have hw1 := hw.below hb1
          have h1 := h.below hb1
          have hx := long_of h1
          rw [hlo] at hx
          have HX := Lib.hid hx
          have HB1 := Lib.hid hb1
          clear hb1 hx
          go_wp2_with fail
          refine HX.out.mono ?_
          rintro e w' ⟨rfl, rfl⟩
          go_wp2_with fail
          refine (HLA.out _).mono ?_
          rintro e w' ⟨rfl, rfl⟩
          go_wp2_with fail
          refine (HSP.out _).mono ?_
          rintro e w' ⟨rfl, rfl⟩
          go_wp2_with fail
          refine (HIL.out _).mono ?_
          rintro e w' ⟨rfl, rfl⟩
          go_wp2_with fail
          refine (HSU.out _).mono ?_
          rintro e w' ⟨rfl, rfl⟩
          have HPT := Lib.hid (pathText_no h1 hq)
          go_wp2_with fail
          refine HPT.out.mono ?_
          rintro e w' ⟨rfl, rfl⟩
          go_wp2
          go_ret
          exact ⟨rfl, HB1.out⟩
        · have HCN := Lib.hid (hcn hq)
          have hj2 := hjl hq
          have hz1 : 1 ≤ len := by have := (Pl.path_len zs hq).1; rw [HLN.out] at this; exact this
          clear hcn hjl
          go_enter Tryd.func8, Tryd.ntmps8
          go_wp2_with fail
          refine (awake_any _ hw).mono ?_
          rintro e w1 ⟨rfl, hb1⟩
          have hw1 := hw.below hb1
          have h1 := h.below hb1
          have hx := long_of h1
          rw [hlo] at hx
          have HX := Lib.hid hx
          have HB1 := Lib.hid hb1
          clear hb1 hx
          go_wp2_with fail
          refine HX.out.mono ?_
          rintro e w' ⟨rfl, rfl⟩
          go_wp2_with fail
          refine (HLA.out _).mono ?_
          rintro e w' ⟨rfl, rfl⟩
          go_wp2_with fail
          refine (HSP.out _).mono ?_
          rintro e w' ⟨rfl, rfl⟩
          go_wp2_with fail
          refine (HIL.out _).mono ?_
          rintro e w' ⟨rfl, rfl⟩
          go_wp2_with fail
          refine (HSU.out _).mono ?_
          rintro e w' ⟨rfl, rfl⟩
          have HPT := Lib.hid (pathText_yes h1 hq)
          go_wp2_with fail
          refine HPT.out.mono ?_
          rintro e w2 ⟨rfl, hb2⟩
          have hw2 := hw1.below hb2
          have h2 := h1.below hb2
          have HB2 := Lib.hid (HB1.out.trans (hb2.mono HB1.out.size))
          have HPP := Lib.hid (parsePath_ok (Pl.mk (Pl.jn zs)) w2 (by rw [Pl.mk_size]; omega) hw2 (by rw [Pl.splitS_jn zs hq]; exact hq))
          rw [Pl.splitS_jn zs hq] at HPP
          clear hb2
          go_wp2_with fail
          refine HPP.out.mono ?_
          rintro e w3 ⟨v1, rfl, hv1, hb3⟩
          have HB3 := Lib.hid (HB2.out.trans (hb3.mono HB2.out.size))
          have HEQ := Lib.hid (equal_of hv1 (h2.below hb3) (Pl.path_len _ hq).1)
          clear hv1 hb3
          go_wp2_with fail
          refine HEQ.out.mono ?_
          rintro e w4 ⟨rfl, hb4⟩
          have HB4 := Lib.hid (HB3.out.trans (hb4.mono HB3.out.size))
          clear hb4
          go_wp2_with fail
          refine (HCN.out _).mono ?_
          rintro e w' ⟨rfl, rfl⟩
          go_wp2
          go_ret
          exact ⟨rfl, HB4.out⟩
    · exact identBack_long k s hs h hw (.inr ⟨hl, hlo⟩)
  · exact identBack_long k s hs h hw (.inl (by omega))
end Go.Proofs.YtmegdcjhpokakaaDoor
