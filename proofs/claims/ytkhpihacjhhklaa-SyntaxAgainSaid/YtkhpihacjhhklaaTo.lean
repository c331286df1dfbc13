/-
  Walks of layer 3: the parts of a node, whole.
-/
import Derived.Test.YtkhpihacjhhklaaTg
import Derived.Test.YtkhpihacjhhklaaTi
import Derived.Test.YtkhpihacjhhklaaTj
import Derived.Test.YtkhpihacjhhklaaTk
import Derived.Test.YtkhpihacjhhklaaTm
import Derived.Test.YtkhpihacjhhklaaTn
namespace Go.Proofs.Ytkhpihacjhhklaa
open Go Go.RowKit
open Pl (Syn)
set_option linter.unusedSimpArgs false

set_option maxRecDepth 100000 in
theorem core_any (P : Nat → Prop) (op n : Int) (s : ByteArray) (nv lv : Value) (l : List Syn) (w : World) (hP : ∀ b, P b → b < w.heap.size) (h : SynSl w P lv l) :
    Calls Try.prog 64 #[.agg #[.int .i64 op, .int .i64 n, .string s, nv, lv]] w fun e w' => e = .returned (.bool (Pl.core op n l)) ∧ Below w.heap.size w w' := by
  by_cases p1 : op = 1
  · subst p1; exact core_1 P n s nv lv l w hP h
  by_cases p5 : op = 5
  · subst p5; exact core_5 P n s nv lv l w hP h
  by_cases p11 : op = 11
  · subst p11; exact core_11 P n s nv lv l w hP h
  by_cases p12 : op = 12
  · subst p12; exact core_12 P n s nv lv l w hP h
  by_cases p13 : op = 13
  · subst p13; exact core_13 P n s nv lv l w hP h
  by_cases p21 : op = 21
  · subst p21; exact core_21 P n s nv lv l w hP h
  by_cases p22 : op = 22
  · subst p22; exact core_22 P n s nv lv l w hP h
  by_cases p23 : op = 23
  · subst p23; exact core_23 P n s nv lv l w hP h
  by_cases p24 : op = 24
  · subst p24; exact core_24 P n s nv lv l w hP h
  by_cases p2 : op = 2
  · subst p2; exact core_2 P n s nv lv l w hP h
  by_cases p3 : op = 3
  · subst p3; exact core_3 P n s nv lv l w hP h
  by_cases p4 : op = 4
  · subst p4; exact core_4 P n s nv lv l w hP h
  by_cases p14 : op = 14
  · subst p14; exact core_14 P n s nv lv l w hP h
  by_cases p15 : op = 15
  · subst p15; exact core_15 P n s nv lv l w hP h
  by_cases p25 : op = 25
  · subst p25; exact core_25 P n s nv lv l w hP h
  by_cases p26 : op = 26
  · subst p26; exact core_26 P n s nv lv l w hP h
  by_cases p27 : op = 27
  · subst p27; exact core_27 P n s nv lv l w hP h
  by_cases p28 : op = 28
  · subst p28; exact core_28 P n s nv lv l w hP h
  by_cases p29 : op = 29
  · subst p29; exact core_29 P n s nv lv l w hP h
  by_cases p30 : op = 30
  · subst p30; exact core_30 P n s nv lv l w hP h
  by_cases p31 : op = 31
  · subst p31; exact core_31 P n s nv lv l w hP h
  by_cases p32 : op = 32
  · subst p32; exact core_32 P n s nv lv l w hP h
  by_cases p33 : op = 33
  · subst p33; exact core_33 P n s nv lv l w hP h
  by_cases p34 : op = 34
  · subst p34; exact core_34 P n s nv lv l w hP h
  have hf : Pl.core op n l = false := by
    unfold Pl.core
    repeat' rw [if_neg (by omega)]
  rw [hf]
  exact core_other P op n s nv lv l w h (beq_eq_false_iff_ne.2 p1) (beq_eq_false_iff_ne.2 p5) (beq_eq_false_iff_ne.2 p11) (beq_eq_false_iff_ne.2 p12) (beq_eq_false_iff_ne.2 p13) (beq_eq_false_iff_ne.2 p21) (beq_eq_false_iff_ne.2 p22) (beq_eq_false_iff_ne.2 p23) (beq_eq_false_iff_ne.2 p24) (beq_eq_false_iff_ne.2 p2) (beq_eq_false_iff_ne.2 p3) (beq_eq_false_iff_ne.2 p4) (beq_eq_false_iff_ne.2 p14) (beq_eq_false_iff_ne.2 p15) (beq_eq_false_iff_ne.2 p25) (beq_eq_false_iff_ne.2 p26) (beq_eq_false_iff_ne.2 p27) (beq_eq_false_iff_ne.2 p28) (beq_eq_false_iff_ne.2 p29) (beq_eq_false_iff_ne.2 p30) (beq_eq_false_iff_ne.2 p31) (beq_eq_false_iff_ne.2 p32) (beq_eq_false_iff_ne.2 p33) (beq_eq_false_iff_ne.2 p34)
set_option maxRecDepth 100000 in
theorem modl_any (P : Nat → Prop) (op n : Int) (s : ByteArray) (nv lv : Value) (l : List Syn) (w : World) (hP : ∀ b, P b → b < w.heap.size) (h : SynSl w P lv l) (hbig : l.length ≤ 1073741824) :
    Calls Try.prog 65 #[.agg #[.int .i64 op, .int .i64 n, .string s, nv, lv]] w fun e w' => e = .returned (.bool (Pl.modl op l)) ∧ Below w.heap.size w w' := by
  by_cases p48 : op = 48
  · subst p48; exact modl_48 P n s nv lv l w hP h
  by_cases p49 : op = 49
  · subst p49; exact modl_49 P n s nv lv l w hP h
  by_cases p62 : op = 62
  · subst p62; exact modl_62 P n s nv lv l w hP h
  by_cases p72 : op = 72
  · subst p72; exact modl_72 P n s nv lv l w hP h
  by_cases p82 : op = 82
  · subst p82; exact modl_82 P n s nv lv l w hP h
  by_cases p41 : op = 41
  · subst p41; exact modl_41 P n s nv lv l w hP h
  by_cases p42 : op = 42
  · subst p42; exact modl_42 P n s nv lv l w hP h
  by_cases p43 : op = 43
  · subst p43; exact modl_43 P n s nv lv l w hP h
  by_cases p61 : op = 61
  · subst p61; exact modl_61 P n s nv lv l w hP h
  by_cases p44 : op = 44
  · subst p44; exact modl_44 P n s nv lv l w hP h hbig
  by_cases p45 : op = 45
  · subst p45; exact modl_45 P n s nv lv l w hP h
  by_cases p46 : op = 46
  · subst p46; exact modl_46 P n s nv lv l w hP h
  by_cases p47 : op = 47
  · subst p47; exact modl_47 P n s nv lv l w hP h
  by_cases p63 : op = 63
  · subst p63; exact modl_63 P n s nv lv l w hP h
  by_cases p64 : op = 64
  · subst p64; exact modl_64 P n s nv lv l w hP h
  by_cases p65 : op = 65
  · subst p65; exact modl_65 P n s nv lv l w hP h
  by_cases p50 : op = 50
  · subst p50; exact modl_50 P n s nv lv l w hP h
  by_cases p88 : op = 88
  · subst p88; exact modl_88 P n s nv lv l w hP h
  by_cases p66 : op = 66
  · subst p66; exact modl_66 P n s nv lv l w hP h
  by_cases p71 : op = 71
  · subst p71; exact modl_71 P n s nv lv l w hP h
  by_cases p73 : op = 73
  · subst p73; exact modl_73 P n s nv lv l w hP h
  by_cases p74 : op = 74
  · subst p74; exact modl_74 P n s nv lv l w hP h
  by_cases p81 : op = 81
  · subst p81; exact modl_81 P n s nv lv l w hP h
  by_cases p83 : op = 83
  · subst p83; exact modl_83 P n s nv lv l w hP h
  by_cases p84 : op = 84
  · subst p84; exact modl_84 P n s nv lv l w hP h
  by_cases p85 : op = 85
  · subst p85; exact modl_85 P n s nv lv l w hP h
  by_cases p86 : op = 86
  · subst p86; exact modl_86 P n s nv lv l w hP h
  by_cases p87 : op = 87
  · subst p87; exact modl_87 P n s nv lv l w hP h
  have hf : Pl.modl op l = false := by
    unfold Pl.modl
    repeat' rw [if_neg (by omega)]
  rw [hf]
  exact modl_other P op n s nv lv l w h (beq_eq_false_iff_ne.2 p48) (beq_eq_false_iff_ne.2 p49) (beq_eq_false_iff_ne.2 p62) (beq_eq_false_iff_ne.2 p72) (beq_eq_false_iff_ne.2 p82) (beq_eq_false_iff_ne.2 p41) (beq_eq_false_iff_ne.2 p42) (beq_eq_false_iff_ne.2 p43) (beq_eq_false_iff_ne.2 p61) (beq_eq_false_iff_ne.2 p44) (beq_eq_false_iff_ne.2 p45) (beq_eq_false_iff_ne.2 p46) (beq_eq_false_iff_ne.2 p47) (beq_eq_false_iff_ne.2 p63) (beq_eq_false_iff_ne.2 p64) (beq_eq_false_iff_ne.2 p65) (beq_eq_false_iff_ne.2 p50) (beq_eq_false_iff_ne.2 p88) (beq_eq_false_iff_ne.2 p66) (beq_eq_false_iff_ne.2 p71) (beq_eq_false_iff_ne.2 p73) (beq_eq_false_iff_ne.2 p74) (beq_eq_false_iff_ne.2 p81) (beq_eq_false_iff_ne.2 p83) (beq_eq_false_iff_ne.2 p84) (beq_eq_false_iff_ne.2 p85) (beq_eq_false_iff_ne.2 p86) (beq_eq_false_iff_ne.2 p87)
end Go.Proofs.Ytkhpihacjhhklaa
