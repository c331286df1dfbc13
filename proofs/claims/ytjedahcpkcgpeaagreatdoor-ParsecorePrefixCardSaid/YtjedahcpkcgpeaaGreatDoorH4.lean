/-
  Walks and plain mathematics, several texts in one (Lh Lj Lk).
-/
import Derived.Test.YtjedahcpkcgpeaaGreatDoorH3
import Derived.RegionTactic
import Derived.ChangeAlike
import Derived.Deep.LoopGhost
/-
  Walks of layer 2: texts.
-/
namespace Go.Proofs.YtjedahcpkcgpeaaGreatDoor
open Go.RowKit
namespace Pl
theorem txt_end (s : ByteArray) (k : Nat) (acc : Bytes) (j : Nat) (h : s.size ≤ k) : txt (s.toList.drop k) false acc j = bad 4 0 := by
  rw [List.drop_eq_nil_of_le (by rw [len_size]; exact h)]; rfl
theorem txt_quote (s : ByteArray) (k : Nat) (acc : Bytes) (j : Nat) (h : k < s.size) (hc : s[k] = 34) : txt (s.toList.drop k) false acc j = good 5 acc (j + 1) := by
  rw [drop_cons s k h, hc]; rfl
theorem txt_cut (s : ByteArray) (k : Nat) (acc : Bytes) (j : Nat) (h : k < s.size) (hc : s[k] = 92) (he : k + 1 = s.size) : txt (s.toList.drop k) false acc j = bad 4 0 := by
  rw [drop_cons s k h, hc, List.drop_eq_nil_of_le (by rw [len_size]; omega)]; rfl
theorem txt_bad (s : ByteArray) (k : Nat) (acc : Bytes) (j : Nat) (h : k < s.size) (hc : s[k] = 92) (h1 : k + 1 < s.size) (hm : meaning s[k + 1] = none) : txt (s.toList.drop k) false acc j = bad 3 j := by
  rw [drop_cons s k h, hc, drop_cons s (k + 1) h1]
  show (match meaning s[k + 1] with | some m => txt _ false (acc ++ [m]) (j + 1 + 1) | none => bad 3 (j + 1 - 1)) = _
  rw [hm]; rfl
theorem txt_pair (s : ByteArray) (k : Nat) (acc : Bytes) (j : Nat) (m : UInt8) (h : k < s.size) (hc : s[k] = 92) (h1 : k + 1 < s.size) (hm : meaning s[k + 1] = some m) : txt (s.toList.drop k) false acc j = txt (s.toList.drop (k + 2)) false (acc ++ [m]) (j + 2) := by
  rw [drop_cons s k h, hc, drop_cons s (k + 1) h1]
  show (match meaning s[k + 1] with | some m => txt _ false (acc ++ [m]) (j + 1 + 1) | none => bad 3 (j + 1 - 1)) = _
  rw [hm]
theorem txt_plain (s : ByteArray) (k : Nat) (acc : Bytes) (j : Nat) (h : k < s.size) (h1 : s[k] ≠ 34) (h2 : s[k] ≠ 92) (hp : printable s[k].toNat = true) : txt (s.toList.drop k) false acc j = txt (s.toList.drop (k + 1)) false (acc ++ [s[k]]) (j + 1) := by
  rw [drop_cons s k h, txt, if_neg h1, if_neg h2]
  have : printB s[k] = true := hp
  rw [if_pos this]
theorem txt_wrong (s : ByteArray) (k : Nat) (acc : Bytes) (j : Nat) (h : k < s.size) (h1 : s[k] ≠ 34) (h2 : s[k] ≠ 92) (hp : printable s[k].toNat = false) : txt (s.toList.drop k) false acc j = bad 3 j := by
  rw [drop_cons s k h, txt, if_neg h1, if_neg h2]
  have : ¬ printB s[k] = true := by unfold printB; rw [hp]; simp
  rw [if_neg this]
end Pl
def TextPost (b : Nat) (s : ByteArray) (n : Nat) (li st lim : Int) (w : World) (t : Pl.Tk) (e : Ending) (w' : World) : Prop :=
  ∃ m p : Nat, (t.err = 0 → m = n + t.len) ∧ (t.err ≠ 0 → p = n + t.pos ∧ m = n) ∧ e = .returned (.tuple #[.agg (tkc t.kind (Pl.mk t.text) 0 0), .int .i64 p, .int .i64 t.err]) ∧ Rd w' b s m li st lim ∧ Only b w w'
set_option maxRecDepth 100000 in
set_option maxHeartbeats 4000000 in
theorem text_any (b : Nat) (s : ByteArray) (n : Nat) (li st lim : Int) (w : World) (h : Rd w b s n li st lim) (hn : n < s.size) (hs : s.size ≤ 1000000) :
    Calls Tryz.prog 83 #[.pointer (some ⟨b, 0, none⟩)] w (TextPost b s n li st lim w (Pl.txt (s.toList.drop (n + 1)) false [] 1)) := by
  have hr := (h.alloc (.cells #[.int .i64 0, .string ⟨#[]⟩, .int .i64 0, .int .i64 0] 45)).alloc (.cells #[.pointer none, .slice none 0 0] 62)
  have hk := (blk_new w #[.int .i64 0, .string ⟨#[]⟩, .int .i64 0, .int .i64 0] 45).alloc (.cells #[.pointer none, .slice none 0 0] 62)
  have ho : Only b w ((w.alloc (.cells #[.int .i64 0, .string ⟨#[]⟩, .int .i64 0, .int .i64 0] 45)).alloc (.cells #[.pointer none, .slice none 0 0] 62)) := ((Only.refl b w).alloc _).alloc _
  have hbl := bld_new (w.alloc (.cells #[.int .i64 0, .string ⟨#[]⟩, .int .i64 0, .int .i64 0] 45))
  have hsz : ((w.alloc (.cells #[.int .i64 0, .string ⟨#[]⟩, .int .i64 0, .int .i64 0] 45)).alloc (.cells #[.pointer none, .slice none 0 0] 62)).heap.size = w.heap.size + 1 + 1 := by simp
  rw [World.size_alloc] at hbl
  have hlt := h.lt
  have hne : b ≠ w.heap.size := Nat.ne_of_lt hlt
  generalize hT : Pl.txt (s.toList.drop (n + 1)) false [] 1 = T
  have HT := Lib.hid hT
  clear h hT
  have c1 := hr.c1
  go_enter Tryz.func83, Tryz.ntmps83
  go_wp2
  generalize (w.alloc (.cells #[.int .i64 0, .string ⟨#[]⟩, .int .i64 0, .int .i64 0] 45)).alloc (.cells #[.pointer none, .slice none 0 0] 62) = w0 at hr hk ho hbl hsz c1 ⊢
  have HR := Lib.hid hr
  have HK := Lib.hid hk
  have HO := Lib.hid ho
  have HBL := Lib.hid hbl
  have HSZ := Lib.hid hsz
  clear hr hk ho hbl hsz c1
  go_loopw [6] (fun v wr => ∃ (k j : Nat) (acc : Pl.Bytes), k = n + j ∧ n + 1 ≤ k ∧ k ≤ s.size ∧ v = .int .i64 k ∧ Pl.txt (s.toList.drop k) false acc j = T ∧ acc.length ≤ k ∧ Bld (w.heap.size + 1) (w.heap.size + 1) acc wr ∧ Below (w.heap.size + 1) w0 wr) (fun v _ => s.size - (intOf v).toNat)
  case atStart => exact ⟨n + 1, 1, [], rfl, by omega, by omega, by go_num, HT.out, by simp, HBL.out, Below.refl _ _⟩
  case round =>
    obtain ⟨k, j, acc, hkj, hk1, hk, rfl, hin, hal, hbl, hbr⟩ := hrel
    have HKJ := Lib.hid hkj
    have hws : w.heap.size + 1 ≤ wr.heap.size := by have := hbr.size; have := HSZ.out; omega
    have HWS := Lib.hid hws
    have HBL1 := Lib.hid hbl
    clear hkj hws hbl
    have hrr := HR.out.below hbr (Nat.lt_succ_of_lt hlt)
    have hkr := HK.out.below hbr (Nat.lt_succ_self _)
    have hor := HO.out.below hbr (Nat.le_succ _)
    have c0 := hrr.c0
    have c1 := hrr.c1
    have x1 := hrr.thaw 1
    obtain ⟨d0, d1, d2, d3, e0, e1, e2, e3⟩ := tkAt_of hkr
    have HRR := Lib.hid hrr
    have HKR := Lib.hid hkr
    have HOR := Lib.hid hor
    have HBR := Lib.hid hbr
    clear hrr hkr hor hbr
    by_cases hlt2 : k < s.size
    · by_cases h34 : s[k] = 34
      · have HX := Lib.hid (hin.symm.trans (Pl.txt_quote s k acc j hlt2 h34))
        have q1 : ((s[k].toNat : Int) == 34) = true := by rw [h34]; rfl
        clear h34 hin
        go_wp2_with fail
        refine (string_any _ _ _ _ (HBL1.out.other (p := ⟨b, 1, none⟩) _ (Nat.lt_succ_of_lt hlt)) (by simpa using HWS.out)).mono ?_
        rintro e w1 ⟨rfl, -, hb1⟩
        have HK1 := Lib.hid ((HKR.out.other ⟨b, 1, none⟩ (.int .i64 ((k : Int) + 1)) hne.symm).below hb1 (Nat.lt_succ_self _))
        have HR1 := Lib.hid ((HRR.out.next ((k : Int) + 1)).below hb1 (Nat.lt_succ_of_lt hlt))
        have HO1 := Lib.hid ((HOR.out.setCell (p := ⟨b, 1, none⟩) (.inl rfl) (.int .i64 ((k : Int) + 1))).below hb1 (Nat.le_succ _))
        clear hb1 c0 c1 x1 d0 d1 d2 d3 e0 e1 e2 e3
        obtain ⟨d0, d1, d2, d3, e0, e1, e2, e3⟩ := tkAt_of HK1.out
        go_wp2
        obtain ⟨f0, f1, f2, f3, -, -, -, -⟩ := tkAt_of (tk_put HK1.out (.int .i64 5) (.string (Pl.mk acc)) (.int .i64 0) (.int .i64 0))
        refine bodyPost_ret (v := .tuple #[.agg (tkc 5 (Pl.mk acc) 0 0), .int .i64 0, .int .i64 0]) (by simp [results, Tryz.results83, go_sem, f0, f1, f2, f3, tkc]) rfl ?_
        rw [HX.out]
        exact ⟨k + 1, 0, fun _ => by have := HKJ.out; show k + 1 = n + (j + 1); omega, fun h => absurd rfl h, rfl, rd_put HR1.out hne _ _ _ _, only_put HO1.out (Nat.le_refl _) _ _ _ _⟩
      have q1 : ((s[k].toNat : Int) == 34) = false := beq_eq_false_iff_ne.2 (fun h => h34 ((Pl.u8_eq _ _).2 h))
      by_cases h92 : s[k] = 92
      · have q2 : ((s[k].toNat : Int) == 92) = true := by rw [h92]; rfl
        by_cases hend : k + 1 = s.size
        · have HX := Lib.hid (hin.symm.trans (Pl.txt_cut s k acc j hlt2 h92 hend))
          have q3 : ((k : Int) + 1 == (s.size : Int)) = true := beq_iff_eq.2 (by omega)
          have HE := Lib.hid hend
          clear h34 h92 hin hend
          go_wp2
          generalize hwr : wr = wd at HRR HKR HOR c1 d0 d1 d2 d3 e0 e1 e2 e3 ⊢
          clear hwr
          go_region
          all_goals
            go_wp2
            obtain ⟨f0, f1, f2, f3, -, -, -, -⟩ := tkAt_of (tk_put HKR.out (.int .i64 0) (.string ⟨#[]⟩) (.int .i64 0) (.int .i64 0))
            refine bodyPost_ret (v := .tuple #[.agg (tkc 0 ⟨#[]⟩ 0 0), .int .i64 n, .int .i64 4]) (by simp [results, Tryz.results83, go_sem, f0, f1, f2, f3, tkc]) rfl ?_
            rw [HX.out]
            exact ⟨n, n, fun h => absurd h (by decide), fun _ => ⟨rfl, rfl⟩, rfl, (rd_put HRR.out hne _ _ _ _).drew, (only_put HOR.out (Nat.le_refl _) _ _ _ _).drew⟩
        · have q3 : ((k : Int) + 1 == (s.size : Int)) = false := beq_eq_false_iff_ne.2 (by omega)
          have g1 : (0 : Int) ≤ (k : Int) + 1 := by omega
          have g2 : (k : Int) + 1 < (s.size : Int) := by omega
          have hl1 : k + 1 < s.size := by omega
          have hcall := fun W => meaning_any s[k + 1] W
          cases hm : Pl.meaning s[k + 1] with
          | none =>
            have HX := Lib.hid (hin.symm.trans (Pl.txt_bad s k acc j hlt2 h92 hl1 hm))
            have hmv : meant s[k + 1] = .tuple #[.int .u8 0, .bool false] := by unfold meant; rw [hm]
            rw [hmv] at hcall
            have HC := Lib.hid hcall
            clear hcall hmv hm h34 h92 hin hend
            go_wp2_with fail
            refine (HC.out _).mono ?_
            rintro e w' ⟨rfl, rfl⟩
            go_wp2
            obtain ⟨f0, f1, f2, f3, -, -, -, -⟩ := tkAt_of (tk_put HKR.out (.int .i64 0) (.string ⟨#[]⟩) (.int .i64 0) (.int .i64 0))
            refine bodyPost_ret (v := .tuple #[.agg (tkc 0 ⟨#[]⟩ 0 0), .int .i64 k, .int .i64 3]) (by simp [results, Tryz.results83, go_sem, f0, f1, f2, f3, tkc]) rfl ?_
            rw [HX.out]
            exact ⟨n, k, fun h => absurd h (show ¬ (3 : Int) = 0 by decide), fun _ => ⟨HKJ.out, rfl⟩, rfl, rd_put HRR.out hne _ _ _ _, only_put HOR.out (Nat.le_refl _) _ _ _ _⟩
          | some m =>
            have HI := Lib.hid ((Pl.txt_pair s k acc j m hlt2 h92 hl1 hm).symm.trans hin)
            have hmv : meant s[k + 1] = .tuple #[.int .u8 m.toNat, .bool true] := by unfold meant; rw [hm]
            rw [hmv] at hcall
            have HC := Lib.hid hcall
            clear hcall hmv hm h34 h92 hin hend
            go_wp2_with fail
            refine (HC.out _).mono ?_
            rintro e w' ⟨rfl, rfl⟩
            go_wp2_with fail
            refine (writeByte_any _ _ _ _ _ HBL1.out (by omega) HWS.out).mono ?_
            rintro e w1 ⟨rfl, hb1, hbr1⟩
            have HB1 := Lib.hid hb1
            have HBR1 := Lib.hid (HBR.out.trans hbr1)
            clear hb1 hbr1
            go_wp2
            go_roundw
            case rel => exact ⟨k + 2, j + 2, acc ++ [m], by have := HKJ.out; omega, by omega, by omega, by go_num, HI.out, by rw [List.length_append]; simp; omega, HB1.out, HBR1.out⟩
            case measure => simp [intOf]; omega
      have q2 : ((s[k].toNat : Int) == 92) = false := beq_eq_false_iff_ne.2 (fun h => h92 ((Pl.u8_eq _ _).2 h))
      cases hp : Pl.printable (s[k].toNat : Int)
      · have HX := Lib.hid (hin.symm.trans (Pl.txt_wrong s k acc j hlt2 h34 h92 hp))
        clear h34 h92 hin
        go_wp2_with fail
        refine (isPrintable_any _ _).mono ?_
        rintro e w' ⟨rfl, rfl⟩
        go_wp2
        obtain ⟨f0, f1, f2, f3, -, -, -, -⟩ := tkAt_of (tk_put HKR.out (.int .i64 0) (.string ⟨#[]⟩) (.int .i64 0) (.int .i64 0))
        refine bodyPost_ret (v := .tuple #[.agg (tkc 0 ⟨#[]⟩ 0 0), .int .i64 k, .int .i64 3]) (by simp [results, Tryz.results83, go_sem, f0, f1, f2, f3, tkc]) rfl ?_
        rw [HX.out]
        exact ⟨n, k, fun h => absurd h (show ¬ (3 : Int) = 0 by decide), fun _ => ⟨HKJ.out, rfl⟩, rfl, rd_put HRR.out hne _ _ _ _, only_put HOR.out (Nat.le_refl _) _ _ _ _⟩
      · have HI := Lib.hid ((Pl.txt_plain s k acc j hlt2 h34 h92 hp).symm.trans hin)
        clear h34 h92 hin
        go_wp2_with fail
        refine (isPrintable_any _ _).mono ?_
        rintro e w' ⟨rfl, rfl⟩
        go_wp2_with fail
        refine (writeByte_any _ _ _ _ _ HBL1.out (by omega) HWS.out).mono ?_
        rintro e w1 ⟨rfl, hb1, hbr1⟩
        have HB1 := Lib.hid hb1
        have HBR1 := Lib.hid (HBR.out.trans hbr1)
        clear hb1 hbr1
        go_wp2
        go_roundw
        case rel => exact ⟨k + 1, j + 1, acc ++ [s[k]], by have := HKJ.out; omega, by omega, by omega, by go_num, HI.out, by rw [List.length_append]; simp; omega, HB1.out, HBR1.out⟩
        case measure => simp [intOf]; omega
    · have HX := Lib.hid (hin.symm.trans (Pl.txt_end s k acc j (by omega)))
      clear hin
      go_wp2
      generalize hwr : wr = wd at HRR HKR HOR c1 d0 d1 d2 d3 e0 e1 e2 e3 ⊢
      clear hwr
      go_region
      all_goals
        go_wp2
        obtain ⟨f0, f1, f2, f3, -, -, -, -⟩ := tkAt_of (tk_put HKR.out (.int .i64 0) (.string ⟨#[]⟩) (.int .i64 0) (.int .i64 0))
        refine bodyPost_ret (v := .tuple #[.agg (tkc 0 ⟨#[]⟩ 0 0), .int .i64 n, .int .i64 4]) (by simp [results, Tryz.results83, go_sem, f0, f1, f2, f3, tkc]) rfl ?_
        rw [HX.out]
        exact ⟨n, n, fun h => absurd h (by decide), fun _ => ⟨rfl, rfl⟩, rfl, (rd_put HRR.out hne _ _ _ _).drew, (only_put HOR.out (Nat.le_refl _) _ _ _ _).drew⟩
end Go.Proofs.YtjedahcpkcgpeaaGreatDoor

/-
  Walks of layer 2: a token.
-/
namespace Go.Proofs.YtjedahcpkcgpeaaGreatDoor
open Go.RowKit
def TokenPost (b : Nat) (s : ByteArray) (n : Nat) (li st lim : Int) (w : World) (t : Pl.Tk) (e : Ending) (w' : World) : Prop :=
  ∃ m p : Nat, (t.err = 0 → m = n + t.len) ∧ (t.err ≠ 0 → p = n + t.pos) ∧ e = .returned (.tuple #[.agg (tkc t.kind (Pl.mk t.text) 0 0), .int .i64 p, .int .i64 t.err]) ∧ Rd w' b s m li st lim ∧ Only b w w'
set_option maxRecDepth 100000 in
set_option maxHeartbeats 1000000 in
theorem token_small (b : Nat) (s : ByteArray) (n : Nat) (li st lim : Int) (w : World) (T : Pl.Tk) (h : Rd w b s n li st lim) (hn : n < s.size) (hpos : T.pos = 0) (q0 : Pl.small (s[n].toNat : Int) = true)
    (hcall : ∀ W, Rd W b s n li st lim → Calls Tryz.prog 79 #[.pointer (some ⟨b, 0, none⟩)] W (TokPost b s n li st lim W T)) :
    Calls Tryz.prog 43 #[.pointer (some ⟨b, 0, none⟩)] w (TokenPost b s n li st lim w T) := by
  have HP := Lib.hid hpos
  clear hpos
  have hr := h.alloc (.cells #[.int .i64 0, .string ⟨#[]⟩, .int .i64 0, .int .i64 0] 45)
  have hk := blk_new w #[.int .i64 0, .string ⟨#[]⟩, .int .i64 0, .int .i64 0] 45
  have ho : Only b w (w.alloc (.cells #[.int .i64 0, .string ⟨#[]⟩, .int .i64 0, .int .i64 0] 45)) := (Only.refl b w).alloc _
  have hlt := h.lt
  have hne : b ≠ w.heap.size := Nat.ne_of_lt hlt
  have c0 := hr.c0
  have c1 := hr.c1
  have HC := Lib.hid hcall
  clear h hcall
  go_enter Tryz.func43, Tryz.ntmps43
  go_wp2
  generalize w.alloc (.cells #[.int .i64 0, .string ⟨#[]⟩, .int .i64 0, .int .i64 0] 45) = w0 at hr hk ho c0 c1 ⊢
  have HR := Lib.hid hr
  have HK := Lib.hid hk
  have HO := Lib.hid ho
  clear hr hk ho
  go_quiet (fail)
  clear c0 c1
  go_wp2_with (first | (go_at_call 77; refine (isSmall_any _ _).mono ?_; rintro e w' ⟨rfl, rfl⟩) | (go_at_call 78; refine (isCapital_any _ _).mono ?_; rintro e w' ⟨rfl, rfl⟩) | (go_at_call 81; refine (isDigit_any _ _).mono ?_; rintro e w' ⟨rfl, rfl⟩))
  refine (HC.out _ (HR.out.drewN _)).mono ?_
  rintro e w1 hpost
  obtain ⟨m, hm, rfl, hr1, ho1⟩ := hpost
  have hk1 := ho1.blk (HK.out.drewN _) hne.symm
  have HR1 := Lib.hid hr1
  have HK1 := Lib.hid hk1
  have HO1 := Lib.hid ((HO.out.drewN _).trans ho1)
  have HM := Lib.hid hm
  obtain ⟨d0, d1, d2, d3, e0, e1, e2, e3⟩ := tkAt_of hk1
  clear hr1 hk1 ho1 hm
  generalize hkd : T.kind = kd
  generalize htx : Pl.mk T.text = tx
  generalize her : T.err = er
  have HKD := Lib.hid hkd
  have HTX := Lib.hid htx
  have HER := Lib.hid her
  clear hkd htx her
  unfold tkc
  go_wp2
  have hput := tk_put (tk_put HK1.out (.int .i64 kd) (.string tx) (.int .i64 0) (.int .i64 0)) (.int .i64 kd) (.string tx) (.int .i64 0) (.int .i64 0)
  obtain ⟨f0, f1, f2, f3, -, -, -, -⟩ := tkAt_of hput
  refine bodyPost_ret (v := .tuple #[.agg (tkc kd tx 0 0), .int .i64 n, .int .i64 er]) (by simp [results, Tryz.results43, go_sem, f0, f1, f2, f3, tkc]) rfl ?_
  exact ⟨m, n, HM.out, fun _ => by rw [HP.out]; rfl, by rw [HKD.out, HTX.out, HER.out], rd_put (rd_put HR1.out hne _ _ _ _) hne _ _ _ _, only_put (only_put HO1.out (Nat.le_refl _) _ _ _ _) (Nat.le_refl _) _ _ _ _⟩
set_option maxRecDepth 100000 in
set_option maxHeartbeats 1000000 in
theorem token_capital (b : Nat) (s : ByteArray) (n : Nat) (li st lim : Int) (w : World) (T : Pl.Tk) (h : Rd w b s n li st lim) (hn : n < s.size) (hpos : T.pos = 0) (q0 : Pl.small (s[n].toNat : Int) = false) (q1 : Pl.capital (s[n].toNat : Int) = true)
    (hcall : ∀ W, Rd W b s n li st lim → Calls Tryz.prog 79 #[.pointer (some ⟨b, 0, none⟩)] W (TokPost b s n li st lim W T)) :
    Calls Tryz.prog 43 #[.pointer (some ⟨b, 0, none⟩)] w (TokenPost b s n li st lim w T) := by
  have HP := Lib.hid hpos
  clear hpos
  have hr := h.alloc (.cells #[.int .i64 0, .string ⟨#[]⟩, .int .i64 0, .int .i64 0] 45)
  have hk := blk_new w #[.int .i64 0, .string ⟨#[]⟩, .int .i64 0, .int .i64 0] 45
  have ho : Only b w (w.alloc (.cells #[.int .i64 0, .string ⟨#[]⟩, .int .i64 0, .int .i64 0] 45)) := (Only.refl b w).alloc _
  have hlt := h.lt
  have hne : b ≠ w.heap.size := Nat.ne_of_lt hlt
  have c0 := hr.c0
  have c1 := hr.c1
  have HC := Lib.hid hcall
  clear h hcall
  go_enter Tryz.func43, Tryz.ntmps43
  go_wp2
  generalize w.alloc (.cells #[.int .i64 0, .string ⟨#[]⟩, .int .i64 0, .int .i64 0] 45) = w0 at hr hk ho c0 c1 ⊢
  have HR := Lib.hid hr
  have HK := Lib.hid hk
  have HO := Lib.hid ho
  clear hr hk ho
  go_quiet (fail)
  clear c0 c1
  go_wp2_with (first | (go_at_call 77; refine (isSmall_any _ _).mono ?_; rintro e w' ⟨rfl, rfl⟩) | (go_at_call 78; refine (isCapital_any _ _).mono ?_; rintro e w' ⟨rfl, rfl⟩) | (go_at_call 81; refine (isDigit_any _ _).mono ?_; rintro e w' ⟨rfl, rfl⟩))
  refine (HC.out _ (HR.out.drewN _)).mono ?_
  rintro e w1 hpost
  obtain ⟨m, hm, rfl, hr1, ho1⟩ := hpost
  have hk1 := ho1.blk (HK.out.drewN _) hne.symm
  have HR1 := Lib.hid hr1
  have HK1 := Lib.hid hk1
  have HO1 := Lib.hid ((HO.out.drewN _).trans ho1)
  have HM := Lib.hid hm
  obtain ⟨d0, d1, d2, d3, e0, e1, e2, e3⟩ := tkAt_of hk1
  clear hr1 hk1 ho1 hm
  generalize hkd : T.kind = kd
  generalize htx : Pl.mk T.text = tx
  generalize her : T.err = er
  have HKD := Lib.hid hkd
  have HTX := Lib.hid htx
  have HER := Lib.hid her
  clear hkd htx her
  unfold tkc
  go_wp2
  have hput := tk_put (tk_put HK1.out (.int .i64 kd) (.string tx) (.int .i64 0) (.int .i64 0)) (.int .i64 kd) (.string tx) (.int .i64 0) (.int .i64 0)
  obtain ⟨f0, f1, f2, f3, -, -, -, -⟩ := tkAt_of hput
  refine bodyPost_ret (v := .tuple #[.agg (tkc kd tx 0 0), .int .i64 n, .int .i64 er]) (by simp [results, Tryz.results43, go_sem, f0, f1, f2, f3, tkc]) rfl ?_
  exact ⟨m, n, HM.out, fun _ => by rw [HP.out]; rfl, by rw [HKD.out, HTX.out, HER.out], rd_put (rd_put HR1.out hne _ _ _ _) hne _ _ _ _, only_put (only_put HO1.out (Nat.le_refl _) _ _ _ _) (Nat.le_refl _) _ _ _ _⟩
set_option maxRecDepth 100000 in
set_option maxHeartbeats 1000000 in
theorem token_var (b : Nat) (s : ByteArray) (n : Nat) (li st lim : Int) (w : World) (T : Pl.Tk) (h : Rd w b s n li st lim) (hn : n < s.size) (hpos : T.pos = 0) (q0 : Pl.small (s[n].toNat : Int) = false) (q1 : Pl.capital (s[n].toNat : Int) = false) (q2 : ((s[n].toNat : Int) == 39) = true)
    (hcall : ∀ W, Rd W b s n li st lim → Calls Tryz.prog 80 #[.pointer (some ⟨b, 0, none⟩)] W (TokPost b s n li st lim W T)) :
    Calls Tryz.prog 43 #[.pointer (some ⟨b, 0, none⟩)] w (TokenPost b s n li st lim w T) := by
  have HP := Lib.hid hpos
  clear hpos
  have hr := h.alloc (.cells #[.int .i64 0, .string ⟨#[]⟩, .int .i64 0, .int .i64 0] 45)
  have hk := blk_new w #[.int .i64 0, .string ⟨#[]⟩, .int .i64 0, .int .i64 0] 45
  have ho : Only b w (w.alloc (.cells #[.int .i64 0, .string ⟨#[]⟩, .int .i64 0, .int .i64 0] 45)) := (Only.refl b w).alloc _
  have hlt := h.lt
  have hne : b ≠ w.heap.size := Nat.ne_of_lt hlt
  have c0 := hr.c0
  have c1 := hr.c1
  have HC := Lib.hid hcall
  clear h hcall
  go_enter Tryz.func43, Tryz.ntmps43
  go_wp2
  generalize w.alloc (.cells #[.int .i64 0, .string ⟨#[]⟩, .int .i64 0, .int .i64 0] 45) = w0 at hr hk ho c0 c1 ⊢
  have HR := Lib.hid hr
  have HK := Lib.hid hk
  have HO := Lib.hid ho
  clear hr hk ho
  go_quiet (fail)
  clear c0 c1
  go_wp2_with (first | (go_at_call 77; refine (isSmall_any _ _).mono ?_; rintro e w' ⟨rfl, rfl⟩) | (go_at_call 78; refine (isCapital_any _ _).mono ?_; rintro e w' ⟨rfl, rfl⟩) | (go_at_call 81; refine (isDigit_any _ _).mono ?_; rintro e w' ⟨rfl, rfl⟩))
  refine (HC.out _ (HR.out.drewN _)).mono ?_
  rintro e w1 hpost
  obtain ⟨m, hm, rfl, hr1, ho1⟩ := hpost
  have hk1 := ho1.blk (HK.out.drewN _) hne.symm
  have HR1 := Lib.hid hr1
  have HK1 := Lib.hid hk1
  have HO1 := Lib.hid ((HO.out.drewN _).trans ho1)
  have HM := Lib.hid hm
  obtain ⟨d0, d1, d2, d3, e0, e1, e2, e3⟩ := tkAt_of hk1
  clear hr1 hk1 ho1 hm
  generalize hkd : T.kind = kd
  generalize htx : Pl.mk T.text = tx
  generalize her : T.err = er
  have HKD := Lib.hid hkd
  have HTX := Lib.hid htx
  have HER := Lib.hid her
  clear hkd htx her
  unfold tkc
  go_wp2
  have hput := tk_put (tk_put HK1.out (.int .i64 kd) (.string tx) (.int .i64 0) (.int .i64 0)) (.int .i64 kd) (.string tx) (.int .i64 0) (.int .i64 0)
  obtain ⟨f0, f1, f2, f3, -, -, -, -⟩ := tkAt_of hput
  refine bodyPost_ret (v := .tuple #[.agg (tkc kd tx 0 0), .int .i64 n, .int .i64 er]) (by simp [results, Tryz.results43, go_sem, f0, f1, f2, f3, tkc]) rfl ?_
  exact ⟨m, n, HM.out, fun _ => by rw [HP.out]; rfl, by rw [HKD.out, HTX.out, HER.out], rd_put (rd_put HR1.out hne _ _ _ _) hne _ _ _ _, only_put (only_put HO1.out (Nat.le_refl _) _ _ _ _) (Nat.le_refl _) _ _ _ _⟩
set_option maxRecDepth 100000 in
set_option maxHeartbeats 1000000 in
theorem token_digit (b : Nat) (s : ByteArray) (n : Nat) (li st lim : Int) (w : World) (T : Pl.Tk) (h : Rd w b s n li st lim) (hn : n < s.size) (hpos : T.pos = 0) (q0 : Pl.small (s[n].toNat : Int) = false) (q1 : Pl.capital (s[n].toNat : Int) = false) (q2 : ((s[n].toNat : Int) == 39) = false) (q3 : Pl.digit (s[n].toNat : Int) = true)
    (hcall : ∀ W, Rd W b s n li st lim → Calls Tryz.prog 82 #[.pointer (some ⟨b, 0, none⟩)] W (TokPost b s n li st lim W T)) :
    Calls Tryz.prog 43 #[.pointer (some ⟨b, 0, none⟩)] w (TokenPost b s n li st lim w T) := by
  have HP := Lib.hid hpos
  clear hpos
  have hr := h.alloc (.cells #[.int .i64 0, .string ⟨#[]⟩, .int .i64 0, .int .i64 0] 45)
  have hk := blk_new w #[.int .i64 0, .string ⟨#[]⟩, .int .i64 0, .int .i64 0] 45
  have ho : Only b w (w.alloc (.cells #[.int .i64 0, .string ⟨#[]⟩, .int .i64 0, .int .i64 0] 45)) := (Only.refl b w).alloc _
  have hlt := h.lt
  have hne : b ≠ w.heap.size := Nat.ne_of_lt hlt
  have c0 := hr.c0
  have c1 := hr.c1
  have HC := Lib.hid hcall
  clear h hcall
  go_enter Tryz.func43, Tryz.ntmps43
  go_wp2
  generalize w.alloc (.cells #[.int .i64 0, .string ⟨#[]⟩, .int .i64 0, .int .i64 0] 45) = w0 at hr hk ho c0 c1 ⊢
  have HR := Lib.hid hr
  have HK := Lib.hid hk
  have HO := Lib.hid ho
  clear hr hk ho
  go_quiet (fail)
  clear c0 c1
  go_wp2_with (first | (go_at_call 77; refine (isSmall_any _ _).mono ?_; rintro e w' ⟨rfl, rfl⟩) | (go_at_call 78; refine (isCapital_any _ _).mono ?_; rintro e w' ⟨rfl, rfl⟩) | (go_at_call 81; refine (isDigit_any _ _).mono ?_; rintro e w' ⟨rfl, rfl⟩))
  refine (HC.out _ (HR.out.drewN _)).mono ?_
  rintro e w1 hpost
  obtain ⟨m, hm, rfl, hr1, ho1⟩ := hpost
  have hk1 := ho1.blk (HK.out.drewN _) hne.symm
  have HR1 := Lib.hid hr1
  have HK1 := Lib.hid hk1
  have HO1 := Lib.hid ((HO.out.drewN _).trans ho1)
  have HM := Lib.hid hm
  obtain ⟨d0, d1, d2, d3, e0, e1, e2, e3⟩ := tkAt_of hk1
  clear hr1 hk1 ho1 hm
  generalize hkd : T.kind = kd
  generalize htx : Pl.mk T.text = tx
  generalize her : T.err = er
  have HKD := Lib.hid hkd
  have HTX := Lib.hid htx
  have HER := Lib.hid her
  clear hkd htx her
  unfold tkc
  go_wp2
  have hput := tk_put (tk_put HK1.out (.int .i64 kd) (.string tx) (.int .i64 0) (.int .i64 0)) (.int .i64 kd) (.string tx) (.int .i64 0) (.int .i64 0)
  obtain ⟨f0, f1, f2, f3, -, -, -, -⟩ := tkAt_of hput
  refine bodyPost_ret (v := .tuple #[.agg (tkc kd tx 0 0), .int .i64 n, .int .i64 er]) (by simp [results, Tryz.results43, go_sem, f0, f1, f2, f3, tkc]) rfl ?_
  exact ⟨m, n, HM.out, fun _ => by rw [HP.out]; rfl, by rw [HKD.out, HTX.out, HER.out], rd_put (rd_put HR1.out hne _ _ _ _) hne _ _ _ _, only_put (only_put HO1.out (Nat.le_refl _) _ _ _ _) (Nat.le_refl _) _ _ _ _⟩
set_option maxRecDepth 100000 in
set_option maxHeartbeats 1000000 in
theorem token_symbol (b : Nat) (s : ByteArray) (n : Nat) (li st lim : Int) (w : World) (T : Pl.Tk) (h : Rd w b s n li st lim) (hn : n < s.size) (hpos : T.pos = 0) (q0 : Pl.small (s[n].toNat : Int) = false) (q1 : Pl.capital (s[n].toNat : Int) = false) (q2 : ((s[n].toNat : Int) == 39) = false) (q3 : Pl.digit (s[n].toNat : Int) = false) (q4 : ((s[n].toNat : Int) == 34) = false)
    (hcall : ∀ W, Rd W b s n li st lim → Calls Tryz.prog 84 #[.pointer (some ⟨b, 0, none⟩)] W (TokPost b s n li st lim W T)) :
    Calls Tryz.prog 43 #[.pointer (some ⟨b, 0, none⟩)] w (TokenPost b s n li st lim w T) := by
  have HP := Lib.hid hpos
  clear hpos
  have hr := h.alloc (.cells #[.int .i64 0, .string ⟨#[]⟩, .int .i64 0, .int .i64 0] 45)
  have hk := blk_new w #[.int .i64 0, .string ⟨#[]⟩, .int .i64 0, .int .i64 0] 45
  have ho : Only b w (w.alloc (.cells #[.int .i64 0, .string ⟨#[]⟩, .int .i64 0, .int .i64 0] 45)) := (Only.refl b w).alloc _
  have hlt := h.lt
  have hne : b ≠ w.heap.size := Nat.ne_of_lt hlt
  have c0 := hr.c0
  have c1 := hr.c1
  have HC := Lib.hid hcall
  clear h hcall
  go_enter Tryz.func43, Tryz.ntmps43
  go_wp2
  generalize w.alloc (.cells #[.int .i64 0, .string ⟨#[]⟩, .int .i64 0, .int .i64 0] 45) = w0 at hr hk ho c0 c1 ⊢
  have HR := Lib.hid hr
  have HK := Lib.hid hk
  have HO := Lib.hid ho
  clear hr hk ho
  go_quiet (fail)
  clear c0 c1
  go_wp2_with (first | (go_at_call 77; refine (isSmall_any _ _).mono ?_; rintro e w' ⟨rfl, rfl⟩) | (go_at_call 78; refine (isCapital_any _ _).mono ?_; rintro e w' ⟨rfl, rfl⟩) | (go_at_call 81; refine (isDigit_any _ _).mono ?_; rintro e w' ⟨rfl, rfl⟩))
  refine (HC.out _ (HR.out.drewN _)).mono ?_
  rintro e w1 hpost
  obtain ⟨m, hm, rfl, hr1, ho1⟩ := hpost
  have hk1 := ho1.blk (HK.out.drewN _) hne.symm
  have HR1 := Lib.hid hr1
  have HK1 := Lib.hid hk1
  have HO1 := Lib.hid ((HO.out.drewN _).trans ho1)
  have HM := Lib.hid hm
  obtain ⟨d0, d1, d2, d3, e0, e1, e2, e3⟩ := tkAt_of hk1
  clear hr1 hk1 ho1 hm
  generalize hkd : T.kind = kd
  generalize htx : Pl.mk T.text = tx
  generalize her : T.err = er
  have HKD := Lib.hid hkd
  have HTX := Lib.hid htx
  have HER := Lib.hid her
  clear hkd htx her
  unfold tkc
  go_wp2
  have hput := tk_put (tk_put HK1.out (.int .i64 kd) (.string tx) (.int .i64 0) (.int .i64 0)) (.int .i64 kd) (.string tx) (.int .i64 0) (.int .i64 0)
  obtain ⟨f0, f1, f2, f3, -, -, -, -⟩ := tkAt_of hput
  refine bodyPost_ret (v := .tuple #[.agg (tkc kd tx 0 0), .int .i64 n, .int .i64 er]) (by simp [results, Tryz.results43, go_sem, f0, f1, f2, f3, tkc]) rfl ?_
  exact ⟨m, n, HM.out, fun _ => by rw [HP.out]; rfl, by rw [HKD.out, HTX.out, HER.out], rd_put (rd_put HR1.out hne _ _ _ _) hne _ _ _ _, only_put (only_put HO1.out (Nat.le_refl _) _ _ _ _) (Nat.le_refl _) _ _ _ _⟩
set_option maxRecDepth 100000 in
set_option maxHeartbeats 1000000 in
theorem token_text (b : Nat) (s : ByteArray) (n : Nat) (li st lim : Int) (w : World) (T : Pl.Tk) (h : Rd w b s n li st lim) (hn : n < s.size) (q0 : Pl.small (s[n].toNat : Int) = false) (q1 : Pl.capital (s[n].toNat : Int) = false) (q2 : ((s[n].toNat : Int) == 39) = false) (q3 : Pl.digit (s[n].toNat : Int) = false) (q4 : ((s[n].toNat : Int) == 34) = true)
    (hcall : ∀ W, Rd W b s n li st lim → Calls Tryz.prog 83 #[.pointer (some ⟨b, 0, none⟩)] W (TextPost b s n li st lim W T)) :
    Calls Tryz.prog 43 #[.pointer (some ⟨b, 0, none⟩)] w (TokenPost b s n li st lim w T) := by
  have hr := h.alloc (.cells #[.int .i64 0, .string ⟨#[]⟩, .int .i64 0, .int .i64 0] 45)
  have hk := blk_new w #[.int .i64 0, .string ⟨#[]⟩, .int .i64 0, .int .i64 0] 45
  have ho : Only b w (w.alloc (.cells #[.int .i64 0, .string ⟨#[]⟩, .int .i64 0, .int .i64 0] 45)) := (Only.refl b w).alloc _
  have hlt := h.lt
  have hne : b ≠ w.heap.size := Nat.ne_of_lt hlt
  have c0 := hr.c0
  have c1 := hr.c1
  have HC := Lib.hid hcall
  clear h hcall
  go_enter Tryz.func43, Tryz.ntmps43
  go_wp2
  generalize w.alloc (.cells #[.int .i64 0, .string ⟨#[]⟩, .int .i64 0, .int .i64 0] 45) = w0 at hr hk ho c0 c1 ⊢
  have HR := Lib.hid hr
  have HK := Lib.hid hk
  have HO := Lib.hid ho
  clear hr hk ho
  go_quiet (fail)
  clear c0 c1
  go_wp2_with (first | (go_at_call 77; refine (isSmall_any _ _).mono ?_; rintro e w' ⟨rfl, rfl⟩) | (go_at_call 78; refine (isCapital_any _ _).mono ?_; rintro e w' ⟨rfl, rfl⟩) | (go_at_call 81; refine (isDigit_any _ _).mono ?_; rintro e w' ⟨rfl, rfl⟩))
  refine (HC.out _ (HR.out.drewN _)).mono ?_
  rintro e w1 hpost
  obtain ⟨m, p, hm, hp, rfl, hr1, ho1⟩ := hpost
  have hk1 := ho1.blk (HK.out.drewN _) hne.symm
  have HR1 := Lib.hid hr1
  have HK1 := Lib.hid hk1
  have HO1 := Lib.hid ((HO.out.drewN _).trans ho1)
  have HM := Lib.hid hm
  have HP := Lib.hid hp
  obtain ⟨d0, d1, d2, d3, e0, e1, e2, e3⟩ := tkAt_of hk1
  clear hr1 hk1 ho1 hm hp
  generalize hkd : T.kind = kd
  generalize htx : Pl.mk T.text = tx
  generalize her : T.err = er
  have HKD := Lib.hid hkd
  have HTX := Lib.hid htx
  have HER := Lib.hid her
  clear hkd htx her
  unfold tkc
  go_wp2
  obtain ⟨f0, f1, f2, f3, -, -, -, -⟩ := tkAt_of (tk_put HK1.out (.int .i64 kd) (.string tx) (.int .i64 0) (.int .i64 0))
  refine bodyPost_ret (v := .tuple #[.agg (tkc kd tx 0 0), .int .i64 p, .int .i64 er]) (by simp [results, Tryz.results43, go_sem, f0, f1, f2, f3, tkc]) rfl ?_
  exact ⟨m, p, HM.out, fun h => (HP.out h).1, by rw [HKD.out, HTX.out, HER.out], rd_put HR1.out hne _ _ _ _, only_put HO1.out (Nat.le_refl _) _ _ _ _⟩
namespace Pl
theorem nameTok_pos (l : Bytes) : (nameTok l).pos = 0 := by unfold nameTok; split <;> rfl
theorem varTok_pos (l : Bytes) : (varTok l).pos = 0 := by
  unfold varTok
  split
  · split <;> rfl
  · rfl
theorem numTok_pos (l : Bytes) : (numTok l).pos = 0 := by unfold numTok; split <;> rfl
theorem symTok_pos (l : Bytes) : (symTok l).pos = 0 := by unfold symTok; split <;> rfl
theorem headIs_at (p : Int → Bool) (s : ByteArray) (n : Nat) (hn : n < s.size) : headIs p (s.toList.drop n) = p s[n].toNat := by rw [drop_cons s n hn]; rfl
end Pl
theorem token_any (b : Nat) (s : ByteArray) (n : Nat) (li st lim : Int) (w : World) (h : Rd w b s n li st lim) (hn : n < s.size) (hs : s.size ≤ 1000000) :
    Calls Tryz.prog 43 #[.pointer (some ⟨b, 0, none⟩)] w (TokenPost b s n li st lim w (Pl.tok (s.toList.drop n))) := by
  have hm : s.size ≤ maxLen := by unfold maxLen; omega
  have hd : (s.toList.drop n).drop 1 = s.toList.drop (n + 1) := by rw [List.drop_drop]
  unfold Pl.tok
  rw [Pl.headIs_at _ s n hn, Pl.headIs_at _ s n hn, Pl.headIs_at _ s n hn, Pl.headIs_at _ s n hn, Pl.headIs_at _ s n hn, hd]
  cases q0 : Pl.small (s[n].toNat : Int)
  · cases q1 : Pl.capital (s[n].toNat : Int)
    · by_cases h39 : (s[n].toNat : Int) = 39
      · rw [decide_eq_true h39]
        exact token_var b s n li st lim w _ h hn (Pl.varTok_pos _) q0 q1 (by rw [h39]; rfl) fun W hW => variable_any b s n li st lim W hW hn hm
      · have q2 : ((s[n].toNat : Int) == 39) = false := beq_eq_false_iff_ne.2 h39
        rw [decide_eq_false h39]
        cases q3 : Pl.digit (s[n].toNat : Int)
        · by_cases h34 : (s[n].toNat : Int) = 34
          · rw [decide_eq_true h34]
            exact token_text b s n li st lim w _ h hn q0 q1 q2 q3 (by rw [h34]; rfl) fun W hW => text_any b s n li st lim W hW hn hs
          · rw [decide_eq_false h34]
            exact token_symbol b s n li st lim w _ h hn (Pl.symTok_pos _) q0 q1 q2 q3 (beq_eq_false_iff_ne.2 h34) fun W hW => symbolTok_any b s n li st lim W hW (Nat.le_of_lt hn) hm
        · exact token_digit b s n li st lim w _ h hn (Pl.numTok_pos _) q0 q1 q2 q3 fun W hW => number_tok b s n li st lim W hW hn hm
    · exact token_capital b s n li st lim w _ h hn (Pl.nameTok_pos _) q0 q1 fun W hW => name_any b s n li st lim W hW hn hm (Pl.capital_inner _ q1)
  · exact token_small b s n li st lim w _ h hn (Pl.nameTok_pos _) q0 fun W hW => name_any b s n li st lim W hW hn hm (Pl.small_inner _ q0)
end Go.Proofs.YtjedahcpkcgpeaaGreatDoor

/-
  Walks of layer 2: comments, and what stands between tokens.
-/
namespace Go.Proofs.YtjedahcpkcgpeaaGreatDoor
open Go.RowKit
namespace Pl
def startAt (l : Bytes) (n : Nat) : Int := n + 1 - colAt l n
theorem startAt_range (l : Bytes) (n : Nat) : 0 ≤ startAt l n ∧ startAt l n ≤ n := by
  have := colAt_pos l n; unfold startAt; omega
theorem start_step (s : ByteArray) (i : Nat) (h : i < s.size) : startAt s.toList (i + 1) = if s[i] = 10 then ((i + 1 : Nat) : Int) else startAt s.toList i := by
  unfold startAt; rw [col_step s i h]; split <;> omega
theorem at_two (s : ByteArray) (n : Nat) (h : n + 1 < s.size) (h1 : s[n] ≠ 10) (h2 : s[n + 1] ≠ 10) : lineAt s.toList (n + 2) = lineAt s.toList n ∧ startAt s.toList (n + 2) = startAt s.toList n := by
  rw [line_step s (n + 1) h, line_step s n (by omega), start_step s (n + 1) h, start_step s n (by omega), if_neg h1, if_neg h2, if_neg h1, if_neg h2]
  exact ⟨rfl, rfl⟩
theorem at_on (l : Bytes) (i n : Nat) (hn : i + n ≤ l.length) (h : 10 ∉ (l.drop i).take n) : lineAt l (i + n) = lineAt l i ∧ startAt l (i + n) = startAt l i := by
  obtain ⟨h1, h2⟩ := place_on l i n hn h
  refine ⟨h1, ?_⟩
  unfold startAt; rw [h2]; omega
theorem opens_at (s : ByteArray) (n : Nat) : opens (s.toList.drop n) = true ↔ ∃ h : n + 1 < s.size, s[n] = 40 ∧ s[n + 1] = 42 := by
  by_cases h : n + 1 < s.size
  · rw [drop_cons s n (by omega), drop_cons s (n + 1) h]
    simp only [opens, List.isPrefixOf, Bool.and_true, Bool.and_eq_true, beq_iff_eq]
    constructor
    · rintro ⟨h1, h2⟩; exact ⟨h, h1.symm, h2.symm⟩
    · rintro ⟨_, h1, h2⟩; exact ⟨h1.symm, h2.symm⟩
  · constructor
    · intro ho
      exfalso
      have hp := (List.isPrefixOf_iff_prefix.1 ho).length_le
      rw [List.length_drop, len_size] at hp
      simp at hp; omega
    · rintro ⟨h', _⟩; exact absurd h' h
theorem closes_at (s : ByteArray) (n : Nat) : closes (s.toList.drop n) = true ↔ ∃ h : n + 1 < s.size, s[n] = 42 ∧ s[n + 1] = 41 := by
  by_cases h : n + 1 < s.size
  · rw [drop_cons s n (by omega), drop_cons s (n + 1) h]
    simp only [closes, List.isPrefixOf, Bool.and_true, Bool.and_eq_true, beq_iff_eq]
    constructor
    · rintro ⟨h1, h2⟩; exact ⟨h, h1.symm, h2.symm⟩
    · rintro ⟨_, h1, h2⟩; exact ⟨h1.symm, h2.symm⟩
  · constructor
    · intro ho
      exfalso
      have hp := (List.isPrefixOf_iff_prefix.1 ho).length_le
      rw [List.length_drop, len_size] at hp
      simp at hp; omega
    · rintro ⟨h', _⟩; exact absurd h' h
theorem com_end (s : ByteArray) (k d j : Nat) (h : s.size ≤ k) : com (s.toList.drop k) false d j = 0 := by
  rw [List.drop_eq_nil_of_le (by rw [len_size]; exact h)]; rfl
theorem com_open (s : ByteArray) (k d j : Nat) (h : opens (s.toList.drop k) = true) : com (s.toList.drop k) false d j = com (s.toList.drop (k + 2)) false (d + 1) (j + 2) := by
  obtain ⟨h1, _, _⟩ := (opens_at s k).1 h
  have e1 := drop_cons s k (by omega)
  have e2 := drop_cons s (k + 1) h1
  rw [e1] at h ⊢
  rw [com, if_pos h, e2, com, if_neg (by omega)]
theorem com_close (s : ByteArray) (k d j : Nat) (ho : opens (s.toList.drop k) = false) (h : closes (s.toList.drop k) = true) : com (s.toList.drop k) false d j = if d - 1 = 0 then j + 2 else com (s.toList.drop (k + 2)) false (d - 1) (j + 2) := by
  obtain ⟨h1, _, _⟩ := (closes_at s k).1 h
  have e1 := drop_cons s k (by omega)
  have e2 := drop_cons s (k + 1) h1
  rw [e1] at h ho ⊢
  rw [com, if_neg (by rw [ho]; simp), if_pos h, e2, com]
theorem com_step (s : ByteArray) (k d j : Nat) (hk : k < s.size) (ho : opens (s.toList.drop k) = false) (h : closes (s.toList.drop k) = false) : com (s.toList.drop k) false d j = com (s.toList.drop (k + 1)) false d (j + 1) := by
  have e1 := drop_cons s k hk
  rw [e1] at h ho ⊢
  rw [com, if_neg (by rw [ho]; simp), if_neg (by rw [h]; simp)]
end Pl
def RdAt (w : World) (b : Nat) (s : ByteArray) (n : Nat) (lim : Int) : Prop := Rd w b s n (Pl.lineAt s.toList n) (Pl.startAt s.toList n) lim
theorem pass_at (b : Nat) (s : ByteArray) (n : Nat) (lim : Int) (w : World) (h : RdAt w b s n lim) (hn : n < s.size) (hs : s.size ≤ 100000) :
    Calls Tryz.prog 76 #[.pointer (some ⟨b, 0, none⟩)] w fun e w' => e = .returned (.tuple #[]) ∧ RdAt w' b s (n + 1) lim ∧ Only b w w' := by
  have hl := Pl.lineAt_pos s.toList n
  refine (pass_any b s n _ _ lim w h hn (by unfold maxLen; omega) (by omega) (by omega)).mono ?_
  rintro e w' ⟨he, hr, ho⟩
  refine ⟨he, ?_, ho⟩
  rw [← Pl.line_step s n hn, ← Pl.start_step s n hn] at hr
  exact hr
def ComPost (b : Nat) (s : ByteArray) (n : Nat) (lim : Int) (w : World) (C : Nat) (e : Ending) (w' : World) : Prop :=
  ∃ m : Nat, m ≤ s.size ∧ (C ≠ 0 → m = n + C) ∧ e = .returned (.bool (decide (C ≠ 0))) ∧ RdAt w' b s m lim ∧ Only b w w'
theorem isAt_open (b : Nat) (s : ByteArray) (n : Nat) (lim : Int) (w : World) (h : RdAt w b s n lim) (hn : n ≤ s.size) :
    Calls Tryz.prog 73 #[.pointer (some ⟨b, 0, none⟩), .string ⟨#[40, 42]⟩] w fun e w' => e = .returned (.bool (Pl.opens (s.toList.drop n))) ∧ ∃ q, w' = w.drewN q := by
  have := isAt_any b s ⟨#[40, 42]⟩ n _ _ lim w h hn
  rw [show (⟨#[40, 42]⟩ : ByteArray) = Pl.mk [40, 42] from rfl, Pl.mk_toList] at this
  exact this
theorem isAt_close (b : Nat) (s : ByteArray) (n : Nat) (lim : Int) (w : World) (h : RdAt w b s n lim) (hn : n ≤ s.size) :
    Calls Tryz.prog 73 #[.pointer (some ⟨b, 0, none⟩), .string ⟨#[42, 41]⟩] w fun e w' => e = .returned (.bool (Pl.closes (s.toList.drop n))) ∧ ∃ q, w' = w.drewN q := by
  have := isAt_any b s ⟨#[42, 41]⟩ n _ _ lim w h hn
  rw [show (⟨#[42, 41]⟩ : ByteArray) = Pl.mk [42, 41] from rfl, Pl.mk_toList] at this
  exact this
theorem RdAt.two {w : World} {b : Nat} {s : ByteArray} {n : Nat} {lim : Int} (h : RdAt w b s n lim) (h1 : n + 1 < s.size) (g1 : s[n] ≠ 10) (g2 : s[n + 1] ≠ 10) : RdAt (w.setCell ⟨b, 1, none⟩ (.int .i64 ((n : Int) + 2))) b s (n + 2) lim := by
  obtain ⟨e1, e2⟩ := Pl.at_two s n h1 g1 g2
  unfold RdAt
  rw [e1, e2]
  exact Rd.next h _
set_option maxRecDepth 100000 in
set_option maxHeartbeats 2000000 in
theorem comment_any (b : Nat) (s : ByteArray) (n : Nat) (lim : Int) (w : World) (h : RdAt w b s n lim) (ho : Pl.opens (s.toList.drop n) = true) (hs : s.size ≤ 100000) :
    Calls Tryz.prog 74 #[.pointer (some ⟨b, 0, none⟩)] w (ComPost b s n lim w (Pl.com (s.toList.drop n) false 0 0)) := by
  obtain ⟨hn, -, -⟩ := (Pl.opens_at s n).1 ho
  generalize hC : Pl.com (s.toList.drop n) false 0 0 = C
  have HC := Lib.hid hC
  have HR := Lib.hid h
  have HO := Lib.hid ho
  clear hC h ho
  go_enter Tryz.func74, Tryz.ntmps74
  go_wp2
  go_loopg [3] (s.size + 1) (fun g d wr => ∃ (k j dd : Nat), k = n + j ∧ k ≤ s.size ∧ s.size + 1 ≤ k + g ∧ d = .int .i64 dd ∧ dd ≤ k ∧ (dd = 0 → Pl.opens (s.toList.drop k) = true) ∧ Pl.com (s.toList.drop k) false dd j = C ∧ RdAt wr b s k lim ∧ Only b w wr)
  case atStart => exact ⟨n, 0, 0, rfl, by omega, by omega, rfl, by omega, fun _ => HO.out, HC.out, HR.out, Only.refl _ _⟩
  case round =>
    obtain ⟨k, j, dd, hkj, hk, hg, rfl, hdk, hd0, hin, hr, hor⟩ := hrel
    have HKJ := Lib.hid hkj
    have HD0 := Lib.hid hd0
    have HOR := Lib.hid hor
    have HRR := Lib.hid hr
    have c0 := Rd.c0 hr
    have c1 := Rd.c1 hr
    clear hkj hd0 hor hr
    have x1 := Rd.thaw HRR.out 1
    by_cases hlt : k < s.size
    · cases ho : Pl.opens (s.toList.drop k)
      · have hcall1 := fun W (hW : RdAt W b s k lim) => isAt_open b s k lim W hW hk
        rw [ho] at hcall1
        have HC1 := Lib.hid hcall1
        have hdd : 1 ≤ dd := by
          rcases Nat.eq_zero_or_pos dd with h | h
          · have := HD0.out h; rw [ho] at this; cases this
          · exact h
        cases hc : Pl.closes (s.toList.drop k)
        · have HIN := Lib.hid ((Pl.com_step s k dd j hlt ho hc).symm.trans hin)
          have hcall2 := fun W (hW : RdAt W b s k lim) => isAt_close b s k lim W hW hk
          rw [hc] at hcall2
          have HC2 := Lib.hid hcall2
          clear hcall1 hcall2 ho hc hin
          go_wp2
          go_quiet (fail)
          clear c0 c1 x1
          go_wp2_with fail
          refine (HC1.out _ (HRR.out.drewN _)).mono ?_
          rintro e w' ⟨rfl, q1, rfl⟩
          go_wp2_with fail
          refine (HC2.out _ (HRR.out.drewN _)).mono ?_
          rintro e w' ⟨rfl, q2, rfl⟩
          go_wp2_with fail
          refine (pass_at b s k lim _ (HRR.out.drewN _) hlt hs).mono ?_
          rintro e w2 ⟨rfl, hr2, ho2⟩
          have HR2 := Lib.hid hr2
          have HO2 := Lib.hid ((HOR.out.drewN _).trans ho2)
          clear hr2 ho2
          go_wp2
          go_roundg (gk - 1)
          case measure => omega
          case rel => exact ⟨k + 1, j + 1, dd, by have := HKJ.out; omega, by omega, by omega, rfl, by omega, fun h => absurd h (by omega), HIN.out, HR2.out, HO2.out⟩
        · obtain ⟨hk1, g1, g2⟩ := (Pl.closes_at s k).1 hc
          have hcall2 := fun W (hW : RdAt W b s k lim) => isAt_close b s k lim W hW hk
          rw [hc] at hcall2
          have HC2 := Lib.hid hcall2
          have hst := Pl.com_close s k dd j ho hc
          have HTWO := Lib.hid (fun q => RdAt.two (w := wr.drewN q) (HRR.out.drewN q) hk1 (by rw [g1]; decide) (by rw [g2]; decide))
          by_cases h1 : dd = 1
          · have HIN := Lib.hid (hin.symm.trans (hst.trans (if_pos (by omega))))
            have t1 : ((dd : Int) - 1 == 0) = true := beq_iff_eq.2 (by omega)
            have H1 := Lib.hid h1
            clear hcall1 hcall2 ho hc hin hst g1 g2 h1
            go_wp2
            go_quiet (fail)
            clear c0
            go_wp2_with fail
            refine (HC1.out _ (HRR.out.drewN _)).mono ?_
            rintro e w' ⟨rfl, q1, rfl⟩
            go_wp2_with fail
            refine (HC2.out _ (HRR.out.drewN _)).mono ?_
            rintro e w' ⟨rfl, q2, rfl⟩
            go_wp2
            go_ret
            exact ⟨k + 2, by omega, fun _ => by rw [HIN.out]; have := HKJ.out; omega, ret_bool (by rw [HIN.out]; simp), HTWO.out _, (HOR.out.drewN _).setCell (.inl rfl) _⟩
          · have HIN := Lib.hid ((hst.trans (if_neg (by omega))).symm.trans hin)
            have t1 : ((dd : Int) - 1 == 0) = false := beq_eq_false_iff_ne.2 (by omega)
            clear hcall1 hcall2 ho hc hin hst g1 g2
            go_wp2
            go_quiet (fail)
            clear c0
            go_wp2_with fail
            refine (HC1.out _ (HRR.out.drewN _)).mono ?_
            rintro e w' ⟨rfl, q1, rfl⟩
            go_wp2_with fail
            refine (HC2.out _ (HRR.out.drewN _)).mono ?_
            rintro e w' ⟨rfl, q2, rfl⟩
            go_wp2
            go_roundg (gk - 1)
            case measure => omega
            case rel => exact ⟨k + 2, j + 2, dd - 1, by have := HKJ.out; omega, by omega, by omega, by congr 1; omega, by omega, fun h => absurd h (by omega), HIN.out, HTWO.out _, (HOR.out.drewN _).setCell (.inl rfl) _⟩
      · obtain ⟨hk1, g1, g2⟩ := (Pl.opens_at s k).1 ho
        have hcall1 := fun W (hW : RdAt W b s k lim) => isAt_open b s k lim W hW hk
        rw [ho] at hcall1
        have HC1 := Lib.hid hcall1
        have HIN := Lib.hid ((Pl.com_open s k dd j ho).symm.trans hin)
        have HTWO := Lib.hid (fun q => RdAt.two (w := wr.drewN q) (HRR.out.drewN q) hk1 (by rw [g1]; decide) (by rw [g2]; decide))
        clear hcall1 ho hin g1 g2
        go_wp2
        go_quiet (fail)
        clear c0
        go_wp2_with fail
        refine (HC1.out _ (HRR.out.drewN _)).mono ?_
        rintro e w' ⟨rfl, q1, rfl⟩
        go_wp2
        go_roundg (gk - 1)
        case measure => omega
        case rel => exact ⟨k + 2, j + 2, dd + 1, by have := HKJ.out; omega, by omega, by omega, by go_num, by omega, fun h => absurd h (by omega), HIN.out, HTWO.out _, (HOR.out.drewN _).setCell (.inl rfl) _⟩
    · have HIN := Lib.hid (hin.symm.trans (Pl.com_end s k dd j (by omega)))
      clear hin
      go_wp2
      go_quiet (fail)
      go_wp2
      go_ret
      exact ⟨k, hk, fun h => absurd HIN.out h, ret_bool (by rw [HIN.out]; rfl), HRR.out.drewN _, HOR.out.drewN _⟩
end Go.Proofs.YtjedahcpkcgpeaaGreatDoor
