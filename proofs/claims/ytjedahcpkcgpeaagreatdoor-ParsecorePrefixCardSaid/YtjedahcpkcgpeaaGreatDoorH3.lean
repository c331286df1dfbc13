/-
  Walks and plain mathematics, several texts in one (Le Lf Lg).
-/
import Derived.Test.YtjedahcpkcgpeaaGreatDoorH2
/-
  Walks of layer 2: the reader's small methods.
-/
namespace Go.Proofs.YtjedahcpkcgpeaaGreatDoor
open Go.RowKit
set_option maxRecDepth 100000 in
set_option maxHeartbeats 400000 in
theorem place_any (b : Nat) (s : ByteArray) (n li st lim i : Int) (w : World) (h : Rd w b s n li st lim)
    (h1 : 0 ≤ st) (h2 : st ≤ i) (h3 : i ≤ 1000000) :
    Calls Tryz.prog 42 #[.pointer (some ⟨b, 0, none⟩), .int .i64 i] w fun e w' => e = .returned (.agg #[.int .i64 li, .int .i64 (i - st + 1)]) ∧ Below w.heap.size w w' := by
  have hr := h.alloc (.cells #[.int .i64 0, .int .i64 0] 29)
  have hn0 := blk_new w #[.int .i64 0, .int .i64 0] 29
  have hb1 : Below w.heap.size w (w.alloc (.cells #[.int .i64 0, .int .i64 0] 29)) := (Below.refl _ _).alloc (Nat.le_refl _) _
  clear h
  go_enter Tryz.func42, Tryz.ntmps42
  go_wp2
  generalize w.alloc (.cells #[.int .i64 0, .int .i64 0] 29) = w1 at hr hn0 hb1 ⊢
  refine wp_region_still_tail 12 (by kernel_rfl) (by kernel_rfl) ?_
  change wpStill _ _ w1.drew (fun a' => wpList _ _ _ _ a' w1.drew) _ _
  have hr := hr.drew
  have hn0 := hn0.drew
  have HB := Lib.hid hb1.drew
  clear hb1
  generalize w1.drew = wd at hr hn0 HB ⊢
  have c2 := hr.c2
  have c3 := hr.c3
  have d0 := hn0.cell 0 (.int .i64 0) rfl
  have d1 := hn0.cell 1 (.int .i64 0) rfl
  have e0 := hn0.thaw 0
  have e1 := hn0.thaw 1
  have hfin := (hn0.set 0 (.int .i64 li)).set 1 (.int .i64 (i - st + 1))
  have f0 := hfin.cell 0 (.int .i64 li) rfl
  have f1 := hfin.cell 1 (.int .i64 (i - st + 1)) rfl
  have F0 := Lib.hid f0
  have F1 := Lib.hid f1
  clear hr hn0 hfin f0 f1
  simp only [List.take_succ_cons, List.take_zero, List.drop_succ_cons, List.drop_zero]
  repeat still_step
  refine wpStill_nil ?_
  go_wp2
  have f0 := F0.out
  have f1 := F1.out
  exact bodyPost_ret (v := .agg #[.int .i64 li, .int .i64 (i - st + 1)]) (by simp [results, Tryz.results42, go_sem, f0, f1]) rfl ⟨rfl, (HB.out.setCell (Nat.le_refl _) _).setCell (Nat.le_refl _) _⟩
set_option maxRecDepth 100000 in
set_option maxHeartbeats 400000 in
theorem pass_any (b : Nat) (s : ByteArray) (n : Nat) (li st lim : Int) (w : World) (h : Rd w b s n li st lim) (hn : n < s.size) (hs : s.size ≤ maxLen) (hl0 : 0 ≤ li) (hl : li ≤ 1000000) :
    Calls Tryz.prog 76 #[.pointer (some ⟨b, 0, none⟩)] w fun e w' => e = .returned (.tuple #[]) ∧ Rd w' b s ((n + 1 : Nat) : Int) (if s[n] = 10 then li + 1 else li) (if s[n] = 10 then ((n + 1 : Nat) : Int) else st) lim ∧ Only b w w' := by
  unfold maxLen at hs
  have c0 := h.c0
  have c1 := h.c1
  have c2 := h.c2
  have c3 := h.c3
  have e1 := h.thaw 1
  have e2 := h.thaw 2
  have e3 := h.thaw 3
  have HR := Lib.hid h
  clear h
  by_cases hb : s[n] = 10
  · have hb2 : ((s[n].toNat : Int) == 10) = true := by rw [hb]; rfl
    have HB := Lib.hid hb
    clear hb
    go_enter Tryz.func76, Tryz.ntmps76
    go_wp2
    go_quiet (fail)
    go_wp2
    go_end0
    exact ⟨rfl, (((HR.out.drewN _).next _).line _).start _, ((((Only.refl b w).drewN _).setCell (.inl rfl) _).setCell (.inl rfl) _).setCell (.inl rfl) _⟩
  · have hb2 : ((s[n].toNat : Int) == 10) = false := beq_eq_false_iff_ne.2 (fun h => hb ((Pl.u8_eq _ _).2 h))
    have HB := Lib.hid hb
    clear hb
    go_enter Tryz.func76, Tryz.ntmps76
    go_wp2
    go_quiet (fail)
    go_wp2
    go_end0
    exact ⟨rfl, (HR.out.drewN _).next _, ((Only.refl b w).drewN _).setCell (.inl rfl) _⟩
set_option maxRecDepth 100000 in
set_option maxHeartbeats 400000 in
theorem isAt_any (b : Nat) (s p : ByteArray) (n : Nat) (li st lim : Int) (w : World) (h : Rd w b s n li st lim) (hn : n ≤ s.size) :
    Calls Tryz.prog 73 #[.pointer (some ⟨b, 0, none⟩), .string p] w fun e w' => e = .returned (.bool (p.toList.isPrefixOf (s.toList.drop n))) ∧ ∃ q, w' = w.drewN q := by
  have c0 := h.c0
  have c1 := h.c1
  have HX := Lib.hid (Pl.extract_end s n)
  clear h
  go_enter Tryz.func73, Tryz.ntmps73
  go_wp2
  go_quiet ((go_at_call 117; exact Calls.quiet_of_same ((hasPrefix_any _ _ _).mono fun _ _ ⟨he, hw⟩ => ⟨he, hw.symm⟩)))
  go_wp2
  go_ret
  exact ⟨ret_bool (by rw [HX.out]), _, rfl⟩
set_option maxRecDepth 100000 in
set_option maxHeartbeats 1000000 in
theorem takeName_any (b : Nat) (s : ByteArray) (n i : Nat) (li st lim : Int) (w : World) (h : Rd w b s n li st lim) (hn : n ≤ i) (hi : i ≤ s.size) (hs : s.size ≤ maxLen) :
    Calls Tryz.prog 118 #[.pointer (some ⟨b, 0, none⟩), .int .i64 i, .func (.func 119) #[] #[]] w fun e w' => e = .returned (.string (s.extract n (i + Pl.run Pl.innerB (s.toList.drop i)))) ∧ Rd w' b s ((i + Pl.run Pl.innerB (s.toList.drop i) : Nat) : Int) li st lim ∧ Only b w w' := by
  unfold maxLen at hs
  have c0 := h.c0
  have c1 := h.c1
  have e1 := h.thaw 1
  have HR := Lib.hid h
  have hbd := Pl.run_bound Pl.innerB s i hi
  generalize hj : i + Pl.run Pl.innerB (s.toList.drop i) = j at hbd ⊢
  have HJ := Lib.hid hj
  clear h hj
  go_enter Tryz.func118, Tryz.ntmps118
  go_wp2
  go_loop [1] (fun v => ∃ k : Nat, n ≤ k ∧ k ≤ s.size ∧ v = .int .i64 k ∧ k + Pl.run Pl.innerB (s.toList.drop k) = j) (fun v => s.size - (intOf v).toNat)
  case atStart => exact ⟨i, hn, hi, rfl, HJ.out⟩
  case round =>
    obtain ⟨k, hk0, hk, rfl, hin⟩ := hrel
    by_cases hlt : k < s.size
    · cases hp : Pl.inner (s[k].toNat : Int)
      · have hjk : j = k := by rw [Pl.run_miss _ s k hlt hp] at hin; omega
        subst hjk
        clear hin
        go_wp2_with (go_at_call 119; refine (isOfName_any _ _).mono ?_; rintro e w' ⟨rfl, rfl⟩)
        go_quiet (fail)
        go_wp2
        go_ret
        exact ⟨rfl, (HR.out.drewN _).next _, ((Only.refl b w).drewN _).setCell (.inl rfl) _⟩
      · have hin' : k + 1 + Pl.run Pl.innerB (s.toList.drop (k + 1)) = j := by rw [Pl.run_hit _ s k hlt hp] at hin; omega
        have HI := Lib.hid hin'
        clear hin hin'
        go_wp2_with (go_at_call 119; refine (isOfName_any _ _).mono ?_; rintro e w' ⟨rfl, rfl⟩)
        go_round
        case rel => exact ⟨k + 1, by omega, by omega, by go_num, HI.out⟩
        case measure => simp [intOf]; omega
    · have hjk : j = k := by rw [Pl.run_end _ s k (by omega)] at hin; omega
      subst hjk
      clear hin
      go_wp2
      go_quiet (fail)
      go_wp2
      go_ret
      exact ⟨rfl, (HR.out.drewN _).next _, ((Only.refl b w).drewN _).setCell (.inl rfl) _⟩
set_option maxRecDepth 100000 in
set_option maxHeartbeats 1000000 in
theorem takeDigit_any (b : Nat) (s : ByteArray) (n i : Nat) (li st lim : Int) (w : World) (h : Rd w b s n li st lim) (hn : n ≤ i) (hi : i ≤ s.size) (hs : s.size ≤ maxLen) :
    Calls Tryz.prog 118 #[.pointer (some ⟨b, 0, none⟩), .int .i64 i, .func (.func 81) #[] #[]] w fun e w' => e = .returned (.string (s.extract n (i + Pl.run Pl.digitB (s.toList.drop i)))) ∧ Rd w' b s ((i + Pl.run Pl.digitB (s.toList.drop i) : Nat) : Int) li st lim ∧ Only b w w' := by
  unfold maxLen at hs
  have c0 := h.c0
  have c1 := h.c1
  have e1 := h.thaw 1
  have HR := Lib.hid h
  have hbd := Pl.run_bound Pl.digitB s i hi
  generalize hj : i + Pl.run Pl.digitB (s.toList.drop i) = j at hbd ⊢
  have HJ := Lib.hid hj
  clear h hj
  go_enter Tryz.func118, Tryz.ntmps118
  go_wp2
  go_loop [1] (fun v => ∃ k : Nat, n ≤ k ∧ k ≤ s.size ∧ v = .int .i64 k ∧ k + Pl.run Pl.digitB (s.toList.drop k) = j) (fun v => s.size - (intOf v).toNat)
  case atStart => exact ⟨i, hn, hi, rfl, HJ.out⟩
  case round =>
    obtain ⟨k, hk0, hk, rfl, hin⟩ := hrel
    by_cases hlt : k < s.size
    · cases hp : Pl.digit (s[k].toNat : Int)
      · have hjk : j = k := by rw [Pl.run_miss _ s k hlt hp] at hin; omega
        subst hjk
        clear hin
        go_wp2_with (go_at_call 81; refine (isDigit_any _ _).mono ?_; rintro e w' ⟨rfl, rfl⟩)
        go_quiet (fail)
        go_wp2
        go_ret
        exact ⟨rfl, (HR.out.drewN _).next _, ((Only.refl b w).drewN _).setCell (.inl rfl) _⟩
      · have hin' : k + 1 + Pl.run Pl.digitB (s.toList.drop (k + 1)) = j := by rw [Pl.run_hit _ s k hlt hp] at hin; omega
        have HI := Lib.hid hin'
        clear hin hin'
        go_wp2_with (go_at_call 81; refine (isDigit_any _ _).mono ?_; rintro e w' ⟨rfl, rfl⟩)
        go_round
        case rel => exact ⟨k + 1, by omega, by omega, by go_num, HI.out⟩
        case measure => simp [intOf]; omega
    · have hjk : j = k := by rw [Pl.run_end _ s k (by omega)] at hin; omega
      subst hjk
      clear hin
      go_wp2
      go_quiet (fail)
      go_wp2
      go_ret
      exact ⟨rfl, (HR.out.drewN _).next _, ((Only.refl b w).drewN _).setCell (.inl rfl) _⟩
end Go.Proofs.YtjedahcpkcgpeaaGreatDoor

/-
  Walks of layer 2: the tokens that a reader reads, but for texts.
-/
namespace Go.Proofs.YtjedahcpkcgpeaaGreatDoor
open Go.RowKit
def tkc (k : Int) (t : ByteArray) (li co : Int) : Array Value := #[.int .i64 k, .string t, .int .i64 li, .int .i64 co]
structure TkAt (w : World) (g : Nat) (a c d e : Value) : Prop where
  c0 : w.cell? ⟨g, 0, none⟩ = some a
  c1 : w.cell? ⟨g, 1, none⟩ = some c
  c2 : w.cell? ⟨g, 2, none⟩ = some d
  c3 : w.cell? ⟨g, 3, none⟩ = some e
  e0 : w.frozen? ⟨g, 0, none⟩ = false
  e1 : w.frozen? ⟨g, 1, none⟩ = false
  e2 : w.frozen? ⟨g, 2, none⟩ = false
  e3 : w.frozen? ⟨g, 3, none⟩ = false
theorem tkAt_of {w : World} {g : Nat} {t : TypeId} {a c d e : Value} (h : Blk w g t #[a, c, d, e]) : TkAt w g a c d e :=
  ⟨h.cell 0 a rfl, h.cell 1 c rfl, h.cell 2 d rfl, h.cell 3 e rfl, h.thaw 0, h.thaw 1, h.thaw 2, h.thaw 3⟩
theorem tk_put {w : World} {g : Nat} {t : TypeId} {a c d e : Value} (h : Blk w g t #[a, c, d, e]) (a' c' d' e' : Value) :
    Blk ((((w.setCell ⟨g, 0, none⟩ a').setCell ⟨g, 1, none⟩ c').setCell ⟨g, 2, none⟩ d').setCell ⟨g, 3, none⟩ e') g t #[a', c', d', e'] :=
  (((h.set 0 a').set 1 c').set 2 d').set 3 e'
theorem only_put {b : Nat} {v w : World} {g : Nat} (h : Only b v w) (hg : v.heap.size ≤ g) (a' c' d' e' : Value) :
    Only b v ((((w.setCell ⟨g, 0, none⟩ a').setCell ⟨g, 1, none⟩ c').setCell ⟨g, 2, none⟩ d').setCell ⟨g, 3, none⟩ e') :=
  (((h.setCell (p := ⟨g, 0, none⟩) (.inr hg) a').setCell (p := ⟨g, 1, none⟩) (.inr hg) c').setCell (p := ⟨g, 2, none⟩) (.inr hg) d').setCell (p := ⟨g, 3, none⟩) (.inr hg) e'
theorem rd_put {w : World} {b g : Nat} {s : ByteArray} {n li st lim : Int} (h : Rd w b s n li st lim) (hg : b ≠ g) (a' c' d' e' : Value) :
    Rd ((((w.setCell ⟨g, 0, none⟩ a').setCell ⟨g, 1, none⟩ c').setCell ⟨g, 2, none⟩ d').setCell ⟨g, 3, none⟩ e') b s n li st lim :=
  (((h.other ⟨g, 0, none⟩ a' hg).other ⟨g, 1, none⟩ c' hg).other ⟨g, 2, none⟩ d' hg).other ⟨g, 3, none⟩ e' hg
def TokPost (b : Nat) (s : ByteArray) (n : Nat) (li st lim : Int) (w : World) (t : Pl.Tk) (e : Ending) (w' : World) : Prop :=
  ∃ m : Nat, (t.err = 0 → m = n + t.len) ∧ e = .returned (.tuple #[.agg (tkc t.kind (Pl.mk t.text) 0 0), .int .i64 t.err]) ∧ Rd w' b s m li st lim ∧ Only b w w'
theorem extract_take (s : ByteArray) (n k : Nat) : s.extract n (n + k) = Pl.mk ((s.toList.drop n).take k) := by
  rw [← Pl.mk_of (s.extract n (n + k)), Lib.extract_toList, ← Pl.toList_eq, Nat.add_sub_cancel_left]
def nameOf (z : ByteArray) (c : Int) : Pl.Tk := if 24 < z.size then Pl.bad 5 0 else Pl.good (if Pl.isKey z.toList then 6 else if Pl.capital c then 2 else 1) z.toList z.size
set_option maxRecDepth 100000 in
set_option maxHeartbeats 1000000 in
theorem name_core (b : Nat) (s z : ByteArray) (n m : Nat) (li st lim : Int) (w : World) (h : Rd w b s n li st lim) (h1 : 0 < z.size) (hz : z.size ≤ maxLen)
    (htake : ∀ W, Rd W b s n li st lim → Calls Tryz.prog 118 #[.pointer (some ⟨b, 0, none⟩), .int .i64 n, .func (.func 119) #[] #[]] W fun e w' => e = .returned (.string z) ∧ Rd w' b s m li st lim ∧ Only b W w')
    (hm : m = n + z.size) :
    Calls Tryz.prog 79 #[.pointer (some ⟨b, 0, none⟩)] w (TokPost b s n li st lim w (nameOf z z[0].toNat)) := by
  unfold maxLen at hz
  have HT := Lib.hid htake
  have HM := Lib.hid hm
  clear htake hm
  have hr := h.alloc (.cells #[.int .i64 0, .string ⟨#[]⟩, .int .i64 0, .int .i64 0] 45)
  have hk := blk_new w #[.int .i64 0, .string ⟨#[]⟩, .int .i64 0, .int .i64 0] 45
  have ho : Only b w (w.alloc (.cells #[.int .i64 0, .string ⟨#[]⟩, .int .i64 0, .int .i64 0] 45)) := (Only.refl b w).alloc _
  have hlt := h.lt
  have c0 := hr.c0
  have c1 := hr.c1
  have hne : b ≠ w.heap.size := Nat.ne_of_lt hlt
  have HR := Lib.hid hr
  have HK := Lib.hid hk
  have HO0 := Lib.hid ho
  clear h hr hk ho
  by_cases hl : 24 < z.size
  · have HX := Lib.hid (show nameOf z z[0].toNat = Pl.bad 5 0 from by unfold nameOf; rw [if_pos hl])
    have hl2 : decide ((24 : Int) < (z.size : Int)) = true := by simp; omega
    go_enter Tryz.func79, Tryz.ntmps79
    go_wp2_with fail
    refine (HT.out _ HR.out).mono ?_
    rintro e w1 ⟨rfl, hr1, ho1⟩
    have hk1 := ho1.blk HK.out (Ne.symm hne)
    have HO := Lib.hid (HO0.out.trans ho1)
    have HR1 := Lib.hid hr1
    have HK1 := Lib.hid hk1
    obtain ⟨d0, d1, d2, d3, e0, e1, e2, e3⟩ := tkAt_of hk1
    clear hk1 hr1 ho1 c0 c1
    go_wp2
    obtain ⟨f0, f1, f2, f3, -, -, -, -⟩ := tkAt_of (tk_put HK1.out (.int .i64 0) (.string ⟨#[]⟩) (.int .i64 0) (.int .i64 0))
    refine bodyPost_ret (v := .tuple #[.agg (tkc 0 ⟨#[]⟩ 0 0), .int .i64 5]) (by simp [results, Tryz.results79, go_sem, f0, f1, f2, f3, tkc]) rfl ?_
    rw [HX.out]
    exact ⟨m, fun h => absurd h (by decide), rfl, rd_put HR1.out hne _ _ _ _, only_put HO.out (Nat.le_refl _) _ _ _ _⟩
  · have hl2 : decide ((24 : Int) < (z.size : Int)) = false := by simp; omega
    cases hkey : Pl.isKey z.toList
    · cases hcap : Pl.capital (z[0].toNat : Int)
      · have HX := Lib.hid (show nameOf z z[0].toNat = Pl.good 1 z.toList z.size from by unfold nameOf; rw [if_neg hl, hkey, hcap]; rfl)
        go_enter Tryz.func79, Tryz.ntmps79
        go_wp2_with fail
        refine (HT.out _ HR.out).mono ?_
        rintro e w1 ⟨rfl, hr1, ho1⟩
        have hk1 := ho1.blk HK.out (Ne.symm hne)
        have HO := Lib.hid (HO0.out.trans ho1)
        have HR1 := Lib.hid hr1
        have HK1 := Lib.hid hk1
        obtain ⟨d0, d1, d2, d3, e0, e1, e2, e3⟩ := tkAt_of hk1
        clear hk1 hr1 ho1 c0 c1
        go_wp2_with (first | (go_at_call 49; refine (keyword_any _ _).mono ?_; rintro e w' ⟨rfl, rfl⟩) | (go_at_call 78; refine (isCapital_any _ _).mono ?_; rintro e w' ⟨rfl, rfl⟩))
        obtain ⟨f0, f1, f2, f3, -, -, -, -⟩ := tkAt_of (tk_put HK1.out (.int .i64 1) (.string z) (.int .i64 0) (.int .i64 0))
        refine bodyPost_ret (v := .tuple #[.agg (tkc 1 z 0 0), .int .i64 0]) (by simp [results, Tryz.results79, go_sem, f0, f1, f2, f3, tkc]) rfl ?_
        rw [HX.out]
        exact ⟨m, fun _ => HM.out, by show _ = Ending.returned (.tuple #[.agg (tkc _ (Pl.mk z.toList) 0 0), _]); rw [Pl.mk_of]; rfl, rd_put HR1.out hne _ _ _ _, only_put HO.out (Nat.le_refl _) _ _ _ _⟩
      · have HX := Lib.hid (show nameOf z z[0].toNat = Pl.good 2 z.toList z.size from by unfold nameOf; rw [if_neg hl, hkey, hcap]; rfl)
        go_enter Tryz.func79, Tryz.ntmps79
        go_wp2_with fail
        refine (HT.out _ HR.out).mono ?_
        rintro e w1 ⟨rfl, hr1, ho1⟩
        have hk1 := ho1.blk HK.out (Ne.symm hne)
        have HO := Lib.hid (HO0.out.trans ho1)
        have HR1 := Lib.hid hr1
        have HK1 := Lib.hid hk1
        obtain ⟨d0, d1, d2, d3, e0, e1, e2, e3⟩ := tkAt_of hk1
        clear hk1 hr1 ho1 c0 c1
        go_wp2_with (first | (go_at_call 49; refine (keyword_any _ _).mono ?_; rintro e w' ⟨rfl, rfl⟩) | (go_at_call 78; refine (isCapital_any _ _).mono ?_; rintro e w' ⟨rfl, rfl⟩))
        obtain ⟨f0, f1, f2, f3, -, -, -, -⟩ := tkAt_of (tk_put HK1.out (.int .i64 2) (.string z) (.int .i64 0) (.int .i64 0))
        refine bodyPost_ret (v := .tuple #[.agg (tkc 2 z 0 0), .int .i64 0]) (by simp [results, Tryz.results79, go_sem, f0, f1, f2, f3, tkc]) rfl ?_
        rw [HX.out]
        exact ⟨m, fun _ => HM.out, by show _ = Ending.returned (.tuple #[.agg (tkc _ (Pl.mk z.toList) 0 0), _]); rw [Pl.mk_of]; rfl, rd_put HR1.out hne _ _ _ _, only_put HO.out (Nat.le_refl _) _ _ _ _⟩
    · have HX := Lib.hid (show nameOf z z[0].toNat = Pl.good 6 z.toList z.size from by unfold nameOf; rw [if_neg hl, hkey]; rfl)
      go_enter Tryz.func79, Tryz.ntmps79
      go_wp2_with fail
      refine (HT.out _ HR.out).mono ?_
      rintro e w1 ⟨rfl, hr1, ho1⟩
      have hk1 := ho1.blk HK.out (Ne.symm hne)
      have HO := Lib.hid (HO0.out.trans ho1)
      have HR1 := Lib.hid hr1
      have HK1 := Lib.hid hk1
      obtain ⟨d0, d1, d2, d3, e0, e1, e2, e3⟩ := tkAt_of hk1
      clear hk1 hr1 ho1 c0 c1
      go_wp2_with (first | (go_at_call 49; refine (keyword_any _ _).mono ?_; rintro e w' ⟨rfl, rfl⟩) | (go_at_call 78; refine (isCapital_any _ _).mono ?_; rintro e w' ⟨rfl, rfl⟩))
      obtain ⟨f0, f1, f2, f3, -, -, -, -⟩ := tkAt_of (tk_put HK1.out (.int .i64 6) (.string z) (.int .i64 0) (.int .i64 0))
      refine bodyPost_ret (v := .tuple #[.agg (tkc 6 z 0 0), .int .i64 0]) (by simp [results, Tryz.results79, go_sem, f0, f1, f2, f3, tkc]) rfl ?_
      rw [HX.out]
      exact ⟨m, fun _ => HM.out, by show _ = Ending.returned (.tuple #[.agg (tkc _ (Pl.mk z.toList) 0 0), _]); rw [Pl.mk_of]; rfl, rd_put HR1.out hne _ _ _ _, only_put HO.out (Nat.le_refl _) _ _ _ _⟩
theorem name_any (b : Nat) (s : ByteArray) (n : Nat) (li st lim : Int) (w : World) (h : Rd w b s n li st lim) (hn : n < s.size) (hs : s.size ≤ maxLen) (hi : Pl.innerB s[n] = true) :
    Calls Tryz.prog 79 #[.pointer (some ⟨b, 0, none⟩)] w (TokPost b s n li st lim w (Pl.nameTok (s.toList.drop n))) := by
  have hbd := Pl.run_bound Pl.innerB s n (by omega)
  have hpos : 1 ≤ Pl.run Pl.innerB (s.toList.drop n) := by rw [Pl.run_hit _ s n hn hi]; omega
  have hx := extract_take s n (Pl.run Pl.innerB (s.toList.drop n))
  have hsz : (s.extract n (n + Pl.run Pl.innerB (s.toList.drop n))).size = Pl.run Pl.innerB (s.toList.drop n) := by rw [ByteArray.size_extract]; omega
  have hcap : Pl.headIs Pl.capital (s.toList.drop n) = Pl.capital s[n].toNat := by rw [Pl.drop_cons s n hn]; rfl
  have h0 : (s.extract n (n + Pl.run Pl.innerB (s.toList.drop n)))[0]'(by omega) = s[n] := by
    rw [ByteArray.getElem_extract]; simp
  have hc := name_core b s (s.extract n (n + Pl.run Pl.innerB (s.toList.drop n))) n (n + Pl.run Pl.innerB (s.toList.drop n)) li st lim w h (by omega) (by omega) (fun W hW => takeName_any b s n n li st lim W hW (Nat.le_refl n) (by omega) hs) (by omega)
  rw [h0] at hc
  have e : nameOf (s.extract n (n + Pl.run Pl.innerB (s.toList.drop n))) s[n].toNat = Pl.nameTok (s.toList.drop n) := by
    unfold nameOf Pl.nameTok
    rw [hsz, hx, Pl.mk_toList, hcap]
  rw [e] at hc
  exact hc
def varOf (z : ByteArray) : Pl.Tk := if 24 < z.size then Pl.bad 5 0 else Pl.good 3 z.toList z.size
set_option maxRecDepth 100000 in
set_option maxHeartbeats 1000000 in
theorem variable_core (b : Nat) (s z : ByteArray) (n m : Nat) (li st lim : Int) (w : World) (h : Rd w b s n li st lim) (hn : n + 1 < s.size) (hs : s.size ≤ maxLen) (hp : Pl.small s[n + 1].toNat = true) (hz : z.size ≤ maxLen)
    (htake : ∀ W, Rd W b s n li st lim → Calls Tryz.prog 118 #[.pointer (some ⟨b, 0, none⟩),   .int .i64 ((n : Int) + 1), .func (.func 119) #[] #[]] W fun e w' => e = .returned (.string z) ∧ Rd w' b s m li st lim ∧ Only b W w')
    (hm : m = n + z.size) :
    Calls Tryz.prog 80 #[.pointer (some ⟨b, 0, none⟩)] w (TokPost b s n li st lim w (varOf z)) := by
  unfold maxLen at hz hs
  have HT := Lib.hid htake
  have HM := Lib.hid hm
  clear htake hm
  have hq : ((n : Int) + 1 == (s.size : Int)) = false := beq_eq_false_iff_ne.2 (by omega)
  have g1 : (0 : Int) ≤ (n : Int) + 1 := by omega
  have g2 : (n : Int) + 1 < (s.size : Int) := by omega
  have hr := h.alloc (.cells #[.int .i64 0, .string ⟨#[]⟩, .int .i64 0, .int .i64 0] 45)
  have hk := blk_new w #[.int .i64 0, .string ⟨#[]⟩, .int .i64 0, .int .i64 0] 45
  have ho : Only b w (w.alloc (.cells #[.int .i64 0, .string ⟨#[]⟩, .int .i64 0, .int .i64 0] 45)) := (Only.refl b w).alloc _
  have hlt := h.lt
  have c0 := hr.c0
  have c1 := hr.c1
  have hne : b ≠ w.heap.size := Nat.ne_of_lt hlt
  have HR := Lib.hid hr
  have HK := Lib.hid hk
  have HO0 := Lib.hid ho
  clear h hr hk ho
  by_cases hl : 24 < z.size
  · have HX := Lib.hid (show varOf z = Pl.bad 5 0 from by unfold varOf; rw [if_pos hl])
    have hl2 : decide ((24 : Int) < (z.size : Int)) = true := by simp; omega
    go_enter Tryz.func80, Tryz.ntmps80
    go_wp2_with ((go_at_call 77; refine (isSmall_any _ _).mono ?_; rintro e w' ⟨rfl, rfl⟩))
    refine (HT.out _ HR.out).mono ?_
    rintro e w1 ⟨rfl, hr1, ho1⟩
    have hk1 := ho1.blk HK.out (Ne.symm hne)
    have HO := Lib.hid (HO0.out.trans ho1)
    have HR1 := Lib.hid hr1
    have HK1 := Lib.hid hk1
    obtain ⟨d0, d1, d2, d3, e0, e1, e2, e3⟩ := tkAt_of hk1
    clear hk1 hr1 ho1 c0 c1
    go_wp2
    obtain ⟨f0, f1, f2, f3, -, -, -, -⟩ := tkAt_of (tk_put HK1.out (.int .i64 0) (.string ⟨#[]⟩) (.int .i64 0) (.int .i64 0))
    refine bodyPost_ret (v := .tuple #[.agg (tkc 0 ⟨#[]⟩ 0 0), .int .i64 5]) (by simp [results, Tryz.results80, go_sem, f0, f1, f2, f3, tkc]) rfl ?_
    rw [HX.out]
    exact ⟨m, fun h => absurd h (by decide), rfl, rd_put HR1.out hne _ _ _ _, only_put HO.out (Nat.le_refl _) _ _ _ _⟩
  · have hl2 : decide ((24 : Int) < (z.size : Int)) = false := by simp; omega
    have HX := Lib.hid (show varOf z = Pl.good 3 z.toList z.size from by unfold varOf; rw [if_neg hl])
    go_enter Tryz.func80, Tryz.ntmps80
    go_wp2_with ((go_at_call 77; refine (isSmall_any _ _).mono ?_; rintro e w' ⟨rfl, rfl⟩))
    refine (HT.out _ HR.out).mono ?_
    rintro e w1 ⟨rfl, hr1, ho1⟩
    have hk1 := ho1.blk HK.out (Ne.symm hne)
    have HO := Lib.hid (HO0.out.trans ho1)
    have HR1 := Lib.hid hr1
    have HK1 := Lib.hid hk1
    obtain ⟨d0, d1, d2, d3, e0, e1, e2, e3⟩ := tkAt_of hk1
    clear hk1 hr1 ho1 c0 c1
    go_wp2
    obtain ⟨f0, f1, f2, f3, -, -, -, -⟩ := tkAt_of (tk_put HK1.out (.int .i64 3) (.string z) (.int .i64 0) (.int .i64 0))
    refine bodyPost_ret (v := .tuple #[.agg (tkc 3 z 0 0), .int .i64 0]) (by simp [results, Tryz.results80, go_sem, f0, f1, f2, f3, tkc]) rfl ?_
    rw [HX.out]
    exact ⟨m, fun _ => HM.out, by show _ = Ending.returned (.tuple #[.agg (tkc _ (Pl.mk z.toList) 0 0), _]); rw [Pl.mk_of]; rfl, rd_put HR1.out hne _ _ _ _, only_put HO.out (Nat.le_refl _) _ _ _ _⟩
set_option maxRecDepth 100000 in
set_option maxHeartbeats 1000000 in
theorem variable_none (b : Nat) (s : ByteArray) (n : Nat) (li st lim : Int) (w : World) (h : Rd w b s n li st lim) (hn : n < s.size) (hs : s.size ≤ maxLen) (hp : n + 1 = s.size ∨ ∃ hh : n + 1 < s.size, Pl.small s[n + 1].toNat = false) :
    Calls Tryz.prog 80 #[.pointer (some ⟨b, 0, none⟩)] w (TokPost b s n li st lim w (Pl.bad 3 0)) := by
  unfold maxLen at hs
  have hr := h.alloc (.cells #[.int .i64 0, .string ⟨#[]⟩, .int .i64 0, .int .i64 0] 45)
  have hk := blk_new w #[.int .i64 0, .string ⟨#[]⟩, .int .i64 0, .int .i64 0] 45
  have ho : Only b w (w.alloc (.cells #[.int .i64 0, .string ⟨#[]⟩, .int .i64 0, .int .i64 0] 45)) := (Only.refl b w).alloc _
  have hlt := h.lt
  have c0 := hr.c0
  have c1 := hr.c1
  have hne : b ≠ w.heap.size := Nat.ne_of_lt hlt
  have HR := Lib.hid hr
  have HK := Lib.hid hk
  have HO0 := Lib.hid ho
  clear h hr hk ho
  obtain ⟨d0, d1, d2, d3, e0, e1, e2, e3⟩ := tkAt_of HK.out
  rcases hp with hp | ⟨hh, hp⟩
  · have hq : ((n : Int) + 1 == (s.size : Int)) = true := beq_iff_eq.2 (by omega)
    have HP := Lib.hid hp
    clear hp
    go_enter Tryz.func80, Tryz.ntmps80
    go_wp2
    refine bodyPost_ret (v := .tuple #[.agg (tkc 0 ⟨#[]⟩ 0 0), .int .i64 3]) (by simp [results, Tryz.results80, go_sem, tkc]) rfl ?_
    exact ⟨n, fun h => absurd h (by decide), rfl, HR.out, HO0.out⟩
  · have hq : ((n : Int) + 1 == (s.size : Int)) = false := beq_eq_false_iff_ne.2 (by omega)
    have g1 : (0 : Int) ≤ (n : Int) + 1 := by omega
    have g2 : (n : Int) + 1 < (s.size : Int) := by omega
    go_enter Tryz.func80, Tryz.ntmps80
    go_wp2_with ((go_at_call 77; refine (isSmall_any _ _).mono ?_; rintro e w' ⟨rfl, rfl⟩))
    refine bodyPost_ret (v := .tuple #[.agg (tkc 0 ⟨#[]⟩ 0 0), .int .i64 3]) (by simp [results, Tryz.results80, go_sem, tkc]) rfl ?_
    exact ⟨n, fun h => absurd h (by decide), rfl, HR.out, HO0.out⟩
theorem variable_any (b : Nat) (s : ByteArray) (n : Nat) (li st lim : Int) (w : World) (h : Rd w b s n li st lim) (hn : n < s.size) (hs : s.size ≤ maxLen) :
    Calls Tryz.prog 80 #[.pointer (some ⟨b, 0, none⟩)] w (TokPost b s n li st lim w (Pl.varTok (s.toList.drop n))) := by
  have hd : (s.toList.drop n).drop 1 = s.toList.drop (n + 1) := by rw [List.drop_drop]
  by_cases h1 : n + 1 < s.size
  · have hh : Pl.headIs Pl.small (s.toList.drop (n + 1)) = Pl.small s[n + 1].toNat := by rw [Pl.drop_cons s (n + 1) h1]; rfl
    cases hp : Pl.small (s[n + 1].toNat : Int)
    · have e : Pl.varTok (s.toList.drop n) = Pl.bad 3 0 := by unfold Pl.varTok; rw [hd, hh, hp]; rfl
      rw [e]
      exact variable_none b s n li st lim w h hn hs (.inr ⟨h1, hp⟩)
    · have hbd := Pl.run_bound Pl.innerB s (n + 1) (by omega)
      have hx := extract_take s n (Pl.run Pl.innerB (s.toList.drop (n + 1)) + 1)
      have hj : n + 1 + Pl.run Pl.innerB (s.toList.drop (n + 1)) = n + (Pl.run Pl.innerB (s.toList.drop (n + 1)) + 1) := by omega
      have hsz : (s.extract n (n + (Pl.run Pl.innerB (s.toList.drop (n + 1)) + 1))).size = Pl.run Pl.innerB (s.toList.drop (n + 1)) + 1 := by rw [ByteArray.size_extract]; omega
      have ht := fun W (hW : Rd W b s n li st lim) => takeName_any b s n (n + 1) li st lim W hW (by omega) (by omega) hs
      rw [hj] at ht
      have hc := variable_core b s (s.extract n (n + (Pl.run Pl.innerB (s.toList.drop (n + 1)) + 1))) n (n + (Pl.run Pl.innerB (s.toList.drop (n + 1)) + 1)) li st lim w h h1 hs hp (by omega) ht (by omega)
      have e : varOf (s.extract n (n + (Pl.run Pl.innerB (s.toList.drop (n + 1)) + 1))) = Pl.varTok (s.toList.drop n) := by
        unfold varOf Pl.varTok
        rw [hsz, hx, Pl.mk_toList, hd, hh, hp]; rfl
      rw [e] at hc
      exact hc
  · have hh : s.toList.drop (n + 1) = [] := List.drop_eq_nil_of_le (by rw [Pl.len_size]; omega)
    have e : Pl.varTok (s.toList.drop n) = Pl.bad 3 0 := by unfold Pl.varTok; rw [hd, hh]; rfl
    rw [e]
    exact variable_none b s n li st lim w h hn hs (.inl (by omega))
def numOf (z : ByteArray) : Pl.Tk := if (Pl.number z.toList).2 = 0 then Pl.good 4 z.toList z.size else Pl.bad (Pl.number z.toList).2 0
set_option maxRecDepth 100000 in
set_option maxHeartbeats 1000000 in
theorem number_core (b : Nat) (s z : ByteArray) (n m : Nat) (li st lim : Int) (w : World) (h : Rd w b s n li st lim) (hz : z.size ≤ maxLen)
    (htake : ∀ W, Rd W b s n li st lim → Calls Tryz.prog 118 #[.pointer (some ⟨b, 0, none⟩), .int .i64 n, .func (.func 81) #[] #[]] W fun e w' => e = .returned (.string z) ∧ Rd w' b s m li st lim ∧ Only b W w')
    (hm : m = n + z.size) :
    Calls Tryz.prog 82 #[.pointer (some ⟨b, 0, none⟩)] w (TokPost b s n li st lim w (numOf z)) := by
  have hnum := fun W => number_any z W hz
  have hX : numOf z = if (Pl.number z.toList).2 = 0 then Pl.good 4 z.toList z.size else Pl.bad (Pl.number z.toList).2 0 := rfl
  generalize (Pl.number z.toList).1 = q at hnum
  generalize (Pl.number z.toList).2 = er at hnum hX
  have HT := Lib.hid htake
  have HM := Lib.hid hm
  have HN := Lib.hid hnum
  clear htake hm hnum
  have hr := h.alloc (.cells #[.int .i64 0, .string ⟨#[]⟩, .int .i64 0, .int .i64 0] 45)
  have hk := blk_new w #[.int .i64 0, .string ⟨#[]⟩, .int .i64 0, .int .i64 0] 45
  have ho : Only b w (w.alloc (.cells #[.int .i64 0, .string ⟨#[]⟩, .int .i64 0, .int .i64 0] 45)) := (Only.refl b w).alloc _
  have hlt := h.lt
  have c0 := hr.c0
  have c1 := hr.c1
  have hne : b ≠ w.heap.size := Nat.ne_of_lt hlt
  have HR := Lib.hid hr
  have HK := Lib.hid hk
  have HO0 := Lib.hid ho
  clear h hr hk ho
  by_cases hl : er = 0
  · have HX := Lib.hid (show numOf z = Pl.good 4 z.toList z.size from by rw [hX, if_pos hl])
    have t1 : (er != 0) = false := by rw [hl]; rfl
    subst hl
    clear hX
    go_enter Tryz.func82, Tryz.ntmps82
    go_wp2_with fail
    refine (HT.out _ HR.out).mono ?_
    rintro e w1 ⟨rfl, hr1, ho1⟩
    have hk1 := ho1.blk HK.out (Ne.symm hne)
    have HO := Lib.hid (HO0.out.trans ho1)
    have HR1 := Lib.hid hr1
    have HK1 := Lib.hid hk1
    obtain ⟨d0, d1, d2, d3, e0, e1, e2, e3⟩ := tkAt_of hk1
    clear hk1 hr1 ho1 c0 c1
    go_wp2_with fail
    refine (HN.out _).mono ?_
    rintro e w' ⟨rfl, rfl⟩
    go_wp2
    obtain ⟨f0, f1, f2, f3, -, -, -, -⟩ := tkAt_of (tk_put HK1.out (.int .i64 4) (.string z) (.int .i64 0) (.int .i64 0))
    refine bodyPost_ret (v := .tuple #[.agg (tkc 4 z 0 0), .int .i64 0]) (by simp [results, Tryz.results82, go_sem, f0, f1, f2, f3, tkc]) rfl ?_
    rw [HX.out]
    exact ⟨m, fun _ => HM.out, by show _ = Ending.returned (.tuple #[.agg (tkc _ (Pl.mk z.toList) 0 0), _]); rw [Pl.mk_of]; rfl, rd_put HR1.out hne _ _ _ _, only_put HO.out (Nat.le_refl _) _ _ _ _⟩
  · have HX := Lib.hid (show numOf z = Pl.bad er 0 from by rw [hX, if_neg hl])
    have t1 : (er != 0) = true := by simpa using hl
    have HL := Lib.hid hl
    clear hX hl
    go_enter Tryz.func82, Tryz.ntmps82
    go_wp2_with fail
    refine (HT.out _ HR.out).mono ?_
    rintro e w1 ⟨rfl, hr1, ho1⟩
    have hk1 := ho1.blk HK.out (Ne.symm hne)
    have HO := Lib.hid (HO0.out.trans ho1)
    have HR1 := Lib.hid hr1
    have HK1 := Lib.hid hk1
    obtain ⟨d0, d1, d2, d3, e0, e1, e2, e3⟩ := tkAt_of hk1
    clear hk1 hr1 ho1 c0 c1
    go_wp2_with fail
    refine (HN.out _).mono ?_
    rintro e w' ⟨rfl, rfl⟩
    go_wp2
    obtain ⟨f0, f1, f2, f3, -, -, -, -⟩ := tkAt_of (tk_put HK1.out (.int .i64 0) (.string ⟨#[]⟩) (.int .i64 0) (.int .i64 0))
    refine bodyPost_ret (v := .tuple #[.agg (tkc 0 ⟨#[]⟩ 0 0), .int .i64 er]) (by simp [results, Tryz.results82, go_sem, f0, f1, f2, f3, tkc]) rfl ?_
    rw [HX.out]
    exact ⟨m, fun h => absurd h HL.out, rfl, rd_put HR1.out hne _ _ _ _, only_put HO.out (Nat.le_refl _) _ _ _ _⟩
theorem number_tok (b : Nat) (s : ByteArray) (n : Nat) (li st lim : Int) (w : World) (h : Rd w b s n li st lim) (hn : n < s.size) (hs : s.size ≤ maxLen) :
    Calls Tryz.prog 82 #[.pointer (some ⟨b, 0, none⟩)] w (TokPost b s n li st lim w (Pl.numTok (s.toList.drop n))) := by
  have hbd := Pl.run_bound Pl.digitB s n (by omega)
  have hx := extract_take s n (Pl.run Pl.digitB (s.toList.drop n))
  have hsz : (s.extract n (n + Pl.run Pl.digitB (s.toList.drop n))).size = Pl.run Pl.digitB (s.toList.drop n) := by rw [ByteArray.size_extract]; omega
  have hc := number_core b s (s.extract n (n + Pl.run Pl.digitB (s.toList.drop n))) n (n + Pl.run Pl.digitB (s.toList.drop n)) li st lim w h (by omega) (fun W hW => takeDigit_any b s n n li st lim W hW (Nat.le_refl n) (by omega) hs) (by omega)
  have e : numOf (s.extract n (n + Pl.run Pl.digitB (s.toList.drop n))) = Pl.numTok (s.toList.drop n) := by
    unfold numOf Pl.numTok
    rw [hsz, hx, Pl.mk_toList]
  rw [e] at hc
  exact hc
end Go.Proofs.YtjedahcpkcgpeaaGreatDoor

/-
  Walks of layer 2: symbols.
-/
namespace Go.Proofs.YtjedahcpkcgpeaaGreatDoor
open Go.RowKit
namespace Pl
theorem isSym_two (l : Bytes) (h : l.length = 2) : isSym l = sym2.contains l := by
  match l, h with
  | [a, b], _ => simp [isSym, sym1]
theorem isSym_one (l : Bytes) (h : l.length = 1) : isSym l = sym1.contains l := by
  match l, h with
  | [a], _ => simp [isSym, sym2]
theorem sym2_short (l : Bytes) (h : l.length < 2) : sym2.contains l = false := by
  match l, h with
  | [], _ => rfl
  | [a], _ => simp [sym2]
theorem symLen_two (l : Bytes) (h : 2 ≤ l.length) (ho : opens l = false) (hs : isSym (l.take 2) = true) : symLen l = 2 := by
  rw [isSym_two _ (by rw [List.length_take]; omega)] at hs
  unfold symLen; rw [ho, hs]; rfl
theorem symLen_one (l : Bytes) (h : 1 ≤ l.length) (ho : opens l = false) (h2 : 2 ≤ l.length → isSym (l.take 2) = false) (hs : isSym (l.take 1) = true) : symLen l = 1 := by
  rw [isSym_one _ (by rw [List.length_take]; omega)] at hs
  have h2' : sym2.contains (l.take 2) = false := by
    by_cases hl : 2 ≤ l.length
    · have := h2 hl; rwa [isSym_two _ (by rw [List.length_take]; omega)] at this
    · exact sym2_short _ (by rw [List.length_take]; omega)
  unfold symLen; rw [ho, h2', hs]; rfl
theorem symLen_none (l : Bytes) (ho : opens l = false) (h2 : 2 ≤ l.length → isSym (l.take 2) = false) (h1 : 1 ≤ l.length → isSym (l.take 1) = false) : symLen l = 0 := by
  have h2' : sym2.contains (l.take 2) = false := by
    by_cases hl : 2 ≤ l.length
    · have := h2 hl; rwa [isSym_two _ (by rw [List.length_take]; omega)] at this
    · exact sym2_short _ (by rw [List.length_take]; omega)
  have h1' : sym1.contains (l.take 1) = false := by
    by_cases hl : 1 ≤ l.length
    · have := h1 hl; rwa [isSym_one _ (by rw [List.length_take]; omega)] at this
    · have : l = [] := List.eq_nil_of_length_eq_zero (by omega)
      subst this; rfl
  unfold symLen; rw [ho, h2', h1']; rfl
theorem symLen_opens (l : Bytes) (ho : opens l = true) : symLen l = 0 := by unfold symLen; rw [ho]; rfl
theorem symLen_len (l : Bytes) : symLen l ≤ l.length := by
  unfold symLen
  split
  · omega
  · split
    · next h =>
      rcases Nat.lt_or_ge l.length 2 with hl | hl
      · rw [sym2_short _ (by rw [List.length_take]; omega)] at h; cases h
      · exact hl
    · split
      · next h =>
        rcases Nat.lt_or_ge l.length 1 with hl | hl
        · have : l = [] := List.eq_nil_of_length_eq_zero (by omega)
          subst this; cases h
        · exact hl
      · omega
end Pl
def symOf (l : Pl.Bytes) : Value := .tuple #[.string (Pl.mk (l.take (Pl.symLen l))), .bool (decide (Pl.symLen l ≠ 0))]
theorem symOf_zero (l : Pl.Bytes) (h : Pl.symLen l = 0) : symOf l = .tuple #[.string ⟨#[]⟩, .bool false] := by
  unfold symOf; rw [h]; rfl
theorem symOf_pos (s : ByteArray) (k : Nat) (h : Pl.symLen s.toList = k) (hk : k ≠ 0) : symOf s.toList = .tuple #[.string (s.extract 0 k), .bool true] := by
  have e : s.extract 0 k = Pl.mk (s.toList.take k) := by
    have := extract_take s 0 k
    rw [Nat.zero_add] at this; exact this
  unfold symOf; rw [h, e, decide_eq_true hk]
theorem extract_zero (s : ByteArray) (k : Nat) : (s.extract 0 k).toList = s.toList.take k := by
  have := extract_take s 0 k
  rw [Nat.zero_add] at this
  rw [this, Pl.mk_toList]; rfl
set_option maxRecDepth 100000 in
set_option maxHeartbeats 1000000 in
theorem symbol_any (s : ByteArray) (w : World) (hs : s.size ≤ maxLen) :
    Calls Tryz.prog 121 #[.string s] w fun e w' => e = .returned (symOf s.toList) ∧ w = w' := by
  unfold maxLen at hs
  have hpre : ((⟨#[40, 42]⟩ : ByteArray).toList.isPrefixOf s.toList) = Pl.opens s.toList := by rw [show (⟨#[40, 42]⟩ : ByteArray) = Pl.mk [40, 42] from rfl, Pl.mk_toList]; rfl
  have hcall := hasPrefix_any s ⟨#[40, 42]⟩ w
  rw [hpre] at hcall
  cases ho : Pl.opens s.toList
  · rw [ho] at hcall
    have HC := Lib.hid hcall
    have H2 := Lib.hid (fun h => symOf_pos s 2 (Pl.symLen_two s.toList (by rw [Pl.len_size]; exact h.1) ho h.2) (by decide) : 2 ≤ s.size ∧ Pl.isSym (s.toList.take 2) = true → _)
    have H1 := Lib.hid (fun h => symOf_pos s 1 (Pl.symLen_one s.toList (by rw [Pl.len_size]; exact h.1) ho (by rw [Pl.len_size]; exact h.2.1) h.2.2) (by decide) : 1 ≤ s.size ∧ (2 ≤ s.size → Pl.isSym (s.toList.take 2) = false) ∧ Pl.isSym (s.toList.take 1) = true → _)
    have H0 := Lib.hid (fun h => symOf_zero s.toList (Pl.symLen_none s.toList ho (by rw [Pl.len_size]; exact h.1) (by rw [Pl.len_size]; exact h.2)) : (2 ≤ s.size → Pl.isSym (s.toList.take 2) = false) ∧ (1 ≤ s.size → Pl.isSym (s.toList.take 1) = false) → _)
    clear hpre hcall ho
    go_enter Tryz.func121, Tryz.ntmps121
    go_wp2_with fail
    refine HC.out.mono ?_
    rintro e w' ⟨rfl, rfl⟩
    go_wp2_with fail
    go_loop [4] (fun v => ∃ k : Nat, k ≤ 2 ∧ k ≤ s.size ∧ v = .int .i64 k ∧ ∀ j, k < j → j ≤ 2 → j ≤ s.size → Pl.isSym (s.toList.take j) = false) (fun v => (intOf v).toNat)
    case atStart => exact ⟨min 2 s.size, by omega, by omega, by congr 1; omega, fun j h1 h2 h3 => absurd h1 (by omega)⟩
    case round =>
      obtain ⟨k, hk2, hks, rfl, hin⟩ := hrel
      have HI := Lib.hid hin
      clear hin
      by_cases h0 : 0 < k
      · have hcall := isSymbol_any (s.extract 0 k) w
        rw [extract_zero] at hcall
        have hfin : Pl.isSym (s.toList.take k) = true → symOf s.toList = .tuple #[.string (s.extract 0 k), .bool true] := fun hk => by
          rcases (show k = 1 ∨ k = 2 by omega) with rfl | rfl
          · exact H1.out ⟨hks, fun h => HI.out 2 (by omega) (by omega) h, hk⟩
          · exact H2.out ⟨hks, hk⟩
        have HF := Lib.hid hfin
        clear hfin
        cases hp : Pl.isSym (s.toList.take k)
        · rw [hp] at hcall
          have HC := Lib.hid hcall
          have HP := Lib.hid hp
          clear hcall hp
          go_wp2_with (go_at_call 50; refine HC.out.mono ?_; rintro e w' ⟨rfl, rfl⟩)
          exact ⟨⟨k - 1, by omega, by omega, by congr 1; omega, fun j h1 h2 h3 => by
            rcases Nat.lt_or_ge k j with h | h
            · exact HI.out j h h2 h3
            · obtain rfl : j = k := by omega
              exact HP.out⟩, by simp [intOf]; omega⟩
        · rw [hp] at hcall
          have HC := Lib.hid hcall
          have HP := Lib.hid hp
          clear hcall hp
          go_wp2_with (go_at_call 50; refine HC.out.mono ?_; rintro e w' ⟨rfl, rfl⟩)
          go_ret2
          exact ⟨by rw [HF.out HP.out]; rfl, rfl⟩
      · have HF := Lib.hid (H0.out ⟨fun h => HI.out 2 (by omega) (by omega) h, fun h => HI.out 1 (by omega) (by omega) h⟩)
        go_wp2
        go_ret2
        exact ⟨by rw [HF.out]; rfl, rfl⟩
  · rw [ho] at hcall
    have HC := Lib.hid hcall
    have H0 := Lib.hid (symOf_zero _ (Pl.symLen_opens _ ho))
    clear hpre hcall ho
    go_enter Tryz.func121, Tryz.ntmps121
    go_wp2_with fail
    refine HC.out.mono ?_
    rintro e w' ⟨rfl, rfl⟩
    go_wp2
    go_ret2
    exact ⟨by rw [H0.out]; rfl, rfl⟩
def symTk (ok : Bool) (z : ByteArray) : Pl.Tk := if ok then Pl.good 7 z.toList z.size else Pl.bad 3 0
set_option maxRecDepth 100000 in
set_option maxHeartbeats 1000000 in
theorem symbolTok_core (b : Nat) (s z : ByteArray) (n : Nat) (ok : Bool) (li st lim : Int) (w : World) (h : Rd w b s n li st lim) (hn : n ≤ s.size) (hs : s.size ≤ maxLen) (hz : n + z.size ≤ s.size)
    (hcall : ∀ W, Calls Tryz.prog 121 #[.string (s.extract n s.size)] W fun e w' => e = .returned (.tuple #[.string z, .bool ok]) ∧ W = w') :
    Calls Tryz.prog 84 #[.pointer (some ⟨b, 0, none⟩)] w (TokPost b s n li st lim w (symTk ok z)) := by
  unfold maxLen at hs
  have hr := h.alloc (.cells #[.int .i64 0, .string ⟨#[]⟩, .int .i64 0, .int .i64 0] 45)
  have hk := blk_new w #[.int .i64 0, .string ⟨#[]⟩, .int .i64 0, .int .i64 0] 45
  have ho : Only b w (w.alloc (.cells #[.int .i64 0, .string ⟨#[]⟩, .int .i64 0, .int .i64 0] 45)) := (Only.refl b w).alloc _
  have hlt := h.lt
  have hne : b ≠ w.heap.size := Nat.ne_of_lt hlt
  have HC := Lib.hid hcall
  clear h hcall
  go_enter Tryz.func84, Tryz.ntmps84
  go_wp2
  generalize w.alloc (.cells #[.int .i64 0, .string ⟨#[]⟩, .int .i64 0, .int .i64 0] 45) = w0 at hr hk ho ⊢
  have c0 := hr.c0
  have c1 := hr.c1
  have x1 := hr.thaw 1
  obtain ⟨d0, d1, d2, d3, e0, e1, e2, e3⟩ := tkAt_of hk
  have HR := Lib.hid hr
  have HK := Lib.hid hk
  have HO := Lib.hid ho
  clear hr hk ho
  cases ok
  · have HX := Lib.hid (show symTk false z = Pl.bad 3 0 from rfl)
    go_quiet ((go_at_call 121; exact Calls.quiet_of_same ((HC.out _).mono fun _ _ ⟨he, hw⟩ => ⟨he, hw.symm⟩)))
    go_wp2
    obtain ⟨f0, f1, f2, f3, -, -, -, -⟩ := tkAt_of (tk_put (HK.out.drewN nq) (.int .i64 0) (.string ⟨#[]⟩) (.int .i64 0) (.int .i64 0))
    refine bodyPost_ret (v := .tuple #[.agg (tkc 0 ⟨#[]⟩ 0 0), .int .i64 3]) (by simp [results, Tryz.results84, go_sem, f0, f1, f2, f3, tkc]) rfl ?_
    rw [HX.out]
    exact ⟨n, fun h => absurd h (by decide), rfl, rd_put (HR.out.drewN _) hne _ _ _ _, only_put (HO.out.drewN _) (Nat.le_refl _) _ _ _ _⟩
  · have HX := Lib.hid (show symTk true z = Pl.good 7 z.toList z.size from rfl)
    go_quiet ((go_at_call 121; exact Calls.quiet_of_same ((HC.out _).mono fun _ _ ⟨he, hw⟩ => ⟨he, hw.symm⟩)))
    go_wp2
    obtain ⟨f0, f1, f2, f3, -, -, -, -⟩ := tkAt_of (tk_put (((HK.out.drewN nq).other ⟨b, 1, none⟩ (.int .i64 ((n : Int) + (z.size : Int))) hne.symm)) (.int .i64 7) (.string z) (.int .i64 0) (.int .i64 0))
    refine bodyPost_ret (v := .tuple #[.agg (tkc 7 z 0 0), .int .i64 0]) (by simp [results, Tryz.results84, go_sem, f0, f1, f2, f3, tkc]) rfl ?_
    rw [HX.out]
    exact ⟨n + z.size, fun _ => rfl, by show _ = Ending.returned (.tuple #[.agg (tkc _ (Pl.mk z.toList) 0 0), _]); rw [Pl.mk_of]; rfl, rd_put ((HR.out.drewN _).next _) hne _ _ _ _, only_put ((HO.out.drewN _).setCell (.inl rfl) _) (Nat.le_refl _) _ _ _ _⟩
theorem symbolTok_any (b : Nat) (s : ByteArray) (n : Nat) (li st lim : Int) (w : World) (h : Rd w b s n li st lim) (hn : n ≤ s.size) (hs : s.size ≤ maxLen) :
    Calls Tryz.prog 84 #[.pointer (some ⟨b, 0, none⟩)] w (TokPost b s n li st lim w (Pl.symTok (s.toList.drop n))) := by
  have hsz : (s.extract n s.size).size ≤ maxLen := by rw [ByteArray.size_extract]; omega
  have hcall := fun W => symbol_any (s.extract n s.size) W hsz
  rw [Pl.extract_end] at hcall
  have hle := Pl.symLen_len (s.toList.drop n)
  rw [List.length_drop, Pl.len_size] at hle
  have hlt : ((s.toList.drop n).take (Pl.symLen (s.toList.drop n))).length = Pl.symLen (s.toList.drop n) := by
    rw [List.length_take, List.length_drop, Pl.len_size]; omega
  have e : symTk (decide (Pl.symLen (s.toList.drop n) ≠ 0)) (Pl.mk ((s.toList.drop n).take (Pl.symLen (s.toList.drop n)))) = Pl.symTok (s.toList.drop n) := by
    unfold symTk Pl.symTok
    rw [Pl.mk_toList, Pl.mk_size, hlt]
    by_cases h0 : Pl.symLen (s.toList.drop n) = 0
    · rw [decide_eq_false (by simpa using h0), if_pos h0]; rfl
    · rw [decide_eq_true h0, if_neg h0]; rfl
  rw [← e]
  exact symbolTok_core b s _ n _ li st lim w h hn hs (by rw [Pl.mk_size, hlt]; omega) hcall
end Go.Proofs.YtjedahcpkcgpeaaGreatDoor
