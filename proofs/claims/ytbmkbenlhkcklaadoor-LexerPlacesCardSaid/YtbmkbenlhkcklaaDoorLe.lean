/-
  Walks of layer 2: the reader's small methods.
-/
import Derived.Test.YtbmkbenlhkcklaaDoorLd
namespace Go.Proofs.YtbmkbenlhkcklaaDoor
open Go.RowKit

set_option maxRecDepth 100000 in
set_option maxHeartbeats 400000 in
theorem place_any (b : Nat) (s : ByteArray) (n li st lim i : Int) (w : World) (h : Rd w b s n li st lim)
    (h1 : 0 ≤ st) (h2 : st ≤ i) (h3 : i ≤ 1000000) :
    Calls Tryd.prog 16 #[.pointer (some ⟨b, 0, none⟩), .int .i64 i] w fun e w' => e = .returned (.agg #[.int .i64 li, .int .i64 (i - st + 1)]) ∧ Below w.heap.size w w' := by
  have hr := h.alloc (.cells #[.int .i64 0, .int .i64 0] 25)
  have hn0 := blk_new w #[.int .i64 0, .int .i64 0] 25
  have hb1 : Below w.heap.size w (w.alloc (.cells #[.int .i64 0, .int .i64 0] 25)) := (Below.refl _ _).alloc (Nat.le_refl _) _
  clear h
  go_enter Tryd.func16, Tryd.ntmps16
  go_wp2
  generalize w.alloc (.cells #[.int .i64 0, .int .i64 0] 25) = w1 at hr hn0 hb1 ⊢
  refine wp_region_still_tail 12 (by kernel_rfl) (by kernel_rfl) ?_
  change wpStill _ _ w1.drew (fun a' => wpList _ _ _ _ a' w1.drew) _ _
  have hr := hr.drew
  have hn0 := hn0.drew
  have HB := Lib.hid hb1.drew
  clear hb1
  generalize w1.drew = wd at hr hn0 HB ⊢
  have c2 := hr.c2
  have c3 := hr.c3
  have d0 := hn0.cell 0 (.int .i64 0) rfl
  have d1 := hn0.cell 1 (.int .i64 0) rfl
  have e0 := hn0.thaw 0
  have e1 := hn0.thaw 1
  have hfin := (hn0.set 0 (.int .i64 li)).set 1 (.int .i64 (i - st + 1))
  have f0 := hfin.cell 0 (.int .i64 li) rfl
  have f1 := hfin.cell 1 (.int .i64 (i - st + 1)) rfl
  have F0 := Lib.hid f0
  have F1 := Lib.hid f1
  clear hr hn0 hfin f0 f1
  simp only [List.take_succ_cons, List.take_zero, List.drop_succ_cons, List.drop_zero]
  repeat still_step
  refine wpStill_nil ?_
  go_wp2
  have f0 := F0.out
  have f1 := F1.out
  exact bodyPost_ret (v := .agg #[.int .i64 li, .int .i64 (i - st + 1)]) (by simp [results, Tryd.results16, go_sem, f0, f1]) rfl ⟨rfl, (HB.out.setCell (Nat.le_refl _) _).setCell (Nat.le_refl _) _⟩

set_option maxRecDepth 100000 in
set_option maxHeartbeats 400000 in
theorem pass_any (b : Nat) (s : ByteArray) (n : Nat) (li st lim : Int) (w : World) (h : Rd w b s n li st lim) (hn : n < s.size) (hs : s.size ≤ maxLen) (hl0 : 0 ≤ li) (hl : li ≤ 1000000) :
    Calls Tryd.prog 28 #[.pointer (some ⟨b, 0, none⟩)] w fun e w' => e = .returned (.tuple #[]) ∧ Rd w' b s ((n + 1 : Nat) : Int) (if s[n] = 10 then li + 1 else li) (if s[n] = 10 then ((n + 1 : Nat) : Int) else st) lim ∧ Only b w w' := by
  unfold maxLen at hs
  have c0 := h.c0
  have c1 := h.c1
  have c2 := h.c2
  have c3 := h.c3
  have e1 := h.thaw 1
  have e2 := h.thaw 2
  have e3 := h.thaw 3
  have HR := Lib.hid h
  clear h
  by_cases hb : s[n] = 10
  · have hb2 : ((s[n].toNat : Int) == 10) = true := by rw [hb]; rfl
    have HB := Lib.hid hb
    clear hb
    go_enter Tryd.func28, Tryd.ntmps28
    go_wp2
    go_quiet (fail)
    go_wp2
    go_end0
    exact ⟨rfl, (((HR.out.drewN _).next _).line _).start _, ((((Only.refl b w).drewN _).setCell (.inl rfl) _).setCell (.inl rfl) _).setCell (.inl rfl) _⟩
  · have hb2 : ((s[n].toNat : Int) == 10) = false := beq_eq_false_iff_ne.2 (fun h => hb ((Pl.u8_eq _ _).2 h))
    have HB := Lib.hid hb
    clear hb
    go_enter Tryd.func28, Tryd.ntmps28
    go_wp2
    go_quiet (fail)
    go_wp2
    go_end0
    exact ⟨rfl, (HR.out.drewN _).next _, ((Only.refl b w).drewN _).setCell (.inl rfl) _⟩

set_option maxRecDepth 100000 in
set_option maxHeartbeats 400000 in
theorem isAt_any (b : Nat) (s p : ByteArray) (n : Nat) (li st lim : Int) (w : World) (h : Rd w b s n li st lim) (hn : n ≤ s.size) :
    Calls Tryd.prog 25 #[.pointer (some ⟨b, 0, none⟩), .string p] w fun e w' => e = .returned (.bool (p.toList.isPrefixOf (s.toList.drop n))) ∧ ∃ q, w' = w.drewN q := by
  have c0 := h.c0
  have c1 := h.c1
  have HX := Lib.hid (Pl.extract_end s n)
  clear h
  go_enter Tryd.func25, Tryd.ntmps25
  go_wp2
  go_quiet ((go_at_call 9; exact Calls.quiet_of_same ((hasPrefix_any _ _ _).mono fun _ _ ⟨he, hw⟩ => ⟨he, hw.symm⟩)))
  go_wp2
  go_ret
  exact ⟨ret_bool (by rw [HX.out]), _, rfl⟩

set_option maxRecDepth 100000 in
set_option maxHeartbeats 1000000 in
theorem takeName_any (b : Nat) (s : ByteArray) (n i : Nat) (li st lim : Int) (w : World) (h : Rd w b s n li st lim) (hn : n ≤ i) (hi : i ≤ s.size) (hs : s.size ≤ maxLen) :
    Calls Tryd.prog 42 #[.pointer (some ⟨b, 0, none⟩), .int .i64 i, .func (.func 43) #[] #[]] w fun e w' => e = .returned (.string (s.extract n (i + Pl.run Pl.innerB (s.toList.drop i)))) ∧ Rd w' b s ((i + Pl.run Pl.innerB (s.toList.drop i) : Nat) : Int) li st lim ∧ Only b w w' := by
  unfold maxLen at hs
  have c0 := h.c0
  have c1 := h.c1
  have e1 := h.thaw 1
  have HR := Lib.hid h
  have hbd := Pl.run_bound Pl.innerB s i hi
  generalize hj : i + Pl.run Pl.innerB (s.toList.drop i) = j at hbd ⊢
  have HJ := Lib.hid hj
  clear h hj
  go_enter Tryd.func42, Tryd.ntmps42
  go_wp2
  go_loop [1] (fun v => ∃ k : Nat, n ≤ k ∧ k ≤ s.size ∧ v = .int .i64 k ∧ k + Pl.run Pl.innerB (s.toList.drop k) = j) (fun v => s.size - (intOf v).toNat)
  case atStart => exact ⟨i, hn, hi, rfl, HJ.out⟩
  case round =>
    obtain ⟨k, hk0, hk, rfl, hin⟩ := hrel
    by_cases hlt : k < s.size
    · cases hp : Pl.inner (s[k].toNat : Int)
      · have hjk : j = k := by rw [Pl.run_miss _ s k hlt hp] at hin; omega
        subst hjk
        clear hin
        go_wp2_with (go_at_call 43; refine (isOfName_any _ _).mono ?_; rintro e w' ⟨rfl, rfl⟩)
        go_quiet (fail)
        go_wp2
        go_ret
        exact ⟨rfl, (HR.out.drewN _).next _, ((Only.refl b w).drewN _).setCell (.inl rfl) _⟩
      · have hin' : k + 1 + Pl.run Pl.innerB (s.toList.drop (k + 1)) = j := by rw [Pl.run_hit _ s k hlt hp] at hin; omega
        have HI := Lib.hid hin'
        clear hin hin'
        go_wp2_with (go_at_call 43; refine (isOfName_any _ _).mono ?_; rintro e w' ⟨rfl, rfl⟩)
        go_round
        case rel => exact ⟨k + 1, by omega, by omega, by go_num, HI.out⟩
        case measure => simp [intOf]; omega
    · have hjk : j = k := by rw [Pl.run_end _ s k (by omega)] at hin; omega
      subst hjk
      clear hin
      go_wp2
      go_quiet (fail)
      go_wp2
      go_ret
      exact ⟨rfl, (HR.out.drewN _).next _, ((Only.refl b w).drewN _).setCell (.inl rfl) _⟩

set_option maxRecDepth 100000 in
set_option maxHeartbeats 1000000 in
theorem takeDigit_any (b : Nat) (s : ByteArray) (n i : Nat) (li st lim : Int) (w : World) (h : Rd w b s n li st lim) (hn : n ≤ i) (hi : i ≤ s.size) (hs : s.size ≤ maxLen) :
    Calls Tryd.prog 42 #[.pointer (some ⟨b, 0, none⟩), .int .i64 i, .func (.func 33) #[] #[]] w fun e w' => e = .returned (.string (s.extract n (i + Pl.run Pl.digitB (s.toList.drop i)))) ∧ Rd w' b s ((i + Pl.run Pl.digitB (s.toList.drop i) : Nat) : Int) li st lim ∧ Only b w w' := by
  unfold maxLen at hs
  have c0 := h.c0
  have c1 := h.c1
  have e1 := h.thaw 1
  have HR := Lib.hid h
  have hbd := Pl.run_bound Pl.digitB s i hi
  generalize hj : i + Pl.run Pl.digitB (s.toList.drop i) = j at hbd ⊢
  have HJ := Lib.hid hj
  clear h hj
  go_enter Tryd.func42, Tryd.ntmps42
  go_wp2
  go_loop [1] (fun v => ∃ k : Nat, n ≤ k ∧ k ≤ s.size ∧ v = .int .i64 k ∧ k + Pl.run Pl.digitB (s.toList.drop k) = j) (fun v => s.size - (intOf v).toNat)
  case atStart => exact ⟨i, hn, hi, rfl, HJ.out⟩
  case round =>
    obtain ⟨k, hk0, hk, rfl, hin⟩ := hrel
    by_cases hlt : k < s.size
    · cases hp : Pl.digit (s[k].toNat : Int)
      · have hjk : j = k := by rw [Pl.run_miss _ s k hlt hp] at hin; omega
        subst hjk
        clear hin
        go_wp2_with (go_at_call 33; refine (isDigit_any _ _).mono ?_; rintro e w' ⟨rfl, rfl⟩)
        go_quiet (fail)
        go_wp2
        go_ret
        exact ⟨rfl, (HR.out.drewN _).next _, ((Only.refl b w).drewN _).setCell (.inl rfl) _⟩
      · have hin' : k + 1 + Pl.run Pl.digitB (s.toList.drop (k + 1)) = j := by rw [Pl.run_hit _ s k hlt hp] at hin; omega
        have HI := Lib.hid hin'
        clear hin hin'
        go_wp2_with (go_at_call 33; refine (isDigit_any _ _).mono ?_; rintro e w' ⟨rfl, rfl⟩)
        go_round
        case rel => exact ⟨k + 1, by omega, by omega, by go_num, HI.out⟩
        case measure => simp [intOf]; omega
    · have hjk : j = k := by rw [Pl.run_end _ s k (by omega)] at hin; omega
      subst hjk
      clear hin
      go_wp2
      go_quiet (fail)
      go_wp2
      go_ret
      exact ⟨rfl, (HR.out.drewN _).next _, ((Only.refl b w).drewN _).setCell (.inl rfl) _⟩
end Go.Proofs.YtbmkbenlhkcklaaDoor
