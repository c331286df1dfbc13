/-
  Walks of layer 2: symbols.
-/
import Derived.Test.YtbmkbenlhkcklaaDoorLf
namespace Go.Proofs.YtbmkbenlhkcklaaDoor
open Go.RowKit
namespace Pl
theorem isSym_two (l : Bytes) (h : l.length = 2) : isSym l = sym2.contains l := by
  match l, h with
  | [a, b], _ => simp [isSym, sym1]
theorem isSym_one (l : Bytes) (h : l.length = 1) : isSym l = sym1.contains l := by
  match l, h with
  | [a], _ => simp [isSym, sym2]
theorem sym2_short (l : Bytes) (h : l.length < 2) : sym2.contains l = false := by
  match l, h with
  | [], _ => rfl
  | [a], _ => simp [sym2]
theorem sym1_nil : sym1.contains ([] : Bytes) = false := rfl
theorem symLen_two (l : Bytes) (h : 2 ≤ l.length) (ho : opens l = false) (hs : isSym (l.take 2) = true) : symLen l = 2 := by
  rw [isSym_two _ (by rw [List.length_take]; omega)] at hs
  unfold symLen; rw [ho, hs]; rfl
theorem symLen_one (l : Bytes) (h : 1 ≤ l.length) (ho : opens l = false) (h2 : 2 ≤ l.length → isSym (l.take 2) = false) (hs : isSym (l.take 1) = true) : symLen l = 1 := by
  rw [isSym_one _ (by rw [List.length_take]; omega)] at hs
  have h2' : sym2.contains (l.take 2) = false := by
    by_cases hl : 2 ≤ l.length
    · have := h2 hl; rwa [isSym_two _ (by rw [List.length_take]; omega)] at this
    · exact sym2_short _ (by rw [List.length_take]; omega)
  unfold symLen; rw [ho, h2', hs]; rfl
theorem symLen_none (l : Bytes) (ho : opens l = false) (h2 : 2 ≤ l.length → isSym (l.take 2) = false) (h1 : 1 ≤ l.length → isSym (l.take 1) = false) : symLen l = 0 := by
  have h2' : sym2.contains (l.take 2) = false := by
    by_cases hl : 2 ≤ l.length
    · have := h2 hl; rwa [isSym_two _ (by rw [List.length_take]; omega)] at this
    · exact sym2_short _ (by rw [List.length_take]; omega)
  have h1' : sym1.contains (l.take 1) = false := by
    by_cases hl : 1 ≤ l.length
    · have := h1 hl; rwa [isSym_one _ (by rw [List.length_take]; omega)] at this
    · have : l = [] := List.eq_nil_of_length_eq_zero (by omega)
      subst this; rfl
  unfold symLen; rw [ho, h2', h1']; rfl
theorem symLen_opens (l : Bytes) (ho : opens l = true) : symLen l = 0 := by unfold symLen; rw [ho]; rfl
theorem symLen_le (l : Bytes) : symLen l ≤ 2 := by unfold symLen; repeat' split
                                                   all_goals omega
theorem symLen_len (l : Bytes) : symLen l ≤ l.length := by
  unfold symLen
  split
  · omega
  · split
    · next h =>
      rcases Nat.lt_or_ge l.length 2 with hl | hl
      · rw [sym2_short _ (by rw [List.length_take]; omega)] at h; cases h
      · exact hl
    · split
      · next h =>
        rcases Nat.lt_or_ge l.length 1 with hl | hl
        · have : l = [] := List.eq_nil_of_length_eq_zero (by omega)
          subst this; cases h
        · exact hl
      · omega
end Pl

/-- what Symbol answers -/
def symOf (l : Pl.Bytes) : Value := .tuple #[.string (Pl.mk (l.take (Pl.symLen l))), .bool (decide (Pl.symLen l ≠ 0))]
theorem symOf_zero (l : Pl.Bytes) (h : Pl.symLen l = 0) : symOf l = .tuple #[.string ⟨#[]⟩, .bool false] := by
  unfold symOf; rw [h]; rfl
theorem symOf_pos (s : ByteArray) (k : Nat) (h : Pl.symLen s.toList = k) (hk : k ≠ 0) : symOf s.toList = .tuple #[.string (s.extract 0 k), .bool true] := by
  have e : s.extract 0 k = Pl.mk (s.toList.take k) := by
    have := extract_take s 0 k
    rw [Nat.zero_add] at this; exact this
  unfold symOf; rw [h, e, decide_eq_true hk]
theorem extract_zero (s : ByteArray) (k : Nat) : (s.extract 0 k).toList = s.toList.take k := by
  have := extract_take s 0 k
  rw [Nat.zero_add] at this
  rw [this, Pl.mk_toList]; rfl

set_option maxRecDepth 100000 in
set_option maxHeartbeats 1000000 in
theorem symbol_any (s : ByteArray) (w : World) (hs : s.size ≤ maxLen) :
    Calls Tryd.prog 47 #[.string s] w fun e w' => e = .returned (symOf s.toList) ∧ w = w' := by
  unfold maxLen at hs
  have hpre : ((⟨#[40, 42]⟩ : ByteArray).toList.isPrefixOf s.toList) = Pl.opens s.toList := by rw [show (⟨#[40, 42]⟩ : ByteArray) = Pl.mk [40, 42] from rfl, Pl.mk_toList]; rfl
  have hcall := hasPrefix_any s ⟨#[40, 42]⟩ w
  rw [hpre] at hcall
  cases ho : Pl.opens s.toList
  · rw [ho] at hcall
    have HC := Lib.hid hcall
    have H2 := Lib.hid (fun h => symOf_pos s 2 (Pl.symLen_two s.toList (by rw [Pl.len_size]; exact h.1) ho h.2) (by decide) : 2 ≤ s.size ∧ Pl.isSym (s.toList.take 2) = true → _)
    have H1 := Lib.hid (fun h => symOf_pos s 1 (Pl.symLen_one s.toList (by rw [Pl.len_size]; exact h.1) ho (by rw [Pl.len_size]; exact h.2.1) h.2.2) (by decide) : 1 ≤ s.size ∧ (2 ≤ s.size → Pl.isSym (s.toList.take 2) = false) ∧ Pl.isSym (s.toList.take 1) = true → _)
    have H0 := Lib.hid (fun h => symOf_zero s.toList (Pl.symLen_none s.toList ho (by rw [Pl.len_size]; exact h.1) (by rw [Pl.len_size]; exact h.2)) : (2 ≤ s.size → Pl.isSym (s.toList.take 2) = false) ∧ (1 ≤ s.size → Pl.isSym (s.toList.take 1) = false) → _)
    clear hpre hcall ho
    go_enter Tryd.func47, Tryd.ntmps47
    go_wp2_with fail
    refine HC.out.mono ?_
    rintro e w' ⟨rfl, rfl⟩
    go_wp2_with fail
    go_loop [4] (fun v => ∃ k : Nat, k ≤ 2 ∧ k ≤ s.size ∧ v = .int .i64 k ∧ ∀ j, k < j → j ≤ 2 → j ≤ s.size → Pl.isSym (s.toList.take j) = false) (fun v => (intOf v).toNat)
    case atStart => exact ⟨min 2 s.size, by omega, by omega, by congr 1; omega, fun j h1 h2 h3 => absurd h1 (by omega)⟩
    case round =>
      obtain ⟨k, hk2, hks, rfl, hin⟩ := hrel
      have HI := Lib.hid hin
      clear hin
      by_cases h0 : 0 < k
      · have hcall := isSymbol_any (s.extract 0 k) w
        rw [extract_zero] at hcall
        have hfin : Pl.isSym (s.toList.take k) = true → symOf s.toList = .tuple #[.string (s.extract 0 k), .bool true] := fun hk => by
          rcases (show k = 1 ∨ k = 2 by omega) with rfl | rfl
          · exact H1.out ⟨hks, fun h => HI.out 2 (by omega) (by omega) h, hk⟩
          · exact H2.out ⟨hks, hk⟩
        have HF := Lib.hid hfin
        clear hfin
        cases hp : Pl.isSym (s.toList.take k)
        · rw [hp] at hcall
          have HC := Lib.hid hcall
          have HP := Lib.hid hp
          clear hcall hp
          go_wp2_with (go_at_call 55; refine HC.out.mono ?_; rintro e w' ⟨rfl, rfl⟩)
          exact ⟨⟨k - 1, by omega, by omega, by congr 1; omega, fun j h1 h2 h3 => by
            rcases Nat.lt_or_ge k j with h | h
            · exact HI.out j h h2 h3
            · obtain rfl : j = k := by omega
              exact HP.out⟩, by simp [intOf]; omega⟩
        · rw [hp] at hcall
          have HC := Lib.hid hcall
          have HP := Lib.hid hp
          clear hcall hp
          go_wp2_with (go_at_call 55; refine HC.out.mono ?_; rintro e w' ⟨rfl, rfl⟩)
          go_ret2
          exact ⟨by rw [HF.out HP.out]; rfl, rfl⟩
      · have HF := Lib.hid (H0.out ⟨fun h => HI.out 2 (by omega) (by omega) h, fun h => HI.out 1 (by omega) (by omega) h⟩)
        go_wp2
        go_ret2
        exact ⟨by rw [HF.out]; rfl, rfl⟩
  · rw [ho] at hcall
    have HC := Lib.hid hcall
    have H0 := Lib.hid (symOf_zero _ (Pl.symLen_opens _ ho))
    clear hpre hcall ho
    go_enter Tryd.func47, Tryd.ntmps47
    go_wp2_with fail
    refine HC.out.mono ?_
    rintro e w' ⟨rfl, rfl⟩
    go_wp2
    go_ret2
    exact ⟨by rw [H0.out]; rfl, rfl⟩

/-- what symbol does with what Symbol answers -/
def symTk (ok : Bool) (z : ByteArray) : Pl.Tk := if ok then Pl.good 7 z.toList z.size else Pl.bad 3 0
set_option maxRecDepth 100000 in
set_option maxHeartbeats 1000000 in
theorem symbolTok_core (b : Nat) (s z : ByteArray) (n : Nat) (ok : Bool) (li st lim : Int) (w : World) (h : Rd w b s n li st lim) (hn : n ≤ s.size) (hs : s.size ≤ maxLen) (hz : n + z.size ≤ s.size)
    (hcall : ∀ W, Calls Tryd.prog 47 #[.string (s.extract n s.size)] W fun e w' => e = .returned (.tuple #[.string z, .bool ok]) ∧ W = w') :
    Calls Tryd.prog 36 #[.pointer (some ⟨b, 0, none⟩)] w (TokPost b s n li st lim w (symTk ok z)) := by
  unfold maxLen at hs
  have hr := h.alloc (.cells #[.int .i64 0, .string ⟨#[]⟩, .int .i64 0, .int .i64 0] 34)
  have hk := blk_new w #[.int .i64 0, .string ⟨#[]⟩, .int .i64 0, .int .i64 0] 34
  have ho : Only b w (w.alloc (.cells #[.int .i64 0, .string ⟨#[]⟩, .int .i64 0, .int .i64 0] 34)) := (Only.refl b w).alloc _
  have hlt := h.lt
  have hne : b ≠ w.heap.size := Nat.ne_of_lt hlt
  have HC := Lib.hid hcall
  clear h hcall
  go_enter Tryd.func36, Tryd.ntmps36
  go_wp2
  generalize w.alloc (.cells #[.int .i64 0, .string ⟨#[]⟩, .int .i64 0, .int .i64 0] 34) = w0 at hr hk ho ⊢
  have c0 := hr.c0
  have c1 := hr.c1
  have x1 := hr.thaw 1
  obtain ⟨d0, d1, d2, d3, e0, e1, e2, e3⟩ := tkAt_of hk
  have HR := Lib.hid hr
  have HK := Lib.hid hk
  have HO := Lib.hid ho
  clear hr hk ho
  cases ok
  · have HX := Lib.hid (show symTk false z = Pl.bad 3 0 from rfl)
    go_quiet ((go_at_call 47; exact Calls.quiet_of_same ((HC.out _).mono fun _ _ ⟨he, hw⟩ => ⟨he, hw.symm⟩)))
    go_wp2
    obtain ⟨f0, f1, f2, f3, -, -, -, -⟩ := tkAt_of (tk_put (HK.out.drewN nq) (.int .i64 0) (.string ⟨#[]⟩) (.int .i64 0) (.int .i64 0))
    refine bodyPost_ret (v := .tuple #[.agg (tkc 0 ⟨#[]⟩ 0 0), .int .i64 3]) (by simp [results, Tryd.results36, go_sem, f0, f1, f2, f3, tkc]) rfl ?_
    rw [HX.out]
    exact ⟨n, fun h => absurd h (by decide), rfl, rd_put (HR.out.drewN _) hne _ _ _ _, only_put (HO.out.drewN _) (Nat.le_refl _) _ _ _ _⟩
  · have HX := Lib.hid (show symTk true z = Pl.good 7 z.toList z.size from rfl)
    go_quiet ((go_at_call 47; exact Calls.quiet_of_same ((HC.out _).mono fun _ _ ⟨he, hw⟩ => ⟨he, hw.symm⟩)))
    go_wp2
    obtain ⟨f0, f1, f2, f3, -, -, -, -⟩ := tkAt_of (tk_put (((HK.out.drewN nq).other ⟨b, 1, none⟩ (.int .i64 ((n : Int) + (z.size : Int))) hne.symm)) (.int .i64 7) (.string z) (.int .i64 0) (.int .i64 0))
    refine bodyPost_ret (v := .tuple #[.agg (tkc 7 z 0 0), .int .i64 0]) (by simp [results, Tryd.results36, go_sem, f0, f1, f2, f3, tkc]) rfl ?_
    rw [HX.out]
    exact ⟨n + z.size, fun _ => rfl, by show _ = Ending.returned (.tuple #[.agg (tkc _ (Pl.mk z.toList) 0 0), _]); rw [Pl.mk_of]; rfl, rd_put ((HR.out.drewN _).next _) hne _ _ _ _, only_put ((HO.out.drewN _).setCell (.inl rfl) _) (Nat.le_refl _) _ _ _ _⟩
theorem symbolTok_any (b : Nat) (s : ByteArray) (n : Nat) (li st lim : Int) (w : World) (h : Rd w b s n li st lim) (hn : n ≤ s.size) (hs : s.size ≤ maxLen) :
    Calls Tryd.prog 36 #[.pointer (some ⟨b, 0, none⟩)] w (TokPost b s n li st lim w (Pl.symTok (s.toList.drop n))) := by
  have hsz : (s.extract n s.size).size ≤ maxLen := by rw [ByteArray.size_extract]; omega
  have hcall := fun W => symbol_any (s.extract n s.size) W hsz
  rw [Pl.extract_end] at hcall
  have hle := Pl.symLen_len (s.toList.drop n)
  rw [List.length_drop, Pl.len_size] at hle
  have hlt : ((s.toList.drop n).take (Pl.symLen (s.toList.drop n))).length = Pl.symLen (s.toList.drop n) := by
    rw [List.length_take, List.length_drop, Pl.len_size]; omega
  have e : symTk (decide (Pl.symLen (s.toList.drop n) ≠ 0)) (Pl.mk ((s.toList.drop n).take (Pl.symLen (s.toList.drop n)))) = Pl.symTok (s.toList.drop n) := by
    unfold symTk Pl.symTok
    rw [Pl.mk_toList, Pl.mk_size, hlt]
    by_cases h0 : Pl.symLen (s.toList.drop n) = 0
    · rw [decide_eq_false (by simpa using h0), if_pos h0]; rfl
    · rw [decide_eq_true h0, if_neg h0]; rfl
  rw [← e]
  exact symbolTok_core b s _ n _ li st lim w h hn hs (by rw [Pl.mk_size, hlt]; omega) hcall
end Go.Proofs.YtbmkbenlhkcklaaDoor
