/-
  Walks and plain mathematics, several texts in one (Lg Lh).
-/
import Derived.Test.YtkmgnibopmpcjaaGreatDoorH4
import Derived.RegionTactic
import Derived.ChangeAlike
/-
  Walks of layer 2: symbols.
-/
namespace Go.Proofs.YtkmgnibopmpcjaaGreatDoor
open Go.RowKit
namespace Pl
theorem isSym_two (l : Bytes) (h : l.length = 2) : isSym l = sym2.contains l := by
  match l, h with
  | [a, b], _ => simp [isSym, sym1]
theorem isSym_one (l : Bytes) (h : l.length = 1) : isSym l = sym1.contains l := by
  match l, h with
  | [a], _ => simp [isSym, sym2]
theorem sym2_short (l : Bytes) (h : l.length < 2) : sym2.contains l = false := by
  match l, h with
  | [], _ => rfl
  | [a], _ => simp [sym2]
theorem symLen_two (l : Bytes) (h : 2 ≤ l.length) (ho : opens l = false) (hs : isSym (l.take 2) = true) : symLen l = 2 := by
  rw [isSym_two _ (by rw [List.length_take]; omega)] at hs
  unfold symLen; rw [ho, hs]; rfl
theorem symLen_one (l : Bytes) (h : 1 ≤ l.length) (ho : opens l = false) (h2 : 2 ≤ l.length → isSym (l.take 2) = false) (hs : isSym (l.take 1) = true) : symLen l = 1 := by
  rw [isSym_one _ (by rw [List.length_take]; omega)] at hs
  have h2' : sym2.contains (l.take 2) = false := by
    by_cases hl : 2 ≤ l.length
    · have := h2 hl; rwa [isSym_two _ (by rw [List.length_take]; omega)] at this
    · exact sym2_short _ (by rw [List.length_take]; omega)
  unfold symLen; rw [ho, h2', hs]; rfl
theorem symLen_none (l : Bytes) (ho : opens l = false) (h2 : 2 ≤ l.length → isSym (l.take 2) = false) (h1 : 1 ≤ l.length → isSym (l.take 1) = false) : symLen l = 0 := by
  have h2' : sym2.contains (l.take 2) = false := by
    by_cases hl : 2 ≤ l.length
    · have := h2 hl; rwa [isSym_two _ (by rw [List.length_take]; omega)] at this
    · exact sym2_short _ (by rw [List.length_take]; omega)
  have h1' : sym1.contains (l.take 1) = false := by
    by_cases hl : 1 ≤ l.length
    · have := h1 hl; rwa [isSym_one _ (by rw [List.length_take]; omega)] at this
    · have : l = [] := List.eq_nil_of_length_eq_zero (by omega)
      subst this; rfl
  unfold symLen; rw [ho, h2', h1']; rfl
theorem symLen_opens (l : Bytes) (ho : opens l = true) : symLen l = 0 := by unfold symLen; rw [ho]; rfl
theorem symLen_len (l : Bytes) : symLen l ≤ l.length := by
  unfold symLen
  split
  · omega
  · split
    · next h =>
      rcases Nat.lt_or_ge l.length 2 with hl | hl
      · rw [sym2_short _ (by rw [List.length_take]; omega)] at h; cases h
      · exact hl
    · split
      · next h =>
        rcases Nat.lt_or_ge l.length 1 with hl | hl
        · have : l = [] := List.eq_nil_of_length_eq_zero (by omega)
          subst this; cases h
        · exact hl
      · omega
end Pl
def symOf (l : Pl.Bytes) : Value := .tuple #[.string (Pl.mk (l.take (Pl.symLen l))), .bool (decide (Pl.symLen l ≠ 0))]
theorem symOf_zero (l : Pl.Bytes) (h : Pl.symLen l = 0) : symOf l = .tuple #[.string ⟨#[]⟩, .bool false] := by
  unfold symOf; rw [h]; rfl
theorem symOf_pos (s : ByteArray) (k : Nat) (h : Pl.symLen s.toList = k) (hk : k ≠ 0) : symOf s.toList = .tuple #[.string (s.extract 0 k), .bool true] := by
  have e : s.extract 0 k = Pl.mk (s.toList.take k) := by
    have := extract_take s 0 k
    rw [Nat.zero_add] at this; exact this
  unfold symOf; rw [h, e, decide_eq_true hk]
theorem extract_zero (s : ByteArray) (k : Nat) : (s.extract 0 k).toList = s.toList.take k := by
  have := extract_take s 0 k
  rw [Nat.zero_add] at this
  rw [this, Pl.mk_toList]; rfl
set_option maxRecDepth 100000 in
set_option maxHeartbeats 1000000 in
theorem symbol_any (s : ByteArray) (w : World) (hs : s.size ≤ maxLen) :
    Calls Tryz.prog 212 #[.string s] w fun e w' => e = .returned (symOf s.toList) ∧ w = w' := by
  unfold maxLen at hs
  have hpre : ((⟨#[40, 42]⟩ : ByteArray).toList.isPrefixOf s.toList) = Pl.opens s.toList := by rw [show (⟨#[40, 42]⟩ : ByteArray) = Pl.mk [40, 42] from rfl, Pl.mk_toList]; rfl
  have hcall := hasPrefix_any s ⟨#[40, 42]⟩ w
  rw [hpre] at hcall
  cases ho : Pl.opens s.toList
  · rw [ho] at hcall
    have HC := Lib.hid hcall
    have H2 := Lib.hid (fun h => symOf_pos s 2 (Pl.symLen_two s.toList (by rw [Pl.len_size]; exact h.1) ho h.2) (by decide) : 2 ≤ s.size ∧ Pl.isSym (s.toList.take 2) = true → _)
    have H1 := Lib.hid (fun h => symOf_pos s 1 (Pl.symLen_one s.toList (by rw [Pl.len_size]; exact h.1) ho (by rw [Pl.len_size]; exact h.2.1) h.2.2) (by decide) : 1 ≤ s.size ∧ (2 ≤ s.size → Pl.isSym (s.toList.take 2) = false) ∧ Pl.isSym (s.toList.take 1) = true → _)
    have H0 := Lib.hid (fun h => symOf_zero s.toList (Pl.symLen_none s.toList ho (by rw [Pl.len_size]; exact h.1) (by rw [Pl.len_size]; exact h.2)) : (2 ≤ s.size → Pl.isSym (s.toList.take 2) = false) ∧ (1 ≤ s.size → Pl.isSym (s.toList.take 1) = false) → _)
    clear hpre hcall ho
    go_enter Tryz.func212, Tryz.ntmps212
    go_wp2_with fail
    refine HC.out.mono ?_
    rintro e w' ⟨rfl, rfl⟩
    go_wp2_with fail
    go_loop [4] (fun v => ∃ k : Nat, k ≤ 2 ∧ k ≤ s.size ∧ v = .int .i64 k ∧ ∀ j, k < j → j ≤ 2 → j ≤ s.size → Pl.isSym (s.toList.take j) = false) (fun v => (intOf v).toNat)
    case atStart => exact ⟨min 2 s.size, by omega, by omega, by congr 1; omega, fun j h1 h2 h3 => absurd h1 (by omega)⟩
    case round =>
      obtain ⟨k, hk2, hks, rfl, hin⟩ := hrel
      have HI := Lib.hid hin
      clear hin
      by_cases h0 : 0 < k
      · have hcall := isSymbol_any (s.extract 0 k) w
        rw [extract_zero] at hcall
        have hfin : Pl.isSym (s.toList.take k) = true → symOf s.toList = .tuple #[.string (s.extract 0 k), .bool true] := fun hk => by
          rcases (show k = 1 ∨ k = 2 by omega) with rfl | rfl
          · exact H1.out ⟨hks, fun h => HI.out 2 (by omega) (by omega) h, hk⟩
          · exact H2.out ⟨hks, hk⟩
        have HF := Lib.hid hfin
        clear hfin
        cases hp : Pl.isSym (s.toList.take k)
        · rw [hp] at hcall
          have HC := Lib.hid hcall
          have HP := Lib.hid hp
          clear hcall hp
          go_wp2_with (go_at_call 106; refine HC.out.mono ?_; rintro e w' ⟨rfl, rfl⟩)
          exact ⟨⟨k - 1, by omega, by omega, by congr 1; omega, fun j h1 h2 h3 => by
            rcases Nat.lt_or_ge k j with h | h
            · exact HI.out j h h2 h3
            · obtain rfl : j = k := by omega
              exact HP.out⟩, by simp [intOf]; omega⟩
        · rw [hp] at hcall
          have HC := Lib.hid hcall
          have HP := Lib.hid hp
          clear hcall hp
          go_wp2_with (go_at_call 106; refine HC.out.mono ?_; rintro e w' ⟨rfl, rfl⟩)
          go_ret2
          exact ⟨by rw [HF.out HP.out]; rfl, rfl⟩
      · have HF := Lib.hid (H0.out ⟨fun h => HI.out 2 (by omega) (by omega) h, fun h => HI.out 1 (by omega) (by omega) h⟩)
        go_wp2
        go_ret2
        exact ⟨by rw [HF.out]; rfl, rfl⟩
  · rw [ho] at hcall
    have HC := Lib.hid hcall
    have H0 := Lib.hid (symOf_zero _ (Pl.symLen_opens _ ho))
    clear hpre hcall ho
    go_enter Tryz.func212, Tryz.ntmps212
    go_wp2_with fail
    refine HC.out.mono ?_
    rintro e w' ⟨rfl, rfl⟩
    go_wp2
    go_ret2
    exact ⟨by rw [H0.out]; rfl, rfl⟩
def symTk (ok : Bool) (z : ByteArray) : Pl.Tk := if ok then Pl.good 7 z.toList z.size else Pl.bad 3 0
set_option maxRecDepth 100000 in
set_option maxHeartbeats 1000000 in
theorem symbolTok_core (b : Nat) (s z : ByteArray) (n : Nat) (ok : Bool) (li st lim : Int) (w : World) (h : Rd w b s n li st lim) (hn : n ≤ s.size) (hs : s.size ≤ maxLen) (hz : n + z.size ≤ s.size)
    (hcall : ∀ W, Calls Tryz.prog 212 #[.string (s.extract n s.size)] W fun e w' => e = .returned (.tuple #[.string z, .bool ok]) ∧ W = w') :
    Calls Tryz.prog 170 #[.pointer (some ⟨b, 0, none⟩)] w (TokPost b s n li st lim w (symTk ok z)) := by
  unfold maxLen at hs
  have hr := h.alloc (.cells #[.int .i64 0, .string ⟨#[]⟩, .int .i64 0, .int .i64 0] 41)
  have hk := blk_new w #[.int .i64 0, .string ⟨#[]⟩, .int .i64 0, .int .i64 0] 41
  have ho : Only b w (w.alloc (.cells #[.int .i64 0, .string ⟨#[]⟩, .int .i64 0, .int .i64 0] 41)) := (Only.refl b w).alloc _
  have hlt := h.lt
  have hne : b ≠ w.heap.size := Nat.ne_of_lt hlt
  have HC := Lib.hid hcall
  clear h hcall
  go_enter Tryz.func170, Tryz.ntmps170
  go_wp2
  generalize w.alloc (.cells #[.int .i64 0, .string ⟨#[]⟩, .int .i64 0, .int .i64 0] 41) = w0 at hr hk ho ⊢
  have c0 := hr.c0
  have c1 := hr.c1
  have x1 := hr.thaw 1
  obtain ⟨d0, d1, d2, d3, e0, e1, e2, e3⟩ := tkAt_of hk
  have HR := Lib.hid hr
  have HK := Lib.hid hk
  have HO := Lib.hid ho
  clear hr hk ho
  cases ok
  · have HX := Lib.hid (show symTk false z = Pl.bad 3 0 from rfl)
    go_quiet ((go_at_call 212; exact Calls.quiet_of_same ((HC.out _).mono fun _ _ ⟨he, hw⟩ => ⟨he, hw.symm⟩)))
    go_wp2
    obtain ⟨f0, f1, f2, f3, -, -, -, -⟩ := tkAt_of (tk_put (HK.out.drewN nq) (.int .i64 0) (.string ⟨#[]⟩) (.int .i64 0) (.int .i64 0))
    refine bodyPost_ret (v := .tuple #[.agg (tkc 0 ⟨#[]⟩ 0 0), .int .i64 3]) (by simp [results, Tryz.results170, go_sem, f0, f1, f2, f3, tkc]) rfl ?_
    rw [HX.out]
    exact ⟨n, fun h => absurd h (by decide), rfl, rd_put (HR.out.drewN _) hne _ _ _ _, only_put (HO.out.drewN _) (Nat.le_refl _) _ _ _ _⟩
  · have HX := Lib.hid (show symTk true z = Pl.good 7 z.toList z.size from rfl)
    go_quiet ((go_at_call 212; exact Calls.quiet_of_same ((HC.out _).mono fun _ _ ⟨he, hw⟩ => ⟨he, hw.symm⟩)))
    go_wp2
    obtain ⟨f0, f1, f2, f3, -, -, -, -⟩ := tkAt_of (tk_put (((HK.out.drewN nq).other ⟨b, 1, none⟩ (.int .i64 ((n : Int) + (z.size : Int))) hne.symm)) (.int .i64 7) (.string z) (.int .i64 0) (.int .i64 0))
    refine bodyPost_ret (v := .tuple #[.agg (tkc 7 z 0 0), .int .i64 0]) (by simp [results, Tryz.results170, go_sem, f0, f1, f2, f3, tkc]) rfl ?_
    rw [HX.out]
    exact ⟨n + z.size, fun _ => rfl, by show _ = Ending.returned (.tuple #[.agg (tkc _ (Pl.mk z.toList) 0 0), _]); rw [Pl.mk_of]; rfl, rd_put ((HR.out.drewN _).next _) hne _ _ _ _, only_put ((HO.out.drewN _).setCell (.inl rfl) _) (Nat.le_refl _) _ _ _ _⟩
theorem symbolTok_any (b : Nat) (s : ByteArray) (n : Nat) (li st lim : Int) (w : World) (h : Rd w b s n li st lim) (hn : n ≤ s.size) (hs : s.size ≤ maxLen) :
    Calls Tryz.prog 170 #[.pointer (some ⟨b, 0, none⟩)] w (TokPost b s n li st lim w (Pl.symTok (s.toList.drop n))) := by
  have hsz : (s.extract n s.size).size ≤ maxLen := by rw [ByteArray.size_extract]; omega
  have hcall := fun W => symbol_any (s.extract n s.size) W hsz
  rw [Pl.extract_end] at hcall
  have hle := Pl.symLen_len (s.toList.drop n)
  rw [List.length_drop, Pl.len_size] at hle
  have hlt : ((s.toList.drop n).take (Pl.symLen (s.toList.drop n))).length = Pl.symLen (s.toList.drop n) := by
    rw [List.length_take, List.length_drop, Pl.len_size]; omega
  have e : symTk (decide (Pl.symLen (s.toList.drop n) ≠ 0)) (Pl.mk ((s.toList.drop n).take (Pl.symLen (s.toList.drop n)))) = Pl.symTok (s.toList.drop n) := by
    unfold symTk Pl.symTok
    rw [Pl.mk_toList, Pl.mk_size, hlt]
    by_cases h0 : Pl.symLen (s.toList.drop n) = 0
    · rw [decide_eq_false (by simpa using h0), if_pos h0]; rfl
    · rw [decide_eq_true h0, if_neg h0]; rfl
  rw [← e]
  exact symbolTok_core b s _ n _ li st lim w h hn hs (by rw [Pl.mk_size, hlt]; omega) hcall
end Go.Proofs.YtkmgnibopmpcjaaGreatDoor

/-
  Walks of layer 2: texts.
-/
namespace Go.Proofs.YtkmgnibopmpcjaaGreatDoor
open Go.RowKit
namespace Pl
theorem txt_end (s : ByteArray) (k : Nat) (acc : Bytes) (j : Nat) (h : s.size ≤ k) : txt (s.toList.drop k) false acc j = bad 4 0 := by
  rw [List.drop_eq_nil_of_le (by rw [len_size]; exact h)]; rfl
theorem txt_quote (s : ByteArray) (k : Nat) (acc : Bytes) (j : Nat) (h : k < s.size) (hc : s[k] = 34) : txt (s.toList.drop k) false acc j = good 5 acc (j + 1) := by
  rw [drop_cons s k h, hc]; rfl
theorem txt_cut (s : ByteArray) (k : Nat) (acc : Bytes) (j : Nat) (h : k < s.size) (hc : s[k] = 92) (he : k + 1 = s.size) : txt (s.toList.drop k) false acc j = bad 4 0 := by
  rw [drop_cons s k h, hc, List.drop_eq_nil_of_le (by rw [len_size]; omega)]; rfl
theorem txt_bad (s : ByteArray) (k : Nat) (acc : Bytes) (j : Nat) (h : k < s.size) (hc : s[k] = 92) (h1 : k + 1 < s.size) (hm : meaning s[k + 1] = none) : txt (s.toList.drop k) false acc j = bad 3 j := by
  rw [drop_cons s k h, hc, drop_cons s (k + 1) h1]
  show (match meaning s[k + 1] with | some m => txt _ false (acc ++ [m]) (j + 1 + 1) | none => bad 3 (j + 1 - 1)) = _
  rw [hm]; rfl
theorem txt_pair (s : ByteArray) (k : Nat) (acc : Bytes) (j : Nat) (m : UInt8) (h : k < s.size) (hc : s[k] = 92) (h1 : k + 1 < s.size) (hm : meaning s[k + 1] = some m) : txt (s.toList.drop k) false acc j = txt (s.toList.drop (k + 2)) false (acc ++ [m]) (j + 2) := by
  rw [drop_cons s k h, hc, drop_cons s (k + 1) h1]
  show (match meaning s[k + 1] with | some m => txt _ false (acc ++ [m]) (j + 1 + 1) | none => bad 3 (j + 1 - 1)) = _
  rw [hm]
theorem txt_plain (s : ByteArray) (k : Nat) (acc : Bytes) (j : Nat) (h : k < s.size) (h1 : s[k] ≠ 34) (h2 : s[k] ≠ 92) (hp : printable s[k].toNat = true) : txt (s.toList.drop k) false acc j = txt (s.toList.drop (k + 1)) false (acc ++ [s[k]]) (j + 1) := by
  rw [drop_cons s k h, txt, if_neg h1, if_neg h2]
  have : printB s[k] = true := hp
  rw [if_pos this]
theorem txt_wrong (s : ByteArray) (k : Nat) (acc : Bytes) (j : Nat) (h : k < s.size) (h1 : s[k] ≠ 34) (h2 : s[k] ≠ 92) (hp : printable s[k].toNat = false) : txt (s.toList.drop k) false acc j = bad 3 j := by
  rw [drop_cons s k h, txt, if_neg h1, if_neg h2]
  have : ¬ printB s[k] = true := by unfold printB; rw [hp]; simp
  rw [if_neg this]
end Pl
def TextPost (b : Nat) (s : ByteArray) (n : Nat) (li st lim : Int) (w : World) (t : Pl.Tk) (e : Ending) (w' : World) : Prop :=
  ∃ m p : Nat, (t.err = 0 → m = n + t.len) ∧ (t.err ≠ 0 → p = n + t.pos ∧ m = n) ∧ e = .returned (.tuple #[.agg (tkc t.kind (Pl.mk t.text) 0 0), .int .i64 p, .int .i64 t.err]) ∧ Rd w' b s m li st lim ∧ Only b w w'
set_option maxRecDepth 100000 in
set_option maxHeartbeats 4000000 in
theorem text_any (b : Nat) (s : ByteArray) (n : Nat) (li st lim : Int) (w : World) (h : Rd w b s n li st lim) (hn : n < s.size) (hs : s.size ≤ 1000000) :
    Calls Tryz.prog 169 #[.pointer (some ⟨b, 0, none⟩)] w (TextPost b s n li st lim w (Pl.txt (s.toList.drop (n + 1)) false [] 1)) := by
  have hr := (h.alloc (.cells #[.int .i64 0, .string ⟨#[]⟩, .int .i64 0, .int .i64 0] 41)).alloc (.cells #[.pointer none, .slice none 0 0] 87)
  have hk := (blk_new w #[.int .i64 0, .string ⟨#[]⟩, .int .i64 0, .int .i64 0] 41).alloc (.cells #[.pointer none, .slice none 0 0] 87)
  have ho : Only b w ((w.alloc (.cells #[.int .i64 0, .string ⟨#[]⟩, .int .i64 0, .int .i64 0] 41)).alloc (.cells #[.pointer none, .slice none 0 0] 87)) := ((Only.refl b w).alloc _).alloc _
  have hbl := bld_new (w.alloc (.cells #[.int .i64 0, .string ⟨#[]⟩, .int .i64 0, .int .i64 0] 41))
  have hsz : ((w.alloc (.cells #[.int .i64 0, .string ⟨#[]⟩, .int .i64 0, .int .i64 0] 41)).alloc (.cells #[.pointer none, .slice none 0 0] 87)).heap.size = w.heap.size + 1 + 1 := by simp
  rw [World.size_alloc] at hbl
  have hlt := h.lt
  have hne : b ≠ w.heap.size := Nat.ne_of_lt hlt
  generalize hT : Pl.txt (s.toList.drop (n + 1)) false [] 1 = T
  have HT := Lib.hid hT
  clear h hT
  have c1 := hr.c1
  go_enter Tryz.func169, Tryz.ntmps169
  go_wp2
  generalize (w.alloc (.cells #[.int .i64 0, .string ⟨#[]⟩, .int .i64 0, .int .i64 0] 41)).alloc (.cells #[.pointer none, .slice none 0 0] 87) = w0 at hr hk ho hbl hsz c1 ⊢
  have HR := Lib.hid hr
  have HK := Lib.hid hk
  have HO := Lib.hid ho
  have HBL := Lib.hid hbl
  have HSZ := Lib.hid hsz
  clear hr hk ho hbl hsz c1
  go_loopw [6] (fun v wr => ∃ (k j : Nat) (acc : Pl.Bytes), k = n + j ∧ n + 1 ≤ k ∧ k ≤ s.size ∧ v = .int .i64 k ∧ Pl.txt (s.toList.drop k) false acc j = T ∧ acc.length ≤ k ∧ Bld (w.heap.size + 1) (w.heap.size + 1) acc wr ∧ Below (w.heap.size + 1) w0 wr) (fun v _ => s.size - (intOf v).toNat)
  case atStart => exact ⟨n + 1, 1, [], rfl, by omega, by omega, by go_num, HT.out, by simp, HBL.out, Below.refl _ _⟩
  case round =>
    obtain ⟨k, j, acc, hkj, hk1, hk, rfl, hin, hal, hbl, hbr⟩ := hrel
    have HKJ := Lib.hid hkj
    have hws : w.heap.size + 1 ≤ wr.heap.size := by have := hbr.size; have := HSZ.out; omega
    have HWS := Lib.hid hws
    have HBL1 := Lib.hid hbl
    clear hkj hws hbl
    have hrr := HR.out.below hbr (Nat.lt_succ_of_lt hlt)
    have hkr := HK.out.below hbr (Nat.lt_succ_self _)
    have hor := HO.out.below hbr (Nat.le_succ _)
    have c0 := hrr.c0
    have c1 := hrr.c1
    have x1 := hrr.thaw 1
    obtain ⟨d0, d1, d2, d3, e0, e1, e2, e3⟩ := tkAt_of hkr
    have HRR := Lib.hid hrr
    have HKR := Lib.hid hkr
    have HOR := Lib.hid hor
    have HBR := Lib.hid hbr
    clear hrr hkr hor hbr
    by_cases hlt2 : k < s.size
    · by_cases h34 : s[k] = 34
      · have HX := Lib.hid (hin.symm.trans (Pl.txt_quote s k acc j hlt2 h34))
        have q1 : ((s[k].toNat : Int) == 34) = true := by rw [h34]; rfl
        clear h34 hin
        go_wp2_with fail
        refine (string_any _ _ _ _ (HBL1.out.other (p := ⟨b, 1, none⟩) _ (Nat.lt_succ_of_lt hlt)) (by simpa using HWS.out)).mono ?_
        rintro e w1 ⟨rfl, -, hb1⟩
        have HK1 := Lib.hid ((HKR.out.other ⟨b, 1, none⟩ (.int .i64 ((k : Int) + 1)) hne.symm).below hb1 (Nat.lt_succ_self _))
        have HR1 := Lib.hid ((HRR.out.next ((k : Int) + 1)).below hb1 (Nat.lt_succ_of_lt hlt))
        have HO1 := Lib.hid ((HOR.out.setCell (p := ⟨b, 1, none⟩) (.inl rfl) (.int .i64 ((k : Int) + 1))).below hb1 (Nat.le_succ _))
        clear hb1 c0 c1 x1 d0 d1 d2 d3 e0 e1 e2 e3
        obtain ⟨d0, d1, d2, d3, e0, e1, e2, e3⟩ := tkAt_of HK1.out
        go_wp2
        obtain ⟨f0, f1, f2, f3, -, -, -, -⟩ := tkAt_of (tk_put HK1.out (.int .i64 5) (.string (Pl.mk acc)) (.int .i64 0) (.int .i64 0))
        refine bodyPost_ret (v := .tuple #[.agg (tkc 5 (Pl.mk acc) 0 0), .int .i64 0, .int .i64 0]) (by simp [results, Tryz.results169, go_sem, f0, f1, f2, f3, tkc]) rfl ?_
        rw [HX.out]
        exact ⟨k + 1, 0, fun _ => by have := HKJ.out; show k + 1 = n + (j + 1); omega, fun h => absurd rfl h, rfl, rd_put HR1.out hne _ _ _ _, only_put HO1.out (Nat.le_refl _) _ _ _ _⟩
      have q1 : ((s[k].toNat : Int) == 34) = false := beq_eq_false_iff_ne.2 (fun h => h34 ((Pl.u8_eq _ _).2 h))
      by_cases h92 : s[k] = 92
      · have q2 : ((s[k].toNat : Int) == 92) = true := by rw [h92]; rfl
        by_cases hend : k + 1 = s.size
        · have HX := Lib.hid (hin.symm.trans (Pl.txt_cut s k acc j hlt2 h92 hend))
          have q3 : ((k : Int) + 1 == (s.size : Int)) = true := beq_iff_eq.2 (by omega)
          have HE := Lib.hid hend
          clear h34 h92 hin hend
          go_wp2
          generalize hwr : wr = wd at HRR HKR HOR c1 d0 d1 d2 d3 e0 e1 e2 e3 ⊢
          clear hwr
          go_region
          all_goals
            go_wp2
            obtain ⟨f0, f1, f2, f3, -, -, -, -⟩ := tkAt_of (tk_put HKR.out (.int .i64 0) (.string ⟨#[]⟩) (.int .i64 0) (.int .i64 0))
            refine bodyPost_ret (v := .tuple #[.agg (tkc 0 ⟨#[]⟩ 0 0), .int .i64 n, .int .i64 4]) (by simp [results, Tryz.results169, go_sem, f0, f1, f2, f3, tkc]) rfl ?_
            rw [HX.out]
            exact ⟨n, n, fun h => absurd h (by decide), fun _ => ⟨rfl, rfl⟩, rfl, (rd_put HRR.out hne _ _ _ _).drew, (only_put HOR.out (Nat.le_refl _) _ _ _ _).drew⟩
        · have q3 : ((k : Int) + 1 == (s.size : Int)) = false := beq_eq_false_iff_ne.2 (by omega)
          have g1 : (0 : Int) ≤ (k : Int) + 1 := by omega
          have g2 : (k : Int) + 1 < (s.size : Int) := by omega
          have hl1 : k + 1 < s.size := by omega
          have hcall := fun W => meaning_any s[k + 1] W
          cases hm : Pl.meaning s[k + 1] with
          | none =>
            have HX := Lib.hid (hin.symm.trans (Pl.txt_bad s k acc j hlt2 h92 hl1 hm))
            have hmv : meant s[k + 1] = .tuple #[.int .u8 0, .bool false] := by unfold meant; rw [hm]
            rw [hmv] at hcall
            have HC := Lib.hid hcall
            clear hcall hmv hm h34 h92 hin hend
            go_wp2_with fail
            refine (HC.out _).mono ?_
            rintro e w' ⟨rfl, rfl⟩
            go_wp2
            obtain ⟨f0, f1, f2, f3, -, -, -, -⟩ := tkAt_of (tk_put HKR.out (.int .i64 0) (.string ⟨#[]⟩) (.int .i64 0) (.int .i64 0))
            refine bodyPost_ret (v := .tuple #[.agg (tkc 0 ⟨#[]⟩ 0 0), .int .i64 k, .int .i64 3]) (by simp [results, Tryz.results169, go_sem, f0, f1, f2, f3, tkc]) rfl ?_
            rw [HX.out]
            exact ⟨n, k, fun h => absurd h (show ¬ (3 : Int) = 0 by decide), fun _ => ⟨HKJ.out, rfl⟩, rfl, rd_put HRR.out hne _ _ _ _, only_put HOR.out (Nat.le_refl _) _ _ _ _⟩
          | some m =>
            have HI := Lib.hid ((Pl.txt_pair s k acc j m hlt2 h92 hl1 hm).symm.trans hin)
            have hmv : meant s[k + 1] = .tuple #[.int .u8 m.toNat, .bool true] := by unfold meant; rw [hm]
            rw [hmv] at hcall
            have HC := Lib.hid hcall
            clear hcall hmv hm h34 h92 hin hend
            go_wp2_with fail
            refine (HC.out _).mono ?_
            rintro e w' ⟨rfl, rfl⟩
            go_wp2_with fail
            refine (writeByte_any _ _ _ _ _ HBL1.out (by omega) HWS.out).mono ?_
            rintro e w1 ⟨rfl, hb1, hbr1⟩
            have HB1 := Lib.hid hb1
            have HBR1 := Lib.hid (HBR.out.trans hbr1)
            clear hb1 hbr1
            go_wp2
            go_roundw
            case rel => exact ⟨k + 2, j + 2, acc ++ [m], by have := HKJ.out; omega, by omega, by omega, by go_num, HI.out, by rw [List.length_append]; simp; omega, HB1.out, HBR1.out⟩
            case measure => simp [intOf]; omega
      have q2 : ((s[k].toNat : Int) == 92) = false := beq_eq_false_iff_ne.2 (fun h => h92 ((Pl.u8_eq _ _).2 h))
      cases hp : Pl.printable (s[k].toNat : Int)
      · have HX := Lib.hid (hin.symm.trans (Pl.txt_wrong s k acc j hlt2 h34 h92 hp))
        clear h34 h92 hin
        go_wp2_with fail
        refine (isPrintable_any _ _).mono ?_
        rintro e w' ⟨rfl, rfl⟩
        go_wp2
        obtain ⟨f0, f1, f2, f3, -, -, -, -⟩ := tkAt_of (tk_put HKR.out (.int .i64 0) (.string ⟨#[]⟩) (.int .i64 0) (.int .i64 0))
        refine bodyPost_ret (v := .tuple #[.agg (tkc 0 ⟨#[]⟩ 0 0), .int .i64 k, .int .i64 3]) (by simp [results, Tryz.results169, go_sem, f0, f1, f2, f3, tkc]) rfl ?_
        rw [HX.out]
        exact ⟨n, k, fun h => absurd h (show ¬ (3 : Int) = 0 by decide), fun _ => ⟨HKJ.out, rfl⟩, rfl, rd_put HRR.out hne _ _ _ _, only_put HOR.out (Nat.le_refl _) _ _ _ _⟩
      · have HI := Lib.hid ((Pl.txt_plain s k acc j hlt2 h34 h92 hp).symm.trans hin)
        clear h34 h92 hin
        go_wp2_with fail
        refine (isPrintable_any _ _).mono ?_
        rintro e w' ⟨rfl, rfl⟩
        go_wp2_with fail
        refine (writeByte_any _ _ _ _ _ HBL1.out (by omega) HWS.out).mono ?_
        rintro e w1 ⟨rfl, hb1, hbr1⟩
        have HB1 := Lib.hid hb1
        have HBR1 := Lib.hid (HBR.out.trans hbr1)
        clear hb1 hbr1
        go_wp2
        go_roundw
        case rel => exact ⟨k + 1, j + 1, acc ++ [s[k]], by have := HKJ.out; omega, by omega, by omega, by go_num, HI.out, by rw [List.length_append]; simp; omega, HB1.out, HBR1.out⟩
        case measure => simp [intOf]; omega
    · have HX := Lib.hid (hin.symm.trans (Pl.txt_end s k acc j (by omega)))
      clear hin
      go_wp2
      generalize hwr : wr = wd at HRR HKR HOR c1 d0 d1 d2 d3 e0 e1 e2 e3 ⊢
      clear hwr
      go_region
      all_goals
        go_wp2
        obtain ⟨f0, f1, f2, f3, -, -, -, -⟩ := tkAt_of (tk_put HKR.out (.int .i64 0) (.string ⟨#[]⟩) (.int .i64 0) (.int .i64 0))
        refine bodyPost_ret (v := .tuple #[.agg (tkc 0 ⟨#[]⟩ 0 0), .int .i64 n, .int .i64 4]) (by simp [results, Tryz.results169, go_sem, f0, f1, f2, f3, tkc]) rfl ?_
        rw [HX.out]
        exact ⟨n, n, fun h => absurd h (by decide), fun _ => ⟨rfl, rfl⟩, rfl, (rd_put HRR.out hne _ _ _ _).drew, (only_put HOR.out (Nat.le_refl _) _ _ _ _).drew⟩
end Go.Proofs.YtkmgnibopmpcjaaGreatDoor
