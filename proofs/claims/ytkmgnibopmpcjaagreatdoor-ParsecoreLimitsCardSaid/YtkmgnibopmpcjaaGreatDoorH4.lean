/-
  Walks and plain mathematics, several texts in one (Lf).
-/
import Derived.Test.YtkmgnibopmpcjaaGreatDoorH3
/-
  Walks of layer 2: the tokens that a reader reads, but for texts.
-/
namespace Go.Proofs.YtkmgnibopmpcjaaGreatDoor
open Go.RowKit
def tkc (k : Int) (t : ByteArray) (li co : Int) : Array Value := #[.int .i64 k, .string t, .int .i64 li, .int .i64 co]
structure TkAt (w : World) (g : Nat) (a c d e : Value) : Prop where
  c0 : w.cell? ⟨g, 0, none⟩ = some a
  c1 : w.cell? ⟨g, 1, none⟩ = some c
  c2 : w.cell? ⟨g, 2, none⟩ = some d
  c3 : w.cell? ⟨g, 3, none⟩ = some e
  e0 : w.frozen? ⟨g, 0, none⟩ = false
  e1 : w.frozen? ⟨g, 1, none⟩ = false
  e2 : w.frozen? ⟨g, 2, none⟩ = false
  e3 : w.frozen? ⟨g, 3, none⟩ = false
theorem tkAt_of {w : World} {g : Nat} {t : TypeId} {a c d e : Value} (h : Blk w g t #[a, c, d, e]) : TkAt w g a c d e :=
  ⟨h.cell 0 a rfl, h.cell 1 c rfl, h.cell 2 d rfl, h.cell 3 e rfl, h.thaw 0, h.thaw 1, h.thaw 2, h.thaw 3⟩
theorem tk_put {w : World} {g : Nat} {t : TypeId} {a c d e : Value} (h : Blk w g t #[a, c, d, e]) (a' c' d' e' : Value) :
    Blk ((((w.setCell ⟨g, 0, none⟩ a').setCell ⟨g, 1, none⟩ c').setCell ⟨g, 2, none⟩ d').setCell ⟨g, 3, none⟩ e') g t #[a', c', d', e'] :=
  (((h.set 0 a').set 1 c').set 2 d').set 3 e'
theorem only_put {b : Nat} {v w : World} {g : Nat} (h : Only b v w) (hg : v.heap.size ≤ g) (a' c' d' e' : Value) :
    Only b v ((((w.setCell ⟨g, 0, none⟩ a').setCell ⟨g, 1, none⟩ c').setCell ⟨g, 2, none⟩ d').setCell ⟨g, 3, none⟩ e') :=
  (((h.setCell (p := ⟨g, 0, none⟩) (.inr hg) a').setCell (p := ⟨g, 1, none⟩) (.inr hg) c').setCell (p := ⟨g, 2, none⟩) (.inr hg) d').setCell (p := ⟨g, 3, none⟩) (.inr hg) e'
theorem rd_put {w : World} {b g : Nat} {s : ByteArray} {n li st lim : Int} (h : Rd w b s n li st lim) (hg : b ≠ g) (a' c' d' e' : Value) :
    Rd ((((w.setCell ⟨g, 0, none⟩ a').setCell ⟨g, 1, none⟩ c').setCell ⟨g, 2, none⟩ d').setCell ⟨g, 3, none⟩ e') b s n li st lim :=
  (((h.other ⟨g, 0, none⟩ a' hg).other ⟨g, 1, none⟩ c' hg).other ⟨g, 2, none⟩ d' hg).other ⟨g, 3, none⟩ e' hg
def TokPost (b : Nat) (s : ByteArray) (n : Nat) (li st lim : Int) (w : World) (t : Pl.Tk) (e : Ending) (w' : World) : Prop :=
  ∃ m : Nat, (t.err = 0 → m = n + t.len) ∧ e = .returned (.tuple #[.agg (tkc t.kind (Pl.mk t.text) 0 0), .int .i64 t.err]) ∧ Rd w' b s m li st lim ∧ Only b w w'
theorem extract_take (s : ByteArray) (n k : Nat) : s.extract n (n + k) = Pl.mk ((s.toList.drop n).take k) := by
  rw [← Pl.mk_of (s.extract n (n + k)), Lib.extract_toList, ← Pl.toList_eq, Nat.add_sub_cancel_left]
def nameOf (z : ByteArray) (c : Int) : Pl.Tk := if 24 < z.size then Pl.bad 5 0 else Pl.good (if Pl.isKey z.toList then 6 else if Pl.capital c then 2 else 1) z.toList z.size
set_option maxRecDepth 100000 in
set_option maxHeartbeats 1000000 in
theorem name_core (b : Nat) (s z : ByteArray) (n m : Nat) (li st lim : Int) (w : World) (h : Rd w b s n li st lim) (h1 : 0 < z.size) (hz : z.size ≤ maxLen)
    (htake : ∀ W, Rd W b s n li st lim → Calls Tryz.prog 209 #[.pointer (some ⟨b, 0, none⟩), .int .i64 n, .func (.func 210) #[] #[]] W fun e w' => e = .returned (.string z) ∧ Rd w' b s m li st lim ∧ Only b W w')
    (hm : m = n + z.size) :
    Calls Tryz.prog 165 #[.pointer (some ⟨b, 0, none⟩)] w (TokPost b s n li st lim w (nameOf z z[0].toNat)) := by
  unfold maxLen at hz
  have HT := Lib.hid htake
  have HM := Lib.hid hm
  clear htake hm
  have hr := h.alloc (.cells #[.int .i64 0, .string ⟨#[]⟩, .int .i64 0, .int .i64 0] 41)
  have hk := blk_new w #[.int .i64 0, .string ⟨#[]⟩, .int .i64 0, .int .i64 0] 41
  have ho : Only b w (w.alloc (.cells #[.int .i64 0, .string ⟨#[]⟩, .int .i64 0, .int .i64 0] 41)) := (Only.refl b w).alloc _
  have hlt := h.lt
  have c0 := hr.c0
  have c1 := hr.c1
  have hne : b ≠ w.heap.size := Nat.ne_of_lt hlt
  have HR := Lib.hid hr
  have HK := Lib.hid hk
  have HO0 := Lib.hid ho
  clear h hr hk ho
  by_cases hl : 24 < z.size
  · have HX := Lib.hid (show nameOf z z[0].toNat = Pl.bad 5 0 from by unfold nameOf; rw [if_pos hl])
    have hl2 : decide ((24 : Int) < (z.size : Int)) = true := by simp; omega
    go_enter Tryz.func165, Tryz.ntmps165
    go_wp2_with fail
    refine (HT.out _ HR.out).mono ?_
    rintro e w1 ⟨rfl, hr1, ho1⟩
    have hk1 := ho1.blk HK.out (Ne.symm hne)
    have HO := Lib.hid (HO0.out.trans ho1)
    have HR1 := Lib.hid hr1
    have HK1 := Lib.hid hk1
    obtain ⟨d0, d1, d2, d3, e0, e1, e2, e3⟩ := tkAt_of hk1
    clear hk1 hr1 ho1 c0 c1
    go_wp2
    obtain ⟨f0, f1, f2, f3, -, -, -, -⟩ := tkAt_of (tk_put HK1.out (.int .i64 0) (.string ⟨#[]⟩) (.int .i64 0) (.int .i64 0))
    refine bodyPost_ret (v := .tuple #[.agg (tkc 0 ⟨#[]⟩ 0 0), .int .i64 5]) (by simp [results, Tryz.results165, go_sem, f0, f1, f2, f3, tkc]) rfl ?_
    rw [HX.out]
    exact ⟨m, fun h => absurd h (by decide), rfl, rd_put HR1.out hne _ _ _ _, only_put HO.out (Nat.le_refl _) _ _ _ _⟩
  · have hl2 : decide ((24 : Int) < (z.size : Int)) = false := by simp; omega
    cases hkey : Pl.isKey z.toList
    · cases hcap : Pl.capital (z[0].toNat : Int)
      · have HX := Lib.hid (show nameOf z z[0].toNat = Pl.good 1 z.toList z.size from by unfold nameOf; rw [if_neg hl, hkey, hcap]; rfl)
        go_enter Tryz.func165, Tryz.ntmps165
        go_wp2_with fail
        refine (HT.out _ HR.out).mono ?_
        rintro e w1 ⟨rfl, hr1, ho1⟩
        have hk1 := ho1.blk HK.out (Ne.symm hne)
        have HO := Lib.hid (HO0.out.trans ho1)
        have HR1 := Lib.hid hr1
        have HK1 := Lib.hid hk1
        obtain ⟨d0, d1, d2, d3, e0, e1, e2, e3⟩ := tkAt_of hk1
        clear hk1 hr1 ho1 c0 c1
        go_wp2_with (first | (go_at_call 105; refine (keyword_any _ _).mono ?_; rintro e w' ⟨rfl, rfl⟩) | (go_at_call 164; refine (isCapital_any _ _).mono ?_; rintro e w' ⟨rfl, rfl⟩))
        obtain ⟨f0, f1, f2, f3, -, -, -, -⟩ := tkAt_of (tk_put HK1.out (.int .i64 1) (.string z) (.int .i64 0) (.int .i64 0))
        refine bodyPost_ret (v := .tuple #[.agg (tkc 1 z 0 0), .int .i64 0]) (by simp [results, Tryz.results165, go_sem, f0, f1, f2, f3, tkc]) rfl ?_
        rw [HX.out]
        exact ⟨m, fun _ => HM.out, by show _ = Ending.returned (.tuple #[.agg (tkc _ (Pl.mk z.toList) 0 0), _]); rw [Pl.mk_of]; rfl, rd_put HR1.out hne _ _ _ _, only_put HO.out (Nat.le_refl _) _ _ _ _⟩
      · have HX := Lib.hid (show nameOf z z[0].toNat = Pl.good 2 z.toList z.size from by unfold nameOf; rw [if_neg hl, hkey, hcap]; rfl)
        go_enter Tryz.func165, Tryz.ntmps165
        go_wp2_with fail
        refine (HT.out _ HR.out).mono ?_
        rintro e w1 ⟨rfl, hr1, ho1⟩
        have hk1 := ho1.blk HK.out (Ne.symm hne)
        have HO := Lib.hid (HO0.out.trans ho1)
        have HR1 := Lib.hid hr1
        have HK1 := Lib.hid hk1
        obtain ⟨d0, d1, d2, d3, e0, e1, e2, e3⟩ := tkAt_of hk1
        clear hk1 hr1 ho1 c0 c1
        go_wp2_with (first | (go_at_call 105; refine (keyword_any _ _).mono ?_; rintro e w' ⟨rfl, rfl⟩) | (go_at_call 164; refine (isCapital_any _ _).mono ?_; rintro e w' ⟨rfl, rfl⟩))
        obtain ⟨f0, f1, f2, f3, -, -, -, -⟩ := tkAt_of (tk_put HK1.out (.int .i64 2) (.string z) (.int .i64 0) (.int .i64 0))
        refine bodyPost_ret (v := .tuple #[.agg (tkc 2 z 0 0), .int .i64 0]) (by simp [results, Tryz.results165, go_sem, f0, f1, f2, f3, tkc]) rfl ?_
        rw [HX.out]
        exact ⟨m, fun _ => HM.out, by show _ = Ending.returned (.tuple #[.agg (tkc _ (Pl.mk z.toList) 0 0), _]); rw [Pl.mk_of]; rfl, rd_put HR1.out hne _ _ _ _, only_put HO.out (Nat.le_refl _) _ _ _ _⟩
    · have HX := Lib.hid (show nameOf z z[0].toNat = Pl.good 6 z.toList z.size from by unfold nameOf; rw [if_neg hl, hkey]; rfl)
      go_enter Tryz.func165, Tryz.ntmps165
      go_wp2_with fail
      refine (HT.out _ HR.out).mono ?_
      rintro e w1 ⟨rfl, hr1, ho1⟩
      have hk1 := ho1.blk HK.out (Ne.symm hne)
      have HO := Lib.hid (HO0.out.trans ho1)
      have HR1 := Lib.hid hr1
      have HK1 := Lib.hid hk1
      obtain ⟨d0, d1, d2, d3, e0, e1, e2, e3⟩ := tkAt_of hk1
      clear hk1 hr1 ho1 c0 c1
      go_wp2_with (first | (go_at_call 105; refine (keyword_any _ _).mono ?_; rintro e w' ⟨rfl, rfl⟩) | (go_at_call 164; refine (isCapital_any _ _).mono ?_; rintro e w' ⟨rfl, rfl⟩))
      obtain ⟨f0, f1, f2, f3, -, -, -, -⟩ := tkAt_of (tk_put HK1.out (.int .i64 6) (.string z) (.int .i64 0) (.int .i64 0))
      refine bodyPost_ret (v := .tuple #[.agg (tkc 6 z 0 0), .int .i64 0]) (by simp [results, Tryz.results165, go_sem, f0, f1, f2, f3, tkc]) rfl ?_
      rw [HX.out]
      exact ⟨m, fun _ => HM.out, by show _ = Ending.returned (.tuple #[.agg (tkc _ (Pl.mk z.toList) 0 0), _]); rw [Pl.mk_of]; rfl, rd_put HR1.out hne _ _ _ _, only_put HO.out (Nat.le_refl _) _ _ _ _⟩
theorem name_any (b : Nat) (s : ByteArray) (n : Nat) (li st lim : Int) (w : World) (h : Rd w b s n li st lim) (hn : n < s.size) (hs : s.size ≤ maxLen) (hi : Pl.innerB s[n] = true) :
    Calls Tryz.prog 165 #[.pointer (some ⟨b, 0, none⟩)] w (TokPost b s n li st lim w (Pl.nameTok (s.toList.drop n))) := by
  have hbd := Pl.run_bound Pl.innerB s n (by omega)
  have hpos : 1 ≤ Pl.run Pl.innerB (s.toList.drop n) := by rw [Pl.run_hit _ s n hn hi]; omega
  have hx := extract_take s n (Pl.run Pl.innerB (s.toList.drop n))
  have hsz : (s.extract n (n + Pl.run Pl.innerB (s.toList.drop n))).size = Pl.run Pl.innerB (s.toList.drop n) := by rw [ByteArray.size_extract]; omega
  have hcap : Pl.headIs Pl.capital (s.toList.drop n) = Pl.capital s[n].toNat := by rw [Pl.drop_cons s n hn]; rfl
  have h0 : (s.extract n (n + Pl.run Pl.innerB (s.toList.drop n)))[0]'(by omega) = s[n] := by
    rw [ByteArray.getElem_extract]; simp
  have hc := name_core b s (s.extract n (n + Pl.run Pl.innerB (s.toList.drop n))) n (n + Pl.run Pl.innerB (s.toList.drop n)) li st lim w h (by omega) (by omega) (fun W hW => takeName_any b s n n li st lim W hW (Nat.le_refl n) (by omega) hs) (by omega)
  rw [h0] at hc
  have e : nameOf (s.extract n (n + Pl.run Pl.innerB (s.toList.drop n))) s[n].toNat = Pl.nameTok (s.toList.drop n) := by
    unfold nameOf Pl.nameTok
    rw [hsz, hx, Pl.mk_toList, hcap]
  rw [e] at hc
  exact hc
def varOf (z : ByteArray) : Pl.Tk := if 24 < z.size then Pl.bad 5 0 else Pl.good 3 z.toList z.size
set_option maxRecDepth 100000 in
set_option maxHeartbeats 1000000 in
theorem variable_core (b : Nat) (s z : ByteArray) (n m : Nat) (li st lim : Int) (w : World) (h : Rd w b s n li st lim) (hn : n + 1 < s.size) (hs : s.size ≤ maxLen) (hp : Pl.small s[n + 1].toNat = true) (hz : z.size ≤ maxLen)
    (htake : ∀ W, Rd W b s n li st lim → Calls Tryz.prog 209 #[.pointer (some ⟨b, 0, none⟩),   .int .i64 ((n : Int) + 1), .func (.func 210) #[] #[]] W fun e w' => e = .returned (.string z) ∧ Rd w' b s m li st lim ∧ Only b W w')
    (hm : m = n + z.size) :
    Calls Tryz.prog 166 #[.pointer (some ⟨b, 0, none⟩)] w (TokPost b s n li st lim w (varOf z)) := by
  unfold maxLen at hz hs
  have HT := Lib.hid htake
  have HM := Lib.hid hm
  clear htake hm
  have hq : ((n : Int) + 1 == (s.size : Int)) = false := beq_eq_false_iff_ne.2 (by omega)
  have g1 : (0 : Int) ≤ (n : Int) + 1 := by omega
  have g2 : (n : Int) + 1 < (s.size : Int) := by omega
  have hr := h.alloc (.cells #[.int .i64 0, .string ⟨#[]⟩, .int .i64 0, .int .i64 0] 41)
  have hk := blk_new w #[.int .i64 0, .string ⟨#[]⟩, .int .i64 0, .int .i64 0] 41
  have ho : Only b w (w.alloc (.cells #[.int .i64 0, .string ⟨#[]⟩, .int .i64 0, .int .i64 0] 41)) := (Only.refl b w).alloc _
  have hlt := h.lt
  have c0 := hr.c0
  have c1 := hr.c1
  have hne : b ≠ w.heap.size := Nat.ne_of_lt hlt
  have HR := Lib.hid hr
  have HK := Lib.hid hk
  have HO0 := Lib.hid ho
  clear h hr hk ho
  by_cases hl : 24 < z.size
  · have HX := Lib.hid (show varOf z = Pl.bad 5 0 from by unfold varOf; rw [if_pos hl])
    have hl2 : decide ((24 : Int) < (z.size : Int)) = true := by simp; omega
    go_enter Tryz.func166, Tryz.ntmps166
    go_wp2_with ((go_at_call 163; refine (isSmall_any _ _).mono ?_; rintro e w' ⟨rfl, rfl⟩))
    refine (HT.out _ HR.out).mono ?_
    rintro e w1 ⟨rfl, hr1, ho1⟩
    have hk1 := ho1.blk HK.out (Ne.symm hne)
    have HO := Lib.hid (HO0.out.trans ho1)
    have HR1 := Lib.hid hr1
    have HK1 := Lib.hid hk1
    obtain ⟨d0, d1, d2, d3, e0, e1, e2, e3⟩ := tkAt_of hk1
    clear hk1 hr1 ho1 c0 c1
    go_wp2
    obtain ⟨f0, f1, f2, f3, -, -, -, -⟩ := tkAt_of (tk_put HK1.out (.int .i64 0) (.string ⟨#[]⟩) (.int .i64 0) (.int .i64 0))
    refine bodyPost_ret (v := .tuple #[.agg (tkc 0 ⟨#[]⟩ 0 0), .int .i64 5]) (by simp [results, Tryz.results166, go_sem, f0, f1, f2, f3, tkc]) rfl ?_
    rw [HX.out]
    exact ⟨m, fun h => absurd h (by decide), rfl, rd_put HR1.out hne _ _ _ _, only_put HO.out (Nat.le_refl _) _ _ _ _⟩
  · have hl2 : decide ((24 : Int) < (z.size : Int)) = false := by simp; omega
    have HX := Lib.hid (show varOf z = Pl.good 3 z.toList z.size from by unfold varOf; rw [if_neg hl])
    go_enter Tryz.func166, Tryz.ntmps166
    go_wp2_with ((go_at_call 163; refine (isSmall_any _ _).mono ?_; rintro e w' ⟨rfl, rfl⟩))
    refine (HT.out _ HR.out).mono ?_
    rintro e w1 ⟨rfl, hr1, ho1⟩
    have hk1 := ho1.blk HK.out (Ne.symm hne)
    have HO := Lib.hid (HO0.out.trans ho1)
    have HR1 := Lib.hid hr1
    have HK1 := Lib.hid hk1
    obtain ⟨d0, d1, d2, d3, e0, e1, e2, e3⟩ := tkAt_of hk1
    clear hk1 hr1 ho1 c0 c1
    go_wp2
    obtain ⟨f0, f1, f2, f3, -, -, -, -⟩ := tkAt_of (tk_put HK1.out (.int .i64 3) (.string z) (.int .i64 0) (.int .i64 0))
    refine bodyPost_ret (v := .tuple #[.agg (tkc 3 z 0 0), .int .i64 0]) (by simp [results, Tryz.results166, go_sem, f0, f1, f2, f3, tkc]) rfl ?_
    rw [HX.out]
    exact ⟨m, fun _ => HM.out, by show _ = Ending.returned (.tuple #[.agg (tkc _ (Pl.mk z.toList) 0 0), _]); rw [Pl.mk_of]; rfl, rd_put HR1.out hne _ _ _ _, only_put HO.out (Nat.le_refl _) _ _ _ _⟩
set_option maxRecDepth 100000 in
set_option maxHeartbeats 1000000 in
theorem variable_none (b : Nat) (s : ByteArray) (n : Nat) (li st lim : Int) (w : World) (h : Rd w b s n li st lim) (hn : n < s.size) (hs : s.size ≤ maxLen) (hp : n + 1 = s.size ∨ ∃ hh : n + 1 < s.size, Pl.small s[n + 1].toNat = false) :
    Calls Tryz.prog 166 #[.pointer (some ⟨b, 0, none⟩)] w (TokPost b s n li st lim w (Pl.bad 3 0)) := by
  unfold maxLen at hs
  have hr := h.alloc (.cells #[.int .i64 0, .string ⟨#[]⟩, .int .i64 0, .int .i64 0] 41)
  have hk := blk_new w #[.int .i64 0, .string ⟨#[]⟩, .int .i64 0, .int .i64 0] 41
  have ho : Only b w (w.alloc (.cells #[.int .i64 0, .string ⟨#[]⟩, .int .i64 0, .int .i64 0] 41)) := (Only.refl b w).alloc _
  have hlt := h.lt
  have c0 := hr.c0
  have c1 := hr.c1
  have hne : b ≠ w.heap.size := Nat.ne_of_lt hlt
  have HR := Lib.hid hr
  have HK := Lib.hid hk
  have HO0 := Lib.hid ho
  clear h hr hk ho
  obtain ⟨d0, d1, d2, d3, e0, e1, e2, e3⟩ := tkAt_of HK.out
  rcases hp with hp | ⟨hh, hp⟩
  · have hq : ((n : Int) + 1 == (s.size : Int)) = true := beq_iff_eq.2 (by omega)
    have HP := Lib.hid hp
    clear hp
    go_enter Tryz.func166, Tryz.ntmps166
    go_wp2
    refine bodyPost_ret (v := .tuple #[.agg (tkc 0 ⟨#[]⟩ 0 0), .int .i64 3]) (by simp [results, Tryz.results166, go_sem, tkc]) rfl ?_
    exact ⟨n, fun h => absurd h (by decide), rfl, HR.out, HO0.out⟩
  · have hq : ((n : Int) + 1 == (s.size : Int)) = false := beq_eq_false_iff_ne.2 (by omega)
    have g1 : (0 : Int) ≤ (n : Int) + 1 := by omega
    have g2 : (n : Int) + 1 < (s.size : Int) := by omega
    go_enter Tryz.func166, Tryz.ntmps166
    go_wp2_with ((go_at_call 163; refine (isSmall_any _ _).mono ?_; rintro e w' ⟨rfl, rfl⟩))
    refine bodyPost_ret (v := .tuple #[.agg (tkc 0 ⟨#[]⟩ 0 0), .int .i64 3]) (by simp [results, Tryz.results166, go_sem, tkc]) rfl ?_
    exact ⟨n, fun h => absurd h (by decide), rfl, HR.out, HO0.out⟩
theorem variable_any (b : Nat) (s : ByteArray) (n : Nat) (li st lim : Int) (w : World) (h : Rd w b s n li st lim) (hn : n < s.size) (hs : s.size ≤ maxLen) :
    Calls Tryz.prog 166 #[.pointer (some ⟨b, 0, none⟩)] w (TokPost b s n li st lim w (Pl.varTok (s.toList.drop n))) := by
  have hd : (s.toList.drop n).drop 1 = s.toList.drop (n + 1) := by rw [List.drop_drop]
  by_cases h1 : n + 1 < s.size
  · have hh : Pl.headIs Pl.small (s.toList.drop (n + 1)) = Pl.small s[n + 1].toNat := by rw [Pl.drop_cons s (n + 1) h1]; rfl
    cases hp : Pl.small (s[n + 1].toNat : Int)
    · have e : Pl.varTok (s.toList.drop n) = Pl.bad 3 0 := by unfold Pl.varTok; rw [hd, hh, hp]; rfl
      rw [e]
      exact variable_none b s n li st lim w h hn hs (.inr ⟨h1, hp⟩)
    · have hbd := Pl.run_bound Pl.innerB s (n + 1) (by omega)
      have hx := extract_take s n (Pl.run Pl.innerB (s.toList.drop (n + 1)) + 1)
      have hj : n + 1 + Pl.run Pl.innerB (s.toList.drop (n + 1)) = n + (Pl.run Pl.innerB (s.toList.drop (n + 1)) + 1) := by omega
      have hsz : (s.extract n (n + (Pl.run Pl.innerB (s.toList.drop (n + 1)) + 1))).size = Pl.run Pl.innerB (s.toList.drop (n + 1)) + 1 := by rw [ByteArray.size_extract]; omega
      have ht := fun W (hW : Rd W b s n li st lim) => takeName_any b s n (n + 1) li st lim W hW (by omega) (by omega) hs
      rw [hj] at ht
      have hc := variable_core b s (s.extract n (n + (Pl.run Pl.innerB (s.toList.drop (n + 1)) + 1))) n (n + (Pl.run Pl.innerB (s.toList.drop (n + 1)) + 1)) li st lim w h h1 hs hp (by omega) ht (by omega)
      have e : varOf (s.extract n (n + (Pl.run Pl.innerB (s.toList.drop (n + 1)) + 1))) = Pl.varTok (s.toList.drop n) := by
        unfold varOf Pl.varTok
        rw [hsz, hx, Pl.mk_toList, hd, hh, hp]; rfl
      rw [e] at hc
      exact hc
  · have hh : s.toList.drop (n + 1) = [] := List.drop_eq_nil_of_le (by rw [Pl.len_size]; omega)
    have e : Pl.varTok (s.toList.drop n) = Pl.bad 3 0 := by unfold Pl.varTok; rw [hd, hh]; rfl
    rw [e]
    exact variable_none b s n li st lim w h hn hs (.inl (by omega))
def numOf (z : ByteArray) : Pl.Tk := if (Pl.number z.toList).2 = 0 then Pl.good 4 z.toList z.size else Pl.bad (Pl.number z.toList).2 0
set_option maxRecDepth 100000 in
set_option maxHeartbeats 1000000 in
theorem number_core (b : Nat) (s z : ByteArray) (n m : Nat) (li st lim : Int) (w : World) (h : Rd w b s n li st lim) (hz : z.size ≤ maxLen)
    (htake : ∀ W, Rd W b s n li st lim → Calls Tryz.prog 209 #[.pointer (some ⟨b, 0, none⟩), .int .i64 n, .func (.func 167) #[] #[]] W fun e w' => e = .returned (.string z) ∧ Rd w' b s m li st lim ∧ Only b W w')
    (hm : m = n + z.size) :
    Calls Tryz.prog 168 #[.pointer (some ⟨b, 0, none⟩)] w (TokPost b s n li st lim w (numOf z)) := by
  have hnum := fun W => number_any z W hz
  have hX : numOf z = if (Pl.number z.toList).2 = 0 then Pl.good 4 z.toList z.size else Pl.bad (Pl.number z.toList).2 0 := rfl
  generalize (Pl.number z.toList).1 = q at hnum
  generalize (Pl.number z.toList).2 = er at hnum hX
  have HT := Lib.hid htake
  have HM := Lib.hid hm
  have HN := Lib.hid hnum
  clear htake hm hnum
  have hr := h.alloc (.cells #[.int .i64 0, .string ⟨#[]⟩, .int .i64 0, .int .i64 0] 41)
  have hk := blk_new w #[.int .i64 0, .string ⟨#[]⟩, .int .i64 0, .int .i64 0] 41
  have ho : Only b w (w.alloc (.cells #[.int .i64 0, .string ⟨#[]⟩, .int .i64 0, .int .i64 0] 41)) := (Only.refl b w).alloc _
  have hlt := h.lt
  have c0 := hr.c0
  have c1 := hr.c1
  have hne : b ≠ w.heap.size := Nat.ne_of_lt hlt
  have HR := Lib.hid hr
  have HK := Lib.hid hk
  have HO0 := Lib.hid ho
  clear h hr hk ho
  by_cases hl : er = 0
  · have HX := Lib.hid (show numOf z = Pl.good 4 z.toList z.size from by rw [hX, if_pos hl])
    have t1 : (er != 0) = false := by rw [hl]; rfl
    subst hl
    clear hX
    go_enter Tryz.func168, Tryz.ntmps168
    go_wp2_with fail
    refine (HT.out _ HR.out).mono ?_
    rintro e w1 ⟨rfl, hr1, ho1⟩
    have hk1 := ho1.blk HK.out (Ne.symm hne)
    have HO := Lib.hid (HO0.out.trans ho1)
    have HR1 := Lib.hid hr1
    have HK1 := Lib.hid hk1
    obtain ⟨d0, d1, d2, d3, e0, e1, e2, e3⟩ := tkAt_of hk1
    clear hk1 hr1 ho1 c0 c1
    go_wp2_with fail
    refine (HN.out _).mono ?_
    rintro e w' ⟨rfl, rfl⟩
    go_wp2
    obtain ⟨f0, f1, f2, f3, -, -, -, -⟩ := tkAt_of (tk_put HK1.out (.int .i64 4) (.string z) (.int .i64 0) (.int .i64 0))
    refine bodyPost_ret (v := .tuple #[.agg (tkc 4 z 0 0), .int .i64 0]) (by simp [results, Tryz.results168, go_sem, f0, f1, f2, f3, tkc]) rfl ?_
    rw [HX.out]
    exact ⟨m, fun _ => HM.out, by show _ = Ending.returned (.tuple #[.agg (tkc _ (Pl.mk z.toList) 0 0), _]); rw [Pl.mk_of]; rfl, rd_put HR1.out hne _ _ _ _, only_put HO.out (Nat.le_refl _) _ _ _ _⟩
  · have HX := Lib.hid (show numOf z = Pl.bad er 0 from by rw [hX, if_neg hl])
    have t1 : (er != 0) = true := by simpa using hl
    have HL := Lib.hid hl
    clear hX hl
    go_enter Tryz.func168, Tryz.ntmps168
    go_wp2_with fail
    refine (HT.out _ HR.out).mono ?_
    rintro e w1 ⟨rfl, hr1, ho1⟩
    have hk1 := ho1.blk HK.out (Ne.symm hne)
    have HO := Lib.hid (HO0.out.trans ho1)
    have HR1 := Lib.hid hr1
    have HK1 := Lib.hid hk1
    obtain ⟨d0, d1, d2, d3, e0, e1, e2, e3⟩ := tkAt_of hk1
    clear hk1 hr1 ho1 c0 c1
    go_wp2_with fail
    refine (HN.out _).mono ?_
    rintro e w' ⟨rfl, rfl⟩
    go_wp2
    obtain ⟨f0, f1, f2, f3, -, -, -, -⟩ := tkAt_of (tk_put HK1.out (.int .i64 0) (.string ⟨#[]⟩) (.int .i64 0) (.int .i64 0))
    refine bodyPost_ret (v := .tuple #[.agg (tkc 0 ⟨#[]⟩ 0 0), .int .i64 er]) (by simp [results, Tryz.results168, go_sem, f0, f1, f2, f3, tkc]) rfl ?_
    rw [HX.out]
    exact ⟨m, fun h => absurd h HL.out, rfl, rd_put HR1.out hne _ _ _ _, only_put HO.out (Nat.le_refl _) _ _ _ _⟩
theorem number_tok (b : Nat) (s : ByteArray) (n : Nat) (li st lim : Int) (w : World) (h : Rd w b s n li st lim) (hn : n < s.size) (hs : s.size ≤ maxLen) :
    Calls Tryz.prog 168 #[.pointer (some ⟨b, 0, none⟩)] w (TokPost b s n li st lim w (Pl.numTok (s.toList.drop n))) := by
  have hbd := Pl.run_bound Pl.digitB s n (by omega)
  have hx := extract_take s n (Pl.run Pl.digitB (s.toList.drop n))
  have hsz : (s.extract n (n + Pl.run Pl.digitB (s.toList.drop n))).size = Pl.run Pl.digitB (s.toList.drop n) := by rw [ByteArray.size_extract]; omega
  have hc := number_core b s (s.extract n (n + Pl.run Pl.digitB (s.toList.drop n))) n (n + Pl.run Pl.digitB (s.toList.drop n)) li st lim w h (by omega) (fun W hW => takeDigit_any b s n n li st lim W hW (Nat.le_refl n) (by omega) hs) (by omega)
  have e : numOf (s.extract n (n + Pl.run Pl.digitB (s.toList.drop n))) = Pl.numTok (s.toList.drop n) := by
    unfold numOf Pl.numTok
    rw [hsz, hx, Pl.mk_toList]
  rw [e] at hc
  exact hc
end Go.Proofs.YtkmgnibopmpcjaaGreatDoor
