/-
  Walks of layer 2: comments, and what stands between tokens.
-/
import Derived.Test.YtbmkbenlhkcklaaDoorLj
import Derived.Deep.LoopGhost
namespace Go.Proofs.YtbmkbenlhkcklaaDoor
open Go.RowKit
namespace Pl
/-- where the line of a byte begins -/
def startAt (l : Bytes) (n : Nat) : Int := n + 1 - colAt l n
theorem startAt_range (l : Bytes) (n : Nat) : 0 ≤ startAt l n ∧ startAt l n ≤ n := by
  have := colAt_pos l n; unfold startAt; omega
theorem start_step (s : ByteArray) (i : Nat) (h : i < s.size) : startAt s.toList (i + 1) = if s[i] = 10 then ((i + 1 : Nat) : Int) else startAt s.toList i := by
  unfold startAt; rw [col_step s i h]; split <;> omega
theorem at_two (s : ByteArray) (n : Nat) (h : n + 1 < s.size) (h1 : s[n] ≠ 10) (h2 : s[n + 1] ≠ 10) : lineAt s.toList (n + 2) = lineAt s.toList n ∧ startAt s.toList (n + 2) = startAt s.toList n := by
  rw [line_step s (n + 1) h, line_step s n (by omega), start_step s (n + 1) h, start_step s n (by omega), if_neg h1, if_neg h2, if_neg h1, if_neg h2]
  exact ⟨rfl, rfl⟩
theorem at_on (l : Bytes) (i n : Nat) (hn : i + n ≤ l.length) (h : 10 ∉ (l.drop i).take n) : lineAt l (i + n) = lineAt l i ∧ startAt l (i + n) = startAt l i := by
  obtain ⟨h1, h2⟩ := place_on l i n hn h
  refine ⟨h1, ?_⟩
  unfold startAt; rw [h2]; omega
theorem opens_at (s : ByteArray) (n : Nat) : opens (s.toList.drop n) = true ↔ ∃ h : n + 1 < s.size, s[n] = 40 ∧ s[n + 1] = 42 := by
  by_cases h : n + 1 < s.size
  · rw [drop_cons s n (by omega), drop_cons s (n + 1) h]
    simp only [opens, List.isPrefixOf, Bool.and_true, Bool.and_eq_true, beq_iff_eq]
    constructor
    · rintro ⟨h1, h2⟩; exact ⟨h, h1.symm, h2.symm⟩
    · rintro ⟨_, h1, h2⟩; exact ⟨h1.symm, h2.symm⟩
  · constructor
    · intro ho
      exfalso
      have hp := (List.isPrefixOf_iff_prefix.1 ho).length_le
      rw [List.length_drop, len_size] at hp
      simp at hp; omega
    · rintro ⟨h', _⟩; exact absurd h' h
theorem closes_at (s : ByteArray) (n : Nat) : closes (s.toList.drop n) = true ↔ ∃ h : n + 1 < s.size, s[n] = 42 ∧ s[n + 1] = 41 := by
  by_cases h : n + 1 < s.size
  · rw [drop_cons s n (by omega), drop_cons s (n + 1) h]
    simp only [closes, List.isPrefixOf, Bool.and_true, Bool.and_eq_true, beq_iff_eq]
    constructor
    · rintro ⟨h1, h2⟩; exact ⟨h, h1.symm, h2.symm⟩
    · rintro ⟨_, h1, h2⟩; exact ⟨h1.symm, h2.symm⟩
  · constructor
    · intro ho
      exfalso
      have hp := (List.isPrefixOf_iff_prefix.1 ho).length_le
      rw [List.length_drop, len_size] at hp
      simp at hp; omega
    · rintro ⟨h', _⟩; exact absurd h' h
theorem com_end (s : ByteArray) (k d j : Nat) (h : s.size ≤ k) : com (s.toList.drop k) false d j = 0 := by
  rw [List.drop_eq_nil_of_le (by rw [len_size]; exact h)]; rfl
theorem com_open (s : ByteArray) (k d j : Nat) (h : opens (s.toList.drop k) = true) : com (s.toList.drop k) false d j = com (s.toList.drop (k + 2)) false (d + 1) (j + 2) := by
  obtain ⟨h1, _, _⟩ := (opens_at s k).1 h
  have e1 := drop_cons s k (by omega)
  have e2 := drop_cons s (k + 1) h1
  rw [e1] at h ⊢
  rw [com, if_pos h, e2, com, if_neg (by omega)]
theorem com_close (s : ByteArray) (k d j : Nat) (ho : opens (s.toList.drop k) = false) (h : closes (s.toList.drop k) = true) : com (s.toList.drop k) false d j = if d - 1 = 0 then j + 2 else com (s.toList.drop (k + 2)) false (d - 1) (j + 2) := by
  obtain ⟨h1, _, _⟩ := (closes_at s k).1 h
  have e1 := drop_cons s k (by omega)
  have e2 := drop_cons s (k + 1) h1
  rw [e1] at h ho ⊢
  rw [com, if_neg (by rw [ho]; simp), if_pos h, e2, com]
theorem com_step (s : ByteArray) (k d j : Nat) (hk : k < s.size) (ho : opens (s.toList.drop k) = false) (h : closes (s.toList.drop k) = false) : com (s.toList.drop k) false d j = com (s.toList.drop (k + 1)) false d (j + 1) := by
  have e1 := drop_cons s k hk
  rw [e1] at h ho ⊢
  rw [com, if_neg (by rw [ho]; simp), if_neg (by rw [h]; simp)]
end Pl
/-- a reader whose line is that of the byte at which it stands -/
def RdAt (w : World) (b : Nat) (s : ByteArray) (n : Nat) (lim : Int) : Prop := Rd w b s n (Pl.lineAt s.toList n) (Pl.startAt s.toList n) lim
theorem pass_at (b : Nat) (s : ByteArray) (n : Nat) (lim : Int) (w : World) (h : RdAt w b s n lim) (hn : n < s.size) (hs : s.size ≤ 100000) :
    Calls Tryd.prog 28 #[.pointer (some ⟨b, 0, none⟩)] w fun e w' => e = .returned (.tuple #[]) ∧ RdAt w' b s (n + 1) lim ∧ Only b w w' := by
  have hl := Pl.lineAt_pos s.toList n
  refine (pass_any b s n _ _ lim w h hn (by unfold maxLen; omega) (by omega) (by omega)).mono ?_
  rintro e w' ⟨he, hr, ho⟩
  refine ⟨he, ?_, ho⟩
  rw [← Pl.line_step s n hn, ← Pl.start_step s n hn] at hr
  exact hr

/-- what comment answers -/
def ComPost (b : Nat) (s : ByteArray) (n : Nat) (lim : Int) (w : World) (C : Nat) (e : Ending) (w' : World) : Prop :=
  ∃ m : Nat, m ≤ s.size ∧ (C ≠ 0 → m = n + C) ∧ e = .returned (.bool (decide (C ≠ 0))) ∧ RdAt w' b s m lim ∧ Only b w w'
def opn : ByteArray := ⟨#[40, 42]⟩
def cls2 : ByteArray := ⟨#[42, 41]⟩
theorem isAt_open (b : Nat) (s : ByteArray) (n : Nat) (lim : Int) (w : World) (h : RdAt w b s n lim) (hn : n ≤ s.size) :
    Calls Tryd.prog 25 #[.pointer (some ⟨b, 0, none⟩), .string ⟨#[40, 42]⟩] w fun e w' => e = .returned (.bool (Pl.opens (s.toList.drop n))) ∧ ∃ q, w' = w.drewN q := by
  have := isAt_any b s ⟨#[40, 42]⟩ n _ _ lim w h hn
  rw [show (⟨#[40, 42]⟩ : ByteArray) = Pl.mk [40, 42] from rfl, Pl.mk_toList] at this
  exact this
theorem isAt_close (b : Nat) (s : ByteArray) (n : Nat) (lim : Int) (w : World) (h : RdAt w b s n lim) (hn : n ≤ s.size) :
    Calls Tryd.prog 25 #[.pointer (some ⟨b, 0, none⟩), .string ⟨#[42, 41]⟩] w fun e w' => e = .returned (.bool (Pl.closes (s.toList.drop n))) ∧ ∃ q, w' = w.drewN q := by
  have := isAt_any b s ⟨#[42, 41]⟩ n _ _ lim w h hn
  rw [show (⟨#[42, 41]⟩ : ByteArray) = Pl.mk [42, 41] from rfl, Pl.mk_toList] at this
  exact this
theorem RdAt.two {w : World} {b : Nat} {s : ByteArray} {n : Nat} {lim : Int} (h : RdAt w b s n lim) (h1 : n + 1 < s.size) (g1 : s[n] ≠ 10) (g2 : s[n + 1] ≠ 10) : RdAt (w.setCell ⟨b, 1, none⟩ (.int .i64 ((n : Int) + 2))) b s (n + 2) lim := by
  obtain ⟨e1, e2⟩ := Pl.at_two s n h1 g1 g2
  unfold RdAt
  rw [e1, e2]
  exact Rd.next h _
set_option maxRecDepth 100000 in
set_option maxHeartbeats 2000000 in
theorem comment_any (b : Nat) (s : ByteArray) (n : Nat) (lim : Int) (w : World) (h : RdAt w b s n lim) (ho : Pl.opens (s.toList.drop n) = true) (hs : s.size ≤ 100000) :
    Calls Tryd.prog 26 #[.pointer (some ⟨b, 0, none⟩)] w (ComPost b s n lim w (Pl.com (s.toList.drop n) false 0 0)) := by
  obtain ⟨hn, -, -⟩ := (Pl.opens_at s n).1 ho
  generalize hC : Pl.com (s.toList.drop n) false 0 0 = C
  have HC := Lib.hid hC
  have HR := Lib.hid h
  have HO := Lib.hid ho
  clear hC h ho
  go_enter Tryd.func26, Tryd.ntmps26
  go_wp2
  go_loopg [3] (s.size + 1) (fun g d wr => ∃ (k j dd : Nat), k = n + j ∧ k ≤ s.size ∧ s.size + 1 ≤ k + g ∧ d = .int .i64 dd ∧ dd ≤ k ∧ (dd = 0 → Pl.opens (s.toList.drop k) = true) ∧ Pl.com (s.toList.drop k) false dd j = C ∧ RdAt wr b s k lim ∧ Only b w wr)
  case atStart => exact ⟨n, 0, 0, rfl, by omega, by omega, rfl, by omega, fun _ => HO.out, HC.out, HR.out, Only.refl _ _⟩
  case round =>
    obtain ⟨k, j, dd, hkj, hk, hg, rfl, hdk, hd0, hin, hr, hor⟩ := hrel
    have HKJ := Lib.hid hkj
    have HD0 := Lib.hid hd0
    have HOR := Lib.hid hor
    have HRR := Lib.hid hr
    have c0 := Rd.c0 hr
    have c1 := Rd.c1 hr
    clear hkj hd0 hor hr
    have x1 := Rd.thaw HRR.out 1
    by_cases hlt : k < s.size
    · cases ho : Pl.opens (s.toList.drop k)
      · have hcall1 := fun W (hW : RdAt W b s k lim) => isAt_open b s k lim W hW hk
        rw [ho] at hcall1
        have HC1 := Lib.hid hcall1
        have hdd : 1 ≤ dd := by
          rcases Nat.eq_zero_or_pos dd with h | h
          · have := HD0.out h; rw [ho] at this; cases this
          · exact h
        cases hc : Pl.closes (s.toList.drop k)
        · have HIN := Lib.hid ((Pl.com_step s k dd j hlt ho hc).symm.trans hin)
          have hcall2 := fun W (hW : RdAt W b s k lim) => isAt_close b s k lim W hW hk
          rw [hc] at hcall2
          have HC2 := Lib.hid hcall2
          clear hcall1 hcall2 ho hc hin
          go_wp2
          go_quiet (fail)
          clear c0 c1 x1
          go_wp2_with fail
          refine (HC1.out _ (HRR.out.drewN _)).mono ?_
          rintro e w' ⟨rfl, q1, rfl⟩
          go_wp2_with fail
          refine (HC2.out _ (HRR.out.drewN _)).mono ?_
          rintro e w' ⟨rfl, q2, rfl⟩
          go_wp2_with fail
          refine (pass_at b s k lim _ (HRR.out.drewN _) hlt hs).mono ?_
          rintro e w2 ⟨rfl, hr2, ho2⟩
          have HR2 := Lib.hid hr2
          have HO2 := Lib.hid ((HOR.out.drewN _).trans ho2)
          clear hr2 ho2
          go_wp2
          go_roundg (gk - 1)
          case measure => omega
          case rel => exact ⟨k + 1, j + 1, dd, by have := HKJ.out; omega, by omega, by omega, rfl, by omega, fun h => absurd h (by omega), HIN.out, HR2.out, HO2.out⟩
        · obtain ⟨hk1, g1, g2⟩ := (Pl.closes_at s k).1 hc
          have hcall2 := fun W (hW : RdAt W b s k lim) => isAt_close b s k lim W hW hk
          rw [hc] at hcall2
          have HC2 := Lib.hid hcall2
          have hst := Pl.com_close s k dd j ho hc
          have HTWO := Lib.hid (fun q => RdAt.two (w := wr.drewN q) (HRR.out.drewN q) hk1 (by rw [g1]; decide) (by rw [g2]; decide))
          by_cases h1 : dd = 1
          · have HIN := Lib.hid (hin.symm.trans (hst.trans (if_pos (by omega))))
            have t1 : ((dd : Int) - 1 == 0) = true := beq_iff_eq.2 (by omega)
            have H1 := Lib.hid h1
            clear hcall1 hcall2 ho hc hin hst g1 g2 h1
            go_wp2
            go_quiet (fail)
            clear c0
            go_wp2_with fail
            refine (HC1.out _ (HRR.out.drewN _)).mono ?_
            rintro e w' ⟨rfl, q1, rfl⟩
            go_wp2_with fail
            refine (HC2.out _ (HRR.out.drewN _)).mono ?_
            rintro e w' ⟨rfl, q2, rfl⟩
            go_wp2
            go_ret
            exact ⟨k + 2, by omega, fun _ => by rw [HIN.out]; have := HKJ.out; omega, ret_bool (by rw [HIN.out]; simp), HTWO.out _, (HOR.out.drewN _).setCell (.inl rfl) _⟩
          · have HIN := Lib.hid ((hst.trans (if_neg (by omega))).symm.trans hin)
            have t1 : ((dd : Int) - 1 == 0) = false := beq_eq_false_iff_ne.2 (by omega)
            clear hcall1 hcall2 ho hc hin hst g1 g2
            go_wp2
            go_quiet (fail)
            clear c0
            go_wp2_with fail
            refine (HC1.out _ (HRR.out.drewN _)).mono ?_
            rintro e w' ⟨rfl, q1, rfl⟩
            go_wp2_with fail
            refine (HC2.out _ (HRR.out.drewN _)).mono ?_
            rintro e w' ⟨rfl, q2, rfl⟩
            go_wp2
            go_roundg (gk - 1)
            case measure => omega
            case rel => exact ⟨k + 2, j + 2, dd - 1, by have := HKJ.out; omega, by omega, by omega, by congr 1; omega, by omega, fun h => absurd h (by omega), HIN.out, HTWO.out _, (HOR.out.drewN _).setCell (.inl rfl) _⟩
      · obtain ⟨hk1, g1, g2⟩ := (Pl.opens_at s k).1 ho
        have hcall1 := fun W (hW : RdAt W b s k lim) => isAt_open b s k lim W hW hk
        rw [ho] at hcall1
        have HC1 := Lib.hid hcall1
        have HIN := Lib.hid ((Pl.com_open s k dd j ho).symm.trans hin)
        have HTWO := Lib.hid (fun q => RdAt.two (w := wr.drewN q) (HRR.out.drewN q) hk1 (by rw [g1]; decide) (by rw [g2]; decide))
        clear hcall1 ho hin g1 g2
        go_wp2
        go_quiet (fail)
        clear c0
        go_wp2_with fail
        refine (HC1.out _ (HRR.out.drewN _)).mono ?_
        rintro e w' ⟨rfl, q1, rfl⟩
        go_wp2
        go_roundg (gk - 1)
        case measure => omega
        case rel => exact ⟨k + 2, j + 2, dd + 1, by have := HKJ.out; omega, by omega, by omega, by go_num, by omega, fun h => absurd h (by omega), HIN.out, HTWO.out _, (HOR.out.drewN _).setCell (.inl rfl) _⟩
    · have HIN := Lib.hid (hin.symm.trans (Pl.com_end s k dd j (by omega)))
      clear hin
      go_wp2
      go_quiet (fail)
      go_wp2
      go_ret
      exact ⟨k, hk, fun h => absurd HIN.out h, ret_bool (by rw [HIN.out]; rfl), HRR.out.drewN _, HOR.out.drewN _⟩
end Go.Proofs.YtbmkbenlhkcklaaDoor
