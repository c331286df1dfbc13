/-
  Walks and plain mathematics, several texts in one (Lk Ll).
-/
import Derived.Test.YtkmgnibopmpcjaaGreatDoorH6
import Derived.Deep.LoopGhost
/-
  Walks of layer 2: comments, and what stands between tokens.
-/
namespace Go.Proofs.YtkmgnibopmpcjaaGreatDoor
open Go.RowKit
namespace Pl
def startAt (l : Bytes) (n : Nat) : Int := n + 1 - colAt l n
theorem startAt_range (l : Bytes) (n : Nat) : 0 ≤ startAt l n ∧ startAt l n ≤ n := by
  have := colAt_pos l n; unfold startAt; omega
theorem start_step (s : ByteArray) (i : Nat) (h : i < s.size) : startAt s.toList (i + 1) = if s[i] = 10 then ((i + 1 : Nat) : Int) else startAt s.toList i := by
  unfold startAt; rw [col_step s i h]; split <;> omega
theorem at_two (s : ByteArray) (n : Nat) (h : n + 1 < s.size) (h1 : s[n] ≠ 10) (h2 : s[n + 1] ≠ 10) : lineAt s.toList (n + 2) = lineAt s.toList n ∧ startAt s.toList (n + 2) = startAt s.toList n := by
  rw [line_step s (n + 1) h, line_step s n (by omega), start_step s (n + 1) h, start_step s n (by omega), if_neg h1, if_neg h2, if_neg h1, if_neg h2]
  exact ⟨rfl, rfl⟩
theorem at_on (l : Bytes) (i n : Nat) (hn : i + n ≤ l.length) (h : 10 ∉ (l.drop i).take n) : lineAt l (i + n) = lineAt l i ∧ startAt l (i + n) = startAt l i := by
  obtain ⟨h1, h2⟩ := place_on l i n hn h
  refine ⟨h1, ?_⟩
  unfold startAt; rw [h2]; omega
theorem opens_at (s : ByteArray) (n : Nat) : opens (s.toList.drop n) = true ↔ ∃ h : n + 1 < s.size, s[n] = 40 ∧ s[n + 1] = 42 := by
  by_cases h : n + 1 < s.size
  · rw [drop_cons s n (by omega), drop_cons s (n + 1) h]
    simp only [opens, List.isPrefixOf, Bool.and_true, Bool.and_eq_true, beq_iff_eq]
    constructor
    · rintro ⟨h1, h2⟩; exact ⟨h, h1.symm, h2.symm⟩
    · rintro ⟨_, h1, h2⟩; exact ⟨h1.symm, h2.symm⟩
  · constructor
    · intro ho
      exfalso
      have hp := (List.isPrefixOf_iff_prefix.1 ho).length_le
      rw [List.length_drop, len_size] at hp
      simp at hp; omega
    · rintro ⟨h', _⟩; exact absurd h' h
theorem closes_at (s : ByteArray) (n : Nat) : closes (s.toList.drop n) = true ↔ ∃ h : n + 1 < s.size, s[n] = 42 ∧ s[n + 1] = 41 := by
  by_cases h : n + 1 < s.size
  · rw [drop_cons s n (by omega), drop_cons s (n + 1) h]
    simp only [closes, List.isPrefixOf, Bool.and_true, Bool.and_eq_true, beq_iff_eq]
    constructor
    · rintro ⟨h1, h2⟩; exact ⟨h, h1.symm, h2.symm⟩
    · rintro ⟨_, h1, h2⟩; exact ⟨h1.symm, h2.symm⟩
  · constructor
    · intro ho
      exfalso
      have hp := (List.isPrefixOf_iff_prefix.1 ho).length_le
      rw [List.length_drop, len_size] at hp
      simp at hp; omega
    · rintro ⟨h', _⟩; exact absurd h' h
theorem com_end (s : ByteArray) (k d j : Nat) (h : s.size ≤ k) : com (s.toList.drop k) false d j = 0 := by
  rw [List.drop_eq_nil_of_le (by rw [len_size]; exact h)]; rfl
theorem com_open (s : ByteArray) (k d j : Nat) (h : opens (s.toList.drop k) = true) : com (s.toList.drop k) false d j = com (s.toList.drop (k + 2)) false (d + 1) (j + 2) := by
  obtain ⟨h1, _, _⟩ := (opens_at s k).1 h
  have e1 := drop_cons s k (by omega)
  have e2 := drop_cons s (k + 1) h1
  rw [e1] at h ⊢
  rw [com, if_pos h, e2, com, if_neg (by omega)]
theorem com_close (s : ByteArray) (k d j : Nat) (ho : opens (s.toList.drop k) = false) (h : closes (s.toList.drop k) = true) : com (s.toList.drop k) false d j = if d - 1 = 0 then j + 2 else com (s.toList.drop (k + 2)) false (d - 1) (j + 2) := by
  obtain ⟨h1, _, _⟩ := (closes_at s k).1 h
  have e1 := drop_cons s k (by omega)
  have e2 := drop_cons s (k + 1) h1
  rw [e1] at h ho ⊢
  rw [com, if_neg (by rw [ho]; simp), if_pos h, e2, com]
theorem com_step (s : ByteArray) (k d j : Nat) (hk : k < s.size) (ho : opens (s.toList.drop k) = false) (h : closes (s.toList.drop k) = false) : com (s.toList.drop k) false d j = com (s.toList.drop (k + 1)) false d (j + 1) := by
  have e1 := drop_cons s k hk
  rw [e1] at h ho ⊢
  rw [com, if_neg (by rw [ho]; simp), if_neg (by rw [h]; simp)]
end Pl
def RdAt (w : World) (b : Nat) (s : ByteArray) (n : Nat) (lim : Int) : Prop := Rd w b s n (Pl.lineAt s.toList n) (Pl.startAt s.toList n) lim
theorem pass_at (b : Nat) (s : ByteArray) (n : Nat) (lim : Int) (w : World) (h : RdAt w b s n lim) (hn : n < s.size) (hs : s.size ≤ 100000) :
    Calls Tryz.prog 162 #[.pointer (some ⟨b, 0, none⟩)] w fun e w' => e = .returned (.tuple #[]) ∧ RdAt w' b s (n + 1) lim ∧ Only b w w' := by
  have hl := Pl.lineAt_pos s.toList n
  refine (pass_any b s n _ _ lim w h hn (by unfold maxLen; omega) (by omega) (by omega)).mono ?_
  rintro e w' ⟨he, hr, ho⟩
  refine ⟨he, ?_, ho⟩
  rw [← Pl.line_step s n hn, ← Pl.start_step s n hn] at hr
  exact hr
def ComPost (b : Nat) (s : ByteArray) (n : Nat) (lim : Int) (w : World) (C : Nat) (e : Ending) (w' : World) : Prop :=
  ∃ m : Nat, m ≤ s.size ∧ (C ≠ 0 → m = n + C) ∧ e = .returned (.bool (decide (C ≠ 0))) ∧ RdAt w' b s m lim ∧ Only b w w'
theorem isAt_open (b : Nat) (s : ByteArray) (n : Nat) (lim : Int) (w : World) (h : RdAt w b s n lim) (hn : n ≤ s.size) :
    Calls Tryz.prog 159 #[.pointer (some ⟨b, 0, none⟩), .string ⟨#[40, 42]⟩] w fun e w' => e = .returned (.bool (Pl.opens (s.toList.drop n))) ∧ ∃ q, w' = w.drewN q := by
  have := isAt_any b s ⟨#[40, 42]⟩ n _ _ lim w h hn
  rw [show (⟨#[40, 42]⟩ : ByteArray) = Pl.mk [40, 42] from rfl, Pl.mk_toList] at this
  exact this
theorem isAt_close (b : Nat) (s : ByteArray) (n : Nat) (lim : Int) (w : World) (h : RdAt w b s n lim) (hn : n ≤ s.size) :
    Calls Tryz.prog 159 #[.pointer (some ⟨b, 0, none⟩), .string ⟨#[42, 41]⟩] w fun e w' => e = .returned (.bool (Pl.closes (s.toList.drop n))) ∧ ∃ q, w' = w.drewN q := by
  have := isAt_any b s ⟨#[42, 41]⟩ n _ _ lim w h hn
  rw [show (⟨#[42, 41]⟩ : ByteArray) = Pl.mk [42, 41] from rfl, Pl.mk_toList] at this
  exact this
theorem RdAt.two {w : World} {b : Nat} {s : ByteArray} {n : Nat} {lim : Int} (h : RdAt w b s n lim) (h1 : n + 1 < s.size) (g1 : s[n] ≠ 10) (g2 : s[n + 1] ≠ 10) : RdAt (w.setCell ⟨b, 1, none⟩ (.int .i64 ((n : Int) + 2))) b s (n + 2) lim := by
  obtain ⟨e1, e2⟩ := Pl.at_two s n h1 g1 g2
  unfold RdAt
  rw [e1, e2]
  exact Rd.next h _
set_option maxRecDepth 100000 in
set_option maxHeartbeats 2000000 in
theorem comment_any (b : Nat) (s : ByteArray) (n : Nat) (lim : Int) (w : World) (h : RdAt w b s n lim) (ho : Pl.opens (s.toList.drop n) = true) (hs : s.size ≤ 100000) :
    Calls Tryz.prog 160 #[.pointer (some ⟨b, 0, none⟩)] w (ComPost b s n lim w (Pl.com (s.toList.drop n) false 0 0)) := by
  obtain ⟨hn, -, -⟩ := (Pl.opens_at s n).1 ho
  generalize hC : Pl.com (s.toList.drop n) false 0 0 = C
  have HC := Lib.hid hC
  have HR := Lib.hid h
  have HO := Lib.hid ho
  clear hC h ho
  go_enter Tryz.func160, Tryz.ntmps160
  go_wp2
  go_loopg [3] (s.size + 1) (fun g d wr => ∃ (k j dd : Nat), k = n + j ∧ k ≤ s.size ∧ s.size + 1 ≤ k + g ∧ d = .int .i64 dd ∧ dd ≤ k ∧ (dd = 0 → Pl.opens (s.toList.drop k) = true) ∧ Pl.com (s.toList.drop k) false dd j = C ∧ RdAt wr b s k lim ∧ Only b w wr)
  case atStart => exact ⟨n, 0, 0, rfl, by omega, by omega, rfl, by omega, fun _ => HO.out, HC.out, HR.out, Only.refl _ _⟩
  case round =>
    obtain ⟨k, j, dd, hkj, hk, hg, rfl, hdk, hd0, hin, hr, hor⟩ := hrel
    have HKJ := Lib.hid hkj
    have HD0 := Lib.hid hd0
    have HOR := Lib.hid hor
    have HRR := Lib.hid hr
    have c0 := Rd.c0 hr
    have c1 := Rd.c1 hr
    clear hkj hd0 hor hr
    have x1 := Rd.thaw HRR.out 1
    by_cases hlt : k < s.size
    · cases ho : Pl.opens (s.toList.drop k)
      · have hcall1 := fun W (hW : RdAt W b s k lim) => isAt_open b s k lim W hW hk
        rw [ho] at hcall1
        have HC1 := Lib.hid hcall1
        have hdd : 1 ≤ dd := by
          rcases Nat.eq_zero_or_pos dd with h | h
          · have := HD0.out h; rw [ho] at this; cases this
          · exact h
        cases hc : Pl.closes (s.toList.drop k)
        · have HIN := Lib.hid ((Pl.com_step s k dd j hlt ho hc).symm.trans hin)
          have hcall2 := fun W (hW : RdAt W b s k lim) => isAt_close b s k lim W hW hk
          rw [hc] at hcall2
          have HC2 := Lib.hid hcall2
          clear hcall1 hcall2 ho hc hin
          go_wp2
          go_quiet (fail)
          clear c0 c1 x1
          go_wp2_with fail
          refine (HC1.out _ (HRR.out.drewN _)).mono ?_
          rintro e w' ⟨rfl, q1, rfl⟩
          go_wp2_with fail
          refine (HC2.out _ (HRR.out.drewN _)).mono ?_
          rintro e w' ⟨rfl, q2, rfl⟩
          go_wp2_with fail
          refine (pass_at b s k lim _ (HRR.out.drewN _) hlt hs).mono ?_
          rintro e w2 ⟨rfl, hr2, ho2⟩
          have HR2 := Lib.hid hr2
          have HO2 := Lib.hid ((HOR.out.drewN _).trans ho2)
          clear hr2 ho2
          go_wp2
          go_roundg (gk - 1)
          case measure => omega
          case rel => exact ⟨k + 1, j + 1, dd, by have := HKJ.out; omega, by omega, by omega, rfl, by omega, fun h => absurd h (by omega), HIN.out, HR2.out, HO2.out⟩
        · obtain ⟨hk1, g1, g2⟩ := (Pl.closes_at s k).1 hc
          have hcall2 := fun W (hW : RdAt W b s k lim) => isAt_close b s k lim W hW hk
          rw [hc] at hcall2
          have HC2 := Lib.hid hcall2
          have hst := Pl.com_close s k dd j ho hc
          have HTWO := Lib.hid (fun q => RdAt.two (w := wr.drewN q) (HRR.out.drewN q) hk1 (by rw [g1]; decide) (by rw [g2]; decide))
          by_cases h1 : dd = 1
          · have HIN := Lib.hid (hin.symm.trans (hst.trans (if_pos (by omega))))
            have t1 : ((dd : Int) - 1 == 0) = true := beq_iff_eq.2 (by omega)
            have H1 := Lib.hid h1
            clear hcall1 hcall2 ho hc hin hst g1 g2 h1
            go_wp2
            go_quiet (fail)
            clear c0
            go_wp2_with fail
            refine (HC1.out _ (HRR.out.drewN _)).mono ?_
            rintro e w' ⟨rfl, q1, rfl⟩
            go_wp2_with fail
            refine (HC2.out _ (HRR.out.drewN _)).mono ?_
            rintro e w' ⟨rfl, q2, rfl⟩
            go_wp2
            go_ret
            exact ⟨k + 2, by omega, fun _ => by rw [HIN.out]; have := HKJ.out; omega, ret_bool (by rw [HIN.out]; simp), HTWO.out _, (HOR.out.drewN _).setCell (.inl rfl) _⟩
          · have HIN := Lib.hid ((hst.trans (if_neg (by omega))).symm.trans hin)
            have t1 : ((dd : Int) - 1 == 0) = false := beq_eq_false_iff_ne.2 (by omega)
            clear hcall1 hcall2 ho hc hin hst g1 g2
            go_wp2
            go_quiet (fail)
            clear c0
            go_wp2_with fail
            refine (HC1.out _ (HRR.out.drewN _)).mono ?_
            rintro e w' ⟨rfl, q1, rfl⟩
            go_wp2_with fail
            refine (HC2.out _ (HRR.out.drewN _)).mono ?_
            rintro e w' ⟨rfl, q2, rfl⟩
            go_wp2
            go_roundg (gk - 1)
            case measure => omega
            case rel => exact ⟨k + 2, j + 2, dd - 1, by have := HKJ.out; omega, by omega, by omega, by congr 1; omega, by omega, fun h => absurd h (by omega), HIN.out, HTWO.out _, (HOR.out.drewN _).setCell (.inl rfl) _⟩
      · obtain ⟨hk1, g1, g2⟩ := (Pl.opens_at s k).1 ho
        have hcall1 := fun W (hW : RdAt W b s k lim) => isAt_open b s k lim W hW hk
        rw [ho] at hcall1
        have HC1 := Lib.hid hcall1
        have HIN := Lib.hid ((Pl.com_open s k dd j ho).symm.trans hin)
        have HTWO := Lib.hid (fun q => RdAt.two (w := wr.drewN q) (HRR.out.drewN q) hk1 (by rw [g1]; decide) (by rw [g2]; decide))
        clear hcall1 ho hin g1 g2
        go_wp2
        go_quiet (fail)
        clear c0
        go_wp2_with fail
        refine (HC1.out _ (HRR.out.drewN _)).mono ?_
        rintro e w' ⟨rfl, q1, rfl⟩
        go_wp2
        go_roundg (gk - 1)
        case measure => omega
        case rel => exact ⟨k + 2, j + 2, dd + 1, by have := HKJ.out; omega, by omega, by omega, by go_num, by omega, fun h => absurd h (by omega), HIN.out, HTWO.out _, (HOR.out.drewN _).setCell (.inl rfl) _⟩
    · have HIN := Lib.hid (hin.symm.trans (Pl.com_end s k dd j (by omega)))
      clear hin
      go_wp2
      go_quiet (fail)
      go_wp2
      go_ret
      exact ⟨k, hk, fun h => absurd HIN.out h, ret_bool (by rw [HIN.out]; rfl), HRR.out.drewN _, HOR.out.drewN _⟩
end Go.Proofs.YtkmgnibopmpcjaaGreatDoor

/-
  Walks of layer 2: blanks and comments before a token.
-/
namespace Go.Proofs.YtkmgnibopmpcjaaGreatDoor
open Go.RowKit
namespace Pl
theorem com_le : ∀ (l : Bytes) (h : Bool) (d k : Nat), com l h d k ≠ 0 → k < com l h d k ∧ com l h d k ≤ k + l.length := by
  intro l
  induction l with
  | nil => intro h d k hc; exact absurd rfl hc
  | cons a r ih =>
    intro h d k
    cases h
    · rw [com]
      split
      · intro hc; have := ih true (d + 1) (k + 1) hc; simp only [List.length_cons]; omega
      · split
        · intro hc; have := ih true (d - 1) (k + 1) hc; simp only [List.length_cons]; omega
        · intro hc; have := ih false d (k + 1) hc; simp only [List.length_cons]; omega
    · rw [com]
      split
      · intro _; simp only [List.length_cons]; omega
      · intro hc; have := ih false d (k + 1) hc; simp only [List.length_cons]; omega
theorem opens_nil : opens [] = false := rfl
theorem headIs_nil (p : Int → Bool) : headIs p [] = false := rfl
theorem gapF_fuel : ∀ (f g : Nat) (l : Bytes), l.length ≤ f → l.length ≤ g → gapF f l = gapF g l := by
  intro f
  induction f with
  | zero =>
    intro g l hf _
    have hl : l = [] := List.eq_nil_of_length_eq_zero (by omega)
    subst hl
    cases g with
    | zero => rfl
    | succ g => rw [gapF, gapF, if_neg (by rw [opens_nil]; simp), if_neg (by rw [headIs_nil]; simp)]
  | succ f ih =>
    intro g l hf hg
    cases g with
    | zero =>
      have hl : l = [] := List.eq_nil_of_length_eq_zero (by omega)
      subst hl
      rw [gapF, gapF, if_neg (by rw [opens_nil]; simp), if_neg (by rw [headIs_nil]; simp)]
    | succ g =>
      rw [gapF, gapF]
      by_cases ho : opens l = true
      · rw [if_pos ho, if_pos ho]
        by_cases hc : com l false 0 0 = 0
        · rw [if_pos hc, if_pos hc]
        · rw [if_neg hc, if_neg hc]
          have hle := com_le l false 0 0 hc
          rw [ih g (l.drop (com l false 0 0)) (by rw [List.length_drop]; omega) (by rw [List.length_drop]; omega)]
      · rw [if_neg ho, if_neg ho]
        by_cases hb : headIs blank l = true
        · rw [if_pos hb, if_pos hb]
          have h1 : 1 ≤ l.length := by
            cases l with
            | nil => cases hb
            | cons a r => simp
          rw [ih g (l.drop 1) (by rw [List.length_drop]; omega) (by rw [List.length_drop]; omega)]
        · rw [if_neg hb, if_neg hb]
theorem gap_eq (l : Bytes) : gap l = if opens l then (if com l false 0 0 = 0 then (0, true) else (com l false 0 0 + (gap (l.drop (com l false 0 0))).1, (gap (l.drop (com l false 0 0))).2))
    else if headIs blank l then (1 + (gap (l.drop 1)).1, (gap (l.drop 1)).2) else (0, false) := by
  unfold gap
  rw [gapF_fuel l.length (l.length + 1) l (by omega) (by omega), gapF]
  by_cases ho : opens l = true
  · rw [if_pos ho, if_pos ho]
    by_cases hc : com l false 0 0 = 0
    · rw [if_pos hc, if_pos hc]
    · rw [if_neg hc, if_neg hc]
      rw [gapF_fuel l.length (l.drop (com l false 0 0)).length _ (by rw [List.length_drop]; omega) (by omega)]
  · rw [if_neg ho, if_neg ho]
    by_cases hb : headIs blank l = true
    · rw [if_pos hb, if_pos hb, gapF_fuel l.length (l.drop 1).length _ (by rw [List.length_drop]; omega) (by omega)]
    · rw [if_neg hb, if_neg hb]
theorem gap_bad (l : Bytes) (ho : opens l = true) (hc : com l false 0 0 = 0) : gap l = (0, true) := by rw [gap_eq, if_pos ho, if_pos hc]
theorem gap_com (l : Bytes) (ho : opens l = true) (hc : com l false 0 0 ≠ 0) : gap l = (com l false 0 0 + (gap (l.drop (com l false 0 0))).1, (gap (l.drop (com l false 0 0))).2) := by rw [gap_eq, if_pos ho, if_neg hc]
theorem gap_blank (l : Bytes) (ho : opens l = false) (hb : headIs blank l = true) : gap l = (1 + (gap (l.drop 1)).1, (gap (l.drop 1)).2) := by rw [gap_eq, if_neg (by rw [ho]; simp), if_pos hb]
theorem gap_none (l : Bytes) (ho : opens l = false) (hb : headIs blank l = false) : gap l = (0, false) := by rw [gap_eq, if_neg (by rw [ho]; simp), if_neg (by rw [hb]; simp)]
theorem gap_nil : gap [] = (0, false) := rfl
theorem gap_le : ∀ (n : Nat) (l : Bytes), l.length ≤ n → (gap l).1 ≤ l.length := by
  intro n
  induction n with
  | zero => intro l h; have hl : l = [] := List.eq_nil_of_length_eq_zero (by omega); subst hl; exact Nat.zero_le _
  | succ n ih =>
    intro l h
    cases ho : opens l
    · cases hb : headIs blank l
      · rw [gap_none l ho hb]; exact Nat.zero_le _
      · have h1 : 1 ≤ l.length := by
          cases l with
          | nil => cases hb
          | cons a r => simp
        rw [gap_blank l ho hb]
        have := ih (l.drop 1) (by rw [List.length_drop]; omega)
        rw [List.length_drop] at this
        show 1 + _ ≤ _
        omega
    · by_cases hc : com l false 0 0 = 0
      · rw [gap_bad l ho hc]; exact Nat.zero_le _
      · rw [gap_com l ho hc]
        have hle := com_le l false 0 0 hc
        have := ih (l.drop (com l false 0 0)) (by rw [List.length_drop]; omega)
        rw [List.length_drop] at this
        show com l false 0 0 + _ ≤ _
        omega
end Pl
structure PsAt (w : World) (g : Nat) (a c : Value) : Prop where
  c0 : w.cell? ⟨g, 0, none⟩ = some a
  c1 : w.cell? ⟨g, 1, none⟩ = some c
  e0 : w.frozen? ⟨g, 0, none⟩ = false
  e1 : w.frozen? ⟨g, 1, none⟩ = false
theorem psAt_of {w : World} {g : Nat} {t : TypeId} {a c : Value} (h : Blk w g t #[a, c]) : PsAt w g a c := ⟨h.cell 0 a rfl, h.cell 1 c rfl, h.thaw 0, h.thaw 1⟩
theorem ps_put {w : World} {g : Nat} {t : TypeId} {a c : Value} (h : Blk w g t #[a, c]) (a' c' : Value) : Blk ((w.setCell ⟨g, 0, none⟩ a').setCell ⟨g, 1, none⟩ c') g t #[a', c'] := (h.set 0 a').set 1 c'
theorem only_put2 {b : Nat} {v w : World} {g : Nat} (h : Only b v w) (hg : v.heap.size ≤ g) (a' c' : Value) : Only b v ((w.setCell ⟨g, 0, none⟩ a').setCell ⟨g, 1, none⟩ c') :=
  (h.setCell (p := ⟨g, 0, none⟩) (.inr hg) a').setCell (p := ⟨g, 1, none⟩) (.inr hg) c'
theorem RdAt.put2 {w : World} {b g : Nat} {s : ByteArray} {n : Nat} {lim : Int} (h : RdAt w b s n lim) (hg : b ≠ g) (a' c' : Value) : RdAt ((w.setCell ⟨g, 0, none⟩ a').setCell ⟨g, 1, none⟩ c') b s n lim :=
  Rd.other (Rd.other h ⟨g, 0, none⟩ a' hg) ⟨g, 1, none⟩ c' hg
def gapVal (l : Pl.Bytes) (n : Nat) (G : Nat × Bool) : Value :=
  if G.2 then .tuple #[.agg #[.int .i64 (Pl.lineAt l (n + G.1)), .int .i64 (Pl.colAt l (n + G.1))], .int .i64 4] else .tuple #[.agg #[.int .i64 0, .int .i64 0], .int .i64 0]
def GapPost (b : Nat) (s : ByteArray) (n : Nat) (lim : Int) (w : World) (G : Nat × Bool) (e : Ending) (w' : World) : Prop :=
  ∃ m : Nat, m ≤ s.size ∧ (G.2 = false → m = n + G.1) ∧ e = .returned (gapVal s.toList n G) ∧ RdAt w' b s m lim ∧ Only b w w'
theorem place_at (b : Nat) (s : ByteArray) (n : Nat) (lim : Int) (w : World) (h : RdAt w b s n lim) (hs : s.size ≤ 100000) (hn : n ≤ s.size) :
    Calls Tryz.prog 98 #[.pointer (some ⟨b, 0, none⟩), .int .i64 n] w fun e w' => e = .returned (.agg #[.int .i64 (Pl.lineAt s.toList n), .int .i64 (Pl.colAt s.toList n)]) ∧ Below w.heap.size w w' := by
  have hr := Pl.startAt_range s.toList n
  have := place_any b s n _ _ lim n w h hr.1 hr.2 (by omega)
  rw [show (n : Int) - Pl.startAt s.toList n + 1 = Pl.colAt s.toList n from by unfold Pl.startAt; omega] at this
  exact this
set_option maxRecDepth 100000 in
set_option maxHeartbeats 2000000 in
theorem gap_any (b : Nat) (s : ByteArray) (n : Nat) (lim : Int) (w : World) (h : RdAt w b s n lim) (hn : n ≤ s.size) (hs : s.size ≤ 100000) :
    Calls Tryz.prog 97 #[.pointer (some ⟨b, 0, none⟩)] w (GapPost b s n lim w (Pl.gap (s.toList.drop n))) := by
  generalize hG : Pl.gap (s.toList.drop n) = G
  have HG := Lib.hid hG
  have hr := Rd.alloc h (.cells #[.int .i64 0, .int .i64 0] 30)
  have hk := blk_new w #[.int .i64 0, .int .i64 0] 30
  have ho : Only b w (w.alloc (.cells #[.int .i64 0, .int .i64 0] 30)) := (Only.refl b w).alloc _
  have hlt := Rd.lt h
  have hne : b ≠ w.heap.size := Nat.ne_of_lt hlt
  have hsz : (w.alloc (.cells #[.int .i64 0, .int .i64 0] 30)).heap.size = w.heap.size + 1 := by simp
  clear h hG
  go_enter Tryz.func97, Tryz.ntmps97
  go_wp2
  generalize w.alloc (.cells #[.int .i64 0, .int .i64 0] 30) = w0 at hr hk ho hsz ⊢
  have HR : Hid (RdAt w0 b s n lim) := hr
  have HK := Lib.hid hk
  have HO := Lib.hid ho
  clear hr hk ho
  go_loopg [] (s.size + 1) (fun g wr => ∃ (k j : Nat), k = n + j ∧ k ≤ s.size ∧ s.size + 1 ≤ k + g ∧ (j + (Pl.gap (s.toList.drop k)).1, (Pl.gap (s.toList.drop k)).2) = G ∧ RdAt wr b s k lim ∧ Blk wr w.heap.size 30 #[.int .i64 0, .int .i64 0] ∧ Only b w wr)
  case atStart => exact ⟨n, 0, rfl, by omega, by omega, by rw [HG.out, Nat.zero_add], HR.out, HK.out, HO.out⟩
  case round =>
    obtain ⟨k, j, hkj, hk, hg, hin, hr, hkb, hor⟩ := hrel
    have HKJ := Lib.hid hkj
    have HOR := Lib.hid hor
    have HRR := Lib.hid hr
    have HKB := Lib.hid hkb
    have c0 := Rd.c0 hr
    have c1 := Rd.c1 hr
    clear hkj hor hr hkb
    by_cases hlt : k < s.size
    · cases ho : Pl.opens (s.toList.drop k)
      · have hcall1 := fun W (hW : RdAt W b s k lim) => isAt_open b s k lim W hW hk
        rw [ho] at hcall1
        have HC1 := Lib.hid hcall1
        have hhd := Pl.headIs_at Pl.blank s k hlt
        have hcb := fun W => isBlank_any (s[k].toNat : Int) W
        cases hb : Pl.blank (s[k].toNat : Int)
        · rw [hb] at hhd hcb
          have HCB := Lib.hid hcb
          clear hcb hb
          have HIN := Lib.hid ((by rw [← hin, Pl.gap_none _ ho hhd, Nat.add_zero]) : (j, false) = G)
          clear hcall1 hin ho hhd
          go_wp2
          go_quiet (fail)
          clear c0 c1
          go_wp2_with fail
          refine (HC1.out _ (Rd.drewN HRR.out nq)).mono ?_
          rintro e w5 ⟨rfl, q1, hw5⟩
          have HR5 : Hid (RdAt w5 b s k lim) := by rw [hw5]; exact Rd.drewN (Rd.drewN HRR.out nq) q1
          have HK5 : Hid (Blk w5 w.heap.size 30 #[.int .i64 0, .int .i64 0]) := by rw [hw5]; exact (HKB.out.drewN nq).drewN q1
          have HO5 : Hid (Only b w w5) := by rw [hw5]; exact (HOR.out.drewN nq).drewN q1
          clear hw5
          have c0 := Rd.c0 HR5.out
          have c1 := Rd.c1 HR5.out
          go_wp2
          go_quiet ((go_at_call 161; exact Calls.quiet_of_same ((HCB.out _).mono fun _ _ ⟨he, hw⟩ => ⟨he, hw.symm⟩)))
          obtain ⟨d0, d1, e0, e1⟩ := psAt_of HK5.out
          go_wp2
          obtain ⟨f0, f1, -, -⟩ := psAt_of (ps_put (HK5.out.drewN nq) (.int .i64 0) (.int .i64 0))
          refine bodyPost_ret (v := .tuple #[.agg #[.int .i64 0, .int .i64 0], .int .i64 0]) (by simp [results, Tryz.results97, go_sem, f0, f1]) rfl ?_
          exact ⟨k, hk, fun _ => by rw [← HIN.out]; exact HKJ.out, by rw [← HIN.out]; rfl, RdAt.put2 (HR5.out.drewN _) hne _ _, only_put2 (HO5.out.drewN _) (Nat.le_refl _) _ _⟩
        · rw [hb] at hhd hcb
          have HCB := Lib.hid hcb
          clear hcb hb
          have HIN := Lib.hid ((by rw [← hin, Pl.gap_blank _ ho hhd, List.drop_drop, Nat.add_assoc]) : (j + 1 + (Pl.gap (s.toList.drop (k + 1))).1, (Pl.gap (s.toList.drop (k + 1))).2) = G)
          clear hcall1 hin ho hhd
          go_wp2
          go_quiet (fail)
          clear c0 c1
          go_wp2_with fail
          refine (HC1.out _ (Rd.drewN HRR.out nq)).mono ?_
          rintro e w5 ⟨rfl, q1, hw5⟩
          have HR5 : Hid (RdAt w5 b s k lim) := by rw [hw5]; exact Rd.drewN (Rd.drewN HRR.out nq) q1
          have HK5 : Hid (Blk w5 w.heap.size 30 #[.int .i64 0, .int .i64 0]) := by rw [hw5]; exact (HKB.out.drewN nq).drewN q1
          have HO5 : Hid (Only b w w5) := by rw [hw5]; exact (HOR.out.drewN nq).drewN q1
          clear hw5
          have c0 := Rd.c0 HR5.out
          have c1 := Rd.c1 HR5.out
          go_wp2
          go_quiet ((go_at_call 161; exact Calls.quiet_of_same ((HCB.out _).mono fun _ _ ⟨he, hw⟩ => ⟨he, hw.symm⟩)))
          clear c0 c1
          go_wp2_with fail
          refine (pass_at b s k lim _ (HR5.out.drewN _) hlt hs).mono ?_
          rintro e w2 ⟨rfl, hr2, ho2⟩
          have HR2 := Lib.hid hr2
          have HK2 := Lib.hid (ho2.blk (HK5.out.drewN _) hne.symm)
          have HO2 := Lib.hid ((HO5.out.drewN _).trans ho2)
          clear hr2 ho2
          go_wp2
          go_roundg (gk - 1)
          case measure => omega
          case rel => exact ⟨k + 1, j + 1, by have := HKJ.out; omega, by omega, by omega, HIN.out, HR2.out, HK2.out, HO2.out⟩
      · have hcall1 := fun W (hW : RdAt W b s k lim) => isAt_open b s k lim W hW hk
        rw [ho] at hcall1
        have HC1 := Lib.hid hcall1
        have hcom := fun W (hW : RdAt W b s k lim) => comment_any b s k lim W hW ho hs
        have HCO := Lib.hid hcom
        by_cases hc : Pl.com (s.toList.drop k) false 0 0 = 0
        · have HIN := Lib.hid ((by rw [← hin, Pl.gap_bad _ ho hc, Nat.add_zero]) : (j, true) = G)
          have HCE := Lib.hid (decide_eq_false (show ¬ Pl.com (s.toList.drop k) false 0 0 ≠ 0 from fun h => h hc))
          clear hcall1 hin hcom ho hc
          go_wp2
          go_quiet (fail)
          clear c0
          go_wp2_with fail
          refine (HC1.out _ (HRR.out.drewN _)).mono ?_
          rintro e w' ⟨rfl, q1, rfl⟩
          go_wp2_with fail
          refine (place_at b s k lim _ (HRR.out.drewN _) hs hk).mono ?_
          rintro e w2 ⟨rfl, hb2⟩
          have HR2 : Hid (RdAt w2 b s k lim) := Rd.below (HRR.out.drewN _) hb2 (Rd.lt HRR.out)
          have HK2 := Lib.hid ((HKB.out.drewN _).below hb2 HKB.out.lt)
          have HO2 := Lib.hid ((HOR.out.drewN _).below hb2 HOR.out.size)
          have hlt2 := Rd.lt HR2.out
          clear hb2 c1
          go_wp2_with fail
          refine (HCO.out _ (Rd.alloc HR2.out _)).mono ?_
          rintro e w3 ⟨m, hm1, hm2, he, hr3, ho3⟩
          rw [HCE.out] at he
          subst he
          have HR3 := Lib.hid hr3
          have HK3 := Lib.hid (ho3.blk (HK2.out.alloc _) hne.symm)
          have HO3 := Lib.hid ((HO2.out.alloc _).trans ho3)
          have hk4 := ho3.blk (blk_new w2 #[.int .i64 (Pl.lineAt s.toList k), .int .i64 (Pl.colAt s.toList k)] 30) (Ne.symm (Nat.ne_of_lt hlt2))
          clear hr3 ho3 hm2
          obtain ⟨d0, d1, e0, e1⟩ := psAt_of HK3.out
          obtain ⟨g0, g1, -, -⟩ := psAt_of hk4
          clear hk4
          go_wp2
          obtain ⟨f0, f1, -, -⟩ := psAt_of (ps_put HK3.out (.int .i64 (Pl.lineAt s.toList k)) (.int .i64 (Pl.colAt s.toList k)))
          refine bodyPost_ret (v := .tuple #[.agg #[.int .i64 (Pl.lineAt s.toList k), .int .i64 (Pl.colAt s.toList k)], .int .i64 4]) (by simp [results, Tryz.results97, go_sem, f0, f1]) rfl ?_
          exact ⟨m, hm1, (fun h => by rw [← HIN.out] at h; cases h), by rw [← HIN.out, HKJ.out]; rfl, HR3.out.put2 hne _ _, only_put2 HO3.out (Nat.le_refl _) _ _⟩
        · have HIN := Lib.hid ((by rw [← hin, Pl.gap_com _ ho hc, List.drop_drop, Nat.add_assoc]) : (j + Pl.com (s.toList.drop k) false 0 0 + (Pl.gap (s.toList.drop (k + Pl.com (s.toList.drop k) false 0 0))).1, (Pl.gap (s.toList.drop (k + Pl.com (s.toList.drop k) false 0 0))).2) = G)
          have HCE := Lib.hid (decide_eq_true hc)
          have hcp : 1 ≤ Pl.com (s.toList.drop k) false 0 0 := Nat.pos_of_ne_zero hc
          have HNZ := Lib.hid hc
          clear hcall1 hin hcom ho hc
          go_wp2
          go_quiet (fail)
          clear c0
          go_wp2_with fail
          refine (HC1.out _ (HRR.out.drewN _)).mono ?_
          rintro e w' ⟨rfl, q1, rfl⟩
          go_wp2_with fail
          refine (place_at b s k lim _ (HRR.out.drewN _) hs hk).mono ?_
          rintro e w2 ⟨rfl, hb2⟩
          have HR2 : Hid (RdAt w2 b s k lim) := Rd.below (HRR.out.drewN _) hb2 (Rd.lt HRR.out)
          have HK2 := Lib.hid ((HKB.out.drewN _).below hb2 HKB.out.lt)
          have HO2 := Lib.hid ((HOR.out.drewN _).below hb2 HOR.out.size)
          have hlt2 := Rd.lt HR2.out
          clear hb2 c1
          go_wp2_with fail
          refine (HCO.out _ (Rd.alloc HR2.out _)).mono ?_
          rintro e w3 ⟨m, hm1, hm2, he, hr3, ho3⟩
          rw [HCE.out] at he
          subst he
          have HR3 := Lib.hid hr3
          have HK3 := Lib.hid (ho3.blk (HK2.out.alloc _) hne.symm)
          have HO3 := Lib.hid ((HO2.out.alloc _).trans ho3)
          obtain rfl := hm2 HNZ.out
          clear hr3 ho3 hm2
          go_wp2
          go_roundg (gk - 1)
          case measure => omega
          case rel => exact ⟨k + Pl.com (s.toList.drop k) false 0 0, j + Pl.com (s.toList.drop k) false 0 0, by have := HKJ.out; omega, hm1, by omega, HIN.out, HR3.out, HK3.out, HO3.out⟩
    · have HIN := Lib.hid ((by rw [← hin, List.drop_eq_nil_of_le (by rw [Pl.len_size]; omega), Pl.gap_nil, Nat.add_zero]) : (j, false) = G)
      clear hin
      obtain ⟨d0, d1, e0, e1⟩ := psAt_of HKB.out
      go_wp2
      go_quiet (fail)
      go_wp2
      obtain ⟨f0, f1, -, -⟩ := psAt_of (ps_put (HKB.out.drewN nq) (.int .i64 0) (.int .i64 0))
      refine bodyPost_ret (v := .tuple #[.agg #[.int .i64 0, .int .i64 0], .int .i64 0]) (by simp [results, Tryz.results97, go_sem, f0, f1]) rfl ?_
      exact ⟨k, hk, fun _ => by rw [← HIN.out]; exact HKJ.out, by rw [← HIN.out]; rfl, RdAt.put2 (HRR.out.drewN _) hne _ _, only_put2 (HOR.out.drewN _) (Nat.le_refl _) _ _⟩
end Go.Proofs.YtkmgnibopmpcjaaGreatDoor
