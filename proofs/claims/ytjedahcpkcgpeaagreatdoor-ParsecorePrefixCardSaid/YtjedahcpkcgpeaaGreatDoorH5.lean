/-
  Walks and plain mathematics, several texts in one (Ll Ln).
-/
import Derived.Test.YtjedahcpkcgpeaaGreatDoorH4
/-
  Walks of layer 2: blanks and comments before a token.
-/
namespace Go.Proofs.YtjedahcpkcgpeaaGreatDoor
open Go.RowKit
namespace Pl
theorem com_le : ∀ (l : Bytes) (h : Bool) (d k : Nat), com l h d k ≠ 0 → k < com l h d k ∧ com l h d k ≤ k + l.length := by
  intro l
  induction l with
  | nil => intro h d k hc; exact absurd rfl hc
  | cons a r ih =>
    intro h d k
    cases h
    · rw [com]
      split
      · intro hc; have := ih true (d + 1) (k + 1) hc; simp only [List.length_cons]; omega
      · split
        · intro hc; have := ih true (d - 1) (k + 1) hc; simp only [List.length_cons]; omega
        · intro hc; have := ih false d (k + 1) hc; simp only [List.length_cons]; omega
    · rw [com]
      split
      · intro _; simp only [List.length_cons]; omega
      · intro hc; have := ih false d (k + 1) hc; simp only [List.length_cons]; omega
theorem opens_nil : opens [] = false := rfl
theorem headIs_nil (p : Int → Bool) : headIs p [] = false := rfl
theorem gapF_fuel : ∀ (f g : Nat) (l : Bytes), l.length ≤ f → l.length ≤ g → gapF f l = gapF g l := by
  intro f
  induction f with
  | zero =>
    intro g l hf _
    have hl : l = [] := List.eq_nil_of_length_eq_zero (by omega)
    subst hl
    cases g with
    | zero => rfl
    | succ g => rw [gapF, gapF, if_neg (by rw [opens_nil]; simp), if_neg (by rw [headIs_nil]; simp)]
  | succ f ih =>
    intro g l hf hg
    cases g with
    | zero =>
      have hl : l = [] := List.eq_nil_of_length_eq_zero (by omega)
      subst hl
      rw [gapF, gapF, if_neg (by rw [opens_nil]; simp), if_neg (by rw [headIs_nil]; simp)]
    | succ g =>
      rw [gapF, gapF]
      by_cases ho : opens l = true
      · rw [if_pos ho, if_pos ho]
        by_cases hc : com l false 0 0 = 0
        · rw [if_pos hc, if_pos hc]
        · rw [if_neg hc, if_neg hc]
          have hle := com_le l false 0 0 hc
          rw [ih g (l.drop (com l false 0 0)) (by rw [List.length_drop]; omega) (by rw [List.length_drop]; omega)]
      · rw [if_neg ho, if_neg ho]
        by_cases hb : headIs blank l = true
        · rw [if_pos hb, if_pos hb]
          have h1 : 1 ≤ l.length := by
            cases l with
            | nil => cases hb
            | cons a r => simp
          rw [ih g (l.drop 1) (by rw [List.length_drop]; omega) (by rw [List.length_drop]; omega)]
        · rw [if_neg hb, if_neg hb]
theorem gap_eq (l : Bytes) : gap l = if opens l then (if com l false 0 0 = 0 then (0, true) else (com l false 0 0 + (gap (l.drop (com l false 0 0))).1, (gap (l.drop (com l false 0 0))).2))
    else if headIs blank l then (1 + (gap (l.drop 1)).1, (gap (l.drop 1)).2) else (0, false) := by
  unfold gap
  rw [gapF_fuel l.length (l.length + 1) l (by omega) (by omega), gapF]
  by_cases ho : opens l = true
  · rw [if_pos ho, if_pos ho]
    by_cases hc : com l false 0 0 = 0
    · rw [if_pos hc, if_pos hc]
    · rw [if_neg hc, if_neg hc]
      rw [gapF_fuel l.length (l.drop (com l false 0 0)).length _ (by rw [List.length_drop]; omega) (by omega)]
  · rw [if_neg ho, if_neg ho]
    by_cases hb : headIs blank l = true
    · rw [if_pos hb, if_pos hb, gapF_fuel l.length (l.drop 1).length _ (by rw [List.length_drop]; omega) (by omega)]
    · rw [if_neg hb, if_neg hb]
theorem gap_bad (l : Bytes) (ho : opens l = true) (hc : com l false 0 0 = 0) : gap l = (0, true) := by rw [gap_eq, if_pos ho, if_pos hc]
theorem gap_com (l : Bytes) (ho : opens l = true) (hc : com l false 0 0 ≠ 0) : gap l = (com l false 0 0 + (gap (l.drop (com l false 0 0))).1, (gap (l.drop (com l false 0 0))).2) := by rw [gap_eq, if_pos ho, if_neg hc]
theorem gap_blank (l : Bytes) (ho : opens l = false) (hb : headIs blank l = true) : gap l = (1 + (gap (l.drop 1)).1, (gap (l.drop 1)).2) := by rw [gap_eq, if_neg (by rw [ho]; simp), if_pos hb]
theorem gap_none (l : Bytes) (ho : opens l = false) (hb : headIs blank l = false) : gap l = (0, false) := by rw [gap_eq, if_neg (by rw [ho]; simp), if_neg (by rw [hb]; simp)]
theorem gap_nil : gap [] = (0, false) := rfl
theorem gap_le : ∀ (n : Nat) (l : Bytes), l.length ≤ n → (gap l).1 ≤ l.length := by
  intro n
  induction n with
  | zero => intro l h; have hl : l = [] := List.eq_nil_of_length_eq_zero (by omega); subst hl; exact Nat.zero_le _
  | succ n ih =>
    intro l h
    cases ho : opens l
    · cases hb : headIs blank l
      · rw [gap_none l ho hb]; exact Nat.zero_le _
      · have h1 : 1 ≤ l.length := by
          cases l with
          | nil => cases hb
          | cons a r => simp
        rw [gap_blank l ho hb]
        have := ih (l.drop 1) (by rw [List.length_drop]; omega)
        rw [List.length_drop] at this
        show 1 + _ ≤ _
        omega
    · by_cases hc : com l false 0 0 = 0
      · rw [gap_bad l ho hc]; exact Nat.zero_le _
      · rw [gap_com l ho hc]
        have hle := com_le l false 0 0 hc
        have := ih (l.drop (com l false 0 0)) (by rw [List.length_drop]; omega)
        rw [List.length_drop] at this
        show com l false 0 0 + _ ≤ _
        omega
end Pl
structure PsAt (w : World) (g : Nat) (a c : Value) : Prop where
  c0 : w.cell? ⟨g, 0, none⟩ = some a
  c1 : w.cell? ⟨g, 1, none⟩ = some c
  e0 : w.frozen? ⟨g, 0, none⟩ = false
  e1 : w.frozen? ⟨g, 1, none⟩ = false
theorem psAt_of {w : World} {g : Nat} {t : TypeId} {a c : Value} (h : Blk w g t #[a, c]) : PsAt w g a c := ⟨h.cell 0 a rfl, h.cell 1 c rfl, h.thaw 0, h.thaw 1⟩
theorem ps_put {w : World} {g : Nat} {t : TypeId} {a c : Value} (h : Blk w g t #[a, c]) (a' c' : Value) : Blk ((w.setCell ⟨g, 0, none⟩ a').setCell ⟨g, 1, none⟩ c') g t #[a', c'] := (h.set 0 a').set 1 c'
theorem only_put2 {b : Nat} {v w : World} {g : Nat} (h : Only b v w) (hg : v.heap.size ≤ g) (a' c' : Value) : Only b v ((w.setCell ⟨g, 0, none⟩ a').setCell ⟨g, 1, none⟩ c') :=
  (h.setCell (p := ⟨g, 0, none⟩) (.inr hg) a').setCell (p := ⟨g, 1, none⟩) (.inr hg) c'
theorem RdAt.put2 {w : World} {b g : Nat} {s : ByteArray} {n : Nat} {lim : Int} (h : RdAt w b s n lim) (hg : b ≠ g) (a' c' : Value) : RdAt ((w.setCell ⟨g, 0, none⟩ a').setCell ⟨g, 1, none⟩ c') b s n lim :=
  Rd.other (Rd.other h ⟨g, 0, none⟩ a' hg) ⟨g, 1, none⟩ c' hg
def gapVal (l : Pl.Bytes) (n : Nat) (G : Nat × Bool) : Value :=
  if G.2 then .tuple #[.agg #[.int .i64 (Pl.lineAt l (n + G.1)), .int .i64 (Pl.colAt l (n + G.1))], .int .i64 4] else .tuple #[.agg #[.int .i64 0, .int .i64 0], .int .i64 0]
def GapPost (b : Nat) (s : ByteArray) (n : Nat) (lim : Int) (w : World) (G : Nat × Bool) (e : Ending) (w' : World) : Prop :=
  ∃ m : Nat, m ≤ s.size ∧ (G.2 = false → m = n + G.1) ∧ e = .returned (gapVal s.toList n G) ∧ RdAt w' b s m lim ∧ Only b w w'
theorem place_at (b : Nat) (s : ByteArray) (n : Nat) (lim : Int) (w : World) (h : RdAt w b s n lim) (hs : s.size ≤ 100000) (hn : n ≤ s.size) :
    Calls Tryz.prog 42 #[.pointer (some ⟨b, 0, none⟩), .int .i64 n] w fun e w' => e = .returned (.agg #[.int .i64 (Pl.lineAt s.toList n), .int .i64 (Pl.colAt s.toList n)]) ∧ Below w.heap.size w w' := by
  have hr := Pl.startAt_range s.toList n
  have := place_any b s n _ _ lim n w h hr.1 hr.2 (by omega)
  rw [show (n : Int) - Pl.startAt s.toList n + 1 = Pl.colAt s.toList n from by unfold Pl.startAt; omega] at this
  exact this
set_option maxRecDepth 100000 in
set_option maxHeartbeats 2000000 in
theorem gap_any (b : Nat) (s : ByteArray) (n : Nat) (lim : Int) (w : World) (h : RdAt w b s n lim) (hn : n ≤ s.size) (hs : s.size ≤ 100000) :
    Calls Tryz.prog 41 #[.pointer (some ⟨b, 0, none⟩)] w (GapPost b s n lim w (Pl.gap (s.toList.drop n))) := by
  generalize hG : Pl.gap (s.toList.drop n) = G
  have HG := Lib.hid hG
  have hr := Rd.alloc h (.cells #[.int .i64 0, .int .i64 0] 29)
  have hk := blk_new w #[.int .i64 0, .int .i64 0] 29
  have ho : Only b w (w.alloc (.cells #[.int .i64 0, .int .i64 0] 29)) := (Only.refl b w).alloc _
  have hlt := Rd.lt h
  have hne : b ≠ w.heap.size := Nat.ne_of_lt hlt
  have hsz : (w.alloc (.cells #[.int .i64 0, .int .i64 0] 29)).heap.size = w.heap.size + 1 := by simp
  clear h hG
  go_enter Tryz.func41, Tryz.ntmps41
  go_wp2
  generalize w.alloc (.cells #[.int .i64 0, .int .i64 0] 29) = w0 at hr hk ho hsz ⊢
  have HR : Hid (RdAt w0 b s n lim) := hr
  have HK := Lib.hid hk
  have HO := Lib.hid ho
  clear hr hk ho
  go_loopg [] (s.size + 1) (fun g wr => ∃ (k j : Nat), k = n + j ∧ k ≤ s.size ∧ s.size + 1 ≤ k + g ∧ (j + (Pl.gap (s.toList.drop k)).1, (Pl.gap (s.toList.drop k)).2) = G ∧ RdAt wr b s k lim ∧ Blk wr w.heap.size 29 #[.int .i64 0, .int .i64 0] ∧ Only b w wr)
  case atStart => exact ⟨n, 0, rfl, by omega, by omega, by rw [HG.out, Nat.zero_add], HR.out, HK.out, HO.out⟩
  case round =>
    obtain ⟨k, j, hkj, hk, hg, hin, hr, hkb, hor⟩ := hrel
    have HKJ := Lib.hid hkj
    have HOR := Lib.hid hor
    have HRR := Lib.hid hr
    have HKB := Lib.hid hkb
    have c0 := Rd.c0 hr
    have c1 := Rd.c1 hr
    clear hkj hor hr hkb
    by_cases hlt : k < s.size
    · cases ho : Pl.opens (s.toList.drop k)
      · have hcall1 := fun W (hW : RdAt W b s k lim) => isAt_open b s k lim W hW hk
        rw [ho] at hcall1
        have HC1 := Lib.hid hcall1
        have hhd := Pl.headIs_at Pl.blank s k hlt
        have hcb := fun W => isBlank_any (s[k].toNat : Int) W
        cases hb : Pl.blank (s[k].toNat : Int)
        · rw [hb] at hhd hcb
          have HCB := Lib.hid hcb
          clear hcb hb
          have HIN := Lib.hid ((by rw [← hin, Pl.gap_none _ ho hhd, Nat.add_zero]) : (j, false) = G)
          clear hcall1 hin ho hhd
          go_wp2
          go_quiet (fail)
          clear c0 c1
          go_wp2_with fail
          refine (HC1.out _ (Rd.drewN HRR.out nq)).mono ?_
          rintro e w5 ⟨rfl, q1, hw5⟩
          have HR5 : Hid (RdAt w5 b s k lim) := by rw [hw5]; exact Rd.drewN (Rd.drewN HRR.out nq) q1
          have HK5 : Hid (Blk w5 w.heap.size 29 #[.int .i64 0, .int .i64 0]) := by rw [hw5]; exact (HKB.out.drewN nq).drewN q1
          have HO5 : Hid (Only b w w5) := by rw [hw5]; exact (HOR.out.drewN nq).drewN q1
          clear hw5
          have c0 := Rd.c0 HR5.out
          have c1 := Rd.c1 HR5.out
          go_wp2
          go_quiet ((go_at_call 75; exact Calls.quiet_of_same ((HCB.out _).mono fun _ _ ⟨he, hw⟩ => ⟨he, hw.symm⟩)))
          obtain ⟨d0, d1, e0, e1⟩ := psAt_of HK5.out
          go_wp2
          obtain ⟨f0, f1, -, -⟩ := psAt_of (ps_put (HK5.out.drewN nq) (.int .i64 0) (.int .i64 0))
          refine bodyPost_ret (v := .tuple #[.agg #[.int .i64 0, .int .i64 0], .int .i64 0]) (by simp [results, Tryz.results41, go_sem, f0, f1]) rfl ?_
          exact ⟨k, hk, fun _ => by rw [← HIN.out]; exact HKJ.out, by rw [← HIN.out]; rfl, RdAt.put2 (HR5.out.drewN _) hne _ _, only_put2 (HO5.out.drewN _) (Nat.le_refl _) _ _⟩
        · rw [hb] at hhd hcb
          have HCB := Lib.hid hcb
          clear hcb hb
          have HIN := Lib.hid ((by rw [← hin, Pl.gap_blank _ ho hhd, List.drop_drop, Nat.add_assoc]) : (j + 1 + (Pl.gap (s.toList.drop (k + 1))).1, (Pl.gap (s.toList.drop (k + 1))).2) = G)
          clear hcall1 hin ho hhd
          go_wp2
          go_quiet (fail)
          clear c0 c1
          go_wp2_with fail
          refine (HC1.out _ (Rd.drewN HRR.out nq)).mono ?_
          rintro e w5 ⟨rfl, q1, hw5⟩
          have HR5 : Hid (RdAt w5 b s k lim) := by rw [hw5]; exact Rd.drewN (Rd.drewN HRR.out nq) q1
          have HK5 : Hid (Blk w5 w.heap.size 29 #[.int .i64 0, .int .i64 0]) := by rw [hw5]; exact (HKB.out.drewN nq).drewN q1
          have HO5 : Hid (Only b w w5) := by rw [hw5]; exact (HOR.out.drewN nq).drewN q1
          clear hw5
          have c0 := Rd.c0 HR5.out
          have c1 := Rd.c1 HR5.out
          go_wp2
          go_quiet ((go_at_call 75; exact Calls.quiet_of_same ((HCB.out _).mono fun _ _ ⟨he, hw⟩ => ⟨he, hw.symm⟩)))
          clear c0 c1
          go_wp2_with fail
          refine (pass_at b s k lim _ (HR5.out.drewN _) hlt hs).mono ?_
          rintro e w2 ⟨rfl, hr2, ho2⟩
          have HR2 := Lib.hid hr2
          have HK2 := Lib.hid (ho2.blk (HK5.out.drewN _) hne.symm)
          have HO2 := Lib.hid ((HO5.out.drewN _).trans ho2)
          clear hr2 ho2
          go_wp2
          go_roundg (gk - 1)
          case measure => omega
          case rel => exact ⟨k + 1, j + 1, by have := HKJ.out; omega, by omega, by omega, HIN.out, HR2.out, HK2.out, HO2.out⟩
      · have hcall1 := fun W (hW : RdAt W b s k lim) => isAt_open b s k lim W hW hk
        rw [ho] at hcall1
        have HC1 := Lib.hid hcall1
        have hcom := fun W (hW : RdAt W b s k lim) => comment_any b s k lim W hW ho hs
        have HCO := Lib.hid hcom
        by_cases hc : Pl.com (s.toList.drop k) false 0 0 = 0
        · have HIN := Lib.hid ((by rw [← hin, Pl.gap_bad _ ho hc, Nat.add_zero]) : (j, true) = G)
          have HCE := Lib.hid (decide_eq_false (show ¬ Pl.com (s.toList.drop k) false 0 0 ≠ 0 from fun h => h hc))
          clear hcall1 hin hcom ho hc
          go_wp2
          go_quiet (fail)
          clear c0
          go_wp2_with fail
          refine (HC1.out _ (HRR.out.drewN _)).mono ?_
          rintro e w' ⟨rfl, q1, rfl⟩
          go_wp2_with fail
          refine (place_at b s k lim _ (HRR.out.drewN _) hs hk).mono ?_
          rintro e w2 ⟨rfl, hb2⟩
          have HR2 : Hid (RdAt w2 b s k lim) := Rd.below (HRR.out.drewN _) hb2 (Rd.lt HRR.out)
          have HK2 := Lib.hid ((HKB.out.drewN _).below hb2 HKB.out.lt)
          have HO2 := Lib.hid ((HOR.out.drewN _).below hb2 HOR.out.size)
          have hlt2 := Rd.lt HR2.out
          clear hb2 c1
          go_wp2_with fail
          refine (HCO.out _ (Rd.alloc HR2.out _)).mono ?_
          rintro e w3 ⟨m, hm1, hm2, he, hr3, ho3⟩
          rw [HCE.out] at he
          subst he
          have HR3 := Lib.hid hr3
          have HK3 := Lib.hid (ho3.blk (HK2.out.alloc _) hne.symm)
          have HO3 := Lib.hid ((HO2.out.alloc _).trans ho3)
          have hk4 := ho3.blk (blk_new w2 #[.int .i64 (Pl.lineAt s.toList k), .int .i64 (Pl.colAt s.toList k)] 29) (Ne.symm (Nat.ne_of_lt hlt2))
          clear hr3 ho3 hm2
          obtain ⟨d0, d1, e0, e1⟩ := psAt_of HK3.out
          obtain ⟨g0, g1, -, -⟩ := psAt_of hk4
          clear hk4
          go_wp2
          obtain ⟨f0, f1, -, -⟩ := psAt_of (ps_put HK3.out (.int .i64 (Pl.lineAt s.toList k)) (.int .i64 (Pl.colAt s.toList k)))
          refine bodyPost_ret (v := .tuple #[.agg #[.int .i64 (Pl.lineAt s.toList k), .int .i64 (Pl.colAt s.toList k)], .int .i64 4]) (by simp [results, Tryz.results41, go_sem, f0, f1]) rfl ?_
          exact ⟨m, hm1, (fun h => by rw [← HIN.out] at h; cases h), by rw [← HIN.out, HKJ.out]; rfl, HR3.out.put2 hne _ _, only_put2 HO3.out (Nat.le_refl _) _ _⟩
        · have HIN := Lib.hid ((by rw [← hin, Pl.gap_com _ ho hc, List.drop_drop, Nat.add_assoc]) : (j + Pl.com (s.toList.drop k) false 0 0 + (Pl.gap (s.toList.drop (k + Pl.com (s.toList.drop k) false 0 0))).1, (Pl.gap (s.toList.drop (k + Pl.com (s.toList.drop k) false 0 0))).2) = G)
          have HCE := Lib.hid (decide_eq_true hc)
          have hcp : 1 ≤ Pl.com (s.toList.drop k) false 0 0 := Nat.pos_of_ne_zero hc
          have HNZ := Lib.hid hc
          clear hcall1 hin hcom ho hc
          go_wp2
          go_quiet (fail)
          clear c0
          go_wp2_with fail
          refine (HC1.out _ (HRR.out.drewN _)).mono ?_
          rintro e w' ⟨rfl, q1, rfl⟩
          go_wp2_with fail
          refine (place_at b s k lim _ (HRR.out.drewN _) hs hk).mono ?_
          rintro e w2 ⟨rfl, hb2⟩
          have HR2 : Hid (RdAt w2 b s k lim) := Rd.below (HRR.out.drewN _) hb2 (Rd.lt HRR.out)
          have HK2 := Lib.hid ((HKB.out.drewN _).below hb2 HKB.out.lt)
          have HO2 := Lib.hid ((HOR.out.drewN _).below hb2 HOR.out.size)
          have hlt2 := Rd.lt HR2.out
          clear hb2 c1
          go_wp2_with fail
          refine (HCO.out _ (Rd.alloc HR2.out _)).mono ?_
          rintro e w3 ⟨m, hm1, hm2, he, hr3, ho3⟩
          rw [HCE.out] at he
          subst he
          have HR3 := Lib.hid hr3
          have HK3 := Lib.hid (ho3.blk (HK2.out.alloc _) hne.symm)
          have HO3 := Lib.hid ((HO2.out.alloc _).trans ho3)
          obtain rfl := hm2 HNZ.out
          clear hr3 ho3 hm2
          go_wp2
          go_roundg (gk - 1)
          case measure => omega
          case rel => exact ⟨k + Pl.com (s.toList.drop k) false 0 0, j + Pl.com (s.toList.drop k) false 0 0, by have := HKJ.out; omega, hm1, by omega, HIN.out, HR3.out, HK3.out, HO3.out⟩
    · have HIN := Lib.hid ((by rw [← hin, List.drop_eq_nil_of_le (by rw [Pl.len_size]; omega), Pl.gap_nil, Nat.add_zero]) : (j, false) = G)
      clear hin
      obtain ⟨d0, d1, e0, e1⟩ := psAt_of HKB.out
      go_wp2
      go_quiet (fail)
      go_wp2
      obtain ⟨f0, f1, -, -⟩ := psAt_of (ps_put (HKB.out.drewN nq) (.int .i64 0) (.int .i64 0))
      refine bodyPost_ret (v := .tuple #[.agg #[.int .i64 0, .int .i64 0], .int .i64 0]) (by simp [results, Tryz.results41, go_sem, f0, f1]) rfl ?_
      exact ⟨k, hk, fun _ => by rw [← HIN.out]; exact HKJ.out, by rw [← HIN.out]; rfl, RdAt.put2 (HRR.out.drewN _) hne _ _, only_put2 (HOR.out.drewN _) (Nat.le_refl _) _ _⟩
end Go.Proofs.YtjedahcpkcgpeaaGreatDoor

/-
  Walks of layer 2: all tokens of a source.
-/
namespace Go.Proofs.YtjedahcpkcgpeaaGreatDoor
open Go.RowKit
def tokCells (t : Pl.Tok) : List Value := [.int .i64 t.kind, .string (Pl.mk t.text), .int .i64 t.line, .int .i64 t.col]
def cells (l : List Pl.Tok) : List Value := l.flatMap tokCells
theorem cells_length (l : List Pl.Tok) : (cells l).length = l.length * 4 := by
  unfold cells
  induction l with
  | nil => rfl
  | cons t r ih => rw [List.flatMap_cons, List.length_append, ih]; simp [tokCells]; omega
theorem cells_snoc (l : List Pl.Tok) (t : Pl.Tok) : cells (l ++ [t]) = cells l ++ tokCells t := by unfold cells; simp
theorem tokCells_one (t : Pl.Tok) : ∀ u ∈ tokCells t, u.oneCell' = true := by
  intro u hu
  simp only [tokCells, List.mem_cons, List.mem_nil_iff, or_false] at hu
  rcases hu with rfl | rfl | rfl | rfl <;> rfl
theorem tokenInfo : (Tryz.prog.info? 45).map (fun i => (i.zero, i.size, i.bytes)) = some (some (.agg #[.int .i64 0, .string ⟨#[]⟩, .int .i64 0, .int .i64 0]), 4, 40) := by kernel_rfl
structure TS (b : Nat) (s : ByteArray) (w wr : World) (i : Nat) (v : Value) (acc : List Pl.Tok) : Prop where
  lt : b < w.heap.size
  rd : RdAt wr b s i 20000
  res : Blk wr w.heap.size 29 #[.int .i64 0, .int .i64 0]
  own : wr.ownsRow (w.heap.size + 1) 45 4 v acc.length (cells acc)
  only : Only b w wr
  size : w.heap.size + 1 ≤ wr.heap.size
theorem TS.step {b : Nat} {s : ByteArray} {w wr w2 : World} {i i2 : Nat} {v : Value} {acc : List Pl.Tok} (h : TS b s w wr i v acc) (ho : Only b wr w2) (hr : RdAt w2 b s i2 20000) : TS b s w w2 i2 v acc :=
  ⟨h.lt, hr, ho.blk h.res (Ne.symm (Nat.ne_of_lt h.lt)), h.own.kept ho (by
    cases hv : v.ownBlock with
    | none => exact .inl rfl
    | some k => exact .inr (fun e => by injection e with e; have := (h.own.lt k hv).1; have := h.lt; omega)), h.only.trans ho, Nat.le_trans h.size ho.size⟩
theorem TS.form {b : Nat} {s : ByteArray} {w wr : World} {i : Nat} {v : Value} {acc : List Pl.Tok} (h : TS b s w wr i v acc) : ∃ A c, v = .slice A acc.length c := by
  rcases h.own.2 with ⟨hv, h0⟩ | ⟨g, cap, cur, hv, _⟩
  · exact ⟨none, 0, by rw [hv, h0]⟩
  · exact ⟨_, _, hv⟩
theorem TS.grow {b : Nat} {s : ByteArray} {w wr w1 w2 : World} {i i2 : Nat} {v v' : Value} {acc : List Pl.Tok} {t : Pl.Tok} (h : TS b s w wr i v acc) (ho : Only b wr w1) (hr : RdAt w1 b s i2 20000)
    (hown : w2.ownsRow (w.heap.size + 1) 45 4 v' (acc.length + 1) (cells acc ++ tokCells t)) (hg : w1.grownBy w2 v.ownBlock) : TS b s w w2 i2 v' (acc ++ [t]) := by
  have h1 := h.step ho hr
  have hk : ∀ k, v.ownBlock = some k → w.heap.size + 1 ≤ k := fun k hk => (h1.own.lt k hk).1
  have hlt := h.lt
  have hbl : ∀ {g : Nat} {t : TypeId} {cs : Array Value}, Blk w1 g t cs → g ≤ w.heap.size → Blk w2 g t cs := fun {g t cs} hb hle =>
    (World.grownBy.block hg g hb.lt (fun e => by have := hk g e.symm; omega)).trans hb
  refine ⟨h.lt, hbl hr (by omega), hbl h1.res (Nat.le_refl _), ?_, ?_, Nat.le_trans h1.size (World.grownBy.size hg)⟩
  · rw [List.length_append, cells_snoc]; exact hown
  · obtain ⟨o1, o2, o3, o4, o5⟩ := (show w.grownBy w1 (some b) from h1.only)
    exact ⟨(World.grownBy.os hg).trans o1, (World.grownBy.tape hg).trans o2, (World.grownBy.output hg).trans o3, Nat.le_trans o4 (World.grownBy.size hg), fun k hk1 hne =>
      (World.grownBy.block hg k (Nat.lt_of_lt_of_le hk1 o4) (fun e => by have := hk k e.symm; omega)).trans (o5 k hk1 hne)⟩
def OutPost (b : Nat) (w : World) (O : Pl.Out) (e : Ending) (w' : World) : Prop :=
  (O.err = 0 ∧ (∃ v, e = .returned (.tuple #[v, .agg #[.int .i64 0, .int .i64 0], .int .i64 0]) ∧ w'.ownsRow (w.heap.size + 1) 45 4 v O.toks.length (cells O.toks)) ∧ Only b w w') ∨
  (O.err ≠ 0 ∧ O.toks = [] ∧ e = .returned (.tuple #[.slice none 0 0, .agg #[.int .i64 O.line, .int .i64 O.col], .int .i64 O.err]) ∧ Only b w w')
namespace Pl
def Ok (f : Nat) (l : Bytes) (i : Nat) (acc : List Tok) (O : Out) : Prop := l.length + 1 ≤ i + f ∧ i ≤ l.length ∧ acc.length ≤ i ∧ toksF f l i acc = O
theorem gap_bound (s : ByteArray) (i : Nat) (h : i ≤ s.size) : i + (gap (s.toList.drop i)).1 ≤ s.size := by
  have := gap_le _ (s.toList.drop i) (Nat.le_refl _)
  rw [List.length_drop, len_size] at this; omega
theorem ok_open (f : Nat) (l : Bytes) (i : Nat) (acc : List Tok) (O : Out) (h : Ok f l i acc O) (hg : (gap (l.drop i)).2 = true) :
    O = ⟨[], lineAt l (i + (gap (l.drop i)).1), colAt l (i + (gap (l.drop i)).1), 4⟩ := by
  obtain ⟨h1, h2, h3, h4⟩ := h
  obtain ⟨f, rfl⟩ : ∃ g, f = g + 1 := ⟨f - 1, by omega⟩
  rw [toksF, if_pos hg] at h4; exact h4.symm
theorem ok_end (f : Nat) (l : Bytes) (i : Nat) (acc : List Tok) (O : Out) (h : Ok f l i acc O) (hg : (gap (l.drop i)).2 = false) (he : i + (gap (l.drop i)).1 = l.length) :
    O = ⟨acc ++ [⟨8, [], lineAt l (i + (gap (l.drop i)).1), colAt l (i + (gap (l.drop i)).1)⟩], 0, 0, 0⟩ := by
  obtain ⟨h1, h2, h3, h4⟩ := h
  obtain ⟨f, rfl⟩ : ∃ g, f = g + 1 := ⟨f - 1, by omega⟩
  rw [toksF, if_neg (by rw [hg]; simp), if_pos he] at h4; exact h4.symm
theorem ok_bad (f : Nat) (l : Bytes) (i : Nat) (acc : List Tok) (O : Out) (h : Ok f l i acc O) (hl : l.length < 20000) (hg : (gap (l.drop i)).2 = false) (he : i + (gap (l.drop i)).1 ≠ l.length) (ht : (tok (l.drop (i + (gap (l.drop i)).1))).err ≠ 0) :
    O = ⟨[], lineAt l (i + (gap (l.drop i)).1 + (tok (l.drop (i + (gap (l.drop i)).1))).pos), colAt l (i + (gap (l.drop i)).1 + (tok (l.drop (i + (gap (l.drop i)).1))).pos), (tok (l.drop (i + (gap (l.drop i)).1))).err⟩ := by
  obtain ⟨h1, h2, h3, h4⟩ := h
  obtain ⟨f, rfl⟩ : ∃ g, f = g + 1 := ⟨f - 1, by omega⟩
  rw [toksF, if_neg (by rw [hg]; simp), if_neg he, if_neg (by omega), if_neg ht] at h4; exact h4.symm
theorem ok_next (f : Nat) (l : Bytes) (i : Nat) (acc : List Tok) (O : Out) (h : Ok f l i acc O) (hl : l.length < 20000) (hg : (gap (l.drop i)).2 = false) (he : i + (gap (l.drop i)).1 ≠ l.length) (ht : (tok (l.drop (i + (gap (l.drop i)).1))).err = 0)
    (hp : 1 ≤ (tok (l.drop (i + (gap (l.drop i)).1))).len) (hb : i + (gap (l.drop i)).1 + (tok (l.drop (i + (gap (l.drop i)).1))).len ≤ l.length) :
    Ok (f - 1) l (i + (gap (l.drop i)).1 + (tok (l.drop (i + (gap (l.drop i)).1))).len) (acc ++ [⟨(tok (l.drop (i + (gap (l.drop i)).1))).kind, (tok (l.drop (i + (gap (l.drop i)).1))).text, lineAt l (i + (gap (l.drop i)).1), colAt l (i + (gap (l.drop i)).1)⟩]) O := by
  obtain ⟨h1, h2, h3, h4⟩ := h
  obtain ⟨f, rfl⟩ : ∃ g, f = g + 1 := ⟨f - 1, by omega⟩
  rw [toksF, if_neg (by rw [hg]; simp), if_neg he, if_neg (by omega), if_pos ht] at h4
  refine ⟨by omega, hb, by rw [List.length_append]; simp; omega, h4⟩
theorem run_none (p : UInt8 → Bool) (l : Bytes) (h : p 10 = false) : 10 ∉ l.take (run p l) := fun hm => by
  have := run_all p l 10 hm
  rw [h] at this; cases this
theorem run_headIs (p : UInt8 → Bool) (q : Int → Bool) (l : Bytes) (hq : ∀ b : UInt8, q b.toNat = true → p b = true) (h : headIs q l = true) : 1 ≤ run p l := by
  cases l with
  | nil => cases h
  | cons b r => rw [run_cons, if_pos (hq b h)]; omega
def Fine (l : Bytes) (t : Tk) : Prop := (t.err = 0 → 1 ≤ t.len ∧ t.len ≤ l.length ∧ 10 ∉ l.take t.len) ∧ (t.err ≠ 0 → t.pos ≤ l.length ∧ 10 ∉ l.take t.pos)
theorem fine_bad (l : Bytes) (e : Int) (he : e ≠ 0) : Fine l (bad e 0) := ⟨fun h => absurd h he, fun _ => ⟨Nat.zero_le _, by simp [bad]⟩⟩
theorem fine_good (l : Bytes) (k : Int) (t : Bytes) (n : Nat) (h1 : 1 ≤ n) (h2 : n ≤ l.length) (h3 : 10 ∉ l.take n) : Fine l (good k t n) := ⟨fun _ => ⟨h1, h2, h3⟩, fun h => absurd rfl h⟩
theorem fine_name (l : Bytes) (h : headIs inner l = true) : Fine l (nameTok l) := by
  unfold nameTok
  split
  · exact fine_bad _ _ (by decide)
  · exact fine_good _ _ _ _ (run_headIs _ inner _ (fun _ h => h) h) (run_le _ _) (run_none _ _ (by decide))
theorem fine_var (l : Bytes) (h : headIs (fun c => decide (c = 39)) l = true) : Fine l (varTok l) := by
  cases l with
  | nil => cases h
  | cons b r =>
    have hb : b ≠ 10 := by rintro rfl; simp [headIs] at h
    unfold varTok
    split
    · split
      · exact fine_bad _ _ (by decide)
      · refine fine_good _ _ _ _ (by omega) ?_ ?_
        · show run innerB r + 1 ≤ r.length + 1
          have := run_le innerB r; omega
        · show 10 ∉ (b :: r).take (run innerB r + 1)
          rw [List.take_succ_cons, List.mem_cons, not_or]
          exact ⟨fun e => hb e.symm, run_none _ _ (by decide)⟩
    · exact fine_bad _ _ (by decide)
theorem fine_num (l : Bytes) (h : headIs digit l = true) : Fine l (numTok l) := by
  unfold numTok
  split
  · exact fine_good _ _ _ _ (run_headIs _ digit _ (fun _ h => h) h) (run_le _ _) (run_none _ _ (by decide))
  · next hn => exact fine_bad _ _ hn
theorem sym_fine : ∀ l, isSym l = true → 10 ∉ l := by
  intro l h
  have hm : l ∈ sym2 ++ sym1 := by simpa [isSym] using h
  have : (sym2 ++ sym1).all (fun l => !l.contains 10) = true := by decide
  have := List.all_eq_true.1 this l hm
  simpa using this
theorem fine_sym (l : Bytes) : Fine l (symTok l) := by
  unfold symTok
  split
  · exact fine_bad _ _ (by decide)
  · next h0 =>
    refine fine_good _ _ _ _ (Nat.pos_of_ne_zero h0) (symLen_len l) ?_
    unfold symLen at h0 ⊢
    split at h0
    · exact absurd rfl h0
    · next ho =>
      rw [if_neg ho]
      split at h0
      · next h2 => rw [if_pos h2]; exact sym_fine _ (by unfold isSym; rw [h2]; rfl)
      · next h2 =>
        rw [if_neg h2]
        split at h0
        · next h1 => rw [if_pos h1]; exact sym_fine _ (by unfold isSym; rw [h1]; simp)
        · exact absurd rfl h0
theorem fine_txt : ∀ (r pre : Bytes) (esc : Bool) (acc : Bytes), 1 ≤ pre.length → 10 ∉ pre → (esc = true → pre.getLast? = some 92) → Fine (pre ++ r) (txt r esc acc pre.length) := by
  intro r
  induction r with
  | nil => intro pre esc acc _ _ _; cases esc <;> exact fine_bad _ _ (by decide)
  | cons c r ih =>
    intro pre esc acc h1 h10 hesc
    have hcat : pre ++ c :: r = (pre ++ [c]) ++ r := by simp
    have hlen : (pre ++ [c]).length = pre.length + 1 := by simp
    have hstep : ∀ (e : Bool) (a : Bytes), c ≠ 10 → (e = true → c = 92) → Fine (pre ++ c :: r) (txt r e a (pre.length + 1)) := fun e a hc he => by
      rw [hcat, ← hlen]
      exact ih (pre ++ [c]) e a (by omega) (by simp only [List.mem_append, List.mem_singleton, not_or]; exact ⟨h10, fun x => hc x.symm⟩) (fun h => by rw [List.getLast?_append]; simp [he h])
    cases esc
    · rw [txt]
      by_cases hq : c = 34
      · rw [if_pos hq]
        refine fine_good _ _ _ _ (by omega) (by simp) ?_
        rw [hcat, ← hlen, List.take_left']
        · simp only [List.mem_append, List.mem_singleton, not_or]; exact ⟨h10, by rw [hq]; decide⟩
        · rfl
      · rw [if_neg hq]
        by_cases hb : c = 92
        · rw [if_pos hb]; exact hstep true acc (by rw [hb]; decide) (fun _ => hb)
        · rw [if_neg hb]
          by_cases hp : printB c = true
          · rw [if_pos hp]; exact hstep false _ (by rintro rfl; exact absurd hp (by decide)) (fun h => by cases h)
          · rw [if_neg hp]
            refine ⟨fun h => absurd h (show ¬ (3 : Int) = 0 by decide), fun _ => ⟨by simp [bad], ?_⟩⟩
            show 10 ∉ (pre ++ c :: r).take pre.length
            rw [List.take_left']
            · exact h10
            · rfl
    · rw [txt]
      cases hm : meaning c with
      | some m =>
        refine hstep false _ ?_ (fun h => by cases h)
        rintro rfl
        have : meaning 10 = none := by decide
        rw [this] at hm; cases hm
      | none =>
        refine ⟨fun h => absurd h (show ¬ (3 : Int) = 0 by decide), fun _ => ⟨by simp [bad]; omega, ?_⟩⟩
        show 10 ∉ (pre ++ c :: r).take (pre.length - 1)
        intro hx
        rw [List.take_append_of_le_length (by omega)] at hx
        exact h10 (List.mem_of_mem_take hx)
theorem fine_tok (l : Bytes) (h : l ≠ []) : Fine l (tok l) := by
  unfold tok
  split
  · next h1 =>
    refine fine_name l ?_
    cases l with
    | nil => exact absurd rfl h
    | cons b r =>
      simp only [Bool.or_eq_true] at h1
      rcases h1 with h1 | h1
      · exact small_inner _ h1
      · exact capital_inner _ h1
  · split
    · next h1 => exact fine_var l h1
    · split
      · next h1 => exact fine_num l h1
      · split
        · next h1 =>
          cases l with
          | nil => exact absurd rfl h
          | cons b r =>
            have hb : b ≠ 10 := by rintro rfl; simp [headIs] at h1
            exact fine_txt r [b] false [] (by simp) (by simpa using fun e : 10 = b => hb e.symm) (fun h => by cases h)
        · exact fine_sym l
end Pl
end Go.Proofs.YtjedahcpkcgpeaaGreatDoor
