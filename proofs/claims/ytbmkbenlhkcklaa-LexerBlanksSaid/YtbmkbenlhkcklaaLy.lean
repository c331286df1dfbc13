/-
  Walks of layer 2: the reference's Next.
-/
import Derived.Test.YtbmkbenlhkcklaaLx
namespace Go.Proofs.Ytbmkbenlhkcklaa
open Go.RowKit

/-- what the reference's Next answers: a token and its length, or an error and the byte where it is -/
def RNext (w : World) (t : Pl.Tk) (e : Ending) (w' : World) : Prop :=
  ∃ (kd : Int) (tx : ByteArray) (n : Int), (t.err = 0 → kd = t.kind ∧ tx = Pl.mk t.text ∧ n = t.len) ∧ e = .returned (.tuple #[.agg (tkc kd tx 0 0), .int .i64 n, .int .i64 t.err, .int .i64 t.pos]) ∧ Below w.heap.size w w'
theorem below_put {B : Nat} {v w : World} {g : Nat} (h : Below B v w) (hg : B ≤ g) (a' c' d' e' : Value) : Below B v ((((w.setCell ⟨g, 0, none⟩ a').setCell ⟨g, 1, none⟩ c').setCell ⟨g, 2, none⟩ d').setCell ⟨g, 3, none⟩ e') :=
  (((h.setCell (p := ⟨g, 0, none⟩) hg a').setCell (p := ⟨g, 1, none⟩) hg c').setCell (p := ⟨g, 2, none⟩) hg d').setCell (p := ⟨g, 3, none⟩) hg e'
theorem rNext_good {w w' : World} {T : Pl.Tk} {k : Int} {t : Pl.Bytes} {n : Nat} (hT : T = Pl.good k t n) (hb : Below w.heap.size w w') : RNext w T (.returned (.tuple #[.agg (tkc k (Pl.mk t) 0 0), .int .i64 n, .int .i64 0, .int .i64 0])) w' := by
  subst hT; exact ⟨k, Pl.mk t, n, fun _ => ⟨rfl, rfl, rfl⟩, rfl, hb⟩
theorem rNext_bad {w w' : World} {T : Pl.Tk} {kd : Int} {tx : ByteArray} {n er : Int} (hT : T = Pl.bad er 0) (he : er ≠ 0) (hb : Below w.heap.size w w') : RNext w T (.returned (.tuple #[.agg (tkc kd tx 0 0), .int .i64 n, .int .i64 er, .int .i64 0])) w' := by
  subst hT; exact ⟨kd, tx, n, fun h => absurd h he, rfl, hb⟩
/-- where the reference's Next begins: its result's block -/
theorem next_start (w : World) : Blk (w.alloc (.cells #[.int .i64 0, .string ⟨#[]⟩, .int .i64 0, .int .i64 0] 43)) w.heap.size 43 #[.int .i64 0, .string ⟨#[]⟩, .int .i64 0, .int .i64 0] ∧ Below w.heap.size w (w.alloc (.cells #[.int .i64 0, .string ⟨#[]⟩, .int .i64 0, .int .i64 0] 43)) := ⟨blk_new _ _ _, (Below.refl _ _).alloc (Nat.le_refl _) _⟩

set_option maxRecDepth 100000 in
set_option maxHeartbeats 4000000 in
theorem next_name (s : ByteArray) (t : Pl.Bytes) (w : World) (T : Pl.Tk) (j : Nat) (h0 : 0 < s.size) (hj1 : 1 ≤ j) (hj : j ≤ s.size) (htx : s.extract 0 j = Pl.mk t)
    (hn : ∀ W, Calls Try.prog 57 #[.string s] W fun e w' => e = .returned (.int .i64 j) ∧ W = w') (hl : (Pl.small (s[0].toNat : Int) || Pl.capital (s[0].toNat : Int)) = true)
    (hT : T = if 24 < j then Pl.bad 5 0 else Pl.good (if Pl.isKey (s.extract 0 j).toList then 6 else if Pl.capital (s[0].toNat : Int) then 2 else 1) t j) :
    Calls Try.prog 32 #[.string s] w (RNext w T) := by
  have hsm := fun W => rsmall_any (s[0].toNat : Int) W
  have hwd := fun W => rWord_any (s.extract 0 j) W
  have HN := Lib.hid hn
  have HTX := Lib.hid htx
  have hj0 : 0 < j := hj1
  clear hn htx
  by_cases hlong : 24 < j
  · have q5 : decide ((24 : Int) < (j : Int)) = true := by simp; omega
    cases hsml : Pl.small (s[0].toNat : Int)
    · rw [hsml] at hsm
      have HSM := Lib.hid hsm
      clear hsm
      have hcap : Pl.capital (s[0].toNat : Int) = true := by rw [hsml, Bool.false_or] at hl; exact hl
      rw [hcap] at hT
      clear hcap
      cases hkey : Pl.isKey (s.extract 0 j).toList
      · rw [hkey] at hwd hT
        have HWD := Lib.hid hwd
        have HX := Lib.hid (hT.trans (if_pos hlong))
        clear hwd hT hkey hsml hl hlong
        go_enter Try.func32, Try.ntmps32
        go_wp2_with fail
        refine (HN.out _).mono ?_
        rintro e w' ⟨rfl, rfl⟩
        go_wp2_with fail
        refine (HSM.out _).mono ?_
        rintro e w' ⟨rfl, rfl⟩
        go_wp2_with fail
        have hk0 := (blk_new w #[.int .i64 0, .string ⟨#[]⟩, .int .i64 0, .int .i64 0] 43).alloc (.cells #[.int .i64 2, .string (s.extract 0 j), .int .i64 0, .int .i64 0] 43)
        have hk1 := blk_new (w.alloc (.cells #[.int .i64 0, .string ⟨#[]⟩, .int .i64 0, .int .i64 0] 43)) #[.int .i64 2, .string (s.extract 0 j), .int .i64 0, .int .i64 0] 43
        rw [World.size_alloc] at hk1
        have hb0 : Below w.heap.size w ((w.alloc (.cells #[.int .i64 0, .string ⟨#[]⟩, .int .i64 0, .int .i64 0] 43)).alloc (.cells #[.int .i64 2, .string (s.extract 0 j), .int .i64 0, .int .i64 0] 43)) := ((Below.refl _ _).alloc (Nat.le_refl _) _).alloc (by simp) _
        generalize (w.alloc (.cells #[.int .i64 0, .string ⟨#[]⟩, .int .i64 0, .int .i64 0] 43)).alloc (.cells #[.int .i64 2, .string (s.extract 0 j), .int .i64 0, .int .i64 0] 43) = wa at hk0 hk1 hb0 ⊢
        refine (HWD.out _).mono ?_
        rintro e w3 ⟨rfl, hb3⟩
        have HK0 := Lib.hid (hk0.below hb3 hk0.lt)
        have HK1 := Lib.hid (hk1.below hb3 hk1.lt)
        have HB := Lib.hid (hb0.trans (hb3.mono hb0.size))
        obtain ⟨c0, c1, c2, c3, x0, x1, x2, x3⟩ := tkAt_of HK1.out
        obtain ⟨d0, d1, d2, d3, e0, e1, e2, e3⟩ := tkAt_of HK0.out
        clear hk0 hk1 hb0 hb3
        go_wp2
        obtain ⟨f0, f1, f2, f3, -, -, -, -⟩ := tkAt_of (tk_put HK0.out (.int .i64 0) (.string ⟨#[]⟩) (.int .i64 0) (.int .i64 0))
        refine bodyPost_ret (v := .tuple #[.agg (tkc 0 ⟨#[]⟩ 0 0), .int .i64 0, .int .i64 5, .int .i64 0]) (by simp [results, Try.results32, go_sem, f0, f1, f2, f3, tkc]) rfl ?_
        exact rNext_bad HX.out (by decide) (below_put HB.out (Nat.le_refl _) _ _ _ _)
      · rw [hkey] at hwd hT
        have HWD := Lib.hid hwd
        have HX := Lib.hid (hT.trans (if_pos hlong))
        clear hwd hT hkey hsml hl hlong
        go_enter Try.func32, Try.ntmps32
        go_wp2_with fail
        refine (HN.out _).mono ?_
        rintro e w' ⟨rfl, rfl⟩
        go_wp2_with fail
        refine (HSM.out _).mono ?_
        rintro e w' ⟨rfl, rfl⟩
        go_wp2_with fail
        have hk0 := (blk_new w #[.int .i64 0, .string ⟨#[]⟩, .int .i64 0, .int .i64 0] 43).alloc (.cells #[.int .i64 2, .string (s.extract 0 j), .int .i64 0, .int .i64 0] 43)
        have hk1 := blk_new (w.alloc (.cells #[.int .i64 0, .string ⟨#[]⟩, .int .i64 0, .int .i64 0] 43)) #[.int .i64 2, .string (s.extract 0 j), .int .i64 0, .int .i64 0] 43
        rw [World.size_alloc] at hk1
        have hb0 : Below w.heap.size w ((w.alloc (.cells #[.int .i64 0, .string ⟨#[]⟩, .int .i64 0, .int .i64 0] 43)).alloc (.cells #[.int .i64 2, .string (s.extract 0 j), .int .i64 0, .int .i64 0] 43)) := ((Below.refl _ _).alloc (Nat.le_refl _) _).alloc (by simp) _
        generalize (w.alloc (.cells #[.int .i64 0, .string ⟨#[]⟩, .int .i64 0, .int .i64 0] 43)).alloc (.cells #[.int .i64 2, .string (s.extract 0 j), .int .i64 0, .int .i64 0] 43) = wa at hk0 hk1 hb0 ⊢
        refine (HWD.out _).mono ?_
        rintro e w3 ⟨rfl, hb3⟩
        have HK0 := Lib.hid (hk0.below hb3 hk0.lt)
        have HK1 := Lib.hid (hk1.below hb3 hk1.lt)
        have HB := Lib.hid (hb0.trans (hb3.mono hb0.size))
        obtain ⟨c0, c1, c2, c3, x0, x1, x2, x3⟩ := tkAt_of HK1.out
        obtain ⟨d0, d1, d2, d3, e0, e1, e2, e3⟩ := tkAt_of HK0.out
        clear hk0 hk1 hb0 hb3
        go_wp2
        obtain ⟨f0, f1, f2, f3, -, -, -, -⟩ := tkAt_of (tk_put (HK0.out.other ⟨w.heap.size + 1, 0, none⟩ (.int .i64 6) (by simp)) (.int .i64 0) (.string ⟨#[]⟩) (.int .i64 0) (.int .i64 0))
        refine bodyPost_ret (v := .tuple #[.agg (tkc 0 ⟨#[]⟩ 0 0), .int .i64 0, .int .i64 5, .int .i64 0]) (by simp [results, Try.results32, go_sem, f0, f1, f2, f3, tkc]) rfl ?_
        exact rNext_bad HX.out (by decide) (below_put (HB.out.setCell (p := ⟨w.heap.size + 1, 0, none⟩) (Nat.le_succ _) _) (Nat.le_refl _) _ _ _ _)
    · rw [hsml] at hsm
      have HSM := Lib.hid hsm
      clear hsm
      have hcap : Pl.capital (s[0].toNat : Int) = false := by unfold Pl.small at hsml; unfold Pl.capital; simp only [Bool.and_eq_true, decide_eq_true_eq] at hsml; simp only [Bool.and_eq_false_iff, decide_eq_false_iff_not]; omega
      rw [hcap] at hT
      clear hcap
      cases hkey : Pl.isKey (s.extract 0 j).toList
      · rw [hkey] at hwd hT
        have HWD := Lib.hid hwd
        have HX := Lib.hid (hT.trans (if_pos hlong))
        clear hwd hT hkey hsml hl hlong
        go_enter Try.func32, Try.ntmps32
        go_wp2_with fail
        refine (HN.out _).mono ?_
        rintro e w' ⟨rfl, rfl⟩
        go_wp2_with fail
        refine (HSM.out _).mono ?_
        rintro e w' ⟨rfl, rfl⟩
        go_wp2_with fail
        have hk0 := (blk_new w #[.int .i64 0, .string ⟨#[]⟩, .int .i64 0, .int .i64 0] 43).alloc (.cells #[.int .i64 1, .string (s.extract 0 j), .int .i64 0, .int .i64 0] 43)
        have hk1 := blk_new (w.alloc (.cells #[.int .i64 0, .string ⟨#[]⟩, .int .i64 0, .int .i64 0] 43)) #[.int .i64 1, .string (s.extract 0 j), .int .i64 0, .int .i64 0] 43
        rw [World.size_alloc] at hk1
        have hb0 : Below w.heap.size w ((w.alloc (.cells #[.int .i64 0, .string ⟨#[]⟩, .int .i64 0, .int .i64 0] 43)).alloc (.cells #[.int .i64 1, .string (s.extract 0 j), .int .i64 0, .int .i64 0] 43)) := ((Below.refl _ _).alloc (Nat.le_refl _) _).alloc (by simp) _
        generalize (w.alloc (.cells #[.int .i64 0, .string ⟨#[]⟩, .int .i64 0, .int .i64 0] 43)).alloc (.cells #[.int .i64 1, .string (s.extract 0 j), .int .i64 0, .int .i64 0] 43) = wa at hk0 hk1 hb0 ⊢
        refine (HWD.out _).mono ?_
        rintro e w3 ⟨rfl, hb3⟩
        have HK0 := Lib.hid (hk0.below hb3 hk0.lt)
        have HK1 := Lib.hid (hk1.below hb3 hk1.lt)
        have HB := Lib.hid (hb0.trans (hb3.mono hb0.size))
        obtain ⟨c0, c1, c2, c3, x0, x1, x2, x3⟩ := tkAt_of HK1.out
        obtain ⟨d0, d1, d2, d3, e0, e1, e2, e3⟩ := tkAt_of HK0.out
        clear hk0 hk1 hb0 hb3
        go_wp2
        obtain ⟨f0, f1, f2, f3, -, -, -, -⟩ := tkAt_of (tk_put HK0.out (.int .i64 0) (.string ⟨#[]⟩) (.int .i64 0) (.int .i64 0))
        refine bodyPost_ret (v := .tuple #[.agg (tkc 0 ⟨#[]⟩ 0 0), .int .i64 0, .int .i64 5, .int .i64 0]) (by simp [results, Try.results32, go_sem, f0, f1, f2, f3, tkc]) rfl ?_
        exact rNext_bad HX.out (by decide) (below_put HB.out (Nat.le_refl _) _ _ _ _)
      · rw [hkey] at hwd hT
        have HWD := Lib.hid hwd
        have HX := Lib.hid (hT.trans (if_pos hlong))
        clear hwd hT hkey hsml hl hlong
        go_enter Try.func32, Try.ntmps32
        go_wp2_with fail
        refine (HN.out _).mono ?_
        rintro e w' ⟨rfl, rfl⟩
        go_wp2_with fail
        refine (HSM.out _).mono ?_
        rintro e w' ⟨rfl, rfl⟩
        go_wp2_with fail
        have hk0 := (blk_new w #[.int .i64 0, .string ⟨#[]⟩, .int .i64 0, .int .i64 0] 43).alloc (.cells #[.int .i64 1, .string (s.extract 0 j), .int .i64 0, .int .i64 0] 43)
        have hk1 := blk_new (w.alloc (.cells #[.int .i64 0, .string ⟨#[]⟩, .int .i64 0, .int .i64 0] 43)) #[.int .i64 1, .string (s.extract 0 j), .int .i64 0, .int .i64 0] 43
        rw [World.size_alloc] at hk1
        have hb0 : Below w.heap.size w ((w.alloc (.cells #[.int .i64 0, .string ⟨#[]⟩, .int .i64 0, .int .i64 0] 43)).alloc (.cells #[.int .i64 1, .string (s.extract 0 j), .int .i64 0, .int .i64 0] 43)) := ((Below.refl _ _).alloc (Nat.le_refl _) _).alloc (by simp) _
        generalize (w.alloc (.cells #[.int .i64 0, .string ⟨#[]⟩, .int .i64 0, .int .i64 0] 43)).alloc (.cells #[.int .i64 1, .string (s.extract 0 j), .int .i64 0, .int .i64 0] 43) = wa at hk0 hk1 hb0 ⊢
        refine (HWD.out _).mono ?_
        rintro e w3 ⟨rfl, hb3⟩
        have HK0 := Lib.hid (hk0.below hb3 hk0.lt)
        have HK1 := Lib.hid (hk1.below hb3 hk1.lt)
        have HB := Lib.hid (hb0.trans (hb3.mono hb0.size))
        obtain ⟨c0, c1, c2, c3, x0, x1, x2, x3⟩ := tkAt_of HK1.out
        obtain ⟨d0, d1, d2, d3, e0, e1, e2, e3⟩ := tkAt_of HK0.out
        clear hk0 hk1 hb0 hb3
        go_wp2
        obtain ⟨f0, f1, f2, f3, -, -, -, -⟩ := tkAt_of (tk_put (HK0.out.other ⟨w.heap.size + 1, 0, none⟩ (.int .i64 6) (by simp)) (.int .i64 0) (.string ⟨#[]⟩) (.int .i64 0) (.int .i64 0))
        refine bodyPost_ret (v := .tuple #[.agg (tkc 0 ⟨#[]⟩ 0 0), .int .i64 0, .int .i64 5, .int .i64 0]) (by simp [results, Try.results32, go_sem, f0, f1, f2, f3, tkc]) rfl ?_
        exact rNext_bad HX.out (by decide) (below_put (HB.out.setCell (p := ⟨w.heap.size + 1, 0, none⟩) (Nat.le_succ _) _) (Nat.le_refl _) _ _ _ _)
  · have q5 : decide ((24 : Int) < (j : Int)) = false := by simp; omega
    cases hsml : Pl.small (s[0].toNat : Int)
    · rw [hsml] at hsm
      have HSM := Lib.hid hsm
      clear hsm
      have hcap : Pl.capital (s[0].toNat : Int) = true := by rw [hsml, Bool.false_or] at hl; exact hl
      rw [hcap] at hT
      clear hcap
      cases hkey : Pl.isKey (s.extract 0 j).toList
      · rw [hkey] at hwd hT
        have HWD := Lib.hid hwd
        have HX := Lib.hid (hT.trans (if_neg hlong))
        clear hwd hT hkey hsml hl hlong
        go_enter Try.func32, Try.ntmps32
        go_wp2_with fail
        refine (HN.out _).mono ?_
        rintro e w' ⟨rfl, rfl⟩
        go_wp2_with fail
        refine (HSM.out _).mono ?_
        rintro e w' ⟨rfl, rfl⟩
        go_wp2_with fail
        have hk0 := (blk_new w #[.int .i64 0, .string ⟨#[]⟩, .int .i64 0, .int .i64 0] 43).alloc (.cells #[.int .i64 2, .string (s.extract 0 j), .int .i64 0, .int .i64 0] 43)
        have hk1 := blk_new (w.alloc (.cells #[.int .i64 0, .string ⟨#[]⟩, .int .i64 0, .int .i64 0] 43)) #[.int .i64 2, .string (s.extract 0 j), .int .i64 0, .int .i64 0] 43
        rw [World.size_alloc] at hk1
        have hb0 : Below w.heap.size w ((w.alloc (.cells #[.int .i64 0, .string ⟨#[]⟩, .int .i64 0, .int .i64 0] 43)).alloc (.cells #[.int .i64 2, .string (s.extract 0 j), .int .i64 0, .int .i64 0] 43)) := ((Below.refl _ _).alloc (Nat.le_refl _) _).alloc (by simp) _
        generalize (w.alloc (.cells #[.int .i64 0, .string ⟨#[]⟩, .int .i64 0, .int .i64 0] 43)).alloc (.cells #[.int .i64 2, .string (s.extract 0 j), .int .i64 0, .int .i64 0] 43) = wa at hk0 hk1 hb0 ⊢
        refine (HWD.out _).mono ?_
        rintro e w3 ⟨rfl, hb3⟩
        have HK0 := Lib.hid (hk0.below hb3 hk0.lt)
        have HK1 := Lib.hid (hk1.below hb3 hk1.lt)
        have HB := Lib.hid (hb0.trans (hb3.mono hb0.size))
        obtain ⟨c0, c1, c2, c3, x0, x1, x2, x3⟩ := tkAt_of HK1.out
        obtain ⟨d0, d1, d2, d3, e0, e1, e2, e3⟩ := tkAt_of HK0.out
        clear hk0 hk1 hb0 hb3
        go_wp2
        obtain ⟨f0, f1, f2, f3, -, -, -, -⟩ := tkAt_of (tk_put HK0.out (.int .i64 2) (.string (s.extract 0 j)) (.int .i64 0) (.int .i64 0))
        refine bodyPost_ret (v := .tuple #[.agg (tkc 2 (s.extract 0 j) 0 0), .int .i64 (j : Int), .int .i64 0, .int .i64 0]) (by simp [results, Try.results32, go_sem, f0, f1, f2, f3, tkc]) rfl ?_
        rw [HTX.out]
        exact rNext_good HX.out (below_put HB.out (Nat.le_refl _) _ _ _ _)
      · rw [hkey] at hwd hT
        have HWD := Lib.hid hwd
        have HX := Lib.hid (hT.trans (if_neg hlong))
        clear hwd hT hkey hsml hl hlong
        go_enter Try.func32, Try.ntmps32
        go_wp2_with fail
        refine (HN.out _).mono ?_
        rintro e w' ⟨rfl, rfl⟩
        go_wp2_with fail
        refine (HSM.out _).mono ?_
        rintro e w' ⟨rfl, rfl⟩
        go_wp2_with fail
        have hk0 := (blk_new w #[.int .i64 0, .string ⟨#[]⟩, .int .i64 0, .int .i64 0] 43).alloc (.cells #[.int .i64 2, .string (s.extract 0 j), .int .i64 0, .int .i64 0] 43)
        have hk1 := blk_new (w.alloc (.cells #[.int .i64 0, .string ⟨#[]⟩, .int .i64 0, .int .i64 0] 43)) #[.int .i64 2, .string (s.extract 0 j), .int .i64 0, .int .i64 0] 43
        rw [World.size_alloc] at hk1
        have hb0 : Below w.heap.size w ((w.alloc (.cells #[.int .i64 0, .string ⟨#[]⟩, .int .i64 0, .int .i64 0] 43)).alloc (.cells #[.int .i64 2, .string (s.extract 0 j), .int .i64 0, .int .i64 0] 43)) := ((Below.refl _ _).alloc (Nat.le_refl _) _).alloc (by simp) _
        generalize (w.alloc (.cells #[.int .i64 0, .string ⟨#[]⟩, .int .i64 0, .int .i64 0] 43)).alloc (.cells #[.int .i64 2, .string (s.extract 0 j), .int .i64 0, .int .i64 0] 43) = wa at hk0 hk1 hb0 ⊢
        refine (HWD.out _).mono ?_
        rintro e w3 ⟨rfl, hb3⟩
        have HK0 := Lib.hid (hk0.below hb3 hk0.lt)
        have HK1 := Lib.hid (hk1.below hb3 hk1.lt)
        have HB := Lib.hid (hb0.trans (hb3.mono hb0.size))
        obtain ⟨c0, c1, c2, c3, x0, x1, x2, x3⟩ := tkAt_of HK1.out
        obtain ⟨d0, d1, d2, d3, e0, e1, e2, e3⟩ := tkAt_of HK0.out
        clear hk0 hk1 hb0 hb3
        go_wp2
        obtain ⟨f0, f1, f2, f3, -, -, -, -⟩ := tkAt_of (tk_put (HK0.out.other ⟨w.heap.size + 1, 0, none⟩ (.int .i64 6) (by simp)) (.int .i64 6) (.string (s.extract 0 j)) (.int .i64 0) (.int .i64 0))
        refine bodyPost_ret (v := .tuple #[.agg (tkc 6 (s.extract 0 j) 0 0), .int .i64 (j : Int), .int .i64 0, .int .i64 0]) (by simp [results, Try.results32, go_sem, f0, f1, f2, f3, tkc]) rfl ?_
        rw [HTX.out]
        exact rNext_good HX.out (below_put (HB.out.setCell (p := ⟨w.heap.size + 1, 0, none⟩) (Nat.le_succ _) _) (Nat.le_refl _) _ _ _ _)
    · rw [hsml] at hsm
      have HSM := Lib.hid hsm
      clear hsm
      have hcap : Pl.capital (s[0].toNat : Int) = false := by unfold Pl.small at hsml; unfold Pl.capital; simp only [Bool.and_eq_true, decide_eq_true_eq] at hsml; simp only [Bool.and_eq_false_iff, decide_eq_false_iff_not]; omega
      rw [hcap] at hT
      clear hcap
      cases hkey : Pl.isKey (s.extract 0 j).toList
      · rw [hkey] at hwd hT
        have HWD := Lib.hid hwd
        have HX := Lib.hid (hT.trans (if_neg hlong))
        clear hwd hT hkey hsml hl hlong
        go_enter Try.func32, Try.ntmps32
        go_wp2_with fail
        refine (HN.out _).mono ?_
        rintro e w' ⟨rfl, rfl⟩
        go_wp2_with fail
        refine (HSM.out _).mono ?_
        rintro e w' ⟨rfl, rfl⟩
        go_wp2_with fail
        have hk0 := (blk_new w #[.int .i64 0, .string ⟨#[]⟩, .int .i64 0, .int .i64 0] 43).alloc (.cells #[.int .i64 1, .string (s.extract 0 j), .int .i64 0, .int .i64 0] 43)
        have hk1 := blk_new (w.alloc (.cells #[.int .i64 0, .string ⟨#[]⟩, .int .i64 0, .int .i64 0] 43)) #[.int .i64 1, .string (s.extract 0 j), .int .i64 0, .int .i64 0] 43
        rw [World.size_alloc] at hk1
        have hb0 : Below w.heap.size w ((w.alloc (.cells #[.int .i64 0, .string ⟨#[]⟩, .int .i64 0, .int .i64 0] 43)).alloc (.cells #[.int .i64 1, .string (s.extract 0 j), .int .i64 0, .int .i64 0] 43)) := ((Below.refl _ _).alloc (Nat.le_refl _) _).alloc (by simp) _
        generalize (w.alloc (.cells #[.int .i64 0, .string ⟨#[]⟩, .int .i64 0, .int .i64 0] 43)).alloc (.cells #[.int .i64 1, .string (s.extract 0 j), .int .i64 0, .int .i64 0] 43) = wa at hk0 hk1 hb0 ⊢
        refine (HWD.out _).mono ?_
        rintro e w3 ⟨rfl, hb3⟩
        have HK0 := Lib.hid (hk0.below hb3 hk0.lt)
        have HK1 := Lib.hid (hk1.below hb3 hk1.lt)
        have HB := Lib.hid (hb0.trans (hb3.mono hb0.size))
        obtain ⟨c0, c1, c2, c3, x0, x1, x2, x3⟩ := tkAt_of HK1.out
        obtain ⟨d0, d1, d2, d3, e0, e1, e2, e3⟩ := tkAt_of HK0.out
        clear hk0 hk1 hb0 hb3
        go_wp2
        obtain ⟨f0, f1, f2, f3, -, -, -, -⟩ := tkAt_of (tk_put HK0.out (.int .i64 1) (.string (s.extract 0 j)) (.int .i64 0) (.int .i64 0))
        refine bodyPost_ret (v := .tuple #[.agg (tkc 1 (s.extract 0 j) 0 0), .int .i64 (j : Int), .int .i64 0, .int .i64 0]) (by simp [results, Try.results32, go_sem, f0, f1, f2, f3, tkc]) rfl ?_
        rw [HTX.out]
        exact rNext_good HX.out (below_put HB.out (Nat.le_refl _) _ _ _ _)
      · rw [hkey] at hwd hT
        have HWD := Lib.hid hwd
        have HX := Lib.hid (hT.trans (if_neg hlong))
        clear hwd hT hkey hsml hl hlong
        go_enter Try.func32, Try.ntmps32
        go_wp2_with fail
        refine (HN.out _).mono ?_
        rintro e w' ⟨rfl, rfl⟩
        go_wp2_with fail
        refine (HSM.out _).mono ?_
        rintro e w' ⟨rfl, rfl⟩
        go_wp2_with fail
        have hk0 := (blk_new w #[.int .i64 0, .string ⟨#[]⟩, .int .i64 0, .int .i64 0] 43).alloc (.cells #[.int .i64 1, .string (s.extract 0 j), .int .i64 0, .int .i64 0] 43)
        have hk1 := blk_new (w.alloc (.cells #[.int .i64 0, .string ⟨#[]⟩, .int .i64 0, .int .i64 0] 43)) #[.int .i64 1, .string (s.extract 0 j), .int .i64 0, .int .i64 0] 43
        rw [World.size_alloc] at hk1
        have hb0 : Below w.heap.size w ((w.alloc (.cells #[.int .i64 0, .string ⟨#[]⟩, .int .i64 0, .int .i64 0] 43)).alloc (.cells #[.int .i64 1, .string (s.extract 0 j), .int .i64 0, .int .i64 0] 43)) := ((Below.refl _ _).alloc (Nat.le_refl _) _).alloc (by simp) _
        generalize (w.alloc (.cells #[.int .i64 0, .string ⟨#[]⟩, .int .i64 0, .int .i64 0] 43)).alloc (.cells #[.int .i64 1, .string (s.extract 0 j), .int .i64 0, .int .i64 0] 43) = wa at hk0 hk1 hb0 ⊢
        refine (HWD.out _).mono ?_
        rintro e w3 ⟨rfl, hb3⟩
        have HK0 := Lib.hid (hk0.below hb3 hk0.lt)
        have HK1 := Lib.hid (hk1.below hb3 hk1.lt)
        have HB := Lib.hid (hb0.trans (hb3.mono hb0.size))
        obtain ⟨c0, c1, c2, c3, x0, x1, x2, x3⟩ := tkAt_of HK1.out
        obtain ⟨d0, d1, d2, d3, e0, e1, e2, e3⟩ := tkAt_of HK0.out
        clear hk0 hk1 hb0 hb3
        go_wp2
        obtain ⟨f0, f1, f2, f3, -, -, -, -⟩ := tkAt_of (tk_put (HK0.out.other ⟨w.heap.size + 1, 0, none⟩ (.int .i64 6) (by simp)) (.int .i64 6) (.string (s.extract 0 j)) (.int .i64 0) (.int .i64 0))
        refine bodyPost_ret (v := .tuple #[.agg (tkc 6 (s.extract 0 j) 0 0), .int .i64 (j : Int), .int .i64 0, .int .i64 0]) (by simp [results, Try.results32, go_sem, f0, f1, f2, f3, tkc]) rfl ?_
        rw [HTX.out]
        exact rNext_good HX.out (below_put (HB.out.setCell (p := ⟨w.heap.size + 1, 0, none⟩) (Nat.le_succ _) _) (Nat.le_refl _) _ _ _ _)

set_option maxRecDepth 100000 in
set_option maxHeartbeats 4000000 in
theorem next_var (s : ByteArray) (t : Pl.Bytes) (w : World) (m : Nat) (h0 : 0 < s.size) (hs : s.size ≤ 100000) (hn : ∀ W, Calls Try.prog 57 #[.string s] W fun e w' => e = .returned (.int .i64 0) ∧ W = w') (q0 : ((s[0].toNat : Int) == 39) = true)
    (hm : ∀ W, Calls Try.prog 57 #[.string (s.extract 1 s.size)] W fun e w' => e = .returned (.int .i64 m) ∧ W = w') (hm1 : 1 ≤ m) (hlen : m + 1 ≤ s.size) (q1 : Pl.small ((s[1]'(by omega)).toNat : Int) = true) (htx : s.extract 0 (m + 1) = Pl.mk t) :
    Calls Try.prog 32 #[.string s] w (RNext w (if 24 < m + 1 then Pl.bad 5 0 else Pl.good 3 t (m + 1))) := by
  obtain ⟨hk0, hb0⟩ := next_start w
  have HK0 := Lib.hid hk0
  have HB0 := Lib.hid hb0
  have HN := Lib.hid hn
  clear hk0 hb0 hn
  have HM := Lib.hid hm
  have HTX := Lib.hid htx
  have g1 : 1 < s.size := by omega
  have t1 : ((m : Int) == 0) = false := beq_eq_false_iff_ne.2 (by omega)
  have hsm := fun W => rsmall_any (s[1].toNat : Int) W
  rw [q1] at hsm
  have HSM := Lib.hid hsm
  clear hm htx hsm q1
  by_cases hl : 24 < m + 1
  · rw [if_pos hl]
    have t2 : decide ((24 : Int) < (m : Int) + 1) = true := by simp; omega
    go_enter Try.func32, Try.ntmps32
    go_wp2_with fail
    generalize w.alloc (.cells #[.int .i64 0, .string ⟨#[]⟩, .int .i64 0, .int .i64 0] 43) = w0 at HK0 HB0 ⊢
    refine (HN.out _).mono ?_
    rintro e w' ⟨rfl, rfl⟩
    go_wp2_with fail
    refine (HM.out _).mono ?_
    rintro e w' ⟨rfl, rfl⟩
    go_wp2_with fail
    refine (HSM.out _).mono ?_
    rintro e w' ⟨rfl, rfl⟩
    obtain ⟨d0, d1, d2, d3, e0, e1, e2, e3⟩ := tkAt_of HK0.out
    go_wp2
    obtain ⟨f0, f1, f2, f3, -, -, -, -⟩ := tkAt_of (tk_put HK0.out (.int .i64 0) (.string ⟨#[]⟩) (.int .i64 0) (.int .i64 0))
    refine bodyPost_ret (v := .tuple #[.agg (tkc 0 ⟨#[]⟩ 0 0), .int .i64 0, .int .i64 5, .int .i64 0]) (by simp [results, Try.results32, go_sem, f0, f1, f2, f3, tkc]) rfl ?_
    exact rNext_bad rfl (by decide) (below_put HB0.out (Nat.le_refl _) _ _ _ _)
  · rw [if_neg hl]
    have t2 : decide ((24 : Int) < (m : Int) + 1) = false := by simp; omega
    go_enter Try.func32, Try.ntmps32
    go_wp2_with fail
    generalize w.alloc (.cells #[.int .i64 0, .string ⟨#[]⟩, .int .i64 0, .int .i64 0] 43) = w0 at HK0 HB0 ⊢
    refine (HN.out _).mono ?_
    rintro e w' ⟨rfl, rfl⟩
    go_wp2_with fail
    refine (HM.out _).mono ?_
    rintro e w' ⟨rfl, rfl⟩
    go_wp2_with fail
    refine (HSM.out _).mono ?_
    rintro e w' ⟨rfl, rfl⟩
    obtain ⟨d0, d1, d2, d3, e0, e1, e2, e3⟩ := tkAt_of HK0.out
    go_wp2
    obtain ⟨f0, f1, f2, f3, -, -, -, -⟩ := tkAt_of (tk_put HK0.out (.int .i64 3) (.string (s.extract 0 (m + 1))) (.int .i64 0) (.int .i64 0))
    refine bodyPost_ret (v := .tuple #[.agg (tkc 3 (s.extract 0 (m + 1)) 0 0), .int .i64 ((m : Int) + 1), .int .i64 0, .int .i64 0]) (by simp [results, Try.results32, go_sem, f0, f1, f2, f3, tkc]) rfl ?_
    rw [HTX.out]
    exact rNext_good rfl (below_put HB0.out (Nat.le_refl _) _ _ _ _)
set_option maxRecDepth 100000 in
set_option maxHeartbeats 4000000 in
theorem next_novar (s : ByteArray) (w : World) (m : Nat) (h0 : 0 < s.size) (hn : ∀ W, Calls Try.prog 57 #[.string s] W fun e w' => e = .returned (.int .i64 0) ∧ W = w') (q0 : ((s[0].toNat : Int) == 39) = true)
    (hm : ∀ W, Calls Try.prog 57 #[.string (s.extract 1 s.size)] W fun e w' => e = .returned (.int .i64 m) ∧ W = w') (h : m = 0 ∨ ∃ h1 : 1 < s.size, 1 ≤ m ∧ Pl.small (s[1].toNat : Int) = false) :
    Calls Try.prog 32 #[.string s] w (RNext w (Pl.bad 3 0)) := by
  obtain ⟨hk0, hb0⟩ := next_start w
  have HK0 := Lib.hid hk0
  have HB0 := Lib.hid hb0
  have HN := Lib.hid hn
  clear hk0 hb0 hn
  rcases h with h | ⟨g1, hm1, q1⟩
  · subst h
    have HM := Lib.hid hm
    clear hm
    go_enter Try.func32, Try.ntmps32
    go_wp2_with fail
    generalize w.alloc (.cells #[.int .i64 0, .string ⟨#[]⟩, .int .i64 0, .int .i64 0] 43) = w0 at HK0 HB0 ⊢
    refine (HN.out _).mono ?_
    rintro e w' ⟨rfl, rfl⟩
    go_wp2_with fail
    refine (HM.out _).mono ?_
    rintro e w' ⟨rfl, rfl⟩
    obtain ⟨d0, d1, d2, d3, e0, e1, e2, e3⟩ := tkAt_of HK0.out
    go_wp2
    obtain ⟨f0, f1, f2, f3, -, -, -, -⟩ := tkAt_of (tk_put HK0.out (.int .i64 0) (.string ⟨#[]⟩) (.int .i64 0) (.int .i64 0))
    refine bodyPost_ret (v := .tuple #[.agg (tkc 0 ⟨#[]⟩ 0 0), .int .i64 0, .int .i64 3, .int .i64 0]) (by simp [results, Try.results32, go_sem, f0, f1, f2, f3, tkc]) rfl ?_
    exact rNext_bad rfl (by decide) (below_put HB0.out (Nat.le_refl _) _ _ _ _)
  · have HM := Lib.hid hm
    have t1 : ((m : Int) == 0) = false := beq_eq_false_iff_ne.2 (by omega)
    have hsm := fun W => rsmall_any (s[1].toNat : Int) W
    rw [q1] at hsm
    have HSM := Lib.hid hsm
    clear hm hsm q1
    go_enter Try.func32, Try.ntmps32
    go_wp2_with fail
    generalize w.alloc (.cells #[.int .i64 0, .string ⟨#[]⟩, .int .i64 0, .int .i64 0] 43) = w0 at HK0 HB0 ⊢
    refine (HN.out _).mono ?_
    rintro e w' ⟨rfl, rfl⟩
    go_wp2_with fail
    refine (HM.out _).mono ?_
    rintro e w' ⟨rfl, rfl⟩
    go_wp2_with fail
    refine (HSM.out _).mono ?_
    rintro e w' ⟨rfl, rfl⟩
    obtain ⟨d0, d1, d2, d3, e0, e1, e2, e3⟩ := tkAt_of HK0.out
    go_wp2
    obtain ⟨f0, f1, f2, f3, -, -, -, -⟩ := tkAt_of (tk_put HK0.out (.int .i64 0) (.string ⟨#[]⟩) (.int .i64 0) (.int .i64 0))
    refine bodyPost_ret (v := .tuple #[.agg (tkc 0 ⟨#[]⟩ 0 0), .int .i64 0, .int .i64 3, .int .i64 0]) (by simp [results, Try.results32, go_sem, f0, f1, f2, f3, tkc]) rfl ?_
    exact rNext_bad rfl (by decide) (below_put HB0.out (Nat.le_refl _) _ _ _ _)
set_option maxRecDepth 100000 in
set_option maxHeartbeats 4000000 in
theorem next_text (s : ByteArray) (w : World) (T : Pl.Tk) (h0 : 0 < s.size) (hn : ∀ W, Calls Try.prog 57 #[.string s] W fun e w' => e = .returned (.int .i64 0) ∧ W = w') (q0 : ((s[0].toNat : Int) == 39) = false) (q1 : Pl.digit (s[0].toNat : Int) = false) (q2 : ((s[0].toNat : Int) == 34) = true)
    (hT : T.err = 0 → T.kind = 5) (hlit : ∀ W, Calls Try.prog 40 #[.string s] W fun e w' => e = .returned (tkVal T) ∧ W = w') :
    Calls Try.prog 32 #[.string s] w (RNext w T) := by
  obtain ⟨hk0, hb0⟩ := next_start w
  have HK0 := Lib.hid hk0
  have HB0 := Lib.hid hb0
  have HN := Lib.hid hn
  clear hk0 hb0 hn
  have hdg := fun W => rdigit_any (s[0].toNat : Int) W
  rw [q1] at hdg
  have HDG := Lib.hid hdg
  have HLT := Lib.hid hlit
  have HT := Lib.hid hT
  clear hdg hlit hT q1
  go_enter Try.func32, Try.ntmps32
  go_wp2_with fail
  generalize w.alloc (.cells #[.int .i64 0, .string ⟨#[]⟩, .int .i64 0, .int .i64 0] 43) = w0 at HK0 HB0 ⊢
  refine (HN.out _).mono ?_
  rintro e w' ⟨rfl, rfl⟩
  go_wp2_with fail
  refine (HDG.out _).mono ?_
  rintro e w' ⟨rfl, rfl⟩
  go_wp2_with fail
  refine (HLT.out _).mono ?_
  rintro e w' ⟨rfl, rfl⟩
  unfold tkVal
  generalize htx : Pl.mk T.text = tx
  have HTX := Lib.hid htx
  clear htx
  obtain ⟨d0, d1, d2, d3, e0, e1, e2, e3⟩ := tkAt_of HK0.out
  go_wp2
  obtain ⟨f0, f1, f2, f3, -, -, -, -⟩ := tkAt_of (tk_put HK0.out (.int .i64 5) (.string tx) (.int .i64 0) (.int .i64 0))
  refine bodyPost_ret (v := .tuple #[.agg (tkc 5 tx 0 0), .int .i64 (T.len : Int), .int .i64 T.err, .int .i64 (T.pos : Int)]) (by simp [results, Try.results32, go_sem, f0, f1, f2, f3, tkc]) rfl ?_
  exact ⟨5, tx, _, fun h => ⟨(HT.out h).symm, HTX.out.symm, rfl⟩, rfl, below_put HB0.out (Nat.le_refl _) _ _ _ _⟩
set_option maxRecDepth 100000 in
set_option maxHeartbeats 4000000 in
theorem next_symbol (s Y : ByteArray) (t : Pl.Bytes) (w : World) (h0 : 0 < s.size) (hn : ∀ W, Calls Try.prog 57 #[.string s] W fun e w' => e = .returned (.int .i64 0) ∧ W = w') (q0 : ((s[0].toNat : Int) == 39) = false) (q1 : Pl.digit (s[0].toNat : Int) = false) (q2 : ((s[0].toNat : Int) == 34) = false)
    (hy : Y = Pl.mk t) (hsy : ∀ W, Calls Try.prog 19 #[.string s] W fun e w' => e = .returned (.string Y) ∧ Below W.heap.size W w') :
    Calls Try.prog 32 #[.string s] w (RNext w (if t = [] then Pl.bad 3 0 else Pl.good 7 t t.length)) := by
  obtain ⟨hk0, hb0⟩ := next_start w
  have HK0 := Lib.hid hk0
  have HB0 := Lib.hid hb0
  have HN := Lib.hid hn
  clear hk0 hb0 hn
  have hdg := fun W => rdigit_any (s[0].toNat : Int) W
  rw [q1] at hdg
  have HDG := Lib.hid hdg
  have HSY := Lib.hid hsy
  have hyl : Y.toList = t := by rw [hy, Pl.mk_toList]
  have hsz : Y.size = t.length := by rw [hy, Pl.mk_size]
  have HTX := Lib.hid hy
  clear hdg hsy hy q1
  by_cases ht : t = []
  · rw [if_pos ht]
    have m0 : Y.toList = [] := hyl.trans ht
    clear hyl hsz ht
    go_enter Try.func32, Try.ntmps32
    go_wp2_with fail
    generalize w.alloc (.cells #[.int .i64 0, .string ⟨#[]⟩, .int .i64 0, .int .i64 0] 43) = w0 at HK0 HB0 ⊢
    refine (HN.out _).mono ?_
    rintro e w' ⟨rfl, rfl⟩
    go_wp2_with fail
    refine (HDG.out _).mono ?_
    rintro e w' ⟨rfl, rfl⟩
    go_wp2_with fail
    refine (HSY.out _).mono ?_
    rintro e w5 ⟨rfl, hb5⟩
    have HK5 := Lib.hid (HK0.out.below hb5 HK0.out.lt)
    have HB5 := Lib.hid (HB0.out.trans (hb5.mono HB0.out.size))
    clear hb5
    obtain ⟨d0, d1, d2, d3, e0, e1, e2, e3⟩ := tkAt_of HK5.out
    go_wp2
    obtain ⟨f0, f1, f2, f3, -, -, -, -⟩ := tkAt_of (tk_put HK5.out (.int .i64 0) (.string ⟨#[]⟩) (.int .i64 0) (.int .i64 0))
    refine bodyPost_ret (v := .tuple #[.agg (tkc 0 ⟨#[]⟩ 0 0), .int .i64 0, .int .i64 3, .int .i64 0]) (by simp [results, Try.results32, go_sem, f0, f1, f2, f3, tkc]) rfl ?_
    exact rNext_bad rfl (by decide) (below_put HB5.out (Nat.le_refl _) _ _ _ _)
  · rw [if_neg ht]
    have m0 : ¬ Y.toList = [] := fun h => ht (hyl.symm.trans h)
    have m1 : Y.toList.isEmpty = false := by simpa using m0
    have HSZ := Lib.hid hsz
    clear hyl hsz ht
    go_enter Try.func32, Try.ntmps32
    go_wp2_with fail
    generalize w.alloc (.cells #[.int .i64 0, .string ⟨#[]⟩, .int .i64 0, .int .i64 0] 43) = w0 at HK0 HB0 ⊢
    refine (HN.out _).mono ?_
    rintro e w' ⟨rfl, rfl⟩
    go_wp2_with fail
    refine (HDG.out _).mono ?_
    rintro e w' ⟨rfl, rfl⟩
    go_wp2_with fail
    refine (HSY.out _).mono ?_
    rintro e w5 ⟨rfl, hb5⟩
    have HK5 := Lib.hid (HK0.out.below hb5 HK0.out.lt)
    have HB5 := Lib.hid (HB0.out.trans (hb5.mono HB0.out.size))
    clear hb5
    obtain ⟨d0, d1, d2, d3, e0, e1, e2, e3⟩ := tkAt_of HK5.out
    go_wp2
    obtain ⟨f0, f1, f2, f3, -, -, -, -⟩ := tkAt_of (tk_put HK5.out (.int .i64 7) (.string Y) (.int .i64 0) (.int .i64 0))
    refine bodyPost_ret (v := .tuple #[.agg (tkc 7 Y 0 0), .int .i64 (Y.size : Int), .int .i64 0, .int .i64 0]) (by simp [results, Try.results32, go_sem, f0, f1, f2, f3, tkc]) rfl ?_
    rw [HSZ.out, HTX.out]
    exact rNext_good rfl (below_put HB5.out (Nat.le_refl _) _ _ _ _)
end Go.Proofs.Ytbmkbenlhkcklaa
