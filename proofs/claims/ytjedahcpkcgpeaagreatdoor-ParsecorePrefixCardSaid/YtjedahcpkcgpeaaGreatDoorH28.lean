/-
  Walks and plain mathematics, several texts in one (Ff Fg).
-/
import Derived.Test.YtjedahcpkcgpeaaGreatDoorH27
import Derived.Test.YtjedahcpkcgpeaaGreatDoorH6
import Derived.Test.YtjedahcpkcgpeaaGreatDoorH8
/-
  Walks of layer 4: a tree of a category, read by a closure.
-/
namespace Go.Proofs.YtjedahcpkcgpeaaGreatDoor
open Go Go.RowKit
set_option linter.unusedSimpArgs false
set_option maxRecDepth 100000 in
set_option maxHeartbeats 8000000 in
theorem pparsec_any (s : Src) (i k cb : Nat) (cat : Int) (read : Pl.PR Pl.Syn) (w : World) (hs : SrcAt w s) (hb : s.b < w.heap.size) (hi : i ≤ s.ts.length)
    (hsm : ∀ t j, read = .ok t j → t.big ≤ 536870912)
    (hread : ∀ W g, Below w.heap.size w W → PAt W g s i → Calls Tryz.prog k #[.pointer (some ⟨g, 0, none⟩), .pointer (some ⟨cb, 0, none⟩)] W (TreeOut s g read W))
    (hen : ∀ W g, Sem.run Tryz.prog (callFunc k #[.pointer (some ⟨g, 0, none⟩), .pointer (some ⟨cb, 0, none⟩)]) W = .ok (.enter k #[.pointer (some ⟨g, 0, none⟩), .pointer (some ⟨cb, 0, none⟩)]) W) :
    Calls Tryz.prog 61 #[.slice (some ⟨s.b, s.off, none⟩) (s.ts.length + 1) s.c, .int .i64 i, .int .i64 cat, .func (.func k) #[] #[.pointer (some ⟨cb, 0, none⟩)]] w (ParseOut s cat read w) := by
  have hmf : ∀ (fn : Fn) (first cap : Array Value) (w : World), (Instr.makeFunc fn first cap).run Tryz.prog w = .ok (.func fn first cap) w := fun _ _ _ _ => rfl
  obtain ⟨k0, k1, k2, k3, k4⟩ := parse_boxes w (.int .i64 0) (.int .i64 0) #[.slice (some ⟨s.b, s.off, none⟩) (s.ts.length + 1) s.c, .int .i64 i] 27 3 30 116 #[.int .i64 0, .int .i64 0, .string ⟨#[]⟩, .slice none 0 0, .slice none 0 0]
  have HP := Lib.hid (show PAt _ (w.heap.size + 1 + 1 + 1) s i from ⟨k3, by omega, hs.keep (k4.block _ hb), hi⟩)
  have HK := Lib.hid (⟨k0, k1, k2⟩ : Blk _ _ _ _ ∧ Blk _ _ _ _ ∧ Blk _ _ _ _)
  have HB := Lib.hid k4
  have HRD := Lib.hid (hread _ _ k4 HP.out)
  have HSM := Lib.hid hsm
  clear k0 k1 k2 k3 k4 hs hread hsm
  go_enter_defers Tryz.func61, Tryz.ntmps61
  go_wp2_with fail
  generalize (((w.alloc (.cells #[.int .i64 0, .int .i64 0, .string ⟨#[]⟩, .slice none 0 0, .slice none 0 0] 27)).alloc (.cells #[.int .i64 0] 3)).alloc (.cells #[.int .i64 0] 30)).alloc (.cells #[.slice (some ⟨s.b, s.off, none⟩) (s.ts.length + 1) s.c, .int .i64 i] 116) = w1 at *
  have h01 : w.heap.size < w.heap.size + 1 := by omega
  have h12 : w.heap.size + 1 < w.heap.size + 1 + 1 := by omega
  have h23 : w.heap.size + 1 + 1 < w.heap.size + 1 + 1 + 1 := by omega
  have h31 : w.heap.size + 1 + 1 + 1 < w1.heap.size := HP.out.blk.lt
  generalize w.heap.size + 1 + 1 + 1 = b3 at *
  generalize w.heap.size + 1 + 1 = b2 at *
  generalize w.heap.size + 1 = b1 at *
  obtain ⟨b0, hb0⟩ : ∃ b0, b0 = w.heap.size := ⟨_, rfl⟩
  have HB0 := Lib.hid hb0
  rw [← hb0] at h01 HK
  rw [← hb0]
  clear hb0
  refine HRD.out.mono ?_
  rintro e w2 ho
  have n0 : b0 ≠ b3 := by omega
  have n1 : b1 ≠ b3 := by omega
  have n2 : b2 ≠ b3 := by omega
  rcases TreeOut.split ho with ⟨q, hri, rfl, hf⟩ | ⟨t, q, x0, x1, x2, xa, xl, xc, xd, xe, xf, hri, rfl, ht, hp, hf⟩
  · have k0 := blk_fr HK.out.1 n0 hf
    have k1 := blk_fr HK.out.2.1 n1 hf
    have k2 := blk_fr HK.out.2.2 n2 hf
    simp only [faultAt]
    generalize hcode : (if (Pl.tkAt s.ts q).kind = 8 then (4 : Int) else 3) = code
    refine leaves_cons (f := 105) (args := #[.pointer (some ⟨b0, 0, none⟩), .pointer (some ⟨b1, 0, none⟩), .pointer (some ⟨b2, 0, none⟩)]) (by simp) (by simp [go_sem]) ?_
    refine (pcatch_fault b0 b1 b2 q code [] w2 h01 h12 k0 k1 k2).mono ?_
    rintro e u' w3 ⟨rfl, rfl, e0, e1, e2, eb⟩
    obtain ⟨c0, c1, c2, c3, c4⟩ := five_cells e0
    have c5 := one_cell e1
    have c6 := one_cell e2
    have HEB := Lib.hid eb
    have HRI := Lib.hid hri
    have HCO := Lib.hid hcode
    have HFF := Lib.hid hf
    clear eb e0 e1 e2 hri hcode ho hf k0 k1 k2
    simp [Leaves, settle, results, Tryz.results61, go_sem, c0, c1, c2, c3, c4, c5, c6]
    unfold ParseOut
    rw [HRI.out]
    refine ⟨by show _ = _; rw [HCO.out], ?_⟩
    have hb0 := HB0.out
    have h1 := below_fr HB.out HB.out.size (show w.heap.size ≤ b3 by omega) HFF.out
    have h2 := HEB.out
    rw [hb0] at h2
    exact h1.trans h2
  · have k0 := blk_fr HK.out.1 n0 hf
    have k1 := blk_fr HK.out.2.1 n1 hf
    have k2 := blk_fr HK.out.2.2 n2 hf
    obtain ⟨c0, c1, c2, c3, c4⟩ := five_cells k0
    have f0 := k0.thaw 0
    have f1 := k0.thaw 1
    have f2 := k0.thaw 2
    have f3 := k0.thaw 3
    have f4 := k0.thaw 4
    have HK2 := Lib.hid (⟨k0, k1, k2⟩ : Blk _ _ _ _ ∧ Blk _ _ _ _ ∧ Blk _ _ _ _)
    have HT := Lib.hid ht
    have HP2 := Lib.hid hp
    have HFF := Lib.hid hf
    have HRI := Lib.hid hri
    clear k0 k1 k2 ho ht hp hf hri
    go_wp2_with fail
    have hfp := fr_putFive w2 b0 (.int .i64 x0) (.int .i64 x1) (.string x2) (.slice xa xl xc) (.slice xd xe xf)
    have hb02 : b0 < w1.heap.size := by omega
    have hv := valid_any (Own w1.heap.size (putFive w2 b0 (.int .i64 x0) (.int .i64 x1) (.string x2) (.slice xa xl xc) (.slice xd xe xf))) t cat _ _ (fun b hb => hb.2) (tree_fr HT.out hb02 hfp) (HSM.out _ _ HRI.out)
    have m0 := putFive_blk HK2.out.1 (.int .i64 x0) (.int .i64 x1) (.string x2) (.slice xa xl xc) (.slice xd xe xf)
    have m1 := blk_fr HK2.out.2.1 (show b1 ≠ b0 by omega) hfp
    have m2 := blk_fr HK2.out.2.2 (show b2 ≠ b0 by omega) hfp
    have m3 := blk_fr HP2.out.blk (show b3 ≠ b0 by omega) hfp
    have HT2 := tree_fr HT.out hb02 hfp
    have HBW := Lib.hid (below_fr (below_fr HB.out HB.out.size (show w.heap.size ≤ b3 by have := HB0.out; omega) HFF.out) (Nat.le_trans HB.out.size HFF.out.size) (show w.heap.size ≤ b0 by have := HB0.out; omega) hfp)
    have HSZ2 := Lib.hid (show (World.heap w1).size ≤ (World.heap (putFive w2 b0 (.int .i64 x0) (.int .i64 x1) (.string x2) (.slice xa xl xc) (.slice xd xe xf))).size from Nat.le_trans HFF.out.size hfp.size)
    obtain ⟨W, hW⟩ : ∃ W, W = putFive w2 b0 (.int .i64 x0) (.int .i64 x1) (.string x2) (.slice xa xl xc) (.slice xd xe xf) := ⟨_, rfl⟩
    rw [← hW] at hv m0 m1 m2 m3 HT2 HBW HSZ2
    have HM := Lib.hid (⟨m0, m1, m2, m3⟩ : Blk _ _ _ _ ∧ Blk _ _ _ _ ∧ Blk _ _ _ _ ∧ Blk _ _ _ _)
    have HTW := Lib.hid HT2
    have HV := Lib.hid hv
    unfold putFive at hW
    rw [← hW]
    clear hW hfp hv m0 m1 m2 m3 HT2 c0 c1 c2 c3 c4 f0 f1 f2 f3 f4
    refine HV.out.mono ?_
    rintro e w3 ⟨rfl, hb3⟩
    have m0 := HM.out.1.of_eq (hb3.block _ HM.out.1.lt)
    have m1 := HM.out.2.1.of_eq (hb3.block _ HM.out.2.1.lt)
    have m2 := HM.out.2.2.1.of_eq (hb3.block _ HM.out.2.2.1.lt)
    have m3 := HM.out.2.2.2.of_eq (hb3.block _ HM.out.2.2.2.lt)
    obtain ⟨c0, c1, c2, c3, c4⟩ := five_cells m0
    have c5 := one_cell m1
    have c6 := one_cell m2
    have c7 : World.cell? w3 ⟨b3, 1, none⟩ = some (.int .i64 q) := m3.cell 1 _ rfl
    have f0 := m0.thaw 0
    have f1 := m0.thaw 1
    have f2 := m0.thaw 2
    have f3 := m0.thaw 3
    have f4 := m0.thaw 4
    have f5 := m1.thaw 0
    have f6 := m2.thaw 0
    have HM3 := Lib.hid (⟨m0, m1, m2⟩ : Blk _ _ _ _ ∧ Blk _ _ _ _ ∧ Blk _ _ _ _)
    have HT3 := Lib.hid (tree_fr (o := b0) HTW.out hb02 (fr_below hb3))
    have HB3 := Lib.hid (HBW.out.trans (hb3.mono HBW.out.size))
    have HSZ3 := Lib.hid (Nat.le_trans HSZ2.out hb3.size)
    have n3 : ¬ b1 = b0 := by omega
    have n4 : ¬ b2 = b0 := by omega
    have n5 : ¬ b2 = b1 := by omega
    have n6 : ¬ b0 = b1 := by omega
    have n7 : ¬ b0 = b2 := by omega
    have n8 : ¬ b1 = b2 := by omega
    have hvp : ∃ bv, bv = validP cat t := ⟨_, rfl⟩
    obtain ⟨bv, hvp⟩ := hvp
    rw [← hvp]
    have HVP := Lib.hid hvp
    clear hvp m0 m1 m2 m3 hb3
    cases bv
    · go_wp2_with fail
      obtain ⟨q0, q1, q2, q3, -⟩ := three_put h01 h12 HM3.out.1 HM3.out.2.1 HM3.out.2.2 (.int .i64 0) (.int .i64 0) (.string ⟨#[]⟩) (.slice none 0 0) (.slice none 0 0) (.int .i64 0) (.int .i64 5)
      have HQ3 := Lib.hid (q3 w.heap.size (by have := HB0.out; omega))
      unfold putFive at q0 q1 q2 HQ3
      refine leaves_cons (f := 105) (args := #[.pointer (some ⟨b0, 0, none⟩), .pointer (some ⟨b1, 0, none⟩), .pointer (some ⟨b2, 0, none⟩)]) (by simp) (by simp [go_sem]) ?_
      refine (pcatch_idle _ _ _ _).mono ?_
      rintro e u' w4 ⟨rfl, rfl, hw4⟩
      rw [← hw4] at q0 q1 q2 HQ3
      clear hw4 q3
      obtain ⟨d0, d1, d2, d3, d4⟩ := five_cells q0
      have d5 := one_cell q1
      have d6 := one_cell q2
      clear q0 q1 q2
      simp [Leaves, settle, results, Tryz.results61, go_sem, d0, d1, d2, d3, d4, d5, d6]
      unfold ParseOut
      rw [HRI.out]
      refine ⟨?_, HB3.out.trans HQ3.out⟩
      show (if validP cat t = true then _ else _)
      rw [if_neg (by rw [← HVP.out]; decide)]
    · go_wp2_with fail
      go_region
      all_goals
        go_wp2_with fail
        obtain ⟨q0, q1, q2, q3, q4⟩ := three_put h01 h12 HM3.out.1 HM3.out.2.1 HM3.out.2.2 (.int .i64 x0) (.int .i64 x1) (.string x2) (.slice xa xl xc) (.slice xd xe xf) (.int .i64 q) (.int .i64 0)
        have HQ3 := Lib.hid (q3 w.heap.size (by have := HB0.out; omega)).drew
        have HQ4a := Lib.hid ((HT3.out.keep (fun b hb => q4 b (by have := hb.1; omega) (by have := hb.1; omega) (by have := hb.1; omega))).mono (Q := Own w.heap.size _) (fun b hb => ⟨by have := HB.out.size; have := hb.1; omega, Nat.lt_of_lt_of_le hb.2 (q3 0 (Nat.zero_le _)).size⟩))
        have HQ4 := Lib.hid (synV_drew HQ4a.out)
        clear HQ4a
        have HQ0 := Lib.hid q0.drew
        have HQ1 := Lib.hid q1.drew
        have HQ2 := Lib.hid q2.drew
        unfold putFive at HQ0 HQ1 HQ2 HQ3 HQ4
        refine leaves_cons (f := 105) (args := #[.pointer (some ⟨b0, 0, none⟩), .pointer (some ⟨b1, 0, none⟩), .pointer (some ⟨b2, 0, none⟩)]) (by simp) (by simp [go_sem]) ?_
        refine (pcatch_idle _ _ _ _).mono ?_
        rintro e u' w4 ⟨rfl, rfl, hw4⟩
        rw [← hw4] at HQ0 HQ1 HQ2 HQ3 HQ4
        clear hw4 q0 q1 q2 q3 q4
        obtain ⟨d0, d1, d2, d3, d4⟩ := five_cells HQ0.out
        have d5 := one_cell HQ1.out
        have d6 := one_cell HQ2.out
        simp [Leaves, settle, results, Tryz.results61, go_sem, d0, d1, d2, d3, d4, d5, d6]
        unfold ParseOut
        rw [HRI.out]
        refine ⟨?_, HB3.out.trans HQ3.out⟩
        show (if validP cat t = true then _ else _)
        rw [if_pos HVP.out.symm]
        exact ⟨_, rfl, HQ4.out⟩
end Go.Proofs.YtjedahcpkcgpeaaGreatDoor

/-
  Plain mathematics of layer 4: the tokens of a source that is read are right. No program.
-/
namespace Go.Proofs.YtjedahcpkcgpeaaGreatDoor.Pl
open Go
set_option linter.unusedSimpArgs false
def RightT (n : Nat) (t : Tok) : Prop := t.kind ≠ 8 ∧ t.text.length ≤ n ∧ (t.kind = 4 → (number t.text).2 = 0)
theorem txt_kind8 : ∀ (r : Bytes) (esc : Bool) (acc : Bytes) (k : Nat), ((txt r esc acc k).kind = 5 ∨ (txt r esc acc k).kind = 0) ∧ (txt r esc acc k).text.length ≤ acc.length + r.length := by
  intro r
  induction r with
  | nil => intro esc acc k; cases esc <;> exact ⟨.inr rfl, Nat.zero_le _⟩
  | cons c r ih =>
    intro esc acc k
    cases esc with
    | false =>
      rw [txt]
      split
      · refine ⟨.inl rfl, ?_⟩
        show acc.length ≤ _
        omega
      split
      · have := ih true acc (k + 1)
        exact ⟨this.1, by simp only [List.length_cons]; omega⟩
      split
      · have := ih false (acc ++ [c]) (k + 1)
        rw [List.length_append] at this
        exact ⟨this.1, by simp only [List.length_cons, List.length_nil] at this ⊢; omega⟩
      · exact ⟨.inr rfl, Nat.zero_le _⟩
    | true =>
      rw [txt]
      cases meaning c with
      | some m =>
        have := ih false (acc ++ [m]) (k + 1)
        rw [List.length_append] at this
        exact ⟨this.1, by simp only [List.length_cons, List.length_nil] at this ⊢; omega⟩
      | none => exact ⟨.inr rfl, Nat.zero_le _⟩
theorem tok_right (l : Bytes) : (tok l).kind ≠ 8 ∧ (tok l).text.length ≤ l.length ∧ ((tok l).kind = 4 → (number (tok l).text).2 = 0) := by
  have hbad : ∀ e p, (bad e p).kind ≠ 8 ∧ (bad e p).text.length ≤ l.length ∧ ((bad e p).kind = 4 → (number (bad e p).text).2 = 0) := fun e p => ⟨by show ¬ (0 : Int) = 8; decide, Nat.zero_le _, fun h => absurd h (show ¬ (0 : Int) = 4 by decide)⟩
  have htake : ∀ n, (l.take n).length ≤ l.length := fun n => List.length_take_le' _ _
  unfold tok
  split
  · unfold nameTok
    split
    · exact hbad _ _
    · refine ⟨?_, htake _, ?_⟩
      · show (if isKey (l.take (run innerB l)) then (6 : Int) else if headIs capital l then 2 else 1) ≠ 8
        split
        · decide
        · split <;> decide
      · intro h
        have : (if isKey (l.take (run innerB l)) then (6 : Int) else if headIs capital l then 2 else 1) = 4 := h
        split at this
        · exact absurd this (by decide)
        · split at this <;> exact absurd this (by decide)
  split
  · unfold varTok
    split
    · split
      · exact hbad _ _
      · exact ⟨show ¬ (3 : Int) = 8 by decide, htake _, fun h => absurd h (show ¬ (3 : Int) = 4 by decide)⟩
    · exact hbad _ _
  split
  · unfold numTok
    split
    · next h => exact ⟨show ¬ (4 : Int) = 8 by decide, htake _, fun _ => h⟩
    · exact hbad _ _
  split
  · have h := txt_kind8 (l.drop 1) false [] 1
    have h2 : (txt (l.drop 1) false [] 1).text.length ≤ l.length := by
      have := h.2
      rw [List.length_drop, List.length_nil] at this
      omega
    refine ⟨?_, h2, ?_⟩
    · rcases h.1 with h | h <;> rw [h] <;> decide
    · intro h4
      rcases h.1 with h | h <;> rw [h] at h4 <;> exact absurd h4 (by decide)
  · unfold symTok
    split
    · exact hbad _ _
    · exact ⟨show ¬ (7 : Int) = 8 by decide, htake _, fun h => absurd h (show ¬ (7 : Int) = 4 by decide)⟩
def EndsT (n : Nat) (O : Out) : Prop := O.err = 0 → ∃ ts e, O.toks = ts ++ [e] ∧ e.kind = 8 ∧ e.text = [] ∧ (∀ t ∈ ts, RightT n t) ∧ ts.length ≤ n
theorem toks_ends : ∀ (f : Nat) (l : Bytes) (i : Nat) (acc : List Tok) (O : Out), l.length < 20000 → Ok f l i acc O → (∀ t ∈ acc, RightT l.length t) → EndsT l.length O := by
  intro f
  induction f with
  | zero => intro l i acc O _ h; obtain ⟨h1, h2, _⟩ := h; omega
  | succ f ih =>
    intro l i acc O hl hok hin
    have hgl := gap_le _ (l.drop i) (Nat.le_refl _)
    rw [List.length_drop] at hgl
    have hi := hok.2.1
    have hai := hok.2.2.1
    cases hg : (gap (l.drop i)).2
    · by_cases he : i + (gap (l.drop i)).1 = l.length
      · rw [ok_end _ _ _ _ _ hok hg he]
        exact fun _ => ⟨acc, _, rfl, rfl, rfl, hin, by omega⟩
      · have hne : l.drop (i + (gap (l.drop i)).1) ≠ [] := by
          intro h
          have := congrArg List.length h
          rw [List.length_drop, List.length_nil] at this
          omega
        have hfi := fine_tok _ hne
        by_cases ht : (tok (l.drop (i + (gap (l.drop i)).1))).err = 0
        · obtain ⟨h1, h2, h3⟩ := hfi.1 ht
          rw [List.length_drop] at h2
          have hok2 := ok_next _ _ _ _ _ hok hl hg he ht h1 (by omega)
          refine ih l _ _ O hl hok2 (fun t htm => ?_)
          rcases List.mem_append.1 htm with htm | htm
          · exact hin t htm
          · rw [List.mem_singleton] at htm
            subst htm
            obtain ⟨r1, r2, r3⟩ := tok_right (l.drop (i + (gap (l.drop i)).1))
            exact ⟨r1, by show (tok (l.drop (i + (gap (l.drop i)).1))).text.length ≤ l.length; rw [List.length_drop] at r2; omega, r3⟩
        · rw [ok_bad _ _ _ _ _ hok hl hg he ht]
          exact fun h => absurd h ht
    · rw [ok_open _ _ _ _ _ hok hg]
      exact fun h => absurd h (show ¬ (4 : Int) = 0 by decide)
theorem tokens_ends (l : Bytes) : EndsT 16384 (tokens l) := by
  by_cases hl : 16384 < l.length
  · unfold tokens
    rw [if_pos hl]
    exact fun h => absurd h (show ¬ (5 : Int) = 0 by decide)
  · have := toks_ends (l.length + 1) l 0 [] (tokens l) (by omega) ⟨by omega, Nat.zero_le _, Nat.zero_le _, by unfold tokens; rw [if_neg (by omega)]⟩ (fun t h => by cases h)
    intro h
    obtain ⟨ts, e, h1, h2, h3, h4, h5⟩ := this h
    exact ⟨ts, e, h1, h2, h3, fun t ht => ⟨(h4 t ht).1, by have := (h4 t ht).2.1; omega, (h4 t ht).2.2⟩, by omega⟩
end Go.Proofs.YtjedahcpkcgpeaaGreatDoor.Pl
