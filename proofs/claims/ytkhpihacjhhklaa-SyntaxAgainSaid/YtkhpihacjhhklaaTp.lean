/-
  Walks of layer 3: the form of a node, and a well-formed tree.
-/
import Derived.Test.YtkhpihacjhhklaaTo
import Derived.Test.YtkhpihacjhhklaaSp
import Derived.Test.YtkhpihacjhhklaaSt
import Derived.Test.YtkhpihacjhhklaaSd
namespace Go.Proofs.Ytkhpihacjhhklaa
open Go Go.RowKit
open Pl (Syn)
set_option linter.unusedSimpArgs false

set_option maxRecDepth 100000 in
set_option maxHeartbeats 4000000 in
theorem hasForm_any (P : Nat → Prop) (t : Syn) (v : Value) (around : Int) (w : World) (hP : ∀ b, P b → b < w.heap.size) (h : SynV w P t v) (hbig : t.big ≤ 1073741824) :
    Calls Try.prog 55 #[v, .int .i64 around] w fun e w' => e = .returned (.bool (Pl.form t around)) ∧ Below w.heap.size w w' := by
  have hlb := Pl.len_big t
  rw [synV_iff] at h
  obtain ⟨hs, nv, lv, rfl, hn, hl⟩ := h
  have HN := Lib.hid (fun W (hW : Below w.heap.size w W) => hn.keep (Same.of_below hW hP))
  have HL := Lib.hid (fun W (hW : Below w.heap.size w W) => hl.keep (Same.of_below hW hP))
  have HPW := Lib.hid (fun W (hW : Below w.heap.size w W) b (hb : P b) => Nat.lt_of_lt_of_le (hP b hb) hW.size)
  have hb : Below w.heap.size w (w.alloc (.cells #[.int .i64 t.op, .int .i64 t.n, .string t.s, nv, lv] 25)) := (Below.refl _ _).alloc (Nat.le_refl _) _
  have bx := blk_new w #[.int .i64 t.op, .int .i64 t.n, .string t.s, nv, lv] 25
  have HBX := Lib.hid bx
  have HB := Lib.hid hb
  have HSZ := Lib.hid (size_alloc w (.cells #[.int .i64 t.op, .int .i64 t.n, .string t.s, nv, lv] 25))
  have x0 := bx.cell 0 _ rfl
  have x1 := bx.cell 1 _ rfl
  have x2 := bx.cell 2 _ rfl
  have x3 := bx.cell 3 _ rfl
  have x4 := bx.cell 4 _ rfl
  have H1 := Lib.hid (fun W => numberFits_any t.op t.n t.s nv lv W)
  have H2 := Lib.hid (fun W => textFits_any t.op t.n around t.s nv lv W hs)
  have H3 := Lib.hid (fun W h1 h2 => namesFit_any P t.op t.n t.s t.names nv lv W h1 h2)
  have H4 := Lib.hid (fun W h1 h2 => core_any P t.op t.n t.s nv lv t.l W h1 h2)
  have H5 := Lib.hid (fun W h1 h2 => modl_any P t.op t.n t.s nv lv t.l W h1 h2 (by omega))
  have HF := Lib.hid (show Pl.form t around = (Pl.num t.op t.n && Pl.txt t.op around t.s && Pl.nam t.op t.names && (Pl.core t.op t.n t.l || Pl.modl t.op t.l)) from rfl)
  generalize Pl.form t around = rr at *
  generalize Pl.num t.op t.n = r1 at *
  generalize Pl.txt t.op around t.s = r2 at *
  generalize Pl.nam t.op t.names = r3 at *
  generalize Pl.core t.op t.n t.l = r4 at *
  generalize Pl.modl t.op t.l = r5 at *
  generalize t.op = xo at *
  generalize t.n = xn at *
  generalize t.s = xs at *
  clear hs hn hl hP hb bx hlb
  go_enter Try.func55, Try.ntmps55
  go_wp2_with fail
  refine (H1.out _).mono ?_
  rintro e w1 ⟨rfl, hb1⟩
  have HB1 := Lib.hid (HB.out.trans (hb1.mono HB.out.size))
  have HX1 := Lib.hid (HBX.out.of_eq (hb1.block _ HBX.out.lt))
  have x0 := HX1.out.cell 0 _ rfl
  have x1 := HX1.out.cell 1 _ rfl
  have x2 := HX1.out.cell 2 _ rfl
  have x3 := HX1.out.cell 3 _ rfl
  have x4 := HX1.out.cell 4 _ rfl
  clear hb1
  cases r1
  · go_wp2
    go_ret
    exact ⟨ret_bool (by rw [HF.out]; rfl), HB1.out⟩
  go_wp2_with fail
  refine (H2.out _).mono ?_
  rintro e w2 ⟨rfl, hb2⟩
  have HB2 := Lib.hid (HB1.out.trans (hb2.mono HB1.out.size))
  have HX2 := Lib.hid (HX1.out.of_eq (hb2.block _ HX1.out.lt))
  have x0 := HX2.out.cell 0 _ rfl
  have x1 := HX2.out.cell 1 _ rfl
  have x2 := HX2.out.cell 2 _ rfl
  have x3 := HX2.out.cell 3 _ rfl
  have x4 := HX2.out.cell 4 _ rfl
  clear hb2
  cases r2
  · go_wp2
    go_ret
    exact ⟨ret_bool (by rw [HF.out]; rfl), HB2.out⟩
  go_wp2_with fail
  refine (H3.out _ (HPW.out _ HB2.out) (HN.out _ HB2.out)).mono ?_
  rintro e w3 ⟨rfl, hb3⟩
  have HB3 := Lib.hid (HB2.out.trans (hb3.mono HB2.out.size))
  have HX3 := Lib.hid (HX2.out.of_eq (hb3.block _ HX2.out.lt))
  have x0 := HX3.out.cell 0 _ rfl
  have x1 := HX3.out.cell 1 _ rfl
  have x2 := HX3.out.cell 2 _ rfl
  have x3 := HX3.out.cell 3 _ rfl
  have x4 := HX3.out.cell 4 _ rfl
  clear hb3
  cases r3
  · go_wp2
    go_ret
    exact ⟨ret_bool (by rw [HF.out]; rfl), HB3.out⟩
  go_wp2_with fail
  refine (H4.out _ (HPW.out _ HB3.out) (HL.out _ HB3.out)).mono ?_
  rintro e w4 ⟨rfl, hb4⟩
  have HB4 := Lib.hid (HB3.out.trans (hb4.mono HB3.out.size))
  have HX4 := Lib.hid (HX3.out.of_eq (hb4.block _ HX3.out.lt))
  have x0 := HX4.out.cell 0 _ rfl
  have x1 := HX4.out.cell 1 _ rfl
  have x2 := HX4.out.cell 2 _ rfl
  have x3 := HX4.out.cell 3 _ rfl
  have x4 := HX4.out.cell 4 _ rfl
  clear hb4
  cases r4
  · go_wp2_with fail
    refine (H5.out _ (HPW.out _ HB4.out) (HL.out _ HB4.out)).mono ?_
    rintro e w5 ⟨rfl, hb5⟩
    have HB5 := Lib.hid (HB4.out.trans (hb5.mono HB4.out.size))
    clear hb5
    go_wp2
    go_ret
    exact ⟨ret_bool (by rw [HF.out]; rfl), HB5.out⟩
  · go_wp2
    go_ret
    exact ⟨ret_bool (by rw [HF.out]; rfl), HB4.out⟩

/-- isWellFormed's function -/
abbrev wfV (g : Nat) : Visitor where
  St := Int
  fid := 54
  g := g
  G := Unit
  Inv n _ w := Cell1 g n w ∧ n ≤ 20000
  own _ i := i = g
  cnt n := (20000 - n).toNat
  next n t around d := (n - 1, decide ((t.l.length : Int) ≤ n - 1) && decide (d ≤ 400) && Pl.form t around)
set_option maxRecDepth 100000 in
set_option maxHeartbeats 4000000 in
theorem wf1_any (g : Nat) (n : Int) (w : World) (t : Syn) (v : Value) (P : Nat → Prop) (around depth : Int) (hi : Cell1 g n w) (ht : SynV w P t v) (hP : ∀ b, P b → b < w.heap.size ∧ b ≠ g) (hbig : t.big ≤ 1073741824) (hn : n ≤ 20000) (hn2 : -1073741824 ≤ n) :
    Calls Try.prog 54 #[v, .int .i64 around, .int .i64 depth, .pointer (some ⟨g, 0, none⟩)] w fun e w' => e = .returned (.bool (decide ((t.l.length : Int) ≤ n - 1) && decide (depth ≤ 400) && Pl.form t around)) ∧ Cell1 g (n - 1) w' ∧ Fr (· = g) (· = g) w w' := by
  have HT := Lib.hid ht
  obtain ⟨na, nn, nc, la, ln, lc, rfl⟩ := ht.form
  have hlen := synV_len ht
  have hb : Below w.heap.size w (w.alloc (.cells #[.int .i64 t.op, .int .i64 t.n, .string t.s, .slice na nn nc, .slice la ln lc] 25)) := (Below.refl _ _).alloc (Nat.le_refl _) _
  have hi1 := hi.below hb
  have c0 := Blk.cell hi1 0 _ rfl
  have f0 := Blk.thaw hi1 0
  have hgl := Blk.lt hi
  have hw2 := cell1_set hi (show n - 1 = n - 1 from rfl) (.cells #[.int .i64 t.op, .int .i64 t.n, .string t.s, .slice na nn nc, .slice la ln lc] 25)
  have hf2 := (fr_set (g := g) (.int .i64 (n - 1)) 0 (Below.refl w.heap.size w)).alloc (.cells #[.int .i64 t.op, .int .i64 t.n, .string t.s, .slice na nn nc, .slice la ln lc] 25)
  have HW2 := Lib.hid hw2
  have HF2 := Lib.hid hf2
  have bx := blk_new (w.setCell ⟨g, 0, none⟩ (.int .i64 (n - 1))) #[.int .i64 t.op, .int .i64 t.n, .string t.s, .slice na nn nc, .slice la ln lc] 25
  rw [size_setCell] at bx
  have x0 := bx.cell 0 _ rfl
  have x1 := bx.cell 1 _ rfl
  have x2 := bx.cell 2 _ rfl
  have x3 := bx.cell 3 _ rfl
  have x4 := bx.cell 4 _ rfl
  have y0 := Blk.cell hw2 0 _ rfl
  have HC := Lib.hid (hasForm_any P t _ around _ (fun b hb' => (hf2.still hP b hb').1) (HT.out.keep (hf2.same hP)) hbig)
  have hll : ln ≤ maxLen := hlen.2
  unfold maxLen at hll
  have HLN := Lib.hid hlen.1
  have HNB := Lib.hid (show ∀ w', Below (((w.setCell ⟨g, 0, none⟩ (.int .i64 (n - 1))).alloc (.cells #[.int .i64 t.op, .int .i64 t.n, .string t.s, .slice na nn nc, .slice la ln lc] 25))).heap.size ((w.setCell ⟨g, 0, none⟩ (.int .i64 (n - 1))).alloc (.cells #[.int .i64 t.op, .int .i64 t.n, .string t.s, .slice na nn nc, .slice la ln lc] 25)) w' → Cell1 g (n - 1) w' ∧ Fr (· = g) (· = g) w w' from fun w' hb' => ⟨hw2.below hb', hf2.trans (Fr.of_below hb')⟩)
  rw [hlen.1]
  generalize Pl.form t around = rf at *
  generalize t.op = xo at *
  generalize t.n = xn at *
  generalize t.s = xs at *
  clear hb hi hi1 ht hP hlen hw2 hf2 bx
  by_cases h1 : (ln : Int) ≤ n - 1
  · have q1 : decide ((ln : Int) ≤ n - 1) = true := decide_eq_true h1
    by_cases h2 : depth ≤ 400
    · have q2 : decide (depth ≤ 400) = true := decide_eq_true h2
      go_enter Try.func54, Try.ntmps54
      go_wp2_with fail
      refine HC.out.mono ?_
      rintro e w2 ⟨rfl, hb2⟩
      have HB2 := Lib.hid (HNB.out _ hb2)
      clear hb2
      go_wp2
      go_ret
      exact ⟨ret_bool (by first | rfl | (simp [h1, h2]; done) | simp), HB2.out⟩
    · have q2 : decide (depth ≤ 400) = false := decide_eq_false h2
      go_enter Try.func54, Try.ntmps54
      go_wp2
      go_ret
      exact ⟨ret_bool (by first | rfl | (rw [show decide (depth ≤ 400) = false from decide_eq_false (by omega)]; simp)), HW2.out, HF2.out⟩
  · have q1 : decide ((ln : Int) ≤ n - 1) = false := decide_eq_false h1
    go_enter Try.func54, Try.ntmps54
    go_wp2
    go_ret
    exact ⟨ret_bool (by first | rfl | (rw [show decide ((ln : Int) ≤ n - 1) = false from decide_eq_false (by omega)]; simp)), HW2.out, HF2.out⟩
theorem wf_low (n : Int) (h : (20000 - n).toNat < 1073741824) : -1073741824 ≤ n := by omega
theorem wf_up (n : Int) (h : n ≤ 20000) : n - 1 ≤ 20000 := by omega
theorem wf_cnt (n : Int) : (20000 - (n - 1)).toNat ≤ (20000 - n).toNat + 1 := by omega
theorem wf_good (g : Nat) : (wfV g).Good where
  enter := by
    intro args w
    show Sem.run Try.prog (callFunc 54 args) w = .ok (.enter 54 args) w
    kernel_rfl
  calls := fun σ γ w P t v around depth hi ht hP hb hc h0 h1 => (wf1_any g σ w t v P around depth hi.1 ht hP hb hi.2 (wf_low σ hc)).mono fun e w' h => ⟨h.1, (), ⟨h.2.1, wf_up σ hi.2⟩, h.2.2⟩
  keep := fun σ γ w w' hi hb => ⟨Cell1.below hi.1 hb, hi.2⟩
  lt := fun σ γ w i hi ho => by
    have h : i = g := ho
    subst h; exact Blk.lt hi.1
  cnt_le := fun σ t around depth => wf_cnt σ
theorem wf_runs (g : Nat) (l : List Syn) (hl : ∀ x ∈ l, ∀ (n : Int) (around d : Int), (((wfV g).run n x around d).2 = true ↔ (x.size : Int) ≤ n ∧ d + x.depth - 1 ≤ 400 ∧ x.ok around = true) ∧ (((wfV g).run n x around d).2 = true → ((wfV g).run n x around d).1 = n - x.size)) :
    ∀ (n : Int) (around d : Int), 0 ≤ n → ((((wfV g).runs n l around d).2 = true ↔ (Pl.sizes l : Int) ≤ n ∧ (l = [] ∨ d + Pl.depths l - 1 ≤ 400) ∧ Pl.oks l around = true) ∧ (((wfV g).runs n l around d).2 = true → ((wfV g).runs n l around d).1 = n - Pl.sizes l)) := by
  induction l with
  | nil =>
    intro n around d hn
    rw [Visitor.runs_nil, Pl.sizes_nil, Pl.oks_nil]
    exact ⟨⟨fun _ => ⟨by omega, .inl rfl, rfl⟩, fun _ => rfl⟩, fun _ => by show n = n - ((0 : Nat) : Int); omega⟩
  | cons x r ih =>
    intro n around d hn
    obtain ⟨h1, h2⟩ := hl x List.mem_cons_self n around d
    have ih' := ih (fun y hy => hl y (List.mem_cons_of_mem _ hy))
    rw [Visitor.runs_cons, Pl.sizes_cons, Pl.oks_cons, Pl.depths_cons]
    generalize (wfV g).run n x around d = rx at *
    obtain ⟨n1, b⟩ := rx
    cases b
    · simp only [Bool.false_eq_true, if_false, false_iff, not_and, Bool.and_eq_true, false_implies, and_true] at h1 ⊢
      intro g1 g2 g3
      rcases g2 with g2 | g2
      · cases g2
      · exact absurd g3 (h1 (by omega) (by omega))
    · simp only [if_true, true_iff, true_implies] at h1 h2 ⊢
      subst h2
      obtain ⟨h1, h3, h4⟩ := h1
      obtain ⟨k1, k2⟩ := ih' (n - x.size) around d (by omega)
      rw [k1]
      refine ⟨⟨fun ⟨a1, a2, a3⟩ => ⟨by omega, .inr ?_, by rw [h4, a3]; rfl⟩, fun ⟨a1, a2, a3⟩ => ⟨by omega, ?_, by rw [h4] at a3; simpa using a3⟩⟩, fun a => ?_⟩
      · rcases a2 with a2 | a2
        · subst a2; rw [Pl.depths_nil]; omega
        · omega
      · rcases a2 with a2 | a2
        · cases a2
        · cases r with
          | nil => exact .inl rfl
          | cons y q => exact .inr (by omega)
      · rw [k2 (k1.2 a)]; show n - (x.size : Int) - _ = _; omega
theorem wf_run (g : Nat) (t : Syn) : ∀ (n : Int) (around d : Int), (((wfV g).run n t around d).2 = true ↔ (t.size : Int) ≤ n ∧ d + t.depth - 1 ≤ 400 ∧ t.ok around = true) ∧ (((wfV g).run n t around d).2 = true → ((wfV g).run n t around d).1 = n - t.size) := by
  induction t using Syn.ind with
  | h t ih =>
    intro n around d
    rw [Visitor.run_eq, Pl.size_eq, Pl.depth_eq, Pl.ok_eq]
    have hls := Pl.len_sizes t.l
    have hq := wf_runs g t.l ih (n - 1) t.op (d + 1)
    show ((if (decide ((t.l.length : Int) ≤ n - 1) && decide (d ≤ 400) && Pl.form t around) = true then (wfV g).runs (n - 1) t.l t.op (d + 1) else (n - 1, false)).2 = true ↔ _) ∧ ((if (decide ((t.l.length : Int) ≤ n - 1) && decide (d ≤ 400) && Pl.form t around) = true then (wfV g).runs (n - 1) t.l t.op (d + 1) else (n - 1, false)).2 = true → (if (decide ((t.l.length : Int) ≤ n - 1) && decide (d ≤ 400) && Pl.form t around) = true then (wfV g).runs (n - 1) t.l t.op (d + 1) else (n - 1, false)).1 = _)
    have hdp : t.l = [] → Pl.depths t.l = 0 := fun h => by rw [h, Pl.depths_nil]
    have hdn : t.l ≠ [] → 1 ≤ Pl.depths t.l := fun h => by
      cases hl : t.l with
      | nil => exact absurd hl h
      | cons x r => rw [Pl.depths_cons]; have := Pl.depth_pos x; omega
    by_cases hc : (decide ((t.l.length : Int) ≤ n - 1) && decide (d ≤ 400) && Pl.form t around) = true
    · rw [if_pos hc]
      simp only [Bool.and_eq_true, decide_eq_true_eq] at hc
      obtain ⟨⟨c1, c2⟩, c3⟩ := hc
      obtain ⟨q1, q2⟩ := hq (by omega)
      rw [q1]
      refine ⟨⟨fun ⟨a1, a2, a3⟩ => ⟨by omega, ?_, by rw [c3, a3]; rfl⟩, fun ⟨a1, a2, a3⟩ => ⟨by omega, ?_, by rw [c3] at a3; simpa using a3⟩⟩, fun a => ?_⟩
      · rcases a2 with a2 | a2
        · have := hdp a2; omega
        · omega
      · by_cases hl : t.l = []
        · exact .inl hl
        · exact .inr (by omega)
      · rw [q2 (q1.2 a)]
        show n - 1 - (Pl.sizes t.l : Int) = n - ((1 + Pl.sizes t.l : Nat) : Int)
        omega
    · rw [if_neg hc]
      simp only [Bool.false_eq_true, false_iff, false_implies, and_true]
      rintro ⟨a1, a2, a3⟩
      rw [Bool.and_eq_true] at a3
      refine hc ?_
      rw [a3.1, decide_eq_true (show (t.l.length : Int) ≤ n - 1 from by omega), decide_eq_true (show d ≤ 400 from by omega)]
      rfl
theorem wf_formed (g : Nat) (t : Syn) : ((wfV g).run (20000 : Int) t 0 1).2 = Pl.formed t := by
  rw [Bool.eq_iff_iff, (wf_run g t 20000 0 1).1, Pl.formed_ok]
  simp only [Bool.and_eq_true, decide_eq_true_eq, and_assoc]
  constructor
  · rintro ⟨a, b, c⟩; exact ⟨by omega, by omega, c⟩
  · rintro ⟨a, b, c⟩; exact ⟨by omega, by omega, c⟩
set_option maxRecDepth 100000 in
set_option maxHeartbeats 4000000 in
theorem isWellFormed_any (P : Nat → Prop) (t : Syn) (w : World) (v : Value) (hP : ∀ b, P b → b < w.heap.size) (ht : SynV w P t v) (hbig : t.big ≤ 536870912) :
    Calls Try.prog 32 #[v] w fun e w' => e = .returned (.bool (Pl.formed t)) ∧ Below w.heap.size w w' := by
  have hsb := Pl.size_big t
  have HT := Lib.hid ht
  obtain ⟨na, nn, nc, la, ln, lc, rfl⟩ := ht.form
  have hb : Below w.heap.size w ((w.alloc (.cells #[.int .i64 t.op, .int .i64 t.n, .string t.s, .slice na nn nc, .slice la ln lc] 25)).alloc (.cells #[.int .i64 20000] 3)) := (((Below.refl _ _).alloc (Nat.le_refl _) _).alloc (by simp) _)
  have hi : Cell1 (w.heap.size + 1) (20000 : Int) ((w.alloc (.cells #[.int .i64 t.op, .int .i64 t.n, .string t.s, .slice na nn nc, .slice la ln lc] 25)).alloc (.cells #[.int .i64 20000] 3)) := by
    have := blk_new (w.alloc (.cells #[.int .i64 t.op, .int .i64 t.n, .string t.s, .slice na nn nc, .slice la ln lc] 25)) #[.int .i64 20000] 3
    rw [size_alloc] at this
    exact this
  have HC := Lib.hid (visit_any (wfV (w.heap.size + 1)) (wf_good _) P t (20000 : Int) () _ (.agg #[.int .i64 t.op, .int .i64 t.n, .string t.s, .slice na nn nc, .slice la ln lc]) ⟨hi, by omega⟩ (fun b hbp => ⟨by rw [size_alloc, size_alloc]; have := hP b hbp; omega, fun ho => by have h1 : b = w.heap.size + 1 := ho; have := hP b hbp; omega⟩) (HT.out.keep (Same.of_below hb hP)) (by omega) (by show ((20000 : Int) - 20000).toNat + t.size ≤ 1073741824; omega))
  unfold Visitor.Post at HC
  rw [wf_formed] at HC
  have HB := Lib.hid hb
  clear ht hb hi hP
  go_enter Try.func32, Try.ntmps32
  go_wp2_with fail
  refine HC.out.mono ?_
  rintro e w1 ⟨rfl, _, hi1, hf1⟩
  have HF1 := Lib.hid (fr_above HB.out hf1 HB.out.size (fun i hi => by have h1 : i = w.heap.size + 1 := hi; omega))
  clear hi1 hf1
  go_wp2
  go_ret
  exact ⟨rfl, HF1.out⟩
end Go.Proofs.Ytkhpihacjhhklaa
