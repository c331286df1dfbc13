/-
  Walks of layer 8's code: Arrow.
-/
import Derived.Test.YtmjiocpcenbndaaGreatDoorJc
import Derived.Test.YtmjiocpcenbndaaGreatDoorJd
import Derived.Test.YtmjiocpcenbndaaGreatDoorKg
namespace Go.Proofs.YtmjiocpcenbndaaGreatDoor
open Go Go.RowKit Go.Shelf
open Pl (K)
set_option linter.unusedSimpArgs false

attribute [local go_sem] Oper.semAt_some
/-- a kind in memory lies on where the cells lie on -/
theorem KidV.cells {w w' : World} {P : Nat → Prop} (hs : ∀ b o v, P b → w.cell? ⟨b, o, none⟩ = some v → w'.cell? ⟨b, o, none⟩ = some v) : ∀ {t : K} {v : Value}, KidV w P t v → KidV w' P t v := by
  intro t
  induction t using K.ind with
  | h t ih =>
    obtain ⟨l⟩ := t
    intro v h
    rw [kidV_iff] at h ⊢
    obtain ⟨a, c, h3, h4, h5, h6, h7⟩ := h
    refine ⟨a, c, h3, h4, h5, h6, ?_⟩
    rcases h7 with h7 | ⟨b, off, h7, h8, h9⟩
    · exact .inl h7
    · refine .inr ⟨b, off, h7, h8, ?_⟩
      rw [kidsK_iff] at h9 ⊢
      intro j hj
      obtain ⟨x, hx, hv⟩ := h9 j hj
      exact ⟨x, hs _ _ _ h8 hx, ih _ (List.getElem_mem hj) hv⟩
/-- the kinds of a row, by functions of the number -/
theorem kids_funs {w : World} {P : Nat → Prop} {a : Option Addr} {l : List K} (hka : ∀ (j : Nat) (hj : j < l.length), ∃ b off x, a = some ⟨b, off, none⟩ ∧ P b ∧ w.cell? ⟨b, off + j, none⟩ = some x ∧ KidV w P l[j] x) :
    ∃ (kd : Nat → K) (va : Nat → Option Addr) (vn vc : Nat → Nat), (∀ j (hj : j < l.length), kd j = l[j]) ∧ (∀ j, KidV w P (kd j) (.slice (va j) (vn j) (vc j))) ∧ (∀ j, j < l.length → ∃ b off, a = some ⟨b, off, none⟩ ∧ P b ∧ w.cell? ⟨b, off + j, none⟩ = some (.slice (va j) (vn j) (vc j))) := by
  have h : ∀ j, ∃ q : K × Option Addr × Nat × Nat, (∀ hj : j < l.length, q.1 = l[j] ∧ ∃ b off, a = some ⟨b, off, none⟩ ∧ P b ∧ w.cell? ⟨b, off + j, none⟩ = some (.slice q.2.1 q.2.2.1 q.2.2.2)) ∧ KidV w P q.1 (.slice q.2.1 q.2.2.1 q.2.2.2) := by
    intro j
    by_cases hj : j < l.length
    · obtain ⟨b, off, x, h1, h2, h3, h4⟩ := hka j hj
      obtain ⟨a7, c7, rfl⟩ := h4.form
      exact ⟨(l[j], a7, _, c7), fun _ => ⟨rfl, b, off, h1, h2, h3⟩, h4⟩
    · exact ⟨(.mk [], none, 0, 0), fun h => absurd h hj, kidV_none w P⟩
  obtain ⟨T, hT⟩ := Classical.skolem.1 h
  exact ⟨fun j => (T j).1, fun j => (T j).2.1, fun j => (T j).2.2.1, fun j => (T j).2.2.2, fun j hj => ((hT j).1 hj).1, fun j => (hT j).2, fun j hj => ((hT j).1 hj).2⟩
/-- all blocks but one -/
def But (G : Nat) (W : World) (q : Nat) : Prop := q < W.heap.size ∧ q ≠ G
/-- the kind that has been made when these of the parameters have come -/
def upK (kd : Nat → K) (to : K) (pre : List Nat) : K := pre.foldl (fun k j => .mk [kd j, k]) to
theorem upK_snoc (kd : Nat → K) (to : K) (pre : List Nat) (j : Nat) : upK kd to (pre ++ [j]) = .mk [kd j, upK kd to pre] := by
  unfold upK; rw [List.foldl_append]; rfl
theorem upK_down (kd : Nat → K) (to : K) (l : List K) (h : ∀ j (hj : j < l.length), kd j = l[j]) (k : Nat) (hk : k ≤ l.length) : upK kd to (down l.length k) = K.arrow (l.drop (l.length - k)) to := by
  induction k with
  | zero => rw [Nat.sub_zero, List.drop_length]; rfl
  | succ k ih =>
    rw [down_succ, upK_snoc, ih (by omega), h _ (by omega)]
    have e : l.drop (l.length - (k + 1)) = l[l.length - 1 - k]'(by omega) :: l.drop (l.length - k) := by
      have h1 : l.length - (k + 1) = l.length - 1 - k := by omega
      rw [h1, List.drop_eq_getElem_cons (by omega)]
      congr 2
      omega
    rw [e, K.arrow_cons]
theorem below_keepsFrom {W W' : World} (h : Below W.heap.size W W') (B : Nat) : KeepsFrom B W W' := KeepsOthers.from ⟨h.size, fun k o hk _ => (h.block k (by
  rcases Nat.lt_or_ge k W.heap.size with h1 | h1
  · exact h1
  · simp [Array.getElem?_eq_none h1] at hk)).trans hk⟩ B
set_option maxRecDepth 100000 in
set_option maxHeartbeats 4000000 in
theorem carrow_any (P : Nat → Prop) (l : List K) (to : K) (w : World) (v x : Value) (hP : ∀ b, P b → b < w.heap.size) (hl : KSl w P v l) (ht : KV w P to x) :
    Calls Tryz.prog 88 #[v, x] w fun e w' => (∃ y, e = .returned (.tuple #[y, .int .i64 (K.arrowOut l to).2]) ∧ KV w' (From w.heap.size w') (K.arrowOut l to).1 y) ∧ Below w.heap.size w w' := by
  have HNC := Lib.hid (fun W (hW : Below w.heap.size w W) => noneContains_any P l W v (fun b h => Nat.lt_of_lt_of_le (hP b h) hW.size) (hl.keep (Same.of_below hW hP)))
  have HV := Lib.hid (fun W (hW : Below w.heap.size w W) => valid_any P to W x (fun b h => Nat.lt_of_lt_of_le (hP b h) hW.size) (ht.below hP hW))
  obtain ⟨a, c, rfl, hlc, hcm, hka⟩ := hl.each
  obtain ⟨a2, c2, rfl⟩ := ht.form
  have HT := Lib.hid ht.kid
  have HKA := Lib.hid hka
  have HP := Lib.hid hP
  have HAO := Lib.hid (show K.arrowOut l to = if (l.all K.valid && K.valid to) = true then (if K.valid (K.arrow l to) = true then (K.arrow l to, 0) else (.mk [], 5)) else (.mk [], 1) from rfl)
  have HLB := Lib.hid (fun h => (show K.valid (K.arrow l to) = false from by
    cases hv : K.valid (K.arrow l to)
    · rfl
    · exfalso
      have h3 := ((K.valid_iff _).1 hv).2.2
      have := K.depth_arrow l to
      have h : 400 ≤ l.length := h
      omega))
  generalize K.arrowOut l to = AO at HAO ⊢
  obtain ⟨r1, hr1⟩ : ∃ r, r = l.all K.valid := ⟨_, rfl⟩
  obtain ⟨r2, hr2⟩ : ∃ r, r = K.valid to := ⟨_, rfl⟩
  rw [← hr1] at HNC HAO
  rw [← hr2] at HV HAO
  generalize to.l.length = n2 at *
  obtain ⟨n, hn⟩ : ∃ n, n = l.length := ⟨_, rfl⟩
  have HN := Lib.hid hn
  rw [← hn] at hlc HNC HLB ⊢
  have hll : n ≤ 9223372036854775807 := by unfold maxLen at hcm; omega
  clear ht hl hka hP hcm hr1 hr2 hn
  obtain ⟨hbx, hbx2, hb⟩ := two_new w 24 (.slice a2 n2 c2) (.slice none 0 0)
  have HB := Lib.hid hb
  have HBX := Lib.hid hbx
  have HBX2 := Lib.hid hbx2
  clear hbx hbx2 hb
  refine (callsIn_wide (n := 6)).1 ?_
  refine callsIn_of_wp_marks Tryz.func88 rfl trivial ?_ rfl
  simp only [Tryz.ntmps88, List.size_toArray, List.length_cons, List.length_nil, Nat.reduceAdd, Nat.reduceSub, Array.replicate_succ, Array.replicate_zero, List.push_toArray, List.append_toArray, List.nil_append, List.cons_append]
  have c0 := HBX.out.cell 0 (.slice a2 n2 c2) rfl
  gi_wp2_with fail
  generalize ((w.alloc (.cells #[.slice a2 n2 c2] 24)).alloc (.cells #[.slice none 0 0] 24)) = w2 at *
  refine ⟨trivial, (callsIn_wide.2 (HV.out _ HB.out)).mono ?_⟩
  rintro e w3 ⟨rfl, hb3⟩
  replace HB := Lib.hid (belowStep hb3 HB.out)
  replace HBX := Lib.hid (HBX.out.of_eq (hb3.block _ HBX.out.lt))
  replace HBX2 := Lib.hid (HBX2.out.of_eq (hb3.block _ HBX2.out.lt))
  clear hb3 c0
  cases r2
  · have HF := Lib.hid (show AO = (.mk [], 1) from by rw [HAO.out, Bool.and_false]; rfl)
    have h1 := HBX2.out
    have c1 := h1.cell 0 (.slice none 0 0) rfl
    have f1 := h1.thaw 0
    have HE1 := Lib.hid (blk_one (y := .slice none 0 0) h1)
    have HE2 := Lib.hid (below_set HB.out (Nat.le_succ w.heap.size) (.slice none 0 0))
    clear h1
    gi_wp2
    refine ⟨trivial, ?_⟩
    gi_wp2
    have d0 := HE1.out.cell 0 (.slice none 0 0) rfl
    refine ⟨.tuple #[.agg #[.slice none 0 0], .int .i64 1], (by first | (simp [results, Tryz.f88, go_sem, d0]; done) | (simp [results, Tryz.f88, go_sem, c1]; done)), ?_⟩
    refine ⟨⟨_, by rw [HF.out], by rw [HF.out]; exact kV_none _ _⟩, ?_⟩
    first | exact HE2.out | exact HB.out
  gi_wp2_with fail
  refine ⟨trivial, (callsIn_wide.2 (HNC.out _ HB.out)).mono ?_⟩
  rintro e w4 ⟨rfl, hb4⟩
  replace HB := Lib.hid (belowStep hb4 HB.out)
  replace HBX := Lib.hid (HBX.out.of_eq (hb4.block _ HBX.out.lt))
  replace HBX2 := Lib.hid (HBX2.out.of_eq (hb4.block _ HBX2.out.lt))
  clear hb4
  cases r1
  · have HF := Lib.hid (show AO = (.mk [], 1) from by rw [HAO.out]; rfl)
    have h1 := HBX2.out
    have c1 := h1.cell 0 (.slice none 0 0) rfl
    have f1 := h1.thaw 0
    have HE1 := Lib.hid (blk_one (y := .slice none 0 0) h1)
    have HE2 := Lib.hid (below_set HB.out (Nat.le_succ w.heap.size) (.slice none 0 0))
    clear h1
    gi_wp2
    have d0 := HE1.out.cell 0 (.slice none 0 0) rfl
    refine ⟨.tuple #[.agg #[.slice none 0 0], .int .i64 1], (by first | (simp [results, Tryz.f88, go_sem, d0]; done) | (simp [results, Tryz.f88, go_sem, c1]; done)), ?_⟩
    refine ⟨⟨_, by rw [HF.out], by rw [HF.out]; exact kV_none _ _⟩, ?_⟩
    first | exact HE2.out | exact HB.out
  by_cases hbig : 400 ≤ n
  · have HF := Lib.hid (show AO = (.mk [], 5) from by rw [HAO.out, HLB.out hbig]; rfl)
    have q1 : decide ((400 : Int) ≤ (n : Int)) = true := decide_eq_true (by omega)
    have h1 := HBX2.out
    have c1 := h1.cell 0 (.slice none 0 0) rfl
    have f1 := h1.thaw 0
    have HE1 := Lib.hid (blk_one (y := .slice none 0 0) h1)
    have HE2 := Lib.hid (below_set HB.out (Nat.le_succ w.heap.size) (.slice none 0 0))
    clear h1
    gi_wp2
    have d0 := HE1.out.cell 0 (.slice none 0 0) rfl
    refine ⟨.tuple #[.agg #[.slice none 0 0], .int .i64 5], (by first | (simp [results, Tryz.f88, go_sem, d0]; done) | (simp [results, Tryz.f88, go_sem, c1]; done)), ?_⟩
    refine ⟨⟨_, by rw [HF.out], by rw [HF.out]; exact kV_none _ _⟩, ?_⟩
    first | exact HE2.out | exact HB.out
  have q1 : decide ((400 : Int) ≤ (n : Int)) = false := decide_eq_false (by omega)
  have c0 := HBX.out.cell 0 (.slice a2 n2 c2) rfl
  obtain ⟨G, hG⟩ : ∃ G, G = w4.heap.size := ⟨_, rfl⟩
  have hg1 := (blk_new w4 #[.slice a2 n2 c2] 24).alloc (.cells #[.slice a n c] 22)
  have hg2 := blk_new (w4.alloc (.cells #[.slice a2 n2 c2] 24)) #[.slice a n c] 22
  rw [size_alloc] at hg2
  have hb6 : Below w4.heap.size w4 ((w4.alloc (.cells #[.slice a2 n2 c2] 24)).alloc (.cells #[.slice a n c] 22)) := ((Below.refl _ _).alloc (Nat.le_refl _) _).alloc (by rw [size_alloc]; omega) _
  have hsz6 : ((w4.alloc (.cells #[.slice a2 n2 c2] 24)).alloc (.cells #[.slice a n c] 22)).heap.size = w4.heap.size + 2 := by rw [size_alloc, size_alloc]
  rw [← hG] at hg1 hg2 hsz6
  have HG1 := Lib.hid hg1
  have HG2 := Lib.hid hg2
  have HSZ := Lib.hid hsz6
  have HG := Lib.hid hG
  have HRG := Lib.hid (show w.heap.size + 1 < G from by rw [hG]; exact HBX2.out.lt)
  have HB6 := Lib.hid (belowStep hb6 HB.out)
  have HX6 := Lib.hid (HBX2.out.of_eq (hb6.block _ HBX2.out.lt))
  clear hg1 hg2 hb6 hsz6
  gi_wp2_with fail
  refine ⟨trivial, (callsIn_wide.2 (backward_any _ _ _ _)).mono ?_⟩
  rintro e w5 ⟨rfl, rfl⟩
  gi_wp2_with fail
  rw [← hG]
  clear hG c0
  generalize (w4.alloc (.cells #[.slice a2 n2 c2] 24)).alloc (.cells #[.slice a n c] 22) = w6 at *
  obtain ⟨kd, va, vn, vc, hkd, hkv, hkc⟩ := kids_funs HKA.out
  have HKD := Lib.hid hkd
  have HKV := Lib.hid hkv
  have HKC := Lib.hid hkc
  clear hkd hkv hkc
  refine wpIn_rangeFunc_ownH rfl (by omega) (gf := 128) (lb := #[.pointer (some ⟨G + 1, 0, none⟩)]) rfl trivial (enters_of Tryz.func128 (by kernel_rfl) rfl)
    (backward_stops Fence.wide (6 - 1) trivial rfl (by omega) (G + 1) w.heap.size n c a va vn vc hll w6 (by rw [HSZ.out]; omega) HB6.out.size (HG2.out.cell 0 _ rfl) (by
      intro j hj
      obtain ⟨b, off, h1, h2, h3⟩ := HKC.out j (by rw [← HN.out]; exact hj)
      exact ⟨b, off, h1, HP.out b h2, (HB6.out.cell (p := ⟨b, off + j, none⟩) (HP.out b h2)).trans h3⟩)) (fun h k => KpB.trans h k) (kpB_b HB6.out.size (by rw [HSZ.out]; omega)) (Below.refl _ _) (fun _ => rfl)
    (fun pre W => (∃ b m d, Boxed W G 24 (.slice b m d) ∧ KidV W (But G W) (upK kd to pre) (.slice b m d)) ∧ Boxed W (w.heap.size + 1) 24 (.slice none 0 0) ∧ Below w.heap.size w W ∧ G + 2 ≤ W.heap.size)
    (fun _ _ _ => False)
    (fun s A B row hs hg hr => by
      obtain ⟨⟨b, m, d, h1, h2⟩, h3, h4, h5⟩ := hs
      have hr' : ∀ r, row = some r → ∃ o : Obj, A.heap[r]? = some o ∧ o.isCells = false := fun r e => (hr r e).2
      refine ⟨⟨b, m, d, boxed_own G 24 (fun (_ : Unit) => Value.slice b m d) () A B row h1 hg hr', (h2.cells (fun _ _ _ _ hv => cell_kept hv hg hr')).mono (fun q hq => ⟨Nat.lt_of_lt_of_le hq.1 (World.grownBy.size hg), hq.2⟩)⟩, boxed_own (w.heap.size + 1) 24 (fun (_ : Unit) => Value.slice none 0 0) () A B row h3 hg hr', h4.grown hg h4.size (fun k e => Nat.le_trans HB6.out.size (hr k e).1), Nat.le_trans h5 (World.grownBy.size hg)⟩)
    (fun _ _ _ _ _ hs _ _ => hs)
    ⟨⟨a2, n2, c2, HG1.out, (HT.out.keep (Same.of_below HB6.out HP.out)).mono (fun q hq => ⟨Nat.lt_of_lt_of_le (HP.out q hq) HB6.out.size, by have := HP.out q hq; have := HRG.out; omega⟩)⟩, HX6.out, HB6.out, by rw [HSZ.out]; exact Nat.le_refl _⟩
    (fun x a' W => ∃ Bx, G < Bx ∧ Boxed W Bx 24 (.slice (va x) (vn x) (vc x)) ∧ a' = { tmps := #[.slice a n c, .agg #[.slice a2 n2 c2], undef, .pointer (some ⟨w.heap.size, 0, none⟩), .pointer (some ⟨w.heap.size + 1, 0, none⟩), .int .i64 0, .pointer (some ⟨G, 0, none⟩), undef, .pointer (some ⟨Bx, 0, none⟩), .agg #[.slice a2 n2 c2], .bool true, .bool false, .bool false, .slice a n c, .bool false, .bool false, undef, .slice a n c, .int .i64 n, .bool false, undef, .agg #[.slice a2 n2 c2], .slice a n c, .func (.func 128) #[] #[.pointer (some ⟨G + 1, 0, none⟩)], .int .i64 (x : Int), .agg #[.slice (va x) (vn x) (vc x)], undef, undef, undef, undef, undef, undef, undef, undef, undef], defers := [] })
    (fun x a' _ X Y row hs hg hr => by obtain ⟨Bx, h1, h2, h3⟩ := hs; exact ⟨Bx, h1, boxed_own Bx 24 (fun (_ : Unit) => Value.slice (va x) (vn x) (vc x)) () X Y row h2 hg (fun r e => (hr r e).2), h3⟩)
    ?assign ?body ?done ?stop
  case assign =>
    rintro lp pre x W K ⟨⟨b, m, d, h1, h2⟩, h3, h4, h5⟩ hK
    unfold encB
    gi_wp2
    exact hK _ _ ((KeepsOthers.alloc _ _).from _) ⟨(Below.refl _ W).alloc h4.size _, Below.heap_alloc W _ (G + 1) (by omega)⟩ ⟨⟨b, m, d, h1.alloc _, (h2.cells (fun b o v hb hv => (Below.cell ((Below.refl W.heap.size W).alloc (Nat.le_refl _) _) (p := ⟨b, o, none⟩) hb.1).trans hv)).mono (fun q hq => ⟨by rw [size_alloc]; exact Nat.lt_succ_of_lt hq.1, hq.2⟩)⟩, h3.alloc _, h4.alloc h4.size _, by rw [size_alloc]; omega⟩ ⟨W.heap.size, h1.lt, Boxed.new W 24 _, rfl⟩
  case body =>
    rintro lp pre x a' W hlp ⟨r, hr⟩ ⟨⟨b, m, d, h1, h2⟩, h3, h4, h5⟩ ⟨Bx, hBx, bX, rfl⟩ hlt
    have c1 := h1.cell
    have c2 := bX.cell
    have HC := Lib.hid (arrow2_any (But G W) (kd x) (upK kd to pre) W (.agg #[.slice (va x) (vn x) (vc x)]) (.agg #[.slice b m d]) (fun q hq => hq.1) ⟨_, rfl, ((HKV.out x).keep (Same.of_below h4 HP.out)).mono (fun q hq => ⟨Nat.lt_of_lt_of_le (HP.out q hq) h4.size, by have := HP.out q hq; have := HRG.out; omega⟩)⟩ ⟨_, rfl, h2⟩)
    rw [← upK_snoc] at HC
    gi_wp2_with fail
    refine ⟨trivial, (CallsIn.inRound lp (callsIn_wide.2 HC.out)).mono ?_⟩
    rintro e w7 ⟨⟨y, rfl, hy⟩, hb7⟩
    obtain ⟨a3, c3, rfl⟩ := hy.form
    have hk7 := hy.kid
    have h17 : Boxed w7 G 24 (.slice b m d) := (hb7.block _ h1.lt).trans h1
    have h37 : Boxed w7 (w.heap.size + 1) 24 (.slice none 0 0) := (hb7.block _ h3.lt).trans h3
    have d1 := h17.cell
    have f1 := h17.frozen
    generalize hm3 : (upK kd to (pre ++ [x])).l.length = m3 at *
    have HE := Lib.hid (show KidV (w7.setCell ⟨G, 0, none⟩ (.slice a3 m3 c3)) (But G (w7.setCell ⟨G, 0, none⟩ (.slice a3 m3 c3))) (upK kd to (pre ++ [x])) (.slice a3 m3 c3) from by
      refine (hk7.keep (Same.set (w := w7) ⟨G, 0, none⟩ (.slice a3 m3 c3) (fun q h e => by
        have e : q = G := e
        rcases h with h | h
        · exact h.2 e
        · have := h1.lt; have := h.1; omega))).mono (fun q h => ?_)
      rcases h with h | h
      · exact ⟨by rw [size_set]; exact Nat.lt_of_lt_of_le h.1 hb7.size, h.2⟩
      · exact ⟨by rw [size_set]; exact h.2, by have := h1.lt; have := h.1; omega⟩)
    have HE1 := Lib.hid (show Boxed (w7.setCell ⟨G, 0, none⟩ (.slice a3 m3 c3)) G 24 (.slice a3 m3 c3) from h17.set _)
    have HE2 := Lib.hid (show Boxed (w7.setCell ⟨G, 0, none⟩ (.slice a3 m3 c3)) (w.heap.size + 1) 24 (.slice none 0 0) from h37.other (by have := HRG.out; omega) _)
    have HE3 := Lib.hid (show Below w.heap.size w (w7.setCell ⟨G, 0, none⟩ (.slice a3 m3 c3)) from below_set (belowStep hb7 h4) (by have := HRG.out; omega) _)
    have HE4 := Lib.hid (show KeepsFrom w6.heap.size W (w7.setCell ⟨G, 0, none⟩ (.slice a3 m3 c3)) from (below_keepsFrom hb7 _).trans ((KeepsOthers.setCell _ _ _).from _))
    have HE5 := Lib.hid (show KpB w.heap.size (G + 1) W (w7.setCell ⟨G, 0, none⟩ (.slice a3 m3 c3)) from ⟨below_set (hb7.mono h4.size) (by have := HRG.out; omega) _, by
      exact (Below.heap_setCell w7 ⟨G, 0, none⟩ _ (G + 1) (by simp)).trans (hb7.block _ (by omega))⟩)
    have HE6 := Lib.hid (show G + 2 ≤ (w7.setCell ⟨G, 0, none⟩ (.slice a3 m3 c3)).heap.size from by rw [size_set]; exact Nat.le_trans h5 hb7.size)
    clear hk7 hy h37 hb7 h1 h2 h3 h4 c1 c2 HC
    gi_wp2
    exact ⟨HE4.out, HE5.out, ⟨_, _, _, HE1.out, HE.out⟩, HE2.out, HE3.out, HE6.out⟩
  case done =>
    rintro D ys W hD rfl ⟨⟨b, m, d, h1, h2⟩, h3, h4, h5⟩ hK
    have hD0 : D < W.heap.size := (Array.getElem?_eq_some_iff.1 hK).1
    have hup : upK kd to (down n n) = K.arrow l to := by
      have := upK_down kd to l HKD.out l.length (Nat.le_refl _)
      rw [Nat.sub_self, List.drop_zero, ← HN.out] at this
      exact this
    rw [hup] at h2
    clear hup
    have c1 := h1.cell
    have HC := Lib.hid (valid_any (But G W) (K.arrow l to) W (.agg #[.slice b m d]) (fun q hq => hq.1) ⟨_, rfl, h2⟩)
    generalize hz : K.valid (K.arrow l to) = z at HC
    gi_wp2_with fail
    refine ⟨trivial, (callsIn_wide.2 HC.out).mono ?_⟩
    rintro e w7 ⟨rfl, hb7⟩
    have h17 : Boxed w7 G 24 (.slice b m d) := (hb7.block _ h1.lt).trans h1
    have h37 : Boxed w7 (w.heap.size + 1) 24 (.slice none 0 0) := (hb7.block _ h3.lt).trans h3
    have hK7 : w7.heap[D]? = some (.deferred (some [])) := (hb7.block _ hD0).trans hK
    have hB7 : Below w.heap.size w w7 := belowStep hb7 h4
    have h27 : KidV w7 (But G w7) (K.arrow l to) (.slice b m d) := (h2.keep (Same.of_below hb7 (fun q hq => hq.1))).mono (fun q hq => ⟨Nat.lt_of_lt_of_le hq.1 hb7.size, hq.2⟩)
    have HDW := Lib.hid (show w.heap.size ≤ D from by have := HB6.out.size; omega)
    clear hb7 hK h1 h2 h3 h4 c1 HC
    cases z
    · have HF := Lib.hid (show AO = (.mk [], 5) from by rw [HAO.out, hz]; rfl)
      have f1 := h37.frozen
      have c1 := h37.cell
      have HE1 := Lib.hid (h37.set (.slice none 0 0))
      have HE2 := Lib.hid (below_set hB7 (Nat.le_succ w.heap.size) (.slice none 0 0))
      have HK8 := Lib.hid ((KeepsOthers.setCell w7 ⟨w.heap.size + 1, 0, none⟩ (.slice none 0 0)).same D _ hK7 rfl)
      clear h17 h27 h37 hz hB7 hK7 hD0
      gi_wp2
      generalize w7.setCell ⟨w.heap.size + 1, 0, none⟩ (.slice none 0 0) = w8 at *
      refine ⟨by simp, .inl ⟨_, _, rfl, run_takeDeferred HK8.out, ?_⟩⟩
      have d0 := cell_kept HE1.out.cell (grownBy_putObj' w8 D (.deferred none)) (fun r e => by cases e; exact ⟨_, HK8.out, rfl⟩)
      refine ⟨.tuple #[.agg #[.slice none 0 0], .int .i64 5], (by simp [results, Tryz.f88, go_sem, d0]), ?_⟩
      refine ⟨⟨_, by rw [HF.out], by rw [HF.out]; exact kV_none _ _⟩, HE2.out.trans (belowK_b (w := w) (Nat.le_refl _) w8 D _ _ HDW.out HK8.out rfl rfl)⟩
    · have HF := Lib.hid (show AO = (K.arrow l to, 0) from by rw [HAO.out, hz]; rfl)
      have HCP := Lib.hid (copied_any (But G w7) (K.arrow l to) w7 (.agg #[.slice b m d]) (fun q hq => hq.1) ⟨_, rfl, h27⟩ ((K.valid_iff _).1 hz).1)
      have c1 := h17.cell
      generalize (K.arrow l to).l.length = mm at *
      clear h27 hz
      gi_wp2_with fail
      refine ⟨trivial, (callsIn_wide.2 HCP.out).mono ?_⟩
      rintro e w8 ⟨⟨ra, rc, rfl, hr⟩, hb8⟩
      have h38 : Boxed w8 (w.heap.size + 1) 24 (.slice none 0 0) := (hb8.block _ h37.lt).trans h37
      have hK8 : w8.heap[D]? = some (.deferred (some [])) := (hb8.block _ (Array.getElem?_eq_some_iff.1 hK7).1).trans hK7
      have hB8 : Below w.heap.size w w8 := belowStep hb8 hB7
      have f1 := h38.frozen
      have c2 := h38.cell
      have HE1 := Lib.hid (h38.set (.slice ra mm rc))
      have HE2 := Lib.hid (below_set hB8 (Nat.le_succ w.heap.size) (.slice ra mm rc))
      have HK9 := Lib.hid ((KeepsOthers.setCell w8 ⟨w.heap.size + 1, 0, none⟩ (.slice ra mm rc)).same D _ hK8 rfl)
      have HE3 := Lib.hid (show KidV (w8.setCell ⟨w.heap.size + 1, 0, none⟩ (.slice ra mm rc)) (From w7.heap.size w8) (K.arrow l to) (.slice ra mm rc) from hr.keep (Same.set (w := w8) ⟨w.heap.size + 1, 0, none⟩ (.slice ra mm rc) (fun q h e => by
        have e : q = w.heap.size + 1 := e
        have := h.1
        have := h37.lt
        omega)))
      have HS9 := Lib.hid (show (w8.setCell ⟨w.heap.size + 1, 0, none⟩ (.slice ra mm rc)).heap.size = w8.heap.size from size_set _ _ _)
      have HWS := Lib.hid hB7.size
      clear h17 h37 h38 hr hb8 hK8 hB8 hK7 hB7 hD0 c1
      gi_wp2
      generalize w8.setCell ⟨w.heap.size + 1, 0, none⟩ (.slice ra mm rc) = w9 at *
      refine ⟨by simp, .inl ⟨_, _, rfl, run_takeDeferred HK9.out, ?_⟩⟩
      have d0 := cell_kept HE1.out.cell (grownBy_putObj' w9 D (.deferred none)) (fun r e => by cases e; exact ⟨_, HK9.out, rfl⟩)
      refine ⟨.tuple #[.agg #[.slice ra mm rc], .int .i64 0], (by simp [results, Tryz.f88, go_sem, d0]), ?_⟩
      have hsz : w9.heap.size ≤ (w9.putObj D (.deferred none)).heap.size := World.grownBy.size (grownBy_putObj' w9 D (.deferred none))
      refine ⟨⟨_, by rw [HF.out], by rw [HF.out]; exact ⟨_, rfl, (HE3.out.cells (fun _ _ _ _ hv => cell_kept hv (grownBy_putObj' w9 D (.deferred none)) (fun r e => by cases e; exact ⟨_, HK9.out, rfl⟩))).mono (fun q hq => ⟨Nat.le_trans HWS.out hq.1, by have := hq.2; have := HS9.out; omega⟩)⟩⟩, HE2.out.trans (belowK_b (w := w) (Nat.le_refl _) w9 D _ _ HDW.out HK9.out rfl rfl)⟩
  case stop =>
    rintro D c pre W _ _ h _
    exact h.elim
end Go.Proofs.YtmjiocpcenbndaaGreatDoor
