/-
  Layer 9: several texts in one (Rm Rn Ro).
-/
import Derived.Test.YtkjaicmfegpjdaaGreatHd
namespace Go.Proofs.YtkjaicmfegpjdaaGreat
open Go Go.RowKit
open Pl (K Con)
set_option linter.unusedSimpArgs false
set_option linter.unusedVariables false

/-- the end of rebuilt at a node -/
theorem CR.end {N G Bn BR : Nat} {t want : Con} {m : List Con} {L d : Int} {V : Array Value} {ka2 : Option Addr} {kc2 : Nat} {na2 : Option Addr} {nc2 : Nat} {qa : Option Addr} {qc : Nat} {w wr : World} {k : Nat} {ok : Bool} {c : Int}
    (h : CR N G Bn BR t m L d V ka2 kc2 na2 nc2 qa qc w wr k ok c) (hNG : N ≤ G) (hG : G < w.heap.size) (hs : t.s.size ≤ maxLen) (hm : m.length = t.l.length) (hk : ok = true → t.l.length ≤ k) (hok : nodeOk t L d = true) (hw : want = Con.inside t m) :
    fitB want L d = ok ∧ RebP N G want L d w (.returned (.tuple #[.agg #[.int .i64 t.op, .int .i64 t.n, .string t.s, .slice ka2 t.kind.l.length kc2, .slice na2 t.names.length nc2, .slice qa t.l.length qc], .bool ok])) (store6 wr (w.heap.size + 1) 0 (.int .i64 t.op) (.int .i64 t.n) (.string t.s) (.slice ka2 t.kind.l.length kc2) (.slice na2 t.names.length nc2) (.slice qa t.l.length qc)) := by
  have hfo : fitB want L d = ok := by
    rw [hw, fit_node_true t L d m hok]
    have hf := h.fit
    cases ok
    · exact fitsB_le m k _ _ hf.symm
    · rw [List.take_of_length_le (by have := hk rfl; omega)] at hf
      exact hf.symm
  refine ⟨hfo, store6_only h.only _ _ _ _ _ _ _ _ (.inr (Nat.le_succ _)), ?_⟩
  obtain ⟨u, hu, hu2⟩ := h.done (w' := store6 wr (w.heap.size + 1) 0 (.int .i64 t.op) (.int .i64 t.n) (.string t.s) (.slice ka2 t.kind.l.length kc2) (.slice na2 t.names.length nc2) (.slice qa t.l.length qc)) (by omega) hs hm hk (fun q hq => store6_other _ _ _ _ _ _ _ _ _ q hq) (by rw [store6_size]; exact Nat.le_refl _)
  refine ⟨_, u, c, by rw [hfo], hu, h.bld.of_eq (store6_other _ _ _ _ _ _ _ _ _ G (by omega)), h.left.1, h.left.2.1, fun hf => ?_⟩
  rw [hfo] at hf
  refine ⟨by rw [hu2 hf, hw], ?_⟩
  have h1 := h.left.2.2 hf
  rw [List.take_of_length_le (by have := hk hf; omega)] at h1
  rw [h1, hw, Con.size_eq]
  show L - 1 - (Con.sizes m : Int) = L - ((1 + Con.sizes m : Nat) : Int)
  omega
set_option maxRecDepth 100000 in
set_option maxHeartbeats 8000000 in
theorem rebuilt_node (N G k : Nat) (cap : Array Value) (F : Con → Int → Con) (w0 : World) (t : Con)
    (hIH : ∀ x ∈ t.l, ∀ (L d b : Int) (w : World) (v : Value), Only G w0 w → Blk w G 135 #[.int .i64 L] → ConV w (· < N) x v → 0 ≤ L → L ≤ 20000 → 0 ≤ b → b ≤ d → 1 ≤ d → d ≤ 401 → Calls Tryz.prog 70 #[.pointer (some ⟨G, 0, none⟩), v, .int .i64 b, .int .i64 d, .func (.func k) #[] cap] w (RebP N G (Con.reb F x b) L d w))
    (L d b : Int) (w : World) (v : Value) (hN : N ≤ G) (hw : Only G w0 w) (hG : Blk w G 135 #[.int .i64 L]) (ht : ConV w (· < N) t v) (ha : Con.nodeB t = true) (hlf : ¬ Con.leafy t b) (h0 : 0 ≤ L) (h1 : L ≤ 20000) (hb0 : 0 ≤ b) (hb1 : b ≤ d) (hd0 : 1 ≤ d) (hd1 : d ≤ 401) :
    Calls Tryz.prog 70 #[.pointer (some ⟨G, 0, none⟩), v, .int .i64 b, .int .i64 d, .func (.func k) #[] cap] w (RebP N G (Con.reb F t b) L d w) := by
  obtain ⟨hkv, hnl, hll⟩ := node_facts t ha
  have hgl := hG.lt
  have HGL := Lib.hid hgl
  have HNG := Lib.hid hN
  have HW0 := Lib.hid hw
  have HS := Lib.hid ((conV_iff _ _ _ _).1 ht).1
  have HP := Lib.hid (fun W (hW : Only G w W) => (show ∀ q, q < N → q < W.heap.size ∧ q ≠ G from fun q hq => ⟨Nat.lt_of_lt_of_le hq (Nat.le_trans (Nat.le_of_lt (Nat.lt_of_le_of_lt hN hgl)) hW.size), by omega⟩))
  have HT := Lib.hid (fun W (hW : Only G w W) => ht.keep (Same.of_only hW (HP.out w (Only.refl _ _))))
  have HNODE := Lib.hid (fun W (hW : Only G w W) (hg : Blk W G 135 #[.int .i64 L]) => node_any (· < N) G t L d W v (HP.out W hW) hg (HT.out W hW) hkv h0 (by omega) (by omega) (by omega))
  have HB := Lib.hid (fun W => cbinder_any t.op W)
  have HIH := Lib.hid hIH
  obtain ⟨m, hm⟩ : ∃ m, m = t.l.map (fun x => Con.reb F x (Con.deep t.op b)) := ⟨_, rfl⟩
  have HM := Lib.hid (show m.length = t.l.length from by rw [hm]; simp)
  have HMK := Lib.hid (show ∀ j x, t.l[j]? = some x → m[j]? = some (Con.reb F x (Con.deep t.op b)) from fun j x h => by rw [hm, List.getElem?_map, h]; rfl)
  have HWANT := Lib.hid (show Con.reb F t b = Con.inside t m from by rw [reb_node _ _ _ hlf, hm])
  have HDP := Lib.hid (show Con.deep t.op b = if Con.binder t.op = true then b + 1 else b from rfl)
  obtain ⟨want, hwant⟩ : ∃ x, x = Con.reb F t b := ⟨_, rfl⟩
  rw [← hwant] at HWANT ⊢
  obtain ⟨ka, kn, kc, na, nn, nc, la, ln, lc, rfl, hkn, hnn, hlen⟩ := ht.shape
  subst hkn hnn hlen
  have HSL := Lib.hid (fun W (hW : Only G w W) => (show ConSl W (· < N) (.slice la t.l.length lc) t.l from by
    obtain ⟨-, kv', nv', lv', e, hk, hn, hl⟩ := (conV_iff _ _ _ _).1 (HT.out W hW)
    simp only [Value.agg.injEq, Array.mk.injEq, List.cons.injEq, and_true, true_and] at e
    obtain ⟨rfl, rfl, rfl⟩ := e
    exact hl))
  obtain ⟨hbx, hbx2, hb⟩ := twoN_new w 28 28 #[.int .i64 t.op, .int .i64 t.n, .string t.s, .slice ka t.kind.l.length kc, .slice na t.names.length nc, .slice la t.l.length lc] #[.int .i64 0, .int .i64 0, .string ⟨#[]⟩, .slice none 0 0, .slice none 0 0, .slice none 0 0]
  have hsz2 : ((w.alloc (.cells #[.int .i64 t.op, .int .i64 t.n, .string t.s, .slice ka t.kind.l.length kc, .slice na t.names.length nc, .slice la t.l.length lc] 28)).alloc (.cells #[.int .i64 0, .int .i64 0, .string ⟨#[]⟩, .slice none 0 0, .slice none 0 0, .slice none 0 0] 28)).heap.size = w.heap.size + 2 := by simp
  have HG := Lib.hid (hG.of_eq (hb.block _ hG.lt))
  have HBX := Lib.hid hbx
  have HBX2 := Lib.hid hbx2
  have HO := Lib.hid (only_below (N := G) hb)
  have HSZ := Lib.hid hsz2
  have c0 := hbx.cell 0 (.int .i64 t.op) rfl
  have c1 := hbx.cell 1 (.int .i64 t.n) rfl
  have c2 := hbx.cell 2 (.string t.s) rfl
  have c3 := hbx.cell 3 (.slice ka t.kind.l.length kc) rfl
  have c4 := hbx.cell 4 (.slice na t.names.length nc) rfl
  have c5 := hbx.cell 5 (.slice la t.l.length lc) rfl
  have q1 : (t.op == 2) = false := by
    cases h : (t.op == 2)
    · rfl
    · exact absurd (.inl (by simpa using h)) hlf
  have hq : (t.op == 1) = false ∨ decide (b ≤ t.n) = false := by
    cases h : (t.op == 1)
    · exact .inl rfl
    · right
      have h1 : t.op = 1 := by simpa using h
      rw [decide_eq_false_iff_not]
      exact fun h2 => hlf (.inr ⟨h1, h2⟩)
  have w1 : wrap64 (b + 1) = b + 1 := by rw [wrap64]; omega
  have w2 : wrap64 (d + 1) = d + 1 := by rw [wrap64]; omega
  have w4' : IntKind.i64.wrap (d + 1) = d + 1 := by rw [IntKind.wrap_i64]; omega
  clear hbx hbx2 hb hG ht hw hsz2 hgl ha hlf hm hwant hIH hkv hN hnl
  generalize hln : t.l.length = ln at *
  have HLN := Lib.hid hln
  clear hln
  go_enter Tryz.func70, Tryz.ntmps70
  rcases hq with q2 | q3
  rotate_left
  cases q2 : (t.op == 1)
  all_goals
    go_wp2_with fail
    clear c0 c1 c2 c3 c4 c5
    try clear q3
    clear q1 q2
    generalize ((w.alloc (.cells #[.int .i64 t.op, .int .i64 t.n, .string t.s, .slice ka t.kind.l.length kc, .slice na t.names.length nc, .slice la ln lc] 28)).alloc (.cells #[.int .i64 0, .int .i64 0, .string ⟨#[]⟩, .slice none 0 0, .slice none 0 0, .slice none 0 0] 28)) = wa at *
    refine (HNODE.out _ HO.out HG.out).mono ?_
    rintro e w3 ⟨ho3, ⟨hok, rfl, hg3⟩ | ⟨hok, Bn, ka2, kc2, na2, nc2, qa, qc, he, hg3, hB1, hB2, hkid, hnms, hfr⟩⟩
    · have HF := Lib.hid (show fitB want L d = false from by rw [HWANT.out]; exact fit_node_false t L d m hok)
      have hx4 := (ho3.blk HBX.out (show w.heap.size ≠ G from by have := HGL.out; omega)).alloc (.cells #[.int .i64 0, .int .i64 0, .string ⟨#[]⟩, .slice none 0 0, .slice none 0 0, .slice none 0 0] 28)
      have HBY4 := Lib.hid ((ho3.blk HBX2.out (show w.heap.size + 1 ≠ G from by have := HGL.out; omega)).alloc (.cells #[.int .i64 0, .int .i64 0, .string ⟨#[]⟩, .slice none 0 0, .slice none 0 0, .slice none 0 0] 28))
      have HO4 := Lib.hid ((HO.out.trans ho3).alloc (.cells #[.int .i64 0, .int .i64 0, .string ⟨#[]⟩, .slice none 0 0, .slice none 0 0, .slice none 0 0] 28))
      have HG4 := Lib.hid (hg3.alloc (.cells #[.int .i64 0, .int .i64 0, .string ⟨#[]⟩, .slice none 0 0, .slice none 0 0, .slice none 0 0] 28))
      have HRB := Lib.hid (blk_new w3 #[.int .i64 0, .int .i64 0, .string ⟨#[]⟩, .slice none 0 0, .slice none 0 0, .slice none 0 0] 28)
      have c0 := hx4.cell 0 (.int .i64 t.op) rfl
      clear hx4 hok hg3 ho3 HBX HBX2 HO HG HSZ HNODE HT HSL HIH HMK
      unfold zeroV
      go_wp2_with fail
      clear c0
      generalize (w3.alloc (.cells #[.int .i64 0, .int .i64 0, .string ⟨#[]⟩, .slice none 0 0, .slice none 0 0, .slice none 0 0] 28)) = w4 at *
      refine (HB.out _).mono ?_
      rintro e w' ⟨rfl, rfl⟩
      cases hbn : Con.binder t.op
      all_goals
        go_wp2_with fail
        go_loopg [13, 14] 1 (fun g okv iv wr => g = 1 ∧ okv = .bool false ∧ w4 = wr)
        case atStart => exact ⟨rfl, rfl, rfl⟩
        case round =>
          obtain ⟨rfl, rfl, rfl⟩ := hrel
          have p0 := HRB.out.cell 0 (.int .i64 0) rfl
          have p1 := HRB.out.cell 1 (.int .i64 0) rfl
          have p2 := HRB.out.cell 2 (.string ⟨#[]⟩) rfl
          have p3 := HRB.out.cell 3 (.slice none 0 0) rfl
          have p4 := HRB.out.cell 4 (.slice none 0 0) rfl
          have p5 := HRB.out.cell 5 (.slice none 0 0) rfl
          have r0 := HBY4.out.cell 0 (.int .i64 0) rfl
          have r1 := HBY4.out.cell 1 (.int .i64 0) rfl
          have r2 := HBY4.out.cell 2 (.string ⟨#[]⟩) rfl
          have r3 := HBY4.out.cell 3 (.slice none 0 0) rfl
          have r4 := HBY4.out.cell 4 (.slice none 0 0) rfl
          have r5 := HBY4.out.cell 5 (.slice none 0 0) rfl
          have t0 := HBY4.out.thaw 0
          have t1 := HBY4.out.thaw 1
          have t2 := HBY4.out.thaw 2
          have t3 := HBY4.out.thaw 3
          have t4 := HBY4.out.thaw 4
          have t5 := HBY4.out.thaw 5
          have hz := store6_blk HBY4.out 0 (.int .i64 0) (.int .i64 0) (.string ⟨#[]⟩) (.slice none 0 0) (.slice none 0 0) (.slice none 0 0)
          rw [put6_all] at hz
          have HE := Lib.hid (show RebP N G want L d w (.returned (.tuple #[.agg #[.int .i64 0, .int .i64 0, .string ⟨#[]⟩, .slice none 0 0, .slice none 0 0, .slice none 0 0], .bool false])) (store6 w4 (w.heap.size + 1) 0 (.int .i64 0) (.int .i64 0) (.string ⟨#[]⟩) (.slice none 0 0) (.slice none 0 0) (.slice none 0 0)) from ⟨store6_only HO4.out _ _ _ _ _ _ _ _ (.inr (Nat.le_succ _)), _, Con.none0, L, by (first | (rw [HF.out]; done) | (rw [HF.out]; rfl)), conV_none _ _, HG4.out.of_eq (store6_other _ _ _ _ _ _ _ _ _ G (by have := HGL.out; omega)), h0, Int.le_refl _, fun h => by rw [HF.out] at h; cases h⟩)
          unfold store6 at hz HE
          simp only [Nat.zero_add] at hz HE
          have z0 := hz.cell 0 (.int .i64 0) rfl
          have z1 := hz.cell 1 (.int .i64 0) rfl
          have z2 := hz.cell 2 (.string ⟨#[]⟩) rfl
          have z3 := hz.cell 3 (.slice none 0 0) rfl
          have z4 := hz.cell 4 (.slice none 0 0) rfl
          have z5 := hz.cell 5 (.slice none 0 0) rfl
          clear hz
          go_wp2
          refine bodyPost_ret (v := .tuple #[.agg #[.int .i64 0, .int .i64 0, .string ⟨#[]⟩, .slice none 0 0, .slice none 0 0, .slice none 0 0], .bool false]) (by simp [results, Tryz.results70, go_sem, z0, z1, z2, z3, z4, z5]) rfl ?_
          exact HE.out
    · rw [HLN.out] at he
      subst he
      obtain ⟨hL1, hd4⟩ := nodeOk_iff t L d hok
      have HOK := Lib.hid hok
      have hsz := HSZ.out
      have hss := ho3.size
      have hgl := HGL.out
      have HCR := Lib.hid (show CR N G Bn w3.heap.size t m L d #[.int .i64 t.op, .int .i64 t.n, .string t.s, .slice ka t.kind.l.length kc, .slice na t.names.length nc, .slice la ln lc] ka2 kc2 na2 nc2 qa qc w (w3.alloc (.cells #[.int .i64 t.op, .int .i64 t.n, .string t.s, .slice ka2 t.kind.l.length kc2, .slice na2 t.names.length nc2, .slice qa ln qc] 28)) 0 true (L - 1) from by
        obtain ⟨a', c', e, f1, f2, f3, f4⟩ := hfr
        injection e with e1 e2 e3
        clear e2
        subst e1 e3
        have hw4 : ∀ q, q < w3.heap.size → (w3.alloc (.cells #[.int .i64 t.op, .int .i64 t.n, .string t.s, .slice ka2 t.kind.l.length kc2, .slice na2 t.names.length nc2, .slice qa ln qc] 28)).heap[q]? = w3.heap[q]? := fun q hq => Below.heap_alloc w3 _ q hq
        refine ⟨(HO.out.trans ho3).alloc _, hg3.alloc _, (ho3.blk HBX.out (show w.heap.size ≠ G from by omega)).alloc _, (ho3.blk HBX2.out (show w.heap.size + 1 ≠ G from by omega)).alloc _, by rw [HLN.out]; exact blk_new w3 _ _, ⟨by omega, hB2⟩, ?_, ?_, ⟨f1, f2, f3⟩, ?_, ?_, ?_⟩
        · exact (hkid.keep (fun q hq => hw4 q (by have := hq.2; omega))).mono (fun q hq => ⟨by have := hq.1; omega, hq.2⟩)
        · exact (hnms.keep (fun q hq => hw4 q (by have := hq.2; omega))).mono (fun q hq => ⟨by have := hq.1; omega, hq.2⟩)
        · rcases f4 with f4 | ⟨g, cur, rfl, f5, f6, f7, f8⟩
          · exact .inl f4
          · refine .inr ⟨g, cur, rfl, f5, f6.lt, f6.alloc _, f7, fun j hj h => absurd h (Nat.not_lt_zero _), fun j hj _ => ?_⟩
            obtain ⟨x, hx, hv⟩ := f8 j hj
            exact ⟨x, hx, hv.keep (fun q hq => hw4 q (by have : q < N := hq; have := HNG.out; omega))⟩
        · rw [List.take_zero, fitsB_nil, decide_eq_true (by omega : 0 ≤ L - 1), decide_eq_true (by omega : d + 1 ≤ 401)]; rfl
        · exact ⟨by omega, by omega, fun _ => by rw [List.take_zero, Con.sizes_nil]; simp⟩)
      have c0 := HCR.out.box.cell 0 (.int .i64 t.op) rfl
      clear hok hg3 ho3 HBX HBX2 HO HG HSZ HNODE hkid hnms hfr hsz hss hgl hB1 hB2
      go_wp2_with fail
      clear c0
      generalize (w3.alloc (.cells #[.int .i64 t.op, .int .i64 t.n, .string t.s, .slice ka2 t.kind.l.length kc2, .slice na2 t.names.length nc2, .slice qa ln qc] 28)) = w4 at *
      refine (HB.out _).mono ?_
      rintro e w' ⟨rfl, rfl⟩
      cases hbn : Con.binder t.op
      · skip
        have HDB := Lib.hid (show Con.deep t.op b = b from by rw [HDP.out, hbn]; rfl)
        clear hbn
        go_wp2_with fail
        go_loopg [13, 14] (ln + 1) (fun g okv iv wr => ∃ (kk : Nat) (ok : Bool) (c : Int), kk ≤ ln ∧ okv = .bool ok ∧ iv = .int .i64 kk ∧ g = ln + 1 - kk ∧ CR N G Bn w3.heap.size t m L d #[.int .i64 t.op, .int .i64 t.n, .string t.s, .slice ka t.kind.l.length kc, .slice na t.names.length nc, .slice la ln lc] ka2 kc2 na2 nc2 qa qc w wr kk ok c)
        case atStart => exact ⟨0, true, L - 1, Nat.zero_le _, rfl, rfl, by omega, HCR.out⟩
        case round =>
          obtain ⟨kk, ok, c, hkk, rfl, rfl, hg, hcr⟩ := hrel
          have HCK := Lib.hid hcr
          have hrb := hcr.rbx
          rw [HLN.out] at hrb
          have r5 := hrb.cell 5 (.slice qa ln qc) rfl
          cases ok
          · have hres := hcr.res
            have p0 := hrb.cell 0 (.int .i64 t.op) rfl
            have p1 := hrb.cell 1 (.int .i64 t.n) rfl
            have p2 := hrb.cell 2 (.string t.s) rfl
            have p3 := hrb.cell 3 (.slice ka2 t.kind.l.length kc2) rfl
            have p4 := hrb.cell 4 (.slice na2 t.names.length nc2) rfl
            have p5 := hrb.cell 5 (.slice qa ln qc) rfl
            have s0 := hres.cell 0 (.int .i64 0) rfl
            have s1 := hres.cell 1 (.int .i64 0) rfl
            have s2 := hres.cell 2 (.string ⟨#[]⟩) rfl
            have s3 := hres.cell 3 (.slice none 0 0) rfl
            have s4 := hres.cell 4 (.slice none 0 0) rfl
            have s5 := hres.cell 5 (.slice none 0 0) rfl
            have t0 := hres.thaw 0
            have t1 := hres.thaw 1
            have t2 := hres.thaw 2
            have t3 := hres.thaw 3
            have t4 := hres.thaw 4
            have t5 := hres.thaw 5
            obtain ⟨-, hend⟩ := CR.end hcr HNG.out HGL.out HS.out (by rw [HLN.out]; exact HM.out) (fun h => by cases h) HOK.out HWANT.out
            rw [HLN.out] at hend
            have hz := store6_blk hres 0 (.int .i64 t.op) (.int .i64 t.n) (.string t.s) (.slice ka2 t.kind.l.length kc2) (.slice na2 t.names.length nc2) (.slice qa ln qc)
            rw [put6_all] at hz
            have HE := Lib.hid hend
            unfold store6 at hz HE
            simp only [Nat.zero_add] at hz HE
            have z0 := hz.cell 0 (.int .i64 t.op) rfl
            have z1 := hz.cell 1 (.int .i64 t.n) rfl
            have z2 := hz.cell 2 (.string t.s) rfl
            have z3 := hz.cell 3 (.slice ka2 t.kind.l.length kc2) rfl
            have z4 := hz.cell 4 (.slice na2 t.names.length nc2) rfl
            have z5 := hz.cell 5 (.slice qa ln qc) rfl
            clear hz hend hres hrb hcr HCK r5
            go_wp2
            refine bodyPost_ret (v := .tuple #[.agg #[.int .i64 t.op, .int .i64 t.n, .string t.s, .slice ka2 t.kind.l.length kc2, .slice na2 t.names.length nc2, .slice qa ln qc], .bool false]) (by simp [results, Tryz.results70, go_sem, z0, z1, z2, z3, z4, z5]) rfl ?_
            exact HE.out
          by_cases hlt : kk < ln
          rotate_left
          · have q5 : decide ((kk : Int) < (ln : Int)) = false := decide_eq_false (by omega)
            have hres := hcr.res
            have p0 := hrb.cell 0 (.int .i64 t.op) rfl
            have p1 := hrb.cell 1 (.int .i64 t.n) rfl
            have p2 := hrb.cell 2 (.string t.s) rfl
            have p3 := hrb.cell 3 (.slice ka2 t.kind.l.length kc2) rfl
            have p4 := hrb.cell 4 (.slice na2 t.names.length nc2) rfl
            have p5 := hrb.cell 5 (.slice qa ln qc) rfl
            have s0 := hres.cell 0 (.int .i64 0) rfl
            have s1 := hres.cell 1 (.int .i64 0) rfl
            have s2 := hres.cell 2 (.string ⟨#[]⟩) rfl
            have s3 := hres.cell 3 (.slice none 0 0) rfl
            have s4 := hres.cell 4 (.slice none 0 0) rfl
            have s5 := hres.cell 5 (.slice none 0 0) rfl
            have t0 := hres.thaw 0
            have t1 := hres.thaw 1
            have t2 := hres.thaw 2
            have t3 := hres.thaw 3
            have t4 := hres.thaw 4
            have t5 := hres.thaw 5
            obtain ⟨-, hend⟩ := CR.end hcr HNG.out HGL.out HS.out (by rw [HLN.out]; exact HM.out) (fun _ => by rw [HLN.out]; omega) HOK.out HWANT.out
            rw [HLN.out] at hend
            have hz := store6_blk hres 0 (.int .i64 t.op) (.int .i64 t.n) (.string t.s) (.slice ka2 t.kind.l.length kc2) (.slice na2 t.names.length nc2) (.slice qa ln qc)
            rw [put6_all] at hz
            have HE := Lib.hid hend
            unfold store6 at hz HE
            simp only [Nat.zero_add] at hz HE
            have z0 := hz.cell 0 (.int .i64 t.op) rfl
            have z1 := hz.cell 1 (.int .i64 t.n) rfl
            have z2 := hz.cell 2 (.string t.s) rfl
            have z3 := hz.cell 3 (.slice ka2 t.kind.l.length kc2) rfl
            have z4 := hz.cell 4 (.slice na2 t.names.length nc2) rfl
            have z5 := hz.cell 5 (.slice qa ln qc) rfl
            clear hz hend hres hrb hcr HCK r5
            go_wp2
            refine bodyPost_ret (v := .tuple #[.agg #[.int .i64 t.op, .int .i64 t.n, .string t.s, .slice ka2 t.kind.l.length kc2, .slice na2 t.names.length nc2, .slice qa ln qc], .bool true]) (by simp [results, Tryz.results70, go_sem, z0, z1, z2, z3, z4, z5]) rfl ?_
            exact HE.out
          · have q5 : decide ((kk : Int) < (ln : Int)) = true := decide_eq_true (by omega)
            have hkl : kk < t.l.length := by rw [HLN.out]; exact hlt
            obtain ⟨bb, off, c', xa, xn, xc, ya, yn, yc, za, zn, zc, e, hPb, f0, f1, f2, f3, f4, f5, hx⟩ := (HSL.out wr hcr.only).part kk hkl
            injection e with e1 e2 e3
            clear e2
            subst e1 e3
            rcases hcr.row with hr | ⟨g, cur, rfl, hgb, hgr, hblk, hcs, hdone, htodo⟩
            · rw [hr] at hkl; simp at hkl
            obtain ⟨x, ⟨y0, y1, y2, y3, y4, y5, rfl, k0, k1, k2, k3, k4, k5⟩, hvx⟩ := htodo kk hkl (Nat.le_refl _)
            have hmk := HMK.out kk t.l[kk] (List.getElem?_eq_getElem hkl)
            rw [HDB.out] at hmk
            have hbig := hcr.big
            have hgl := HGL.out
            have e0 := hblk.cell _ _ k0
            have e1 := hblk.cell _ _ k1
            have e2 := hblk.cell _ _ k2
            have e3 := hblk.cell _ _ k3
            have e4 := hblk.cell _ _ k4
            have e5 := hblk.cell _ _ k5
            have g0 := hblk.thaw (kk * 6)
            have g1 := hblk.thaw (kk * 6 + 1)
            have g2 := hblk.thaw (kk * 6 + 2)
            have g3 := hblk.thaw (kk * 6 + 3)
            have g4 := hblk.thaw (kk * 6 + 4)
            have g5 := hblk.thaw (kk * 6 + 5)
            have v5 := hcr.box.cell 5 (.slice (some ⟨bb, off, none⟩) ln lc) rfl
            have HI := Lib.hid (HIH.out t.l[kk] (List.getElem_mem hkl) c (d + 1) (b) wr.drew _ (HW0.out.trans hcr.only.drew) hcr.bld (hx.keep (w' := wr.drew) (show Same (· < N) wr wr.drew from fun _ _ => rfl)) hcr.left.1 (by have := hcr.left.2.1; omega) (by omega) (by omega) (by omega) (by omega))
            have HROW := Lib.hid hblk
            have HRBX := Lib.hid hrb
            have HMKK := Lib.hid hmk
            have HKL := Lib.hid hkl
            have HKS := Lib.hid (And.intro k0 (And.intro k1 (And.intro k2 (And.intro k3 (And.intro k4 k5)))))
            have hn1 : w3.heap.size ≠ G := by omega
            have hn2 : g ≠ G := by omega
            have HN1 := Lib.hid hn1
            have HN2 := Lib.hid hn2
            generalize Con.reb F t.l[kk] (b) = z at *
            generalize t.l[kk].op = po at *
            generalize t.l[kk].n = pn at *
            generalize t.l[kk].s = ps at *
            clear hdone htodo hcr hblk hrb hmk hkl hx hvx k0 k1 k2 k3 k4 k5 hbig hgl hPb hcs hgb hgr hn1 hn2
            go_wp2
            go_region_law (go_simp; go_at_call 70; refine HI.out.mono ?_; rintro e w5 ⟨ho5, yv, u, c2, rfl, hy, hg5, hc0, hc1, hfit⟩; obtain ⟨ua, un, uc, va, vn, vc, ta, tn, tc, rfl, -, -, -⟩ := hy.shape; have HO5 := Lib.hid ((Only.refl G wr).drew.trans ho5); have HV5 := Lib.hid hy; have HG5 := Lib.hid hg5; have HF5 := Lib.hid hfit; have u5 := (HO5.out.blk HRBX.out HN1.out).cell 5 (.slice (some ⟨g, 0, none⟩) ln qc) rfl; have HR5 := Lib.hid (HO5.out.blk HROW.out HN2.out); have s0 := HR5.out.cell _ _ HKS.out.1; have s1 := HR5.out.cell _ _ HKS.out.2.1; have s2 := HR5.out.cell _ _ HKS.out.2.2.1; have s3 := HR5.out.cell _ _ HKS.out.2.2.2.1; have s4 := HR5.out.cell _ _ HKS.out.2.2.2.2.1; have s5 := HR5.out.cell _ _ HKS.out.2.2.2.2.2; have t0 := HR5.out.thaw (kk * 6); have t1 := HR5.out.thaw (kk * 6 + 1); have t2 := HR5.out.thaw (kk * 6 + 2); have t3 := HR5.out.thaw (kk * 6 + 3); have t4 := HR5.out.thaw (kk * 6 + 4); have t5 := HR5.out.thaw (kk * 6 + 5); clear hy hg5 hfit ho5)
            all_goals
              have HNX := Lib.hid (CR.push HCK.out HNG.out HGL.out HKL.out HMKK.out HO5.out HV5.out HG5.out hc0 hc1 HF5.out)
              unfold store6 at HNX
              go_wp2
              go_roundg (gk - 1)
              case measure => omega
              case rel => exact ⟨kk + 1, _, _, by omega, rfl, by go_num, by omega, HNX.out⟩
      · skip
        have HDB := Lib.hid (show Con.deep t.op b = b + 1 from by rw [HDP.out, hbn]; rfl)
        clear hbn
        go_wp2_with fail
        go_loopg [13, 14] (ln + 1) (fun g okv iv wr => ∃ (kk : Nat) (ok : Bool) (c : Int), kk ≤ ln ∧ okv = .bool ok ∧ iv = .int .i64 kk ∧ g = ln + 1 - kk ∧ CR N G Bn w3.heap.size t m L d #[.int .i64 t.op, .int .i64 t.n, .string t.s, .slice ka t.kind.l.length kc, .slice na t.names.length nc, .slice la ln lc] ka2 kc2 na2 nc2 qa qc w wr kk ok c)
        case atStart => exact ⟨0, true, L - 1, Nat.zero_le _, rfl, rfl, by omega, HCR.out⟩
        case round =>
          obtain ⟨kk, ok, c, hkk, rfl, rfl, hg, hcr⟩ := hrel
          have HCK := Lib.hid hcr
          have hrb := hcr.rbx
          rw [HLN.out] at hrb
          have r5 := hrb.cell 5 (.slice qa ln qc) rfl
          cases ok
          · have hres := hcr.res
            have p0 := hrb.cell 0 (.int .i64 t.op) rfl
            have p1 := hrb.cell 1 (.int .i64 t.n) rfl
            have p2 := hrb.cell 2 (.string t.s) rfl
            have p3 := hrb.cell 3 (.slice ka2 t.kind.l.length kc2) rfl
            have p4 := hrb.cell 4 (.slice na2 t.names.length nc2) rfl
            have p5 := hrb.cell 5 (.slice qa ln qc) rfl
            have s0 := hres.cell 0 (.int .i64 0) rfl
            have s1 := hres.cell 1 (.int .i64 0) rfl
            have s2 := hres.cell 2 (.string ⟨#[]⟩) rfl
            have s3 := hres.cell 3 (.slice none 0 0) rfl
            have s4 := hres.cell 4 (.slice none 0 0) rfl
            have s5 := hres.cell 5 (.slice none 0 0) rfl
            have t0 := hres.thaw 0
            have t1 := hres.thaw 1
            have t2 := hres.thaw 2
            have t3 := hres.thaw 3
            have t4 := hres.thaw 4
            have t5 := hres.thaw 5
            obtain ⟨-, hend⟩ := CR.end hcr HNG.out HGL.out HS.out (by rw [HLN.out]; exact HM.out) (fun h => by cases h) HOK.out HWANT.out
            rw [HLN.out] at hend
            have hz := store6_blk hres 0 (.int .i64 t.op) (.int .i64 t.n) (.string t.s) (.slice ka2 t.kind.l.length kc2) (.slice na2 t.names.length nc2) (.slice qa ln qc)
            rw [put6_all] at hz
            have HE := Lib.hid hend
            unfold store6 at hz HE
            simp only [Nat.zero_add] at hz HE
            have z0 := hz.cell 0 (.int .i64 t.op) rfl
            have z1 := hz.cell 1 (.int .i64 t.n) rfl
            have z2 := hz.cell 2 (.string t.s) rfl
            have z3 := hz.cell 3 (.slice ka2 t.kind.l.length kc2) rfl
            have z4 := hz.cell 4 (.slice na2 t.names.length nc2) rfl
            have z5 := hz.cell 5 (.slice qa ln qc) rfl
            clear hz hend hres hrb hcr HCK r5
            go_wp2
            refine bodyPost_ret (v := .tuple #[.agg #[.int .i64 t.op, .int .i64 t.n, .string t.s, .slice ka2 t.kind.l.length kc2, .slice na2 t.names.length nc2, .slice qa ln qc], .bool false]) (by simp [results, Tryz.results70, go_sem, z0, z1, z2, z3, z4, z5]) rfl ?_
            exact HE.out
          by_cases hlt : kk < ln
          rotate_left
          · have q5 : decide ((kk : Int) < (ln : Int)) = false := decide_eq_false (by omega)
            have hres := hcr.res
            have p0 := hrb.cell 0 (.int .i64 t.op) rfl
            have p1 := hrb.cell 1 (.int .i64 t.n) rfl
            have p2 := hrb.cell 2 (.string t.s) rfl
            have p3 := hrb.cell 3 (.slice ka2 t.kind.l.length kc2) rfl
            have p4 := hrb.cell 4 (.slice na2 t.names.length nc2) rfl
            have p5 := hrb.cell 5 (.slice qa ln qc) rfl
            have s0 := hres.cell 0 (.int .i64 0) rfl
            have s1 := hres.cell 1 (.int .i64 0) rfl
            have s2 := hres.cell 2 (.string ⟨#[]⟩) rfl
            have s3 := hres.cell 3 (.slice none 0 0) rfl
            have s4 := hres.cell 4 (.slice none 0 0) rfl
            have s5 := hres.cell 5 (.slice none 0 0) rfl
            have t0 := hres.thaw 0
            have t1 := hres.thaw 1
            have t2 := hres.thaw 2
            have t3 := hres.thaw 3
            have t4 := hres.thaw 4
            have t5 := hres.thaw 5
            obtain ⟨-, hend⟩ := CR.end hcr HNG.out HGL.out HS.out (by rw [HLN.out]; exact HM.out) (fun _ => by rw [HLN.out]; omega) HOK.out HWANT.out
            rw [HLN.out] at hend
            have hz := store6_blk hres 0 (.int .i64 t.op) (.int .i64 t.n) (.string t.s) (.slice ka2 t.kind.l.length kc2) (.slice na2 t.names.length nc2) (.slice qa ln qc)
            rw [put6_all] at hz
            have HE := Lib.hid hend
            unfold store6 at hz HE
            simp only [Nat.zero_add] at hz HE
            have z0 := hz.cell 0 (.int .i64 t.op) rfl
            have z1 := hz.cell 1 (.int .i64 t.n) rfl
            have z2 := hz.cell 2 (.string t.s) rfl
            have z3 := hz.cell 3 (.slice ka2 t.kind.l.length kc2) rfl
            have z4 := hz.cell 4 (.slice na2 t.names.length nc2) rfl
            have z5 := hz.cell 5 (.slice qa ln qc) rfl
            clear hz hend hres hrb hcr HCK r5
            go_wp2
            refine bodyPost_ret (v := .tuple #[.agg #[.int .i64 t.op, .int .i64 t.n, .string t.s, .slice ka2 t.kind.l.length kc2, .slice na2 t.names.length nc2, .slice qa ln qc], .bool true]) (by simp [results, Tryz.results70, go_sem, z0, z1, z2, z3, z4, z5]) rfl ?_
            exact HE.out
          · have q5 : decide ((kk : Int) < (ln : Int)) = true := decide_eq_true (by omega)
            have hkl : kk < t.l.length := by rw [HLN.out]; exact hlt
            obtain ⟨bb, off, c', xa, xn, xc, ya, yn, yc, za, zn, zc, e, hPb, f0, f1, f2, f3, f4, f5, hx⟩ := (HSL.out wr hcr.only).part kk hkl
            injection e with e1 e2 e3
            clear e2
            subst e1 e3
            rcases hcr.row with hr | ⟨g, cur, rfl, hgb, hgr, hblk, hcs, hdone, htodo⟩
            · rw [hr] at hkl; simp at hkl
            obtain ⟨x, ⟨y0, y1, y2, y3, y4, y5, rfl, k0, k1, k2, k3, k4, k5⟩, hvx⟩ := htodo kk hkl (Nat.le_refl _)
            have hmk := HMK.out kk t.l[kk] (List.getElem?_eq_getElem hkl)
            rw [HDB.out] at hmk
            have hbig := hcr.big
            have hgl := HGL.out
            have e0 := hblk.cell _ _ k0
            have e1 := hblk.cell _ _ k1
            have e2 := hblk.cell _ _ k2
            have e3 := hblk.cell _ _ k3
            have e4 := hblk.cell _ _ k4
            have e5 := hblk.cell _ _ k5
            have g0 := hblk.thaw (kk * 6)
            have g1 := hblk.thaw (kk * 6 + 1)
            have g2 := hblk.thaw (kk * 6 + 2)
            have g3 := hblk.thaw (kk * 6 + 3)
            have g4 := hblk.thaw (kk * 6 + 4)
            have g5 := hblk.thaw (kk * 6 + 5)
            have v5 := hcr.box.cell 5 (.slice (some ⟨bb, off, none⟩) ln lc) rfl
            have HI := Lib.hid (HIH.out t.l[kk] (List.getElem_mem hkl) c (d + 1) (b + 1) wr.drew _ (HW0.out.trans hcr.only.drew) hcr.bld (hx.keep (w' := wr.drew) (show Same (· < N) wr wr.drew from fun _ _ => rfl)) hcr.left.1 (by have := hcr.left.2.1; omega) (by omega) (by omega) (by omega) (by omega))
            have HROW := Lib.hid hblk
            have HRBX := Lib.hid hrb
            have HMKK := Lib.hid hmk
            have HKL := Lib.hid hkl
            have HKS := Lib.hid (And.intro k0 (And.intro k1 (And.intro k2 (And.intro k3 (And.intro k4 k5)))))
            have hn1 : w3.heap.size ≠ G := by omega
            have hn2 : g ≠ G := by omega
            have HN1 := Lib.hid hn1
            have HN2 := Lib.hid hn2
            generalize Con.reb F t.l[kk] (b + 1) = z at *
            generalize t.l[kk].op = po at *
            generalize t.l[kk].n = pn at *
            generalize t.l[kk].s = ps at *
            clear hdone htodo hcr hblk hrb hmk hkl hx hvx k0 k1 k2 k3 k4 k5 hbig hgl hPb hcs hgb hgr hn1 hn2
            go_wp2
            go_region_law (go_simp; go_at_call 70; refine HI.out.mono ?_; rintro e w5 ⟨ho5, yv, u, c2, rfl, hy, hg5, hc0, hc1, hfit⟩; obtain ⟨ua, un, uc, va, vn, vc, ta, tn, tc, rfl, -, -, -⟩ := hy.shape; have HO5 := Lib.hid ((Only.refl G wr).drew.trans ho5); have HV5 := Lib.hid hy; have HG5 := Lib.hid hg5; have HF5 := Lib.hid hfit; have u5 := (HO5.out.blk HRBX.out HN1.out).cell 5 (.slice (some ⟨g, 0, none⟩) ln qc) rfl; have HR5 := Lib.hid (HO5.out.blk HROW.out HN2.out); have s0 := HR5.out.cell _ _ HKS.out.1; have s1 := HR5.out.cell _ _ HKS.out.2.1; have s2 := HR5.out.cell _ _ HKS.out.2.2.1; have s3 := HR5.out.cell _ _ HKS.out.2.2.2.1; have s4 := HR5.out.cell _ _ HKS.out.2.2.2.2.1; have s5 := HR5.out.cell _ _ HKS.out.2.2.2.2.2; have t0 := HR5.out.thaw (kk * 6); have t1 := HR5.out.thaw (kk * 6 + 1); have t2 := HR5.out.thaw (kk * 6 + 2); have t3 := HR5.out.thaw (kk * 6 + 3); have t4 := HR5.out.thaw (kk * 6 + 4); have t5 := HR5.out.thaw (kk * 6 + 5); clear hy hg5 hfit ho5)
            all_goals
              have HNX := Lib.hid (CR.push HCK.out HNG.out HGL.out HKL.out HMKK.out HO5.out HV5.out HG5.out hc0 hc1 HF5.out)
              unfold store6 at HNX
              go_wp2
              go_roundg (gk - 1)
              case measure => omega
              case rel => exact ⟨kk + 1, _, _, by omega, rfl, by go_num, by omega, HNX.out⟩
end Go.Proofs.YtkjaicmfegpjdaaGreat
namespace Go.Proofs.YtkjaicmfegpjdaaGreat
open Go Go.RowKit
open Pl (K Con)
set_option linter.unusedSimpArgs false
set_option linter.unusedVariables false

theorem rebuilt_any (N G k : Nat) (cap : Array Value) (F : Con → Int → Con) (w0 : World) (HC : ChangeOk N G k cap F w0) (hN : N ≤ G) (t : Con) : Con.allB t = true → ∀ (L d b : Int) (w : World) (v : Value), Only G w0 w → Blk w G 135 #[.int .i64 L] → ConV w (· < N) t v → 0 ≤ L → L ≤ 20000 → 0 ≤ b → b ≤ d → 1 ≤ d → d ≤ 401 →
    Calls Tryz.prog 70 #[.pointer (some ⟨G, 0, none⟩), v, .int .i64 b, .int .i64 d, .func (.func k) #[] cap] w (RebP N G (Con.reb F t b) L d w) := by
  induction t using Con.ind with
  | h t ih =>
  intro ha L d b w v hw hG ht h0 h1 hb0 hb1 hd0 hd1
  have ha' := ha
  rw [allB_eq, Bool.and_eq_true, List.all_eq_true] at ha'
  by_cases hlf : Con.leafy t b
  · rw [reb_leaf _ _ _ hlf]
    exact rebuilt_leaf N G k cap F w0 HC t L d b w v hN hw hG ht ha'.1 hlf h0 h1 hb0 hb1 hd0 hd1
  · exact rebuilt_node N G k cap F w0 t (fun x hx L d b w v hw hG hx2 h0 h1 hb0 hb1 hd0 hd1 => ih x hx (ha'.2 x hx) L d b w v hw hG hx2 h0 h1 hb0 hb1 hd0 hd1) L d b w v hN hw hG ht ha'.1 hlf h0 h1 hb0 hb1 hd0 hd1
theorem size_of_leaf (t : Con) (h : t.l = []) : t.size = 1 := by rw [Con.size_eq, h, Con.sizes_nil]
/-- node makes a leaf -/
theorem node_leaf (N G : Nat) (t : Con) (L d : Int) (w : World) (v : Value) (hN : N ≤ G) (hG : Blk w G 135 #[.int .i64 L]) (ht : ConV w (· < N) t v) (hk : K.valid t.kind = true) (hl : t.l = []) (hn : t.names.length ≤ 1000) (h0 : 0 ≤ L) (h1 : L ≤ 20000) :
    Calls Tryz.prog 71 #[.pointer (some ⟨G, 0, none⟩), v, .int .i64 d] w (RebP N G t L d w) := by
  have hgl := hG.lt
  refine (node_any (· < N) G t L d w v (fun q hq => ⟨by have : q < N := hq; omega, by have : q < N := hq; omega⟩) hG ht hk h0 (by omega) (by omega) (by rw [hl]; simp)).mono ?_
  have hs := ((conV_iff _ _ _ _).1 ht).1
  have hfit : fitB t L d = nodeOk t L d := by
    rw [fitB_node, hl, fitsB_nil]
    unfold nodeOk
    rw [Bool.eq_iff_iff]
    simp only [Bool.and_eq_true, decide_eq_true_eq]
    constructor
    · rintro ⟨h, -⟩; exact h
    · rintro ⟨h2, h3, h4⟩; exact ⟨⟨h2, h3, h4⟩, by omega, by omega⟩
  rintro e w' ⟨ho, ⟨hok, rfl, hg⟩ | ⟨hok, Bn, ka, kc, na, nc, la, lc, rfl, hg, hB1, hB2, hkid, hnms, hfr⟩⟩
  · refine ⟨ho, zeroV, Con.none0, L, by rw [hfit, hok], conV_none _ _, hg, h0, Int.le_refl _, fun h => ?_⟩
    rw [hfit, hok] at h; cases h
  · have hLd := hok
    unfold nodeOk at hLd
    simp only [Bool.and_eq_true, decide_eq_true_eq] at hLd
    refine ⟨ho, _, t, L - 1, by rw [hfit, hok], ?_, hg, by omega, by omega, fun _ => ⟨rfl, by rw [size_of_leaf t hl]; rfl⟩⟩
    refine (conV_iff _ _ _ _).2 ⟨hs, _, _, _, rfl, hkid.mono (fun q hq => .inr ⟨by omega, by omega⟩), hnms.mono (fun q hq => .inr ⟨by have := hq.1; omega, by have := hq.2; omega⟩), hfr.cons (fun q hq => .inl hq) (fun q h1 h2 => .inr ⟨by omega, h2⟩)⟩
/-- the boxes of a shift -/
structure ShiftBoxes (w : World) (g1 g2 g3 G : Nat) (by' from' : Int) : Prop where
  frm : Blk w g1 3 #[.int .i64 from']
  bys : Blk w g2 3 #[.int .i64 by']
  bld : Blk w g3 88 #[.pointer (some ⟨G, 0, none⟩)]
set_option maxRecDepth 100000 in
set_option maxHeartbeats 2000000 in
theorem shiftF_any (N G g1 g2 g3 : Nat) (b1 f1 : Int) (t : Con) (b d L : Int) (w : World) (v : Value) (hN : N ≤ G) (hs : ShiftBoxes w g1 g2 g3 G b1 f1) (hG : Blk w G 135 #[.int .i64 L]) (ht : ConV w (· < N) t v) (ha : Con.nodeB t = true) (hlf : Con.leafy t b) (hb1 : -1000000 ≤ b1 ∧ b1 ≤ 1000000) (hf1 : -9223372036854775808 ≤ f1 ∧ f1 ≤ 9223372036854775807) (h0 : 0 ≤ L) (h1 : L ≤ 20000) (hb0 : 0 ≤ b) (hbd : b ≤ 1000000) (hd : d ≤ 401) :
    Calls Tryz.prog 109 #[v, .int .i64 b, .int .i64 d, .pointer (some ⟨g1, 0, none⟩), .pointer (some ⟨g2, 0, none⟩), .pointer (some ⟨g3, 0, none⟩)] w (RebP N G (shF b1 f1 t b) L d w) := by
  obtain ⟨hkv, hnl, hll⟩ := node_facts t ha
  have hnn := nodeB_n t ha
  have hgl := hG.lt
  have hl0 : t.l = [] := leaf_none t ha (by rcases hlf with h | h; exact .inr h; exact .inl h.1)
  have htt := (conV_iff _ _ _ _).1 ht
  obtain ⟨ka, kn, kc, na, nn, nc, la, ln, lc, rfl, -, -, -⟩ := ht.shape
  have HPRT := Lib.hid (show t.s.size ≤ maxLen ∧ KidV w (· < N) t.kind (.slice ka kn kc) ∧ StrSl w (· < N) (.slice na nn nc) t.names ∧ ConSl w (· < N) (.slice la ln lc) t.l from by
    obtain ⟨hs, kv', nv', lv', e, hk, hn, hl⟩ := htt
    simp only [Value.agg.injEq, Array.mk.injEq, List.cons.injEq, and_true, true_and] at e
    obtain ⟨rfl, rfl, rfl⟩ := e
    exact ⟨hs, hk, hn, hl⟩)
  clear htt
  obtain ⟨hbx, hbx2, hb⟩ := twoN_new w 28 28 #[.int .i64 t.op, .int .i64 t.n, .string t.s, .slice ka kn kc, .slice na nn nc, .slice la ln lc] #[.int .i64 0, .int .i64 0, .string ⟨#[]⟩, .slice none 0 0, .slice none 0 0, .slice none 0 0]
  have HGL := Lib.hid hgl
  have hsb := (⟨hs.frm.of_eq (hb.block _ hs.frm.lt), hs.bys.of_eq (hb.block _ hs.bys.lt), hs.bld.of_eq (hb.block _ hs.bld.lt)⟩ : ShiftBoxes _ g1 g2 g3 G b1 f1)
  have x1 := hsb.frm.cell 0 (.int .i64 f1) rfl
  have x2 := hsb.bys.cell 0 (.int .i64 b1) rfl
  have x3 := hsb.bld.cell 0 (.pointer (some ⟨G, 0, none⟩)) rfl
  have c0 := hbx.cell 0 (.int .i64 t.op) rfl
  have c1 := hbx.cell 1 (.int .i64 t.n) rfl
  have c2 := hbx.cell 2 (.string t.s) rfl
  have c3 := hbx.cell 3 (.slice ka kn kc) rfl
  have c4 := hbx.cell 4 (.slice na nn nc) rfl
  have c5 := hbx.cell 5 (.slice la ln lc) rfl
  have fz := hbx.thaw 1
  have w1 : wrap64 (t.n - b) = t.n - b := by rw [wrap64]; omega
  have w2 : wrap64 (t.n + b1) = t.n + b1 := by rw [wrap64]; omega
  clear hbx hbx2 hb
  by_cases h2 : t.op = 1 ∧ f1 ≤ t.n - b
  · have q1 : (t.op == 1) = true := by rw [h2.1]; rfl
    have q2 : decide (f1 ≤ t.n - b) = true := decide_eq_true h2.2
    have HW := Lib.hid (show shF b1 f1 t b = (⟨t.op, t.n + b1, t.s, t.kind, t.names, t.l⟩ : Con) from if_pos h2)
    rw [HW.out]
    obtain ⟨hbx9, hby9, hb9⟩ := twoN_new w 28 28 #[.int .i64 t.op, .int .i64 (t.n + b1), .string t.s, .slice ka kn kc, .slice na nn nc, .slice la ln lc] #[.int .i64 0, .int .i64 0, .string ⟨#[]⟩, .slice none 0 0, .slice none 0 0, .slice none 0 0]
    have HSZ := Lib.hid (show ((w.alloc (.cells #[.int .i64 t.op, .int .i64 (t.n + b1), .string t.s, .slice ka kn kc, .slice na nn nc, .slice la ln lc] 28)).alloc (.cells #[.int .i64 0, .int .i64 0, .string ⟨#[]⟩, .slice none 0 0, .slice none 0 0, .slice none 0 0] 28)).heap.size = w.heap.size + 2 by simp)
    have hgg := hG.of_eq (hb9.block _ hG.lt)
    have HBY := Lib.hid hby9
    have HOW := Lib.hid (only_below (N := G) hb9)
    have HNODE := Lib.hid (node_leaf N G (⟨t.op, t.n + b1, t.s, t.kind, t.names, t.l⟩ : Con) L d ((w.alloc (.cells #[.int .i64 t.op, .int .i64 (t.n + b1), .string t.s, .slice ka kn kc, .slice na nn nc, .slice la ln lc] 28)).alloc (.cells #[.int .i64 0, .int .i64 0, .string ⟨#[]⟩, .slice none 0 0, .slice none 0 0, .slice none 0 0] 28)) (.agg #[.int .i64 t.op, .int .i64 (t.n + b1), .string t.s, .slice ka kn kc, .slice na nn nc, .slice la ln lc]) hN hgg ((conV_iff _ _ _ _).2 (show t.s.size ≤ maxLen ∧ ∃ kv nv lv, (.agg #[.int .i64 t.op, .int .i64 (t.n + b1), .string t.s, .slice ka kn kc, .slice na nn nc, .slice la ln lc] : Value) = .agg #[.int .i64 t.op, .int .i64 (t.n + b1), .string t.s, kv, nv, lv] ∧ KidV _ _ t.kind kv ∧ StrSl _ _ nv t.names ∧ ConSl _ _ lv t.l from ⟨HPRT.out.1, _, _, _, rfl, HPRT.out.2.1.keep (Same.of_below hb9 (fun q (hq : q < N) => by omega)), HPRT.out.2.2.1.keep (Same.of_below hb9 (fun q (hq : q < N) => by omega)), HPRT.out.2.2.2.keep (Same.of_below hb9 (fun q (hq : q < N) => by omega))⟩)) hkv hl0 hnl h0 h1)
    have d0 := hbx9.cell 0 (.int .i64 t.op) rfl
    have d1 := hbx9.cell 1 (.int .i64 (t.n + b1)) rfl
    have d2 := hbx9.cell 2 (.string t.s) rfl
    have d3 := hbx9.cell 3 (.slice ka kn kc) rfl
    have d4 := hbx9.cell 4 (.slice na nn nc) rfl
    have d5 := hbx9.cell 5 (.slice la ln lc) rfl
    obtain ⟨hby1, hby2, hby3⟩ : (((w.alloc (.cells #[.int .i64 t.op, .int .i64 (t.n + b1), .string t.s, .slice ka kn kc, .slice na nn nc, .slice la ln lc] 28)).alloc (.cells #[.int .i64 0, .int .i64 0, .string ⟨#[]⟩, .slice none 0 0, .slice none 0 0, .slice none 0 0] 28))).cell? ⟨g1, 0, none⟩ = some (.int .i64 f1) ∧ (((w.alloc (.cells #[.int .i64 t.op, .int .i64 (t.n + b1), .string t.s, .slice ka kn kc, .slice na nn nc, .slice la ln lc] 28)).alloc (.cells #[.int .i64 0, .int .i64 0, .string ⟨#[]⟩, .slice none 0 0, .slice none 0 0, .slice none 0 0] 28))).cell? ⟨g2, 0, none⟩ = some (.int .i64 b1) ∧ (((w.alloc (.cells #[.int .i64 t.op, .int .i64 (t.n + b1), .string t.s, .slice ka kn kc, .slice na nn nc, .slice la ln lc] 28)).alloc (.cells #[.int .i64 0, .int .i64 0, .string ⟨#[]⟩, .slice none 0 0, .slice none 0 0, .slice none 0 0] 28))).cell? ⟨g3, 0, none⟩ = some (.pointer (some ⟨G, 0, none⟩)) := ⟨(hs.frm.of_eq (hb9.block _ hs.frm.lt)).cell 0 _ rfl, (hs.bys.of_eq (hb9.block _ hs.bys.lt)).cell 0 _ rfl, (hs.bld.of_eq (hb9.block _ hs.bld.lt)).cell 0 _ rfl⟩
    clear hG ht ha hs hsb hgl hlf h2 HPRT hbx9 hby9 hb9 hgg HW
    go_enter Tryz.func109, Tryz.ntmps109
    go_wp2_with fail
    clear c0 c1 c2 c3 c4 c5 d0 d1 d2 d3 d4 d5 x1 x2 x3 hby1 hby2 hby3 q1 q2 fz
    generalize ((w.alloc (.cells #[.int .i64 t.op, .int .i64 (t.n + b1), .string t.s, .slice ka kn kc, .slice na nn nc, .slice la ln lc] 28)).alloc (.cells #[.int .i64 0, .int .i64 0, .string ⟨#[]⟩, .slice none 0 0, .slice none 0 0, .slice none 0 0] 28)) = wa at *
    refine HNODE.out.mono ?_
    rintro e w3 ⟨ho3, y, u, c, rfl, hy, hg3, hc0, hc1, hfit⟩
    have hsz := HSZ.out
    have hss := ho3.size
    have hgl2 := HGL.out
    obtain ⟨ua, un, uc, va, vn, vc, xa, xn, xc, rfl, -, -, -⟩ := hy.shape
    have hby := ho3.blk HBY.out (show w.heap.size + 1 ≠ G from by have := HGL.out; omega)
    have t0 := hby.thaw 0
    have t1 := hby.thaw 1
    have t2 := hby.thaw 2
    have t3 := hby.thaw 3
    have t4 := hby.thaw 4
    have t5 := hby.thaw 5
    have r0 := hby.cell 0 (.int .i64 0) rfl
    have r1 := hby.cell 1 (.int .i64 0) rfl
    have r2 := hby.cell 2 (.string ⟨#[]⟩) rfl
    have r3 := hby.cell 3 (.slice none 0 0) rfl
    have r4 := hby.cell 4 (.slice none 0 0) rfl
    have r5 := hby.cell 5 (.slice none 0 0) rfl
    have hz := store6_blk hby 0 (.int .i64 u.op) (.int .i64 u.n) (.string u.s) (.slice ua un uc) (.slice va vn vc) (.slice xa xn xc)
    rw [put6_all] at hz
    have HE := Lib.hid (show RebP N G (⟨t.op, t.n + b1, t.s, t.kind, t.names, t.l⟩ : Con) L d w (.returned (.tuple #[.agg #[.int .i64 u.op, .int .i64 u.n, .string u.s, .slice ua un uc, .slice va vn vc, .slice xa xn xc], .bool (fitB (⟨t.op, t.n + b1, t.s, t.kind, t.names, t.l⟩ : Con) L d)])) (store6 w3 (w.heap.size + 1) 0 (.int .i64 u.op) (.int .i64 u.n) (.string u.s) (.slice ua un uc) (.slice va vn vc) (.slice xa xn xc)) from by
      refine ⟨store6_only (HOW.out.trans ho3) _ _ _ _ _ _ _ _ (.inr (Nat.le_succ _)), _, u, c, rfl, ?_, hg3.of_eq (store6_other _ _ _ _ _ _ _ _ _ G (by have := HGL.out; omega)), hc0, hc1, hfit⟩
      refine (hy.keep (fun q hq => store6_other _ _ _ _ _ _ _ _ _ q (by rcases hq with hq | hq <;> omega))).mono (fun q hq => ?_)
      rcases hq with hq | hq
      · exact .inl hq
      · exact .inr ⟨by omega, by rw [store6_size]; exact hq.2⟩)
    unfold store6 at hz HE
    simp only [Nat.zero_add] at hz HE
    have z0 := hz.cell 0 (.int .i64 u.op) rfl
    have z1 := hz.cell 1 (.int .i64 u.n) rfl
    have z2 := hz.cell 2 (.string u.s) rfl
    have z3 := hz.cell 3 (.slice ua un uc) rfl
    have z4 := hz.cell 4 (.slice va vn vc) rfl
    have z5 := hz.cell 5 (.slice xa xn xc) rfl
    clear hy hg3 hfit hby hz ho3 hsz hss hgl2 HNODE HOW HBY HSZ
    generalize fitB (⟨t.op, t.n + b1, t.s, t.kind, t.names, t.l⟩ : Con) L d = r at *
    go_wp2
    refine bodyPost_ret (v := .tuple #[.agg #[.int .i64 u.op, .int .i64 u.n, .string u.s, .slice ua un uc, .slice va vn vc, .slice xa xn xc], .bool r]) (by simp [results, Tryz.results109, go_sem, z0, z1, z2, z3, z4, z5]) rfl ?_
    exact HE.out
  · have HW := Lib.hid (show shF b1 f1 t b = t from (show shF b1 f1 t b = t from if_neg h2))
    rw [HW.out]
    obtain ⟨hbx9, hby9, hb9⟩ := twoN_new w 28 28 #[.int .i64 t.op, .int .i64 (t.n), .string t.s, .slice ka kn kc, .slice na nn nc, .slice la ln lc] #[.int .i64 0, .int .i64 0, .string ⟨#[]⟩, .slice none 0 0, .slice none 0 0, .slice none 0 0]
    have HSZ := Lib.hid (show ((w.alloc (.cells #[.int .i64 t.op, .int .i64 (t.n), .string t.s, .slice ka kn kc, .slice na nn nc, .slice la ln lc] 28)).alloc (.cells #[.int .i64 0, .int .i64 0, .string ⟨#[]⟩, .slice none 0 0, .slice none 0 0, .slice none 0 0] 28)).heap.size = w.heap.size + 2 by simp)
    have hgg := hG.of_eq (hb9.block _ hG.lt)
    have HBY := Lib.hid hby9
    have HOW := Lib.hid (only_below (N := G) hb9)
    have HNODE := Lib.hid (node_leaf N G t L d ((w.alloc (.cells #[.int .i64 t.op, .int .i64 (t.n), .string t.s, .slice ka kn kc, .slice na nn nc, .slice la ln lc] 28)).alloc (.cells #[.int .i64 0, .int .i64 0, .string ⟨#[]⟩, .slice none 0 0, .slice none 0 0, .slice none 0 0] 28)) (.agg #[.int .i64 t.op, .int .i64 (t.n), .string t.s, .slice ka kn kc, .slice na nn nc, .slice la ln lc]) hN hgg ((conV_iff _ _ _ _).2 (show t.s.size ≤ maxLen ∧ ∃ kv nv lv, (.agg #[.int .i64 t.op, .int .i64 (t.n), .string t.s, .slice ka kn kc, .slice na nn nc, .slice la ln lc] : Value) = .agg #[.int .i64 t.op, .int .i64 (t.n), .string t.s, kv, nv, lv] ∧ KidV _ _ t.kind kv ∧ StrSl _ _ nv t.names ∧ ConSl _ _ lv t.l from ⟨HPRT.out.1, _, _, _, rfl, HPRT.out.2.1.keep (Same.of_below hb9 (fun q (hq : q < N) => by omega)), HPRT.out.2.2.1.keep (Same.of_below hb9 (fun q (hq : q < N) => by omega)), HPRT.out.2.2.2.keep (Same.of_below hb9 (fun q (hq : q < N) => by omega))⟩)) hkv hl0 hnl h0 h1)
    have d0 := hbx9.cell 0 (.int .i64 t.op) rfl
    have d1 := hbx9.cell 1 (.int .i64 (t.n)) rfl
    have d2 := hbx9.cell 2 (.string t.s) rfl
    have d3 := hbx9.cell 3 (.slice ka kn kc) rfl
    have d4 := hbx9.cell 4 (.slice na nn nc) rfl
    have d5 := hbx9.cell 5 (.slice la ln lc) rfl
    have hq : (t.op == 1) = false ∨ decide (f1 ≤ t.n - b) = false := by
      cases h : (t.op == 1)
      · exact .inl rfl
      · right
        rw [decide_eq_false_iff_not]
        exact fun h3 => h2 ⟨by simpa using h, h3⟩
    clear hG ht ha hs hsb hgl hlf h2 HPRT hbx9 hby9 hb9 hgg HW
    go_enter Tryz.func109, Tryz.ntmps109
    rcases hq with q1 | q2
    rotate_left
    cases q1 : (t.op == 1)
    all_goals
      go_wp2_with fail
      clear c0 c1 c2 c3 c4 c5 d0 d1 d2 d3 d4 d5 x1 x2 x3 q1 fz
      try clear q2
      generalize ((w.alloc (.cells #[.int .i64 t.op, .int .i64 t.n, .string t.s, .slice ka kn kc, .slice na nn nc, .slice la ln lc] 28)).alloc (.cells #[.int .i64 0, .int .i64 0, .string ⟨#[]⟩, .slice none 0 0, .slice none 0 0, .slice none 0 0] 28)) = wa at *
      refine HNODE.out.mono ?_
      rintro e w3 ⟨ho3, y, u, c, rfl, hy, hg3, hc0, hc1, hfit⟩
      have hsz := HSZ.out
      have hss := ho3.size
      have hgl2 := HGL.out
      obtain ⟨ua, un, uc, va, vn, vc, xa, xn, xc, rfl, -, -, -⟩ := hy.shape
      have hby := ho3.blk HBY.out (show w.heap.size + 1 ≠ G from by have := HGL.out; omega)
      have t0 := hby.thaw 0
      have t1 := hby.thaw 1
      have t2 := hby.thaw 2
      have t3 := hby.thaw 3
      have t4 := hby.thaw 4
      have t5 := hby.thaw 5
      have r0 := hby.cell 0 (.int .i64 0) rfl
      have r1 := hby.cell 1 (.int .i64 0) rfl
      have r2 := hby.cell 2 (.string ⟨#[]⟩) rfl
      have r3 := hby.cell 3 (.slice none 0 0) rfl
      have r4 := hby.cell 4 (.slice none 0 0) rfl
      have r5 := hby.cell 5 (.slice none 0 0) rfl
      have hz := store6_blk hby 0 (.int .i64 u.op) (.int .i64 u.n) (.string u.s) (.slice ua un uc) (.slice va vn vc) (.slice xa xn xc)
      rw [put6_all] at hz
      have HE := Lib.hid (show RebP N G t L d w (.returned (.tuple #[.agg #[.int .i64 u.op, .int .i64 u.n, .string u.s, .slice ua un uc, .slice va vn vc, .slice xa xn xc], .bool (fitB t L d)])) (store6 w3 (w.heap.size + 1) 0 (.int .i64 u.op) (.int .i64 u.n) (.string u.s) (.slice ua un uc) (.slice va vn vc) (.slice xa xn xc)) from by
        refine ⟨store6_only (HOW.out.trans ho3) _ _ _ _ _ _ _ _ (.inr (Nat.le_succ _)), _, u, c, rfl, ?_, hg3.of_eq (store6_other _ _ _ _ _ _ _ _ _ G (by have := HGL.out; omega)), hc0, hc1, hfit⟩
        refine (hy.keep (fun q hq => store6_other _ _ _ _ _ _ _ _ _ q (by rcases hq with hq | hq <;> omega))).mono (fun q hq => ?_)
        rcases hq with hq | hq
        · exact .inl hq
        · exact .inr ⟨by omega, by rw [store6_size]; exact hq.2⟩)
      unfold store6 at hz HE
      simp only [Nat.zero_add] at hz HE
      have z0 := hz.cell 0 (.int .i64 u.op) rfl
      have z1 := hz.cell 1 (.int .i64 u.n) rfl
      have z2 := hz.cell 2 (.string u.s) rfl
      have z3 := hz.cell 3 (.slice ua un uc) rfl
      have z4 := hz.cell 4 (.slice va vn vc) rfl
      have z5 := hz.cell 5 (.slice xa xn xc) rfl
      clear hy hg3 hfit hby hz ho3 hsz hss hgl2 HNODE HOW HBY HSZ
      generalize fitB t L d = r at *
      go_wp2
      refine bodyPost_ret (v := .tuple #[.agg #[.int .i64 u.op, .int .i64 u.n, .string u.s, .slice ua un uc, .slice va vn vc, .slice xa xn xc], .bool r]) (by simp [results, Tryz.results109, go_sem, z0, z1, z2, z3, z4, z5]) rfl ?_
      exact HE.out
end Go.Proofs.YtkjaicmfegpjdaaGreat
namespace Go.Proofs.YtkjaicmfegpjdaaGreat
open Go Go.RowKit
open Pl (K Con)
set_option linter.unusedSimpArgs false
set_option linter.unusedVariables false

/-- what is made, or nothing, with an error -/
def fitOut (x : Con) : Con × Int := if fitB x 20000 1 = true then (x, 0) else (Con.none0, 6)
def ResP (N G : Nat) (x : Con) (w : World) (e : Ending) (w' : World) : Prop :=
  Only G w w' ∧ ∃ y, e = .returned (.tuple #[y, .int .i64 (fitOut x).2]) ∧ ConV w' (Reg N w.heap.size w') (fitOut x).1 y
set_option maxRecDepth 100000 in
set_option maxHeartbeats 2000000 in
theorem result_any (N G k : Nat) (cap : Array Value) (F : Con → Int → Con) (w : World) (HC : ChangeOk N G k cap F w) (hN : N ≤ G) (t : Con) (v : Value) (ha : Con.allB t = true) (hG : Blk w G 135 #[.int .i64 20000]) (ht : ConV w (· < N) t v) :
    Calls Tryz.prog 60 #[.pointer (some ⟨G, 0, none⟩), v, .func (.func k) #[] cap] w (ResP N G (Con.reb F t 0) w) := by
  have hgl := hG.lt
  have HGL := Lib.hid hgl
  have HREB := Lib.hid (fun W (hW : Only G w W) (hg : Blk W G 135 #[.int .i64 20000]) => rebuilt_any N G k cap F w HC hN t ha 20000 1 0 W v hW hg (ht.keep (Same.of_only hW (fun q (hq : q < N) => ⟨by omega, by omega⟩))) (by omega) (by omega) (by omega) (by omega) (by omega) (by omega))
  obtain ⟨ka, kn, kc, na, nn, nc, la, ln, lc, rfl, -, -, -⟩ := ht.shape
  obtain ⟨hbx, hbx2, hb⟩ := twoN_new w 28 28 #[.int .i64 t.op, .int .i64 t.n, .string t.s, .slice ka kn kc, .slice na nn nc, .slice la ln lc] #[.int .i64 0, .int .i64 0, .string ⟨#[]⟩, .slice none 0 0, .slice none 0 0, .slice none 0 0]
  have HSZ := Lib.hid (show ((w.alloc (.cells #[.int .i64 t.op, .int .i64 t.n, .string t.s, .slice ka kn kc, .slice na nn nc, .slice la ln lc] 28)).alloc (.cells #[.int .i64 0, .int .i64 0, .string ⟨#[]⟩, .slice none 0 0, .slice none 0 0, .slice none 0 0] 28)).heap.size = w.heap.size + 2 by simp)
  have HG := Lib.hid (hG.of_eq (hb.block _ hG.lt))
  have HBX2 := Lib.hid hbx2
  have HO := Lib.hid (only_below (N := G) hb)
  have c0 := hbx.cell 0 (.int .i64 t.op) rfl
  have c1 := hbx.cell 1 (.int .i64 t.n) rfl
  have c2 := hbx.cell 2 (.string t.s) rfl
  have c3 := hbx.cell 3 (.slice ka kn kc) rfl
  have c4 := hbx.cell 4 (.slice na nn nc) rfl
  have c5 := hbx.cell 5 (.slice la ln lc) rfl
  have HOUT := Lib.hid (show fitOut (Con.reb F t 0) = if fitB (Con.reb F t 0) 20000 1 = true then (Con.reb F t 0, 0) else (Con.none0, 6) from rfl)
  generalize Con.reb F t 0 = want at *
  clear hbx hbx2 hb hG ht HC hgl
  go_enter Tryz.func60, Tryz.ntmps60
  go_wp2_with fail
  clear c0 c1 c2 c3 c4 c5
  generalize ((w.alloc (.cells #[.int .i64 t.op, .int .i64 t.n, .string t.s, .slice ka kn kc, .slice na nn nc, .slice la ln lc] 28)).alloc (.cells #[.int .i64 0, .int .i64 0, .string ⟨#[]⟩, .slice none 0 0, .slice none 0 0, .slice none 0 0] 28)) = wa at *
  refine (HREB.out _ HO.out HG.out).mono ?_
  rintro e w3 ⟨ho3, y, u, c, rfl, hy, -, hc0, hc1, hfit⟩
  have hsz := HSZ.out
  have hss := ho3.size
  obtain ⟨ua, un, uc, va, vn, vc, xa, xn, xc, rfl, -, -, -⟩ := hy.shape
  have hby := (ho3.blk HBX2.out (show w.heap.size + 1 ≠ G from by have := HGL.out; omega)).alloc (.cells #[.int .i64 u.op, .int .i64 u.n, .string u.s, .slice ua un uc, .slice va vn vc, .slice xa xn xc] 28)
  have hbr := blk_new w3 #[.int .i64 u.op, .int .i64 u.n, .string u.s, .slice ua un uc, .slice va vn vc, .slice xa xn xc] 28
  have ho4 := (HO.out.trans ho3).alloc (.cells #[.int .i64 u.op, .int .i64 u.n, .string u.s, .slice ua un uc, .slice va vn vc, .slice xa xn xc] 28)
  have hy4 : ConV (w3.alloc (.cells #[.int .i64 u.op, .int .i64 u.n, .string u.s, .slice ua un uc, .slice va vn vc, .slice xa xn xc] 28)) (Reg N w.heap.size w3) u (.agg #[.int .i64 u.op, .int .i64 u.n, .string u.s, .slice ua un uc, .slice va vn vc, .slice xa xn xc]) := (hy.keep (fun q hq => Below.heap_alloc w3 _ q (by rcases hq with hq | hq <;> have := HGL.out <;> omega))).mono (fun q hq => by
    rcases hq with hq | hq
    · exact .inl hq
    · exact .inr ⟨by omega, hq.2⟩)
  have hsz4 : w3.heap.size + 1 = (w3.alloc (.cells #[.int .i64 u.op, .int .i64 u.n, .string u.s, .slice ua un uc, .slice va vn vc, .slice xa xn xc] 28)).heap.size := by simp
  have p0 := hbr.cell 0 (.int .i64 u.op) rfl
  have p1 := hbr.cell 1 (.int .i64 u.n) rfl
  have p2 := hbr.cell 2 (.string u.s) rfl
  have p3 := hbr.cell 3 (.slice ua un uc) rfl
  have p4 := hbr.cell 4 (.slice va vn vc) rfl
  have p5 := hbr.cell 5 (.slice xa xn xc) rfl
  have t0 := hby.thaw 0
  have t1 := hby.thaw 1
  have t2 := hby.thaw 2
  have t3 := hby.thaw 3
  have t4 := hby.thaw 4
  have t5 := hby.thaw 5
  have r0 := hby.cell 0 (.int .i64 0) rfl
  have r1 := hby.cell 1 (.int .i64 0) rfl
  have r2 := hby.cell 2 (.string ⟨#[]⟩) rfl
  have r3 := hby.cell 3 (.slice none 0 0) rfl
  have r4 := hby.cell 4 (.slice none 0 0) rfl
  have r5 := hby.cell 5 (.slice none 0 0) rfl
  generalize hr : fitB want 20000 1 = r at *
  cases r
  · have HO2 := Lib.hid (show fitOut want = (Con.none0, 6) from by rw [HOUT.out]; rfl)
    have hz := store6_blk hby 0 (.int .i64 0) (.int .i64 0) (.string ⟨#[]⟩) (.slice none 0 0) (.slice none 0 0) (.slice none 0 0)
    rw [put6_all] at hz
    have HE := Lib.hid (show ResP N G want w (.returned (.tuple #[.agg #[.int .i64 0, .int .i64 0, .string ⟨#[]⟩, .slice none 0 0, .slice none 0 0, .slice none 0 0], .int .i64 6])) (store6 (w3.alloc (.cells #[.int .i64 u.op, .int .i64 u.n, .string u.s, .slice ua un uc, .slice va vn vc, .slice xa xn xc] 28)) (w.heap.size + 1) 0 (.int .i64 0) (.int .i64 0) (.string ⟨#[]⟩) (.slice none 0 0) (.slice none 0 0) (.slice none 0 0)) from ⟨store6_only ho4 _ _ _ _ _ _ _ _ (.inr (Nat.le_succ _)), _, by rw [HO2.out], by rw [HO2.out]; exact conV_none _ _⟩)
    unfold store6 at hz HE
    simp only [Nat.zero_add] at hz HE
    have z0 := hz.cell 0 (.int .i64 0) rfl
    have z1 := hz.cell 1 (.int .i64 0) rfl
    have z2 := hz.cell 2 (.string ⟨#[]⟩) rfl
    have z3 := hz.cell 3 (.slice none 0 0) rfl
    have z4 := hz.cell 4 (.slice none 0 0) rfl
    have z5 := hz.cell 5 (.slice none 0 0) rfl
    clear hy hfit hby hbr ho3 hsz hss hz ho4 hy4 hsz4 HREB HO HG HBX2 HSZ
    go_wp2
    refine bodyPost_ret (v := .tuple #[.agg #[.int .i64 0, .int .i64 0, .string ⟨#[]⟩, .slice none 0 0, .slice none 0 0, .slice none 0 0], .int .i64 6]) (by simp [results, Tryz.results60, go_sem, z0, z1, z2, z3, z4, z5]) rfl ?_
    exact HE.out
  · have HO2 := Lib.hid (show fitOut want = (want, 0) from by rw [HOUT.out]; rfl)
    have hu : u = want := (hfit rfl).1
    have hz := store6_blk hby 0 (.int .i64 u.op) (.int .i64 u.n) (.string u.s) (.slice ua un uc) (.slice va vn vc) (.slice xa xn xc)
    rw [put6_all] at hz
    have HE := Lib.hid (show ResP N G want w (.returned (.tuple #[.agg #[.int .i64 u.op, .int .i64 u.n, .string u.s, .slice ua un uc, .slice va vn vc, .slice xa xn xc], .int .i64 0])) (store6 (w3.alloc (.cells #[.int .i64 u.op, .int .i64 u.n, .string u.s, .slice ua un uc, .slice va vn vc, .slice xa xn xc] 28)) (w.heap.size + 1) 0 (.int .i64 u.op) (.int .i64 u.n) (.string u.s) (.slice ua un uc) (.slice va vn vc) (.slice xa xn xc)) from by
      refine ⟨store6_only ho4 _ _ _ _ _ _ _ _ (.inr (Nat.le_succ _)), _, by rw [HO2.out], ?_⟩
      rw [HO2.out]
      show ConV _ _ want _
      rw [← hu]
      have hby2 := HBX2.out.lt
      refine (hy.keep (fun q hq => ?_)).mono (fun q hq => ?_)
      · rw [store6_other _ _ _ _ _ _ _ _ _ q (by rcases hq with hq | hq <;> have := HGL.out <;> omega)]
        exact Below.heap_alloc w3 _ q (by rcases hq with hq | hq <;> have := HGL.out <;> omega)
      · rcases hq with hq | hq
        · exact .inl hq
        · exact .inr ⟨by omega, by rw [store6_size, ← hsz4]; have := hq.2; omega⟩)
    unfold store6 at hz HE
    simp only [Nat.zero_add] at hz HE
    have z0 := hz.cell 0 (.int .i64 u.op) rfl
    have z1 := hz.cell 1 (.int .i64 u.n) rfl
    have z2 := hz.cell 2 (.string u.s) rfl
    have z3 := hz.cell 3 (.slice ua un uc) rfl
    have z4 := hz.cell 4 (.slice va vn vc) rfl
    have z5 := hz.cell 5 (.slice xa xn xc) rfl
    clear hy hfit hby hbr ho3 hsz hss hz ho4 hy4 hsz4 hu HREB HO HG HBX2 HSZ
    go_wp2
    refine bodyPost_ret (v := .tuple #[.agg #[.int .i64 u.op, .int .i64 u.n, .string u.s, .slice ua un uc, .slice va vn vc, .slice xa xn xc], .int .i64 0]) (by simp [results, Tryz.results60, go_sem, z0, z1, z2, z3, z4, z5]) rfl ?_
    exact HE.out
theorem newBuilder_any (w : World) : Calls Tryz.prog 59 #[] w fun e w' => e = .returned (.pointer (some ⟨w.heap.size, 0, none⟩)) ∧ w' = w.alloc (.cells #[.int .i64 20000] 135) := by
  go_enter Tryz.func59, Tryz.ntmps59
  go_wp2
  go_ret
  exact ⟨rfl, rfl⟩
/-- the closure of a shift -/
def shiftV (g1 g2 g3 : Nat) : Array Value := #[.pointer (some ⟨g1, 0, none⟩), .pointer (some ⟨g2, 0, none⟩), .pointer (some ⟨g3, 0, none⟩)]
theorem shifting_any (G : Nat) (b f : Int) (w : World) :
    Calls Tryz.prog 61 #[.pointer (some ⟨G, 0, none⟩), .int .i64 b, .int .i64 f] w fun e w' => (∃ g1 g2 g3, e = .returned (.func (.func 109) #[] #[.pointer (some ⟨g1, 0, none⟩), .pointer (some ⟨g2, 0, none⟩), .pointer (some ⟨g3, 0, none⟩)]) ∧ ShiftBoxes w' g1 g2 g3 G b f ∧ w.heap.size ≤ g1 ∧ w.heap.size ≤ g2 ∧ w.heap.size ≤ g3) ∧ Below w.heap.size w w' := by
  obtain ⟨h1, hb1⟩ := boxN_new w 88 #[.pointer (some ⟨G, 0, none⟩)]
  obtain ⟨h2, hb2⟩ := boxN_new (w.alloc (.cells #[.pointer (some ⟨G, 0, none⟩)] 88)) 3 #[.int .i64 b]
  obtain ⟨h3, hb3⟩ := boxN_new ((w.alloc (.cells #[.pointer (some ⟨G, 0, none⟩)] 88)).alloc (.cells #[.int .i64 b] 3)) 3 #[.int .i64 f]
  have k1 := (h1.alloc (.cells #[.int .i64 b] 3)).alloc (.cells #[.int .i64 f] 3)
  have k2 := h2.alloc (.cells #[.int .i64 f] 3)
  have hbb := belowStep hb3 (belowStep hb2 hb1)
  rw [size_alloc] at k2
  rw [size_alloc, size_alloc] at h3
  have HE := Lib.hid (show ShiftBoxes (((w.alloc (.cells #[.pointer (some ⟨G, 0, none⟩)] 88)).alloc (.cells #[.int .i64 b] 3)).alloc (.cells #[.int .i64 f] 3)) (w.heap.size + 1 + 1) (w.heap.size + 1) w.heap.size G b f from ⟨h3, k2, k1⟩)
  have HB := Lib.hid hbb
  clear h1 h2 h3 hb1 hb2 hb3 k1 k2 hbb
  go_enter Tryz.func61, Tryz.ntmps61
  go_wp2
  go_ret
  exact ⟨⟨_, _, _, rfl, HE.out, by omega, by omega, Nat.le_refl _⟩, HB.out⟩
/-- a shift is a change -/
theorem shift_change (N G g1 g2 g3 : Nat) (b f : Int) (w : World) (hN : N ≤ G) (hs : ShiftBoxes w g1 g2 g3 G b f) (h1 : g1 ≠ G) (h2 : g2 ≠ G) (h3 : g3 ≠ G) (hb1 : -1000000 ≤ b ∧ b ≤ 1000000) (hf1 : -9223372036854775808 ≤ f ∧ f ≤ 9223372036854775807) :
    ChangeOk N G 109 #[.pointer (some ⟨g1, 0, none⟩), .pointer (some ⟨g2, 0, none⟩), .pointer (some ⟨g3, 0, none⟩)] (shF b f) w :=
  ⟨fun _ _ => by kernel_rfl, fun W t v b2 d L hW hg h0 h1' hb0 hbd hd0 hd1 hlf ha ht => shiftF_any N G g1 g2 g3 b f t b2 d L W v hN ⟨hW.blk hs.frm h1, hW.blk hs.bys h2, hW.blk hs.bld h3⟩ hg ht ha hlf hb1 hf1 h0 h1' hb0 (by omega) hd1⟩
end Go.Proofs.YtkjaicmfegpjdaaGreat
