/-
  Layer 9: several texts in one (Se Sm Sn).
-/
import Derived.Test.YtkjaicmfegpjdaaGreatHi
import Derived.Test.YtkjaicmfegpjdaaGreatHf
import Derived.Test.YtkjaicmfegpjdaaGreatQl
import Derived.Test.YtkjaicmfegpjdaaGreatHg
import Derived.Test.YtkjaicmfegpjdaaGreatHa
import Derived.Deep.RegionHeld3
namespace Go.Proofs.YtkjaicmfegpjdaaGreat
open Go Go.RowKit
open Pl (K Con)
set_option linter.unusedSimpArgs false
set_option linter.unusedVariables false

set_option maxRecDepth 100000 in
set_option maxHeartbeats 4000000 in
theorem rsubst_any (P : Nat → Prop) (ts : List Con) (hts : ∀ x ∈ ts, Con.allB x = true) (t : Con) : Con.allB t = true → ∀ (d : Int) (w : World) (v xv : Value), (∀ q, P q → q < w.heap.size) → ConV w P t v → ConSl w P xv ts → 0 ≤ d → d + t.depth ≤ 100000 →
    Calls Tryz.prog 72 #[v, xv, .int .i64 d] w (RcP P (Con.subst ts t d) w) := by
  induction t using Con.ind with
  | h t ih =>
  intro hall d w v xv hP ht hl hd0 hd1
  have hnode : Con.nodeB t = true := by rw [allB_eq, Bool.and_eq_true] at hall; exact hall.1
  have hnn := nodeB_n t hnode
  have hdpos := Con.depth_pos t
  have hdi : d ≤ 100000 := by omega
  have HIH := Lib.hid (fun (i : Nat) (hi : i < t.l.length) (g : Int) (W : World) (x : Value) (h1 : ∀ q, P q → q < W.heap.size) (h2 : ConV W P t.l[i] x) (h2' : ConSl W P xv ts) (h3 : 0 ≤ g) (h4 : g ≤ d + 1) => ih t.l[i] (List.getElem_mem hi) (allB_part hall hi) g W x xv h1 h2 h2' h3 (by have := depth_part (List.getElem_mem hi); omega))
  have HCV := Lib.hid (fun W (hW : Same P w W) => ht.keep hW)
  have HCL := Lib.hid (fun W (hW : Same P w W) => hl.keep hW)
  have HP := Lib.hid hP
  obtain ⟨ka, kn, kc, na, nn, nc, la, ln, lc, rfl, -, -, hln⟩ := ht.shape
  obtain ⟨ea, ec, rfl, hel, hem, -⟩ := hl.each
  have HLN := Lib.hid hln
  obtain ⟨m, hm⟩ : ∃ m, m = ts.length := ⟨_, rfl⟩
  have hm63 : m ≤ 9223372036854775807 := by unfold maxLen at hem; omega
  obtain ⟨op, hop⟩ : ∃ op, op = t.op := ⟨_, rfl⟩
  obtain ⟨num, hnum⟩ : ∃ num, num = t.n := ⟨_, rfl⟩
  obtain ⟨s, hs⟩ : ∃ s, s = t.s := ⟨_, rfl⟩
  have HM := Lib.hid hm
  have HSV := Lib.hid (show op = 1 → Con.subst ts t d = if num < d then t else if num - d < (m : Int) then Con.shift d (ts.getD (num - d).toNat Con.none0) 0 else Con.var (num - (m : Int)) from fun h => by rw [Con.subst_var _ _ t (by rw [← hop]; exact h), hnum, hm])
  have HSN := Lib.hid (show op ≠ 1 → Con.subst ts t d = Con.inside t (t.l.map (fun x => Con.subst ts x (Con.deep t.op d))) from fun h => Con.subst_node ts d t (by rw [← hop]; exact h))
  rw [← hm] at HCL HIH
  rw [← hop, ← hnum, ← hs] at HCV ⊢
  rw [← hm]
  rw [← hnum] at hnn
  have hllen := (node_facts t hnode).2.2
  clear hop hnum hs hln ih hnode hall hl hm hem hel hd1 hdpos
  have hbx := boxN_new w 28 #[.int .i64 op, .int .i64 num, .string s, .slice ka kn kc, .slice na nn nc, .slice la ln lc]
  have hr0 := boxN_new (w.alloc (.cells #[.int .i64 op, .int .i64 num, .string s, .slice ka kn kc, .slice na nn nc, .slice la ln lc] 28)) 28 #[.int .i64 0, .int .i64 0, .string ⟨#[]⟩, .slice none 0 0, .slice none 0 0, .slice none 0 0]
  have hr1 := hr0.1
  rw [size_alloc] at hr1
  have HBX := Lib.hid (hbx.1.alloc (.cells #[.int .i64 0, .int .i64 0, .string ⟨#[]⟩, .slice none 0 0, .slice none 0 0, .slice none 0 0] 28))
  have HRX := Lib.hid hr1
  have HB := Lib.hid (belowStep hr0.2 hbx.2)
  clear hbx hr0 hr1 ht hP
  by_cases h1 : op = 1
  · have q1 : (op == 1) = true := by rw [h1]; rfl
    have HV := Lib.hid (HSV.out h1)
    clear HSV HSN HIH h1
    by_cases h2 : num < d
    · have q2 : decide (num < d) = true := decide_eq_true h2
      have HV2 := Lib.hid (show Con.subst ts t d = t from by rw [HV.out, if_pos h2])
      have hr := boxN_new (w.alloc (.cells #[.int .i64 op, .int .i64 num, .string s, .slice ka kn kc, .slice na nn nc, .slice la ln lc] 28)) 28 #[.int .i64 op, .int .i64 num, .string s, .slice ka kn kc, .slice na nn nc, .slice la ln lc]
      have hr1 := hr.1
      rw [size_alloc] at hr1
      have d0 := hr1.cell 0 (.int .i64 op) rfl
      have d1 := hr1.cell 1 (.int .i64 num) rfl
      have d2 := hr1.cell 2 (.string s) rfl
      have d3 := hr1.cell 3 (.slice ka kn kc) rfl
      have d4 := hr1.cell 4 (.slice na nn nc) rfl
      have d5 := hr1.cell 5 (.slice la ln lc) rfl
      have HB9 := Lib.hid (belowStep hr.2 (boxN_new w 28 #[.int .i64 op, .int .i64 num, .string s, .slice ka kn kc, .slice na nn nc, .slice la ln lc]).2)
      clear hr hr1 HV
      have c0 := HBX.out.cell 0 (.int .i64 op) rfl
      have c1 := HBX.out.cell 1 (.int .i64 num) rfl
      have c2 := HBX.out.cell 2 (.string s) rfl
      have c3 := HBX.out.cell 3 (.slice ka kn kc) rfl
      have c4 := HBX.out.cell 4 (.slice na nn nc) rfl
      have c5 := HBX.out.cell 5 (.slice la ln lc) rfl
      go_enter Tryz.func72, Tryz.ntmps72
      go_wp2
      refine bodyPost_ret (v := .agg #[.int .i64 op, .int .i64 num, .string s, .slice ka kn kc, .slice na nn nc, .slice la ln lc]) (by simp [results, Tryz.results72, go_sem, d0, d1, d2, d3, d4, d5]) rfl ?_
      rw [HV2.out]
      exact ⟨⟨_, rfl, (HCV.out _ (fun q hq => HB9.out.block q (HP.out q hq))).mono (fun q hq => .inl hq)⟩, HB9.out⟩
    have q2 : decide (num < d) = false := decide_eq_false h2
    by_cases h3 : num - d < (m : Int)
    · obtain ⟨j, hj⟩ : ∃ j : Nat, num - d = (j : Int) := ⟨(num - d).toNat, by omega⟩
      have hjm : j < m := by omega
      have q3 : decide ((j : Int) < (m : Int)) = true := decide_eq_true (by omega)
      have q4 : decide ((j : Int) < 0) = false := decide_eq_false (by omega)
      have q5 : decide ((m : Int) ≤ (j : Int)) = false := decide_eq_false (by omega)
      have hjl : j < ts.length := by rw [← HM.out]; exact hjm
      have HV2 := Lib.hid (show Con.subst ts t d = Con.shift d ts[j] 0 from by
        rw [HV.out, if_neg h2, if_pos h3, show (num - d).toNat = j from by omega, List.getD_eq_getElem?_getD, List.getElem?_eq_getElem hjl]
        rfl)
      go_enter Tryz.func72, Tryz.ntmps72
      have c0 := HBX.out.cell 0 (.int .i64 op) rfl
      have c1 := HBX.out.cell 1 (.int .i64 num) rfl
      have c2 := HBX.out.cell 2 (.string s) rfl
      have c3 := HBX.out.cell 3 (.slice ka kn kc) rfl
      have c4 := HBX.out.cell 4 (.slice na nn nc) rfl
      have c5 := HBX.out.cell 5 (.slice la ln lc) rfl
      go_upto_region 2 with fail
      generalize hw1 : (w.alloc (.cells #[.int .i64 op, .int .i64 num, .string s, .slice ka kn kc, .slice na nn nc, .slice la ln lc] 28)).alloc (.cells #[.int .i64 0, .int .i64 0, .string ⟨#[]⟩, .slice none 0 0, .slice none 0 0, .slice none 0 0] 28) = w1 at *
      have HSZ := Lib.hid (show w1.heap.size = w.heap.size + 2 from by rw [← hw1, size_alloc, size_alloc])
      clear hw1
      obtain ⟨eb, off, c', ya, yn, yc, za, zn, zc, pa, pn, pc, e, hpb, f0, f1, f2, f3, f4, f5, hx⟩ := (HCL.out w1 (fun q hq => HB.out.block q (HP.out q hq))).part j hjl
      injection e with e1 e2 e3
      subst e1 e3
      clear e2
      have HSF := Lib.hid (rshift_any P ts[j] d (by omega) (by omega) (hts _ (List.getElem_mem hjl)) 0 w1 _ (fun q hq => Nat.lt_of_lt_of_le (HP.out q hq) HB.out.size) hx (by omega) (by omega))
      rw [← HV2.out] at HSF
      have hwr : IntKind.i64.wrap (num - d) = (j : Int) := by rw [IntKind.wrap_i64]; omega
      obtain ⟨u, hu⟩ : ∃ u, u = ts[j] := ⟨_, rfl⟩
      rw [← hu] at HSF f0 f1 f2
      clear hx hu HV2 HV h2 h3
      generalize u.op = op2 at *
      generalize u.n = num2 at *
      generalize u.s = s2 at *
      go_wp2_with fail
      clear c0 c1 c2 c3 c4 c5 f0 f1 f2 f3 f4 f5
      refine HSF.out.mono ?_
      rintro e wq ⟨⟨yv, rfl, hy⟩, hbq⟩
      obtain ⟨ua, un, uc, va, vn, vc, xa, xn, xc, hyv, -, -, -⟩ := hy.shape
      subst hyv
      generalize Con.subst ts t d = z at *
      have hzr := HRX.out.of_eq (hbq.block _ HRX.out.lt)
      have HBR := HB
      have HIN := True.intro
      have hy := hy.mono (Q := fun q => P q ∨ (w1.heap.size ≤ q ∧ q < wq.heap.size)) (fun q hq => hq)
      have HWB := True.intro
      have t0 := hzr.thaw 0
      have t1 := hzr.thaw 1
      have t2 := hzr.thaw 2
      have t3 := hzr.thaw 3
      have t4 := hzr.thaw 4
      have t5 := hzr.thaw 5
      have r0 := hzr.cell 0 (.int .i64 0) rfl
      have r1 := hzr.cell 1 (.int .i64 0) rfl
      have r2 := hzr.cell 2 (.string ⟨#[]⟩) rfl
      have r3 := hzr.cell 3 (.slice none 0 0) rfl
      have r4 := hzr.cell 4 (.slice none 0 0) rfl
      have r5 := hzr.cell 5 (.slice none 0 0) rfl
      have hz := store6_blk hzr 0 (.int .i64 z.op) (.int .i64 z.n) (.string z.s) (.slice ua un uc) (.slice va vn vc) (.slice xa xn xc)
      rw [put6_all] at hz
      have HE := Lib.hid (show RcP P z w (.returned (.agg #[.int .i64 z.op, .int .i64 z.n, .string z.s, .slice ua un uc, .slice va vn vc, .slice xa xn xc])) (store6 wq (w.heap.size + 1) 0 (.int .i64 z.op) (.int .i64 z.n) (.string z.s) (.slice ua un uc) (.slice va vn vc) (.slice xa xn xc)) from
        ⟨⟨_, rfl, (hy.keep (fun q hq => store6_other _ _ _ _ _ _ _ _ _ q (by
          have := HSZ.out
          rcases hq with hq | hq
          · have := HP.out q hq; omega
          · omega))).mono (fun q hq => by
          rcases hq with hq | hq
          · exact .inl hq
          · exact .inr ⟨by have := HSZ.out; omega, by rw [store6_size]; have := hbq.size; omega⟩)⟩, store6_below (belowStep hbq HBR.out) _ _ _ _ _ _ _ _ (Nat.le_succ _)⟩)
      unfold store6 at hz HE
      simp only [Nat.zero_add] at hz HE
      have z0 := hz.cell 0 (.int .i64 z.op) rfl
      have z1 := hz.cell 1 (.int .i64 z.n) rfl
      have z2 := hz.cell 2 (.string z.s) rfl
      have z3 := hz.cell 3 (.slice ua un uc) rfl
      have z4 := hz.cell 4 (.slice va vn vc) rfl
      have z5 := hz.cell 5 (.slice xa xn xc) rfl
      clear hy hzr hz hbq HIN
      go_wp2
      refine bodyPost_ret (v := .agg #[.int .i64 z.op, .int .i64 z.n, .string z.s, .slice ua un uc, .slice va vn vc, .slice xa xn xc]) (by simp [results, Tryz.results72, go_sem, z0, z1, z2, z3, z4, z5]) rfl ?_
      exact HE.out
    · have q3 : decide (num - d < (m : Int)) = false := decide_eq_false h3
      have HV2 := Lib.hid (show Con.subst ts t d = ⟨1, num - (m : Int), ByteArray.empty, .mk [], [], []⟩ from by rw [HV.out, if_neg h2, if_neg h3]; rfl)
      have hwr : IntKind.i64.wrap (num - d) = num - d := by rw [IntKind.wrap_i64]; omega
      have hwr2 : IntKind.i64.wrap (num - (m : Int)) = num - (m : Int) := by rw [IntKind.wrap_i64]; omega
      have hr := boxN_new (w.alloc (.cells #[.int .i64 op, .int .i64 num, .string s, .slice ka kn kc, .slice na nn nc, .slice la ln lc] 28)) 28 #[.int .i64 1, .int .i64 (num - (m : Int)), .string ⟨#[]⟩, .slice none 0 0, .slice none 0 0, .slice none 0 0]
      have hr1 := hr.1
      rw [size_alloc] at hr1
      have d0 := hr1.cell 0 (.int .i64 1) rfl
      have d1 := hr1.cell 1 (.int .i64 (num - (m : Int))) rfl
      have d2 := hr1.cell 2 (.string ⟨#[]⟩) rfl
      have d3 := hr1.cell 3 (.slice none 0 0) rfl
      have d4 := hr1.cell 4 (.slice none 0 0) rfl
      have d5 := hr1.cell 5 (.slice none 0 0) rfl
      have HB9 := Lib.hid (belowStep hr.2 (boxN_new w 28 #[.int .i64 op, .int .i64 num, .string s, .slice ka kn kc, .slice na nn nc, .slice la ln lc]).2)
      clear hr hr1 HV
      have c0 := HBX.out.cell 0 (.int .i64 op) rfl
      have c1 := HBX.out.cell 1 (.int .i64 num) rfl
      have c2 := HBX.out.cell 2 (.string s) rfl
      have c3 := HBX.out.cell 3 (.slice ka kn kc) rfl
      have c4 := HBX.out.cell 4 (.slice na nn nc) rfl
      have c5 := HBX.out.cell 5 (.slice la ln lc) rfl
      go_enter Tryz.func72, Tryz.ntmps72
      go_wp2
      refine bodyPost_ret (v := .agg #[.int .i64 1, .int .i64 (num - (m : Int)), .string ⟨#[]⟩, .slice none 0 0, .slice none 0 0, .slice none 0 0]) (by simp [results, Tryz.results72, go_sem, d0, d1, d2, d3, d4, d5]) rfl ?_
      rw [HV2.out]
      exact ⟨⟨_, rfl, conV_lf 1 (num - (m : Int)) _ _⟩, HB9.out⟩
  have q1 : (op == 1) = false := by simpa using h1
  have HV := Lib.hid (HSN.out h1)
  clear HSV HSN
  have c0 := HBX.out.cell 0 (.int .i64 op) rfl
  have c1 := HBX.out.cell 1 (.int .i64 num) rfl
  have c2 := HBX.out.cell 2 (.string s) rfl
  have c3 := HBX.out.cell 3 (.slice ka kn kc) rfl
  have c4 := HBX.out.cell 4 (.slice na nn nc) rfl
  have c5 := HBX.out.cell 5 (.slice la ln lc) rfl
  go_enter Tryz.func72, Tryz.ntmps72
  go_upto_region 1 with fail
  generalize hw1 : (w.alloc (.cells #[.int .i64 op, .int .i64 num, .string s, .slice ka kn kc, .slice na nn nc, .slice la ln lc] 28)).alloc (.cells #[.int .i64 0, .int .i64 0, .string ⟨#[]⟩, .slice none 0 0, .slice none 0 0, .slice none 0 0] 28) = w1 at *
  have HSZ := Lib.hid (show w1.heap.size = w.heap.size + 2 from by rw [← hw1, size_alloc, size_alloc])
  clear hw1
  go_upto_region 9 with fail
  clear c0 c1 c2 c3 c4 c5 q1
  obtain ⟨dp, hdp⟩ : ∃ dp, dp = Con.deep t.op d := ⟨_, rfl⟩
  have hdp2 : 0 ≤ dp ∧ dp ≤ d + 1 := by have := Con.deep_le t.op d; omega
  have HDP := Lib.hid (fun W (hW : Same P w W) => (rdeep_any P t d W (.agg #[.int .i64 op, .int .i64 num, .string s, .slice ka kn kc, .slice na nn nc, .slice la ln lc]) (HCV.out W hW) (by omega) (by omega)))
  rw [← hdp] at HDP
  rw [← hdp] at HV
  clear hdp
  obtain ⟨F, hF⟩ : ∃ F : Con → Con, F = fun x => Con.subst ts x dp := ⟨_, rfl⟩
  have HV2 := Lib.hid (show Con.subst ts t d = Con.inside t (t.l.map F) from by rw [HV.out, hF])
  replace HIH := Lib.hid (fun (i : Nat) (hi : i < t.l.length) (W : World) (x : Value) (h1 : ∀ q, P q → q < W.heap.size) (h2 : ConV W P t.l[i] x) (h2' : ConSl W P (.slice ea m ec) ts) => (show Calls Tryz.prog 72 #[x, .slice ea m ec, .int .i64 dp] W (RcP P (F t.l[i]) W) from by rw [hF]; exact HIH.out i hi dp W x h1 h2 h2' hdp2.1 hdp2.2))
  clear HV hF
  obtain ⟨iC, ci0, ci1, ci2, ci3⟩ := info_parts infoCon
  go_loopg [7, 8] (ln + 1) (fun gk sl i wr => ∃ (k : Nat) (us : List Value), k ≤ ln ∧ i = .int .i64 k ∧ gk = ln + 1 - k ∧ CB P w1.heap.size wr ((t.l.take k).map F) us sl ∧ Below w1.heap.size w1 wr)
  case atStart => exact ⟨0, [], Nat.zero_le _, rfl, by omega, by rw [List.take_zero]; exact CB.nil _ _ _, Below.refl _ _⟩
  case round =>
    obtain ⟨k, us, hk, rfl, hgk, hcb, hbw⟩ := hrel
    have HCB := Lib.hid hcb
    have HBW := Lib.hid hbw
    replace HBX := Lib.hid (HBX.out.of_eq (hbw.block _ HBX.out.lt))
    replace HRX := Lib.hid (HRX.out.of_eq (hbw.block _ HRX.out.lt))
    have HPR := Lib.hid (fun q (hq : P q) => (show q < wr.heap.size from Nat.lt_of_lt_of_le (HP.out q hq) (Nat.le_trans HB.out.size hbw.size)))
    have HSR := Lib.hid (show Same P w wr from fun q hq => (hbw.block q (by have := HP.out q hq; have := HSZ.out; omega)).trans (HB.out.block q (HP.out q hq)))
    clear hcb hbw
    by_cases hlt : k < ln
    · have hkl : k < t.l.length := by rw [← HLN.out]; exact hlt
      have q5 : decide ((k : Int) < (ln : Int)) = true := decide_eq_true (by omega)
      have q6 : decide ((k : Int) < 0) = false := decide_eq_false (by omega)
      have q7 : decide ((ln : Int) ≤ (k : Int)) = false := decide_eq_false (by omega)
      obtain ⟨eb, off, c', ya, yn, yc, za, zn, zc, pa, pn, pc, e, hpb, f0, f1, f2, f3, f4, f5, hx⟩ := (con_list (HCV.out wr HSR.out)).part k hkl
      injection e with e1 e2 e3
      subst e1 e3
      clear e2
      have HSF := Lib.hid (fun W (hW : Below wr.heap.size wr W) => HIH.out k hkl W _ (fun q hq => Nat.lt_of_lt_of_le (HPR.out q hq) hW.size) (hx.keep (Same.of_below hW HPR.out)) (HCL.out W (fun q hq => (hW.block q (HPR.out q hq)).trans (HSR.out q hq))))
      have HTK := Lib.hid (show (t.l.take (k + 1)).map F = (t.l.take k).map F ++ [F t.l[k]] from by rw [List.take_succ_eq_append_getElem hkl, List.map_append]; rfl)
      obtain ⟨u, hu⟩ : ∃ u, u = t.l[k] := ⟨_, rfl⟩
      rw [← hu] at HSF HTK f0 f1 f2
      clear hx hu
      obtain ⟨op2, hop2⟩ : ∃ op2, op2 = u.op := ⟨_, rfl⟩
      obtain ⟨num2, hnum2⟩ : ∃ num2, num2 = u.n := ⟨_, rfl⟩
      obtain ⟨s2, hs2⟩ : ∃ s2, s2 = u.s := ⟨_, rfl⟩
      rw [← hop2] at f0 HSF
      rw [← hnum2] at f1 HSF
      rw [← hs2] at f2 HSF
      clear hop2 hnum2 hs2
      have hLk : k = ((t.l.take k).map F).length := by rw [List.length_map, List.length_take]; omega
      obtain ⟨L, hL⟩ : ∃ L, L = (t.l.take k).map F := ⟨_, rfl⟩
      rw [← hL] at HTK HCB hLk
      have HLK := Lib.hid hLk
      clear hLk hL
      obtain ⟨sa, sc, hsv⟩ := row_form6 HCB.out.row
      subst hsv
      rw [← HLK.out] at HCB ⊢
      have HEL := Lib.hid (show ∀ W : World, (∀ q, P q → W.heap[q]? = wr.heap[q]?) → W.cell? ⟨eb, off + k * 6, none⟩ = some (.int .i64 op2) ∧ W.cell? ⟨eb, off + k * 6 + 1, none⟩ = some (.int .i64 num2) ∧ W.cell? ⟨eb, off + k * 6 + 2, none⟩ = some (.string s2) ∧ W.cell? ⟨eb, off + k * 6 + 3, none⟩ = some (.slice ya yn yc) ∧ W.cell? ⟨eb, off + k * 6 + 4, none⟩ = some (.slice za zn zc) ∧ W.cell? ⟨eb, off + k * 6 + 5, none⟩ = some (.slice pa pn pc) from fun W hW => by
        have e := hW eb hpb
        exact ⟨(cell_eq9 e).trans f0, (cell_eq9 e).trans f1, (cell_eq9 e).trans f2, (cell_eq9 e).trans f3, (cell_eq9 e).trans f4, (cell_eq9 e).trans f5⟩)
      have HLOW := Lib.hid HCB.out.low
      have HSS := Lib.hid (show ∀ W : World, Blk W w.heap.size 28 #[.int .i64 op, .int .i64 num, .string s, .slice ka kn kc, .slice na nn nc, .slice (some ⟨eb, off, none⟩) ln lc] → (∀ q, P q → W.heap[q]? = wr.heap[q]?) → (fun W : World => W.cell? ⟨w.heap.size, 0, none⟩ = some (.int .i64 op) ∧ W.cell? ⟨w.heap.size, 1, none⟩ = some (.int .i64 num) ∧ W.cell? ⟨w.heap.size, 2, none⟩ = some (.string s) ∧ W.cell? ⟨w.heap.size, 3, none⟩ = some (.slice ka kn kc) ∧ W.cell? ⟨w.heap.size, 4, none⟩ = some (.slice na nn nc) ∧ W.cell? ⟨w.heap.size, 5, none⟩ = some (.slice (some ⟨eb, off, none⟩) ln lc) ∧ W.cell? ⟨eb, off + k * 6, none⟩ = some (.int .i64 op2) ∧ W.cell? ⟨eb, off + k * 6 + 1, none⟩ = some (.int .i64 num2) ∧ W.cell? ⟨eb, off + k * 6 + 2, none⟩ = some (.string s2) ∧ W.cell? ⟨eb, off + k * 6 + 3, none⟩ = some (.slice ya yn yc) ∧ W.cell? ⟨eb, off + k * 6 + 4, none⟩ = some (.slice za zn zc) ∧ W.cell? ⟨eb, off + k * 6 + 5, none⟩ = some (.slice pa pn pc)) W from fun W h1 h2 => ⟨h1.cell 0 _ rfl, h1.cell 1 _ rfl, h1.cell 2 _ rfl, h1.cell 3 _ rfl, h1.cell 4 _ rfl, h1.cell 5 _ rfl, HEL.out W h2⟩)
      have HKP := Lib.hid (fun W (hW : Below wr.heap.size wr W) => HSS.out W (HBX.out.of_eq (hW.block _ HBX.out.lt)) (fun q hq => hW.block q (HPR.out q hq)))
      have HKG := Lib.hid (fun ws x0 x1 x2 x3 x4 x5 w8 (hW : Below wr.heap.size wr ws) (hg : (ws.alloc (.cells #[x0, x1, x2, x3, x4, x5] 28)).grownBy w8 (Value.slice sa k sc).ownBlock) => HSS.out w8
        (grown_block ((HBX.out.of_eq (hW.block _ HBX.out.lt)).alloc _) hg (fun e => by have := (HLOW.out _ e).1; have := HSZ.out; omega))
        (fun q hq => ((hg.block q (by rw [size_alloc]; have := HPR.out q hq; have := hW.size; omega) (fun e => by have := (HLOW.out _ e.symm).1; have := HP.out q hq; have := HSZ.out; omega)).trans (Below.heap_alloc ws _ q (Nat.lt_of_lt_of_le (HPR.out q hq) hW.size))).trans (hW.block q (HPR.out q hq))))
      simp only at HKP HKG
      have HALC := Lib.hid (fun W o (hW : Below wr.heap.size wr W) => (hW.alloc hW.size o))
      have HD0 := Lib.hid (Below.refl wr.heap.size wr).drew
      have HDQ := Lib.hid (fun W (hW : Below wr.heap.size wr W) => HDP.out W (fun q hq => (hW.block q (HPR.out q hq)).trans (HSR.out q hq)))
      have HS7 := Lib.hid (fun ws x0 x1 x2 x3 x4 x5 (hW : Below wr.heap.size wr ws) => (show (ws.alloc (.cells #[x0, x1, x2, x3, x4, x5] 28)).ownsRow w1.heap.size 28 6 (.slice sa k sc) k us ∧ (∀ j u, [x0, x1, x2, x3, x4, x5][j]? = some u → (ws.alloc (.cells #[x0, x1, x2, x3, x4, x5] 28)).cell? ((⟨ws.heap.size, 0, none⟩ : Addr).add j) = some u) ∧ (ws.alloc (.cells #[x0, x1, x2, x3, x4, x5] 28)).heap.size = ws.heap.size + 1 from by
        have h := (HCB.out.below HPR.out hW).row
        rw [← HLK.out] at h
        exact ⟨h.alloc _, World.news_of_block (cs := #[x0, x1, x2, x3, x4, x5]) (t := 28) (fr := (0, 0)) (boxN_new ws 28 #[x0, x1, x2, x3, x4, x5]).1, size_alloc _ _⟩))
      have hwb : w1.heap.size ≤ wr.heap.size := HBW.out.size
      clear f0 f1 f2 f3 f4 f5 hpb HEL HSS
      have c0 := HBX.out.cell 0 (.int .i64 op) rfl
      have c1 := HBX.out.cell 1 (.int .i64 num) rfl
      have c2 := HBX.out.cell 2 (.string s) rfl
      have c3 := HBX.out.cell 3 (.slice ka kn kc) rfl
      have c4 := HBX.out.cell 4 (.slice na nn nc) rfl
      have c5 := HBX.out.cell 5 (.slice (some ⟨eb, off, none⟩) ln lc) rfl
      go_wp2_with fail
      clear c0 c1 c2 c3 c4 c5
      go_region_held3 (fun W => W.cell? ⟨w.heap.size, 0, none⟩ = some (.int .i64 op) ∧ W.cell? ⟨w.heap.size, 1, none⟩ = some (.int .i64 num) ∧ W.cell? ⟨w.heap.size, 2, none⟩ = some (.string s) ∧ W.cell? ⟨w.heap.size, 3, none⟩ = some (.slice ka kn kc) ∧ W.cell? ⟨w.heap.size, 4, none⟩ = some (.slice na nn nc) ∧ W.cell? ⟨w.heap.size, 5, none⟩ = some (.slice (some ⟨eb, off, none⟩) ln lc) ∧ W.cell? ⟨eb, off + k * 6, none⟩ = some (.int .i64 op2) ∧ W.cell? ⟨eb, off + k * 6 + 1, none⟩ = some (.int .i64 num2) ∧ W.cell? ⟨eb, off + k * 6 + 2, none⟩ = some (.string s2) ∧ W.cell? ⟨eb, off + k * 6 + 3, none⟩ = some (.slice ya yn yc) ∧ W.cell? ⟨eb, off + k * 6 + 4, none⟩ = some (.slice za zn zc) ∧ W.cell? ⟨eb, off + k * 6 + 5, none⟩ = some (.slice pa pn pc))
        (first | (with_reducible exact HKP.out _ HD0.out) | (with_reducible exact HKP.out _ (by assumption)) | (with_reducible exact HKP.out _ (HALC.out _ _ (by assumption))) | (with_reducible exact HKG.out _ _ _ _ _ _ _ _ (by assumption) (by assumption)))
        (first
        | (go_at_call 66; (with_reducible refine (HDQ.out _ (by first | exact HD0.out | assumption)).mono ?_); rintro e wd ⟨rfl, hbd⟩; have hbd2 := belowStep (a := wr) hbd (by first | exact HD0.out | assumption))
        | (go_at_call 72; (with_reducible refine (HSF.out _ (by assumption)).mono ?_); rintro e ws ⟨⟨yv, rfl, hy⟩, hbs⟩; have hbs2 := belowStep (a := wr) hbs (by assumption); obtain ⟨ua, un, uc, va, vn, vc, xa, xn, xc, hyv, -, -, -⟩ := hy.shape; subst hyv; obtain ⟨hrow7, hnew7, hsz7⟩ := HS7.out ws (.int .i64 (F u).op) (.int .i64 (F u).n) (.string (F u).s) (.slice ua un uc) (.slice va vn vc) (.slice xa xn xc) hbs2; have hws := hbs2.size)
        | (refine step_append_lies _ rfl (.tmp 46) (.tmp 57) 26 rfl w1.heap.size 28 iC (.agg #[.int .i64 0, .int .i64 0, .string ByteArray.empty, .slice none 0 0, .slice none 0 0, .slice none 0 0]) 6 104 Tryz.underlying26 ci0 ci1 ci2 ci3 rfl (by decide) (.slice sa k sc) k us (by simp [Act.eval, Act.put]) hrow7 ⟨ws.heap.size, 0, none⟩ 1 1 [.int .i64 (F u).op, .int .i64 (F u).n, .string (F u).s, .slice ua un uc, .slice va vn vc, .slice xa xn xc] (by simp [Act.eval, Act.put]) rfl hnew7 (by simp [Value.oneCell']) (by decide) (by unfold maxLen; omega) (by omega) (by rw [hsz7]; omega) (ws.heap.size + 1) hsz7 ?_; intro gg cap w8 hown hgrow hat hlt8))
      have hcb2 := HCB.out.below HPR.out hbs2
      have hlow := HLOW.out
      have hwd := hbd2.size
      have HCB2 := Lib.hid (hcb2.push HLK.out (fun q hq => Nat.lt_of_lt_of_le (HPR.out q hq) hbs2.size) hy (fun q hq => ⟨by
        rcases hq with hq | hq
        · exact .inl hq
        · exact .inr ⟨by omega, hq.2⟩, fun e => by
        have h1 := hlow q e
        rcases hq with hq | hq
        · have := HP.out q hq; have := HSZ.out; omega
        · have := hq.1; omega⟩) hown hgrow hat)
      have HBW2 := Lib.hid (((belowStep hbs2 HBW.out).alloc (by omega) (.cells #[.int .i64 (F u).op, .int .i64 (F u).n, .string (F u).s, .slice ua un uc, .slice va vn vc, .slice xa xn xc] 28)).grown hgrow (by rw [hsz7]; omega) (fun j hj => (hlow j hj).1))
      rw [← HTK.out] at HCB2
      clear hcb2 hlow hwd hy hown hgrow hat hlt8 hrow7 hnew7 hsz7 hws hbs hbs2 hbd hbd2 HKP HKG HALC HD0 HDQ HS7 HSF HTK HLOW HCB HLK
      go_wp2
      go_roundg (gk - 1)
      case measure => omega
      case rel => exact ⟨k + 1, _, by omega, by go_num, by omega, HCB2.out, HBW2.out⟩
    · have hkn : ln = k := by omega
      subst hkn
      have q5 : decide ((ln : Int) < (ln : Int)) = false := decide_eq_false (by omega)
      have hta : t.l.take ln = t.l := List.take_of_length_le (by rw [HLN.out]; exact Nat.le_refl _)
      rw [hta] at HCB
      clear hta
      obtain ⟨L, hL⟩ : ∃ L, L = t.l.map F := ⟨_, rfl⟩
      rw [← hL] at HCB HV2
      clear hL
      obtain ⟨sa, sc, hsv⟩ := row_form6 HCB.out.row
      subst hsv
      have hcl := HCB.out.cons (S := fun q => P q ∨ (w1.heap.size ≤ q ∧ q < wr.heap.size)) (fun q hq => .inl hq) (fun q h1 h2 => .inr ⟨h1, h2⟩)
      have HIN := Lib.hid (rinside_any (fun q => P q ∨ (w1.heap.size ≤ q ∧ q < wr.heap.size)) t L wr (.agg #[.int .i64 op, .int .i64 num, .string s, .slice ka kn kc, .slice na nn nc, .slice la ln lc]) (.slice sa L.length sc) (fun q hq => by
        rcases hq with hq | hq
        · exact HPR.out q hq
        · exact hq.2) ((HCV.out wr HSR.out).mono (fun q hq => .inl hq)) hcl)
      rw [← HV2.out] at HIN
      generalize L.length = sn at *
      have HBR := Lib.hid (show Below w.heap.size w wr from ⟨HBW.out.os.trans HB.out.os, HBW.out.tape.trans HB.out.tape, HBW.out.output.trans HB.out.output, Nat.le_trans HB.out.size HBW.out.size, fun q hq => (HBW.out.block q (by have := HSZ.out; omega)).trans (HB.out.block q hq)⟩)
      have HWB := Lib.hid (show w.heap.size + 2 ≤ wr.heap.size from by have := HBW.out.size; have := HSZ.out; omega)
      clear hcl HCB HV2
      have c0 := HBX.out.cell 0 (.int .i64 op) rfl
      have c1 := HBX.out.cell 1 (.int .i64 num) rfl
      have c2 := HBX.out.cell 2 (.string s) rfl
      have c3 := HBX.out.cell 3 (.slice ka kn kc) rfl
      have c4 := HBX.out.cell 4 (.slice na nn nc) rfl
      have c5 := HBX.out.cell 5 (.slice la ln lc) rfl
      go_wp2_with fail
      clear c0 c1 c2 c3 c4 c5
      refine HIN.out.mono ?_
      rintro e wq ⟨⟨yv, rfl, hy⟩, hbq⟩
      obtain ⟨ua, un, uc, va, vn, vc, xa, xn, xc, hyv, -, -, -⟩ := hy.shape
      subst hyv
      generalize Con.subst ts t d = z at *
      have hzr := HRX.out.of_eq (hbq.block _ HRX.out.lt)
      have t0 := hzr.thaw 0
      have t1 := hzr.thaw 1
      have t2 := hzr.thaw 2
      have t3 := hzr.thaw 3
      have t4 := hzr.thaw 4
      have t5 := hzr.thaw 5
      have r0 := hzr.cell 0 (.int .i64 0) rfl
      have r1 := hzr.cell 1 (.int .i64 0) rfl
      have r2 := hzr.cell 2 (.string ⟨#[]⟩) rfl
      have r3 := hzr.cell 3 (.slice none 0 0) rfl
      have r4 := hzr.cell 4 (.slice none 0 0) rfl
      have r5 := hzr.cell 5 (.slice none 0 0) rfl
      have hz := store6_blk hzr 0 (.int .i64 z.op) (.int .i64 z.n) (.string z.s) (.slice ua un uc) (.slice va vn vc) (.slice xa xn xc)
      rw [put6_all] at hz
      have HE := Lib.hid (show RcP P z w (.returned (.agg #[.int .i64 z.op, .int .i64 z.n, .string z.s, .slice ua un uc, .slice va vn vc, .slice xa xn xc])) (store6 wq (w.heap.size + 1) 0 (.int .i64 z.op) (.int .i64 z.n) (.string z.s) (.slice ua un uc) (.slice va vn vc) (.slice xa xn xc)) from
        ⟨⟨_, rfl, (hy.keep (fun q hq => store6_other _ _ _ _ _ _ _ _ _ q (by
          have := HSZ.out
          rcases hq with hq | hq
          · have := HP.out q hq; omega
          · omega))).mono (fun q hq => by
          rcases hq with hq | hq
          · exact .inl hq
          · exact .inr ⟨by have := HSZ.out; omega, by rw [store6_size]; have := hbq.size; omega⟩)⟩, store6_below (belowStep hbq HBR.out) _ _ _ _ _ _ _ _ (Nat.le_succ _)⟩)
      unfold store6 at hz HE
      simp only [Nat.zero_add] at hz HE
      have z0 := hz.cell 0 (.int .i64 z.op) rfl
      have z1 := hz.cell 1 (.int .i64 z.n) rfl
      have z2 := hz.cell 2 (.string z.s) rfl
      have z3 := hz.cell 3 (.slice ua un uc) rfl
      have z4 := hz.cell 4 (.slice va vn vc) rfl
      have z5 := hz.cell 5 (.slice xa xn xc) rfl
      clear hy hzr hz hbq HIN
      go_wp2
      refine bodyPost_ret (v := .agg #[.int .i64 z.op, .int .i64 z.n, .string z.s, .slice ua un uc, .slice va vn vc, .slice xa xn xc]) (by simp [results, Tryz.results72, go_sem, z0, z1, z2, z3, z4, z5]) rfl ?_
      exact HE.out
set_option maxRecDepth 100000 in
set_option maxHeartbeats 2000000 in
theorem rSubst_any (P : Nat → Prop) (ts : List Con) (hts : ∀ x ∈ ts, Con.allB x = true) (t : Con) (hall : Con.allB t = true) (hd : t.depth ≤ 100000) (w : World) (v xv : Value) (hP : ∀ q, P q → q < w.heap.size) (ht : ConV w P t v) (hl : ConSl w P xv ts) :
    Calls Tryz.prog 23 #[v, xv] w (RcP P (Con.subst ts t 0) w) := by
  obtain ⟨ka, kn, kc, na, nn, nc, la, ln, lc, rfl, -, -, -⟩ := ht.shape
  obtain ⟨ea, ec, rfl, -, -, -⟩ := hl.each
  generalize hm : ts.length = m at *
  obtain ⟨op, hop⟩ : ∃ op, op = t.op := ⟨_, rfl⟩
  obtain ⟨num, hnum⟩ : ∃ num, num = t.n := ⟨_, rfl⟩
  obtain ⟨s, hs⟩ : ∃ s, s = t.s := ⟨_, rfl⟩
  have HCV := Lib.hid (fun W (hW : Below w.heap.size w W) => rsubst_any P ts hts t hall 0 W _ _ (fun q hq => Nat.lt_of_lt_of_le (hP q hq) hW.size) (ht.keep (Same.of_below hW hP)) (hl.keep (Same.of_below hW hP)) (by omega) (by omega))
  rw [← hop, ← hnum, ← hs] at HCV ⊢
  have HP := Lib.hid hP
  clear ht hl hm hP hop hnum hs
  have hbx := boxN_new w 28 #[.int .i64 op, .int .i64 num, .string s, .slice ka kn kc, .slice na nn nc, .slice la ln lc]
  have hr0 := boxN_new (w.alloc (.cells #[.int .i64 op, .int .i64 num, .string s, .slice ka kn kc, .slice na nn nc, .slice la ln lc] 28)) 28 #[.int .i64 0, .int .i64 0, .string ⟨#[]⟩, .slice none 0 0, .slice none 0 0, .slice none 0 0]
  have hr1 := hr0.1
  rw [size_alloc] at hr1
  have HBX := Lib.hid (hbx.1.alloc (.cells #[.int .i64 0, .int .i64 0, .string ⟨#[]⟩, .slice none 0 0, .slice none 0 0, .slice none 0 0] 28))
  have HRX := Lib.hid hr1
  have HB := Lib.hid (belowStep hr0.2 hbx.2)
  clear hbx hr0 hr1
  go_enter Tryz.func23, Tryz.ntmps23
  go_upto_region 1 with fail
  generalize hw1 : (w.alloc (.cells #[.int .i64 op, .int .i64 num, .string s, .slice ka kn kc, .slice na nn nc, .slice la ln lc] 28)).alloc (.cells #[.int .i64 0, .int .i64 0, .string ⟨#[]⟩, .slice none 0 0, .slice none 0 0, .slice none 0 0] 28) = w1 at *
  have HSZ := Lib.hid (show w1.heap.size = w.heap.size + 2 from by rw [← hw1, size_alloc, size_alloc])
  clear hw1
  have c0 := HBX.out.cell 0 (.int .i64 op) rfl
  have c1 := HBX.out.cell 1 (.int .i64 num) rfl
  have c2 := HBX.out.cell 2 (.string s) rfl
  have c3 := HBX.out.cell 3 (.slice ka kn kc) rfl
  have c4 := HBX.out.cell 4 (.slice na nn nc) rfl
  have c5 := HBX.out.cell 5 (.slice la ln lc) rfl
  go_wp2_with fail
  clear c0 c1 c2 c3 c4 c5
  refine (HCV.out w1 HB.out).mono ?_
  rintro e wq ⟨⟨yv, rfl, hy⟩, hbq⟩
  obtain ⟨ua, un, uc, va, vn, vc, xa, xn, xc, hyv, -, -, -⟩ := hy.shape
  subst hyv
  generalize Con.subst ts t 0 = z at *
  have hzr := HRX.out.of_eq (hbq.block _ HRX.out.lt)
  have HBR := HB
  have HIN := True.intro
  have hy := hy.mono (Q := fun q => P q ∨ (w1.heap.size ≤ q ∧ q < wq.heap.size)) (fun q hq => hq)
  have t0 := hzr.thaw 0
  have t1 := hzr.thaw 1
  have t2 := hzr.thaw 2
  have t3 := hzr.thaw 3
  have t4 := hzr.thaw 4
  have t5 := hzr.thaw 5
  have r0 := hzr.cell 0 (.int .i64 0) rfl
  have r1 := hzr.cell 1 (.int .i64 0) rfl
  have r2 := hzr.cell 2 (.string ⟨#[]⟩) rfl
  have r3 := hzr.cell 3 (.slice none 0 0) rfl
  have r4 := hzr.cell 4 (.slice none 0 0) rfl
  have r5 := hzr.cell 5 (.slice none 0 0) rfl
  have hz := store6_blk hzr 0 (.int .i64 z.op) (.int .i64 z.n) (.string z.s) (.slice ua un uc) (.slice va vn vc) (.slice xa xn xc)
  rw [put6_all] at hz
  have HE := Lib.hid (show RcP P z w (.returned (.agg #[.int .i64 z.op, .int .i64 z.n, .string z.s, .slice ua un uc, .slice va vn vc, .slice xa xn xc])) (store6 wq (w.heap.size + 1) 0 (.int .i64 z.op) (.int .i64 z.n) (.string z.s) (.slice ua un uc) (.slice va vn vc) (.slice xa xn xc)) from
    ⟨⟨_, rfl, (hy.keep (fun q hq => store6_other _ _ _ _ _ _ _ _ _ q (by
      have := HSZ.out
      rcases hq with hq | hq
      · have := HP.out q hq; omega
      · omega))).mono (fun q hq => by
      rcases hq with hq | hq
      · exact .inl hq
      · exact .inr ⟨by have := HSZ.out; omega, by rw [store6_size]; have := hbq.size; omega⟩)⟩, store6_below (belowStep hbq HBR.out) _ _ _ _ _ _ _ _ (Nat.le_succ _)⟩)
  unfold store6 at hz HE
  simp only [Nat.zero_add] at hz HE
  have z0 := hz.cell 0 (.int .i64 z.op) rfl
  have z1 := hz.cell 1 (.int .i64 z.n) rfl
  have z2 := hz.cell 2 (.string z.s) rfl
  have z3 := hz.cell 3 (.slice ua un uc) rfl
  have z4 := hz.cell 4 (.slice va vn vc) rfl
  have z5 := hz.cell 5 (.slice xa xn xc) rfl
  clear hy hzr hz hbq HIN
  go_wp2
  refine bodyPost_ret (v := .agg #[.int .i64 z.op, .int .i64 z.n, .string z.s, .slice ua un uc, .slice va vn vc, .slice xa xn xc]) (by simp [results, Tryz.results23, go_sem, z0, z1, z2, z3, z4, z5]) rfl ?_
  exact HE.out
end Go.Proofs.YtkjaicmfegpjdaaGreat
namespace Go.Proofs.YtkjaicmfegpjdaaGreat
open Go Go.RowKit
open Pl (K Con)
set_option linter.unusedSimpArgs false
set_option linter.unusedVariables false

set_option maxRecDepth 100000 in
set_option maxHeartbeats 2000000 in
theorem heavy_any (P : Nat → Prop) (t : Con) (l : List Con) (w : World) (v xv : Value) (hP : ∀ b, P b → b < w.heap.size) (ht : ConV w P t v) (hl : ConSl w P xv l) :
    Calls Tryz.prog 20 #[v, xv] w fun e w' => (∃ r : Bool, e = .returned (.bool r)) ∧ Below w.heap.size w w' := by
  have HP := Lib.hid hP
  have HSL := Lib.hid (fun W (hW : Below w.heap.size w W) => hl.keep (Same.of_below hW hP))
  have HCV := Lib.hid (fun W (hW : Below w.heap.size w W) => lnodes_any P t 4400 1 W v (fun b h => Nat.lt_of_lt_of_le (hP b h) hW.size) (ht.keep (Same.of_below hW hP)) (by omega) (by omega) (by omega) (by omega))
  obtain ⟨xa, xc, rfl, -, hcm, -⟩ := hl.each
  obtain ⟨n, hn⟩ : ∃ n, n = l.length := ⟨_, rfl⟩
  have hn63 : n ≤ 9223372036854775807 := by
    obtain ⟨_, _, e, h1, h2, -⟩ := hl.each
    unfold maxLen at h2; omega
  have HN := Lib.hid hn
  rw [← hn] at HSL ⊢
  obtain ⟨ka, kn, kc, na, nn, nc, la, ln, lc, rfl, -, -, -, hbx, hb⟩ := con_box ht
  have HB := Lib.hid hb
  have HBX := Lib.hid hbx
  clear ht hl hn hcm hP hbx hb
  go_enter Tryz.func20, Tryz.ntmps20
  go_wp2_with fail
  generalize w.alloc (.cells #[.int .i64 t.op, .int .i64 t.n, .string t.s, .slice ka kn kc, .slice na nn nc, .slice la ln lc] 28) = w2 at *
  go_loopg [5, 10] (n + 1) (fun gk m i wr => ∃ (k : Nat) (mm : Int), k ≤ n ∧ i = .int .i64 k ∧ gk = n + 1 - k ∧ m = .int .i64 mm ∧ 1 ≤ mm ∧ mm ≤ 4400 ∧ Below w2.heap.size w2 wr)
  case atStart => exact ⟨0, 1, by omega, rfl, by omega, rfl, by omega, by omega, Below.refl _ _⟩
  case round =>
    obtain ⟨k, mm, hk, rfl, hg, rfl, hm1, hm2, hbw⟩ := hrel
    have HBW := Lib.hid hbw
    by_cases hlt : k < n
    · have q5 : decide ((k : Int) < (n : Int)) = true := decide_eq_true (by omega)
      have hkl : k < l.length := by rw [← HN.out]; exact hlt
      obtain ⟨b, off, c', ya, yn, yc, za, zn, zc, pa, pn, pc, e, -, f0, f1, f2, f3, f4, f5, hx⟩ := (HSL.out wr (belowStep hbw HB.out)).part k hkl
      injection e with e1 e2 e3
      subst e1 e3
      clear e2
      have hPw : ∀ b, P b → b < wr.heap.size := fun b hb => Nat.lt_of_lt_of_le (HP.out b hb) (Nat.le_trans HB.out.size hbw.size)
      have HC := Lib.hid (fun W (hW : Below wr.heap.size wr W) => lnodes_any P l[k] 4400 1 W _ (fun b h => Nat.lt_of_lt_of_le (hPw b h) hW.size) (hx.keep (Same.of_below hW hPw)) (by omega) (by omega) (by omega) (by omega))
      generalize l[k] = x at *
      obtain ⟨hbx, hb⟩ := boxN_new wr 28 #[.int .i64 x.op, .int .i64 x.n, .string x.s, .slice ya yn yc, .slice za zn zc, .slice pa pn pc]
      have HC2 := Lib.hid (HC.out _ hb)
      have HBW2 := Lib.hid (belowStep hb HBW.out)
      have d0 := hbx.cell 0 (.int .i64 x.op) rfl
      have d1 := hbx.cell 1 (.int .i64 x.n) rfl
      have d2 := hbx.cell 2 (.string x.s) rfl
      have d3 := hbx.cell 3 (.slice ya yn yc) rfl
      have d4 := hbx.cell 4 (.slice za zn zc) rfl
      have d5 := hbx.cell 5 (.slice pa pn pc) rfl
      clear hbw hx hbx hb HC hPw
      go_wp2_with fail
      refine HC2.out.mono ?_
      rintro e w3 ⟨⟨r, rfl, hr0, hr1, -⟩, hb3⟩
      have HB3 := Lib.hid (belowStep hb3 HBW2.out)
      clear hb3 f0 f1 f2 f3 f4 f5 d0 d1 d2 d3 d4 d5
      go_wp2
      go_roundg (gk - 1)
      case measure => omega
      case rel => exact ⟨k + 1, max mm r, by omega, by go_num, by omega, rfl, by omega, by omega, HB3.out⟩
    · have q5 : decide ((k : Int) < (n : Int)) = false := decide_eq_false (by omega)
      have hbx := HBX.out.of_eq (hbw.block _ HBX.out.lt)
      have c0 := hbx.cell 0 (.int .i64 t.op) rfl
      have c1 := hbx.cell 1 (.int .i64 t.n) rfl
      have c2 := hbx.cell 2 (.string t.s) rfl
      have c3 := hbx.cell 3 (.slice ka kn kc) rfl
      have c4 := hbx.cell 4 (.slice na nn nc) rfl
      have c5 := hbx.cell 5 (.slice la ln lc) rfl
      have HW := Lib.hid (belowStep hbw HB.out)
      clear hbw hbx
      go_wp2_with fail
      refine (HCV.out _ HW.out).mono ?_
      rintro e w3 ⟨⟨r, rfl, hr0, hr1, -⟩, hb3⟩
      have HB3 := Lib.hid (belowStep hb3 HW.out)
      have hp0 : 0 ≤ mm * r := Int.mul_nonneg (by omega) hr0
      have hp1 : mm * r ≤ 4400 * 4400 := Int.mul_le_mul hm2 hr1 hr0 (by omega)
      obtain ⟨p, hp⟩ : ∃ p, mm * r = p := ⟨_, rfl⟩
      rw [hp] at hp0 hp1
      have hwr : wrap64 p = p := by rw [wrap64]; omega
      clear hb3 c0 c1 c2 c3 c4 c5
      by_cases h2 : 20000 < p
      · have q9 : decide (20000 < p) = true := decide_eq_true h2
        go_wp2
        go_ret
        exact ⟨⟨_, rfl⟩, HB3.out⟩
      · have q9 : decide (20000 < p) = false := decide_eq_false h2
        go_wp2
        go_ret
        exact ⟨⟨_, rfl⟩, HB3.out⟩
end Go.Proofs.YtkjaicmfegpjdaaGreat
namespace Go.Proofs.YtkjaicmfegpjdaaGreat
open Go Go.RowKit
open Pl (K Con)
set_option linter.unusedSimpArgs false
set_option linter.unusedVariables false

set_option maxRecDepth 100000 in
set_option maxHeartbeats 4000000 in
theorem substs_done (t : Con) (l : List Con) (w : World) (v xv : Value) (ht : ConV w (· < w.heap.size) t v) (hl : ConSl w (· < w.heap.size) xv l) :
    Calls Tryz.prog 4 #[v, xv] w fun e w' => e = .returned (.bool true) ∧ Below w.heap.size w w' := by
  have HA := Lib.hid awake9
  have HT := Lib.hid (fun W (hW : Below w.heap.size w W) => ht.grow hW)
  have HTP := Lib.hid (fun W (hW : Below w.heap.size w W) => (show (∀ q, q < w.heap.size → q < W.heap.size) ∧ ConV W (· < w.heap.size) t v ∧ ConSl W (· < w.heap.size) xv l from ⟨fun q h => Nat.lt_of_lt_of_le h hW.size, ht.keep (Same.of_below hW (fun _ h => h)), hl.keep (Same.of_below hW (fun _ h => h))⟩))
  have HSM := Lib.hid (fun W x' (hl : ConSl W (· < W.heap.size) x' [t]) => small_any (· < W.heap.size) [t] W x' (fun _ h => h) hl)
  have HSL := Lib.hid (fun W (hW : Below w.heap.size w W) => small_any (· < w.heap.size) l W xv (HTP.out W hW).1 (HTP.out W hW).2.2)
  have HHV := Lib.hid (fun W (hW : Below w.heap.size w W) => heavy_any (· < w.heap.size) t l W v xv (HTP.out W hW).1 (HTP.out W hW).2.1 (HTP.out W hW).2.2)
  obtain ⟨⟨u, uc⟩, hso⟩ : ∃ z, z = substOut t l := ⟨_, rfl⟩
  have HSU := Lib.hid (fun W (hW : Below w.heap.size w W) => (show Calls Tryz.prog 21 #[v, xv] W (fun e w' => (∃ y, e = .returned (.tuple #[y, .int .i64 uc]) ∧ ConV w' (· < w'.heap.size) u y) ∧ Below W.heap.size W w') from by
    have h := csubst_any t l W v xv (HT.out W hW) ((HTP.out W hW).2.2.mono (fun q hq => Nat.lt_of_lt_of_le hq hW.size))
    rw [← hso] at h
    exact h))
  have HRV := Lib.hid (fun W (hW : Below w.heap.size w W) => rvalid9_any (· < w.heap.size) t W v (HTP.out W hW).1 (HTP.out W hW).2.1)
  have HVA := Lib.hid (fun W (hW : Below w.heap.size w W) => rvalidAll9_any (· < w.heap.size) l W xv (HTP.out W hW).1 (HTP.out W hW).2.2)
  have HRS := Lib.hid (fun W (hW : Below w.heap.size w W) (hv : Con.validB t = true) (hvl : l.all Con.validB = true) => (show Calls Tryz.prog 23 #[v, xv] W (fun e w' => (∃ y, e = .returned y ∧ ConV w' (· < w'.heap.size) (Con.subst l t 0) y) ∧ Below W.heap.size W w') from by
    refine (rSubst_any (· < w.heap.size) l (fun x hx => valid_all x (List.all_eq_true.1 hvl x hx)) t (valid_all t hv) (by have := valid_depth t hv; omega) W v xv (HTP.out W hW).1 (HTP.out W hW).2.1 (HTP.out W hW).2.2).mono ?_
    rintro e w' ⟨⟨y, rfl, hy⟩, hb⟩
    exact ⟨⟨y, rfl, hy.mono (fun q hq => by
      rcases hq with hq | hq
      · exact Nat.lt_of_lt_of_le hq (Nat.le_trans hW.size hb.size)
      · exact hq.2)⟩, hb⟩))
  have HNO := Lib.hid (fun W (hW : Below w.heap.size w W) (hu : u = Con.none0) x (hx : ConV W (· < W.heap.size) u x) => (show Calls Tryz.prog 13 #[x] W (fun e w' => e = .returned (.bool true) ∧ Below W.heap.size W w') from by
    have h := none9_any (· < W.heap.size) u W x (fun _ h => h) hx
    rw [hu, sameB_self] at h
    exact h))
  have HAN := Lib.hid (fun W yv (zv : Value) (hz : ConV W (· < W.heap.size) u zv) (hy : ConV W (· < W.heap.size) (Con.subst l t 0) yv) => answer9_any (· < W.heap.size) (· < W.heap.size) u (Con.subst l t 0) uc W zv yv (fun _ h => h) (fun _ h => h) hz hy)
  obtain ⟨xa, xc, rfl, hcn, hcm, -⟩ := hl.each
  obtain ⟨n, hn⟩ : ∃ n, n = l.length := ⟨_, rfl⟩
  have hn63 : n ≤ 9223372036854775807 := by unfold maxLen at hcm; omega
  have HIV := Lib.hid (show (Con.validB t && l.all Con.validB) = false → u = Con.none0 ∧ uc = 1 from fun h => by
    have h2 : (u, uc) = (Con.none0, (1 : Int)) := by rw [hso]; unfold substOut; rw [h]; rfl
    simp only [Prod.mk.injEq] at h2
    exact h2)
  have HFU := Lib.hid (show Con.validB t = true → l.all Con.validB = true → 1000 < n → u = Con.none0 ∧ uc = 5 from fun h1 h2 h3 => by
    have h2 : (u, uc) = (Con.none0, (5 : Int)) := by rw [hso]; unfold substOut; rw [h1, h2, show (true && true) = true from rfl, if_pos rfl, if_pos (by rw [← hn]; exact h3)]
    simp only [Prod.mk.injEq] at h2
    exact h2)
  have HOV := Lib.hid (show Con.validB t = true → l.all Con.validB = true → ¬ 1000 < n → answerB u uc (Con.subst l t 0) = true from fun h1 h2 h3 => by
    have h4 : (u, uc) = outB (Con.subst l t 0) := by rw [hso]; unfold substOut; rw [h1, h2, show (true && true) = true from rfl, if_pos rfl, if_neg (by rw [← hn]; exact h3)]
    have h7 := answer_out (Con.subst l t 0)
    rw [← h4] at h7
    exact h7)
  rw [← hn] at HSL HHV HSU HVA HRS ⊢
  clear hso HTP hcn hcm hn hl
  obtain ⟨ka, kn, kc, na, nn, nc, la, ln, lc, rfl, -, -, -⟩ := ht.shape
  obtain ⟨hbx, hb⟩ := boxN_new w 28 #[.int .i64 t.op, .int .i64 t.n, .string t.s, .slice ka kn kc, .slice na nn nc, .slice la ln lc]
  have HB := Lib.hid hb
  have HBX := Lib.hid hbx
  clear hbx hb ht
  go_enter Tryz.func4, Tryz.ntmps4
  go_upto_region 1 with fail
  generalize w.alloc (.cells #[.int .i64 t.op, .int .i64 t.n, .string t.s, .slice ka kn kc, .slice na nn nc, .slice la ln lc] 28) = w2 at *
  go_cut [44] from 7 to 44 (fun s44 W => ∃ r : Bool, s44 = .bool r ∧ Below w2.heap.size w2 W)
  case first =>
    have HBK := Lib.hid HB.out
    have HBXK := Lib.hid HBX.out
    go_wp2_with fail
    refine (HA.out _).mono ?_
    rintro e w3 ⟨rfl, hb⟩
    have HK := Lib.hid hb
    replace HBX := Lib.hid (HBX.out.of_eq (hb.block _ HBX.out.lt))
    replace HB := Lib.hid (belowStep hb HB.out)
    clear hb
    have c0 := HBX.out.cell 0 (.int .i64 t.op) rfl
    have c1 := HBX.out.cell 1 (.int .i64 t.n) rfl
    have c2 := HBX.out.cell 2 (.string t.s) rfl
    have c3 := HBX.out.cell 3 (.slice ka kn kc) rfl
    have c4 := HBX.out.cell 4 (.slice na nn nc) rfl
    have c5 := HBX.out.cell 5 (.slice la ln lc) rfl
    go_wp2_with fail
    clear c0 c1 c2 c3 c4 c5
    obtain ⟨hbx, hb⟩ := boxN_new w3 28 #[.int .i64 t.op, .int .i64 t.n, .string t.s, .slice ka kn kc, .slice na nn nc, .slice la ln lc]
    have HONE := Lib.hid (cons_one (P := (· < (w3.alloc (.cells #[.int .i64 t.op, .int .i64 t.n, .string t.s, .slice ka kn kc, .slice na nn nc, .slice la ln lc] 28)).heap.size)) hbx hbx.lt (HT.out _ (belowStep hb HB.out)))
    replace HK := Lib.hid (belowStep hb HK.out)
    replace HBX := Lib.hid (HBX.out.of_eq (hb.block _ HBX.out.lt))
    replace HB := Lib.hid (belowStep hb HB.out)
    clear hbx hb
    generalize w3.alloc (.cells #[.int .i64 t.op, .int .i64 t.n, .string t.s, .slice ka kn kc, .slice na nn nc, .slice la ln lc] 28) = w4 at *
    refine (HSM.out _ _ HONE.out).mono ?_
    rintro e w5 ⟨⟨r, rfl, -⟩, hb⟩
    replace HK := Lib.hid (belowStep hb HK.out)
    replace HBX := Lib.hid (HBX.out.of_eq (hb.block _ HBX.out.lt))
    replace HB := Lib.hid (belowStep hb HB.out)
    clear hb HONE HSM
    cases r
    · go_wp2
      go_meet
      exact ⟨true, rfl, HK.out⟩
    by_cases h12 : n ≤ 12
    · have q1 : decide ((12 : Int) < (n : Int)) = false := decide_eq_false (by omega)
      have q2 : decide ((1010 : Int) < (n : Int)) = false := decide_eq_false (by omega)
      have q3 : decide ((n : Int) ≤ 12) = true := decide_eq_true (by omega)
      clear h12
      go_wp2_with fail
      refine (HSL.out _ HB.out).mono ?_
      rintro e w6 ⟨⟨r, rfl, -⟩, hb⟩
      replace HK := Lib.hid (belowStep hb HK.out)
      replace HBX := Lib.hid (HBX.out.of_eq (hb.block _ HBX.out.lt))
      replace HB := Lib.hid (belowStep hb HB.out)
      clear hb
      cases r
      · go_wp2
        go_meet
        exact ⟨true, rfl, HK.out⟩
      have c0 := HBX.out.cell 0 (.int .i64 t.op) rfl
      have c1 := HBX.out.cell 1 (.int .i64 t.n) rfl
      have c2 := HBX.out.cell 2 (.string t.s) rfl
      have c3 := HBX.out.cell 3 (.slice ka kn kc) rfl
      have c4 := HBX.out.cell 4 (.slice na nn nc) rfl
      have c5 := HBX.out.cell 5 (.slice la ln lc) rfl
      go_wp2_with fail
      clear c0 c1 c2 c3 c4 c5
      refine (HHV.out _ HB.out).mono ?_
      rintro e w7 ⟨⟨r, rfl⟩, hb⟩
      replace HK := Lib.hid (belowStep hb HK.out)
      clear hb
      cases r
      · go_wp2
        go_meet
        exact ⟨false, rfl, HK.out⟩
      · go_wp2
        go_meet
        exact ⟨true, rfl, HK.out⟩
    have q1 : decide ((12 : Int) < (n : Int)) = true := decide_eq_true (by omega)
    by_cases h1000 : n ≤ 1000
    · have q2 : decide ((n : Int) ≤ 1000) = true := decide_eq_true (by omega)
      clear h12 h1000
      go_wp2
      go_meet
      exact ⟨true, rfl, HK.out⟩
    have q2 : decide ((n : Int) ≤ 1000) = false := decide_eq_false (by omega)
    by_cases h1010 : 1010 < n
    · have q3 : decide ((1010 : Int) < (n : Int)) = true := decide_eq_true (by omega)
      clear h12 h1000 h1010
      go_wp2
      go_meet
      exact ⟨true, rfl, HK.out⟩
    have q3 : decide ((1010 : Int) < (n : Int)) = false := decide_eq_false (by omega)
    have q4 : decide ((n : Int) ≤ 12) = false := decide_eq_false (by omega)
    clear h12 h1000 h1010
    go_wp2_with fail
    refine (HSL.out _ HB.out).mono ?_
    rintro e w6 ⟨⟨r, rfl, -⟩, hb⟩
    replace HK := Lib.hid (belowStep hb HK.out)
    replace HBX := Lib.hid (HBX.out.of_eq (hb.block _ HBX.out.lt))
    replace HB := Lib.hid (belowStep hb HB.out)
    clear hb
    cases r
    · go_wp2
      go_meet
      exact ⟨true, rfl, HK.out⟩
    go_wp2
    go_meet
    exact ⟨false, rfl, HK.out⟩
  case rest =>
    obtain ⟨r, rfl, hb⟩ := hcut
    rename World => w5
    replace HBX := Lib.hid (HBX.out.of_eq (hb.block _ HBX.out.lt))
    replace HB := Lib.hid (belowStep hb HB.out)
    clear hb HSM HSL HHV
    cases r
    rotate_left
    · go_wp2_with fail
      refine (HA.out _).mono ?_
      rintro e wx ⟨rfl, hbx⟩
      have HB6 := Lib.hid (belowStep hbx HB.out)
      clear hbx
      go_wp2
      go_ret
      exact ⟨rfl, HB6.out⟩
    clear HA
    have c0 := HBX.out.cell 0 (.int .i64 t.op) rfl
    have c1 := HBX.out.cell 1 (.int .i64 t.n) rfl
    have c2 := HBX.out.cell 2 (.string t.s) rfl
    have c3 := HBX.out.cell 3 (.slice ka kn kc) rfl
    have c4 := HBX.out.cell 4 (.slice na nn nc) rfl
    have c5 := HBX.out.cell 5 (.slice la ln lc) rfl
    go_wp2_with fail
    clear c0 c1 c2 c3 c4 c5
    refine (HSU.out _ HB.out).mono ?_
    rintro e w7 ⟨⟨z, rfl, hz⟩, hb⟩
    obtain ⟨zka, zkn, zkc, zna, znn, znc, zla, zln, zlc, rfl, -, -, -⟩ := hz.shape
    replace HBX := Lib.hid (HBX.out.of_eq (hb.block _ HBX.out.lt))
    replace HB := Lib.hid (belowStep hb HB.out)
    have HZV := Lib.hid hz
    clear hb hz HSU
    obtain ⟨hbx, hb⟩ := boxN_new w7 28 #[.int .i64 u.op, .int .i64 u.n, .string u.s, .slice zka zkn zkc, .slice zna znn znc, .slice zla zln zlc]
    replace HBX := Lib.hid (HBX.out.of_eq (hb.block _ HBX.out.lt))
    replace HZV := Lib.hid (HZV.out.grow hb)
    replace HB := Lib.hid (belowStep hb HB.out)
    have HBZ := Lib.hid hbx
    clear hbx hb
    have c0 := HBX.out.cell 0 (.int .i64 t.op) rfl
    have c1 := HBX.out.cell 1 (.int .i64 t.n) rfl
    have c2 := HBX.out.cell 2 (.string t.s) rfl
    have c3 := HBX.out.cell 3 (.slice ka kn kc) rfl
    have c4 := HBX.out.cell 4 (.slice na nn nc) rfl
    have c5 := HBX.out.cell 5 (.slice la ln lc) rfl
    go_wp2_with fail
    generalize w7.alloc (.cells #[.int .i64 u.op, .int .i64 u.n, .string u.s, .slice zka zkn zkc, .slice zna znn znc, .slice zla zln zlc] 28) = w8 at *
    clear c0 c1 c2 c3 c4 c5
    refine (HRV.out _ HB.out).mono ?_
    rintro e w9 ⟨rfl, hb⟩
    replace HBX := Lib.hid (HBX.out.of_eq (hb.block _ HBX.out.lt))
    replace HBZ := Lib.hid (HBZ.out.of_eq (hb.block _ HBZ.out.lt))
    replace HZV := Lib.hid (HZV.out.grow hb)
    replace HB := Lib.hid (belowStep hb HB.out)
    clear hb HRV
    cases hv : Con.validB t
    · have HE := Lib.hid (HIV.out (by rw [hv]; rfl))
      clear hv HIV HFU HOV
      have q9 : (uc == 1) = true := by rw [HE.out.2]; rfl
      have HSB := Lib.hid HE.out.1
      have c0 := HBZ.out.cell 0 (.int .i64 u.op) rfl
      have c1 := HBZ.out.cell 1 (.int .i64 u.n) rfl
      have c2 := HBZ.out.cell 2 (.string u.s) rfl
      have c3 := HBZ.out.cell 3 (.slice zka zkn zkc) rfl
      have c4 := HBZ.out.cell 4 (.slice zna znn znc) rfl
      have c5 := HBZ.out.cell 5 (.slice zla zln zlc) rfl
      clear HE
      go_wp2_with fail
      clear c0 c1 c2 c3 c4 c5
      refine (HNO.out _ HB.out HSB.out _ HZV.out).mono ?_
      rintro e wx ⟨rfl, hbx⟩
      have HBE := Lib.hid (belowStep hbx HB.out)
      clear hbx
      go_wp2
      go_ret
      exact ⟨rfl, HBE.out⟩
    have HVT := Lib.hid hv
    clear hv
    go_wp2_with fail
    refine (HVA.out _ HB.out).mono ?_
    rintro e w10 ⟨rfl, hb⟩
    replace HBX := Lib.hid (HBX.out.of_eq (hb.block _ HBX.out.lt))
    replace HBZ := Lib.hid (HBZ.out.of_eq (hb.block _ HBZ.out.lt))
    replace HZV := Lib.hid (HZV.out.grow hb)
    replace HB := Lib.hid (belowStep hb HB.out)
    clear hb HVA
    cases hv : l.all Con.validB
    · have HE := Lib.hid (HIV.out (by rw [hv, HVT.out]; rfl))
      clear hv HIV HFU HOV
      have q9 : (uc == 1) = true := by rw [HE.out.2]; rfl
      have HSB := Lib.hid HE.out.1
      have c0 := HBZ.out.cell 0 (.int .i64 u.op) rfl
      have c1 := HBZ.out.cell 1 (.int .i64 u.n) rfl
      have c2 := HBZ.out.cell 2 (.string u.s) rfl
      have c3 := HBZ.out.cell 3 (.slice zka zkn zkc) rfl
      have c4 := HBZ.out.cell 4 (.slice zna znn znc) rfl
      have c5 := HBZ.out.cell 5 (.slice zla zln zlc) rfl
      clear HE
      go_wp2_with fail
      clear c0 c1 c2 c3 c4 c5
      refine (HNO.out _ HB.out HSB.out _ HZV.out).mono ?_
      rintro e wx ⟨rfl, hbx⟩
      have HBE := Lib.hid (belowStep hbx HB.out)
      clear hbx
      go_wp2
      go_ret
      exact ⟨rfl, HBE.out⟩
    have HVL := Lib.hid hv
    clear hv HIV
    by_cases hn1 : 1000 < n
    · have q1 : decide ((1000 : Int) < (n : Int)) = true := decide_eq_true (by omega)
      have HE := Lib.hid (HFU.out HVT.out HVL.out hn1)
      clear HFU HOV hn1
      have q9 : (uc == 5) = true := by rw [HE.out.2]; rfl
      have HSB := Lib.hid HE.out.1
      have c0 := HBZ.out.cell 0 (.int .i64 u.op) rfl
      have c1 := HBZ.out.cell 1 (.int .i64 u.n) rfl
      have c2 := HBZ.out.cell 2 (.string u.s) rfl
      have c3 := HBZ.out.cell 3 (.slice zka zkn zkc) rfl
      have c4 := HBZ.out.cell 4 (.slice zna znn znc) rfl
      have c5 := HBZ.out.cell 5 (.slice zla zln zlc) rfl
      clear HE
      go_wp2_with fail
      clear c0 c1 c2 c3 c4 c5
      refine (HNO.out _ HB.out HSB.out _ HZV.out).mono ?_
      rintro e wx ⟨rfl, hbx⟩
      have HBE := Lib.hid (belowStep hbx HB.out)
      clear hbx
      go_wp2
      go_ret
      exact ⟨rfl, HBE.out⟩
    have q1 : decide ((1000 : Int) < (n : Int)) = false := decide_eq_false (by omega)
    have HE := Lib.hid (HOV.out HVT.out HVL.out hn1)
    clear HFU HOV hn1
    have GSB := Lib.hid (fun W (hW : Below w10.heap.size w10 W) => HRS.out W (belowStep hW HB.out) HVT.out HVL.out)
    have GAN := Lib.hid (fun W yv (hW : Below w10.heap.size w10 W) (hy : ConV W (· < W.heap.size) (Con.subst l t 0) yv) => HAN.out W yv _ (HZV.out.grow hW) hy)
    rw [HE.out] at GAN
    have HSS := Lib.hid (fun W (hW : Below w10.heap.size w10 W) => (show Below w10.heap.size w10 W ∧ W.cell? ⟨w.heap.size, 0, none⟩ = some (.int .i64 t.op) ∧ W.cell? ⟨w.heap.size, 1, none⟩ = some (.int .i64 t.n) ∧ W.cell? ⟨w.heap.size, 2, none⟩ = some (.string t.s) ∧ W.cell? ⟨w.heap.size, 3, none⟩ = some (.slice ka kn kc) ∧ W.cell? ⟨w.heap.size, 4, none⟩ = some (.slice na nn nc) ∧ W.cell? ⟨w.heap.size, 5, none⟩ = some (.slice la ln lc) ∧ W.cell? ⟨w7.heap.size, 0, none⟩ = some (.int .i64 u.op) ∧ W.cell? ⟨w7.heap.size, 1, none⟩ = some (.int .i64 u.n) ∧ W.cell? ⟨w7.heap.size, 2, none⟩ = some (.string u.s) ∧ W.cell? ⟨w7.heap.size, 3, none⟩ = some (.slice zka zkn zkc) ∧ W.cell? ⟨w7.heap.size, 4, none⟩ = some (.slice zna znn znc) ∧ W.cell? ⟨w7.heap.size, 5, none⟩ = some (.slice zla zln zlc) from ⟨hW, (HBX.out.of_eq (hW.block _ HBX.out.lt)).cell 0 _ rfl, (HBX.out.of_eq (hW.block _ HBX.out.lt)).cell 1 _ rfl, (HBX.out.of_eq (hW.block _ HBX.out.lt)).cell 2 _ rfl, (HBX.out.of_eq (hW.block _ HBX.out.lt)).cell 3 _ rfl, (HBX.out.of_eq (hW.block _ HBX.out.lt)).cell 4 _ rfl, (HBX.out.of_eq (hW.block _ HBX.out.lt)).cell 5 _ rfl, (HBZ.out.of_eq (hW.block _ HBZ.out.lt)).cell 0 _ rfl, (HBZ.out.of_eq (hW.block _ HBZ.out.lt)).cell 1 _ rfl, (HBZ.out.of_eq (hW.block _ HBZ.out.lt)).cell 2 _ rfl, (HBZ.out.of_eq (hW.block _ HBZ.out.lt)).cell 3 _ rfl, (HBZ.out.of_eq (hW.block _ HBZ.out.lt)).cell 4 _ rfl, (HBZ.out.of_eq (hW.block _ HBZ.out.lt)).cell 5 _ rfl⟩))
    have HD0 := Lib.hid (Below.refl w10.heap.size w10).drew
    obtain ⟨sx, hsx⟩ : ∃ x, x = Con.subst l t 0 := ⟨_, rfl⟩
    rw [← hsx] at GSB GAN
    clear hsx HE HRS HAN HNO
    have c0 := HBX.out.cell 0 (.int .i64 t.op) rfl
    have c1 := HBX.out.cell 1 (.int .i64 t.n) rfl
    have c2 := HBX.out.cell 2 (.string t.s) rfl
    have c3 := HBX.out.cell 3 (.slice ka kn kc) rfl
    have c4 := HBX.out.cell 4 (.slice na nn nc) rfl
    have c5 := HBX.out.cell 5 (.slice la ln lc) rfl
    have e0 := HBZ.out.cell 0 (.int .i64 u.op) rfl
    have e1 := HBZ.out.cell 1 (.int .i64 u.n) rfl
    have e2 := HBZ.out.cell 2 (.string u.s) rfl
    have e3 := HBZ.out.cell 3 (.slice zka zkn zkc) rfl
    have e4 := HBZ.out.cell 4 (.slice zna znn znc) rfl
    have e5 := HBZ.out.cell 5 (.slice zla zln zlc) rfl
    go_wp2_with fail
    go_region_held3 (fun W => Below w10.heap.size w10 W ∧ W.cell? ⟨w.heap.size, 0, none⟩ = some (.int .i64 t.op) ∧ W.cell? ⟨w.heap.size, 1, none⟩ = some (.int .i64 t.n) ∧ W.cell? ⟨w.heap.size, 2, none⟩ = some (.string t.s) ∧ W.cell? ⟨w.heap.size, 3, none⟩ = some (.slice ka kn kc) ∧ W.cell? ⟨w.heap.size, 4, none⟩ = some (.slice na nn nc) ∧ W.cell? ⟨w.heap.size, 5, none⟩ = some (.slice la ln lc) ∧ W.cell? ⟨w7.heap.size, 0, none⟩ = some (.int .i64 u.op) ∧ W.cell? ⟨w7.heap.size, 1, none⟩ = some (.int .i64 u.n) ∧ W.cell? ⟨w7.heap.size, 2, none⟩ = some (.string u.s) ∧ W.cell? ⟨w7.heap.size, 3, none⟩ = some (.slice zka zkn zkc) ∧ W.cell? ⟨w7.heap.size, 4, none⟩ = some (.slice zna znn znc) ∧ W.cell? ⟨w7.heap.size, 5, none⟩ = some (.slice zla zln zlc))
      (exact HSS.out _ (by with_reducible (repeat (first | exact Below.refl _ _ | exact HD0.out | refine Below.drew ?_ | refine below_new ?_ | refine belowStep (by assumption) ?_ | exact Nat.le_refl _))))
      (first
      | (go_at_call 23; (with_reducible refine Calls.mono (GSB.out _ ?_) ?_); (focus with_reducible (repeat (first | exact Below.refl _ _ | exact HD0.out | refine Below.drew ?_ | refine below_new ?_ | refine belowStep (by assumption) ?_ | exact Nat.le_refl _))); rintro e k1 ⟨⟨yv, rfl, hy⟩, hbk1⟩; have hbk := belowStep (a := w10) hbk1 (by with_reducible (repeat (first | exact Below.refl _ _ | exact HD0.out | refine Below.drew ?_ | refine below_new ?_ | refine belowStep (by assumption) ?_ | exact Nat.le_refl _))); have hyk := hy; obtain ⟨ua, un, uk, va, vn, vk, xa2, xn2, xk2, hyv, -, -, -⟩ := hy.shape; subst hyv)
      | (go_at_call 18; (with_reducible refine Calls.mono (GAN.out _ _ (by assumption) (by assumption)) ?_); rintro e k2 ⟨rfl, hbk2⟩)
      | fail)
    rename_i hHeld
    have HBE := Lib.hid (belowStep hHeld.1 HB.out)
    go_wp2
    go_ret
    exact ⟨rfl, HBE.out⟩
end Go.Proofs.YtkjaicmfegpjdaaGreat
