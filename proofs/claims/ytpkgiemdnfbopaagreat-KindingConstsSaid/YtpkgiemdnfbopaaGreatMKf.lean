/-
  Several texts in one (Se Tk Tn To Tp Ts Tt Tu Tv ShelfZ Tw Tx Ty Tz Va Vb Vd).
-/
import Derived.Test.YtpkgiemdnfbopaaGreatMKe
import Derived.Test.YtpkgiemdnfbopaaGreatMKc
import Derived.Sort.Walk0
import Derived.Shelf.SlIter.Nil
import Derived.Ground.GgzProg
import Derived.Test.YtpkgiemdnfbopaaGreatProg
import Derived.Test.YtpkgiemdnfbopaaGreatShelf
import Derived.Maps.OwnSet
import Derived.Shelf.AbstractIn
import Derived.Test.YtpkgiemdnfbopaaGreatMKd
import Derived.Deep.AppendLies
import Derived.OwnWalkIn
namespace Go.Proofs.YtpkgiemdnfbopaaGreat
open Go Go.RowKit
open Pl (K Con)
set_option linter.unusedSimpArgs false
set_option linter.unusedVariables false

set_option maxRecDepth 100000 in
set_option maxHeartbeats 4000000 in
theorem rsubst_any (P : Nat → Prop) (ts : List Con) (hts : ∀ x ∈ ts, Con.allB x = true) (t : Con) : Con.allB t = true → ∀ (d : Int) (w : World) (v xv : Value), (∀ q, P q → q < w.heap.size) → ConV w P t v → ConSl w P xv ts → 0 ≤ d → d + t.depth ≤ 100000 →
    Calls Tryz.prog 127 #[v, xv, .int .i64 d] w (RcP P (Con.subst ts t d) w) := by
  induction t using Con.ind with
  | h t ih =>
  intro hall d w v xv hP ht hl hd0 hd1
  have hnode : Con.nodeB t = true := by rw [allB_eq, Bool.and_eq_true] at hall; exact hall.1
  have hnn := nodeB_n t hnode
  have hdpos := Con.depth_pos t
  have hdi : d ≤ 100000 := by omega
  have HIH := Lib.hid (fun (i : Nat) (hi : i < t.l.length) (g : Int) (W : World) (x : Value) (h1 : ∀ q, P q → q < W.heap.size) (h2 : ConV W P t.l[i] x) (h2' : ConSl W P xv ts) (h3 : 0 ≤ g) (h4 : g ≤ d + 1) => ih t.l[i] (List.getElem_mem hi) (allB_part hall hi) g W x xv h1 h2 h2' h3 (by have := depth_part (List.getElem_mem hi); omega))
  have HCV := Lib.hid (fun W (hW : Same P w W) => ht.keep hW)
  have HCL := Lib.hid (fun W (hW : Same P w W) => hl.keep hW)
  have HP := Lib.hid hP
  obtain ⟨ka, kn, kc, na, nn, nc, la, ln, lc, rfl, -, -, hln⟩ := ht.shape
  obtain ⟨ea, ec, rfl, hel, hem, -⟩ := hl.each
  have HLN := Lib.hid hln
  obtain ⟨m, hm⟩ : ∃ m, m = ts.length := ⟨_, rfl⟩
  have hm63 : m ≤ 9223372036854775807 := by unfold maxLen at hem; omega
  obtain ⟨op, hop⟩ : ∃ op, op = t.op := ⟨_, rfl⟩
  obtain ⟨num, hnum⟩ : ∃ num, num = t.n := ⟨_, rfl⟩
  obtain ⟨s, hs⟩ : ∃ s, s = t.s := ⟨_, rfl⟩
  have HM := Lib.hid hm
  have HSV := Lib.hid (show op = 1 → Con.subst ts t d = if num < d then t else if num - d < (m : Int) then Con.shift d (ts.getD (num - d).toNat Con.none0) 0 else Con.var (num - (m : Int)) from fun h => by rw [Con.subst_var _ _ t (by rw [← hop]; exact h), hnum, hm])
  have HSN := Lib.hid (show op ≠ 1 → Con.subst ts t d = Con.inside t (t.l.map (fun x => Con.subst ts x (Con.deep t.op d))) from fun h => Con.subst_node ts d t (by rw [← hop]; exact h))
  rw [← hm] at HCL HIH
  rw [← hop, ← hnum, ← hs] at HCV ⊢
  rw [← hm]
  rw [← hnum] at hnn
  have hllen := (node_facts t hnode).2.2
  clear hop hnum hs hln ih hnode hall hl hm hem hel hd1 hdpos
  have hbx := boxN_new w 28 #[.int .i64 op, .int .i64 num, .string s, .slice ka kn kc, .slice na nn nc, .slice la ln lc]
  have hr0 := boxN_new (w.alloc (.cells #[.int .i64 op, .int .i64 num, .string s, .slice ka kn kc, .slice na nn nc, .slice la ln lc] 28)) 28 #[.int .i64 0, .int .i64 0, .string ⟨#[]⟩, .slice none 0 0, .slice none 0 0, .slice none 0 0]
  have hr1 := hr0.1
  rw [size_alloc] at hr1
  have HBX := Lib.hid (hbx.1.alloc (.cells #[.int .i64 0, .int .i64 0, .string ⟨#[]⟩, .slice none 0 0, .slice none 0 0, .slice none 0 0] 28))
  have HRX := Lib.hid hr1
  have HB := Lib.hid (belowStep hr0.2 hbx.2)
  clear hbx hr0 hr1 ht hP
  by_cases h1 : op = 1
  · have q1 : (op == 1) = true := by rw [h1]; rfl
    have HV := Lib.hid (HSV.out h1)
    clear HSV HSN HIH h1
    by_cases h2 : num < d
    · have q2 : decide (num < d) = true := decide_eq_true h2
      have HV2 := Lib.hid (show Con.subst ts t d = t from by rw [HV.out, if_pos h2])
      have hr := boxN_new (w.alloc (.cells #[.int .i64 op, .int .i64 num, .string s, .slice ka kn kc, .slice na nn nc, .slice la ln lc] 28)) 28 #[.int .i64 op, .int .i64 num, .string s, .slice ka kn kc, .slice na nn nc, .slice la ln lc]
      have hr1 := hr.1
      rw [size_alloc] at hr1
      have d0 := hr1.cell 0 (.int .i64 op) rfl
      have d1 := hr1.cell 1 (.int .i64 num) rfl
      have d2 := hr1.cell 2 (.string s) rfl
      have d3 := hr1.cell 3 (.slice ka kn kc) rfl
      have d4 := hr1.cell 4 (.slice na nn nc) rfl
      have d5 := hr1.cell 5 (.slice la ln lc) rfl
      have HB9 := Lib.hid (belowStep hr.2 (boxN_new w 28 #[.int .i64 op, .int .i64 num, .string s, .slice ka kn kc, .slice na nn nc, .slice la ln lc]).2)
      clear hr hr1 HV
      have c0 := HBX.out.cell 0 (.int .i64 op) rfl
      have c1 := HBX.out.cell 1 (.int .i64 num) rfl
      have c2 := HBX.out.cell 2 (.string s) rfl
      have c3 := HBX.out.cell 3 (.slice ka kn kc) rfl
      have c4 := HBX.out.cell 4 (.slice na nn nc) rfl
      have c5 := HBX.out.cell 5 (.slice la ln lc) rfl
      go_enter Tryz.func127, Tryz.ntmps127
      go_wp2
      refine bodyPost_ret (v := .agg #[.int .i64 op, .int .i64 num, .string s, .slice ka kn kc, .slice na nn nc, .slice la ln lc]) (by simp [results, Tryz.results127, go_sem, d0, d1, d2, d3, d4, d5]) rfl ?_
      rw [HV2.out]
      exact ⟨⟨_, rfl, (HCV.out _ (fun q hq => HB9.out.block q (HP.out q hq))).mono (fun q hq => .inl hq)⟩, HB9.out⟩
    have q2 : decide (num < d) = false := decide_eq_false h2
    by_cases h3 : num - d < (m : Int)
    · obtain ⟨j, hj⟩ : ∃ j : Nat, num - d = (j : Int) := ⟨(num - d).toNat, by omega⟩
      have hjm : j < m := by omega
      have q3 : decide ((j : Int) < (m : Int)) = true := decide_eq_true (by omega)
      have q4 : decide ((j : Int) < 0) = false := decide_eq_false (by omega)
      have q5 : decide ((m : Int) ≤ (j : Int)) = false := decide_eq_false (by omega)
      have hjl : j < ts.length := by rw [← HM.out]; exact hjm
      have HV2 := Lib.hid (show Con.subst ts t d = Con.shift d ts[j] 0 from by
        rw [HV.out, if_neg h2, if_pos h3, show (num - d).toNat = j from by omega, List.getD_eq_getElem?_getD, List.getElem?_eq_getElem hjl]
        rfl)
      go_enter Tryz.func127, Tryz.ntmps127
      have c0 := HBX.out.cell 0 (.int .i64 op) rfl
      have c1 := HBX.out.cell 1 (.int .i64 num) rfl
      have c2 := HBX.out.cell 2 (.string s) rfl
      have c3 := HBX.out.cell 3 (.slice ka kn kc) rfl
      have c4 := HBX.out.cell 4 (.slice na nn nc) rfl
      have c5 := HBX.out.cell 5 (.slice la ln lc) rfl
      go_upto_region 2 with fail
      generalize hw1 : (w.alloc (.cells #[.int .i64 op, .int .i64 num, .string s, .slice ka kn kc, .slice na nn nc, .slice la ln lc] 28)).alloc (.cells #[.int .i64 0, .int .i64 0, .string ⟨#[]⟩, .slice none 0 0, .slice none 0 0, .slice none 0 0] 28) = w1 at *
      have HSZ := Lib.hid (show w1.heap.size = w.heap.size + 2 from by rw [← hw1, size_alloc, size_alloc])
      clear hw1
      obtain ⟨eb, off, c', ya, yn, yc, za, zn, zc, pa, pn, pc, e, hpb, f0, f1, f2, f3, f4, f5, hx⟩ := (HCL.out w1 (fun q hq => HB.out.block q (HP.out q hq))).part j hjl
      injection e with e1 e2 e3
      subst e1 e3
      clear e2
      have HSF := Lib.hid (rshift_any P ts[j] d (by omega) (by omega) (hts _ (List.getElem_mem hjl)) 0 w1 _ (fun q hq => Nat.lt_of_lt_of_le (HP.out q hq) HB.out.size) hx (by omega) (by omega))
      rw [← HV2.out] at HSF
      have hwr : IntKind.i64.wrap (num - d) = (j : Int) := by rw [IntKind.wrap_i64]; omega
      obtain ⟨u, hu⟩ : ∃ u, u = ts[j] := ⟨_, rfl⟩
      rw [← hu] at HSF f0 f1 f2
      clear hx hu HV2 HV h2 h3
      generalize u.op = op2 at *
      generalize u.n = num2 at *
      generalize u.s = s2 at *
      go_wp2_with fail
      clear c0 c1 c2 c3 c4 c5 f0 f1 f2 f3 f4 f5
      refine HSF.out.mono ?_
      rintro e wq ⟨⟨yv, rfl, hy⟩, hbq⟩
      obtain ⟨ua, un, uc, va, vn, vc, xa, xn, xc, hyv, -, -, -⟩ := hy.shape
      subst hyv
      generalize Con.subst ts t d = z at *
      have hzr := HRX.out.of_eq (hbq.block _ HRX.out.lt)
      have HBR := HB
      have HIN := True.intro
      have hy := hy.mono (Q := fun q => P q ∨ (w1.heap.size ≤ q ∧ q < wq.heap.size)) (fun q hq => hq)
      have HWB := True.intro
      have t0 := hzr.thaw 0
      have t1 := hzr.thaw 1
      have t2 := hzr.thaw 2
      have t3 := hzr.thaw 3
      have t4 := hzr.thaw 4
      have t5 := hzr.thaw 5
      have r0 := hzr.cell 0 (.int .i64 0) rfl
      have r1 := hzr.cell 1 (.int .i64 0) rfl
      have r2 := hzr.cell 2 (.string ⟨#[]⟩) rfl
      have r3 := hzr.cell 3 (.slice none 0 0) rfl
      have r4 := hzr.cell 4 (.slice none 0 0) rfl
      have r5 := hzr.cell 5 (.slice none 0 0) rfl
      have hz := store6_blk hzr 0 (.int .i64 z.op) (.int .i64 z.n) (.string z.s) (.slice ua un uc) (.slice va vn vc) (.slice xa xn xc)
      rw [put6_all] at hz
      have HE := Lib.hid (show RcP P z w (.returned (.agg #[.int .i64 z.op, .int .i64 z.n, .string z.s, .slice ua un uc, .slice va vn vc, .slice xa xn xc])) (store6 wq (w.heap.size + 1) 0 (.int .i64 z.op) (.int .i64 z.n) (.string z.s) (.slice ua un uc) (.slice va vn vc) (.slice xa xn xc)) from
        ⟨⟨_, rfl, (hy.keep (fun q hq => store6_other _ _ _ _ _ _ _ _ _ q (by
          have := HSZ.out
          rcases hq with hq | hq
          · have := HP.out q hq; omega
          · omega))).mono (fun q hq => by
          rcases hq with hq | hq
          · exact .inl hq
          · exact .inr ⟨by have := HSZ.out; omega, by rw [store6_size]; have := hbq.size; omega⟩)⟩, store6_below (belowStep hbq HBR.out) _ _ _ _ _ _ _ _ (Nat.le_succ _)⟩)
      unfold store6 at hz HE
      simp only [Nat.zero_add] at hz HE
      have z0 := hz.cell 0 (.int .i64 z.op) rfl
      have z1 := hz.cell 1 (.int .i64 z.n) rfl
      have z2 := hz.cell 2 (.string z.s) rfl
      have z3 := hz.cell 3 (.slice ua un uc) rfl
      have z4 := hz.cell 4 (.slice va vn vc) rfl
      have z5 := hz.cell 5 (.slice xa xn xc) rfl
      clear hy hzr hz hbq HIN
      go_wp2
      refine bodyPost_ret (v := .agg #[.int .i64 z.op, .int .i64 z.n, .string z.s, .slice ua un uc, .slice va vn vc, .slice xa xn xc]) (by simp [results, Tryz.results127, go_sem, z0, z1, z2, z3, z4, z5]) rfl ?_
      exact HE.out
    · have q3 : decide (num - d < (m : Int)) = false := decide_eq_false h3
      have HV2 := Lib.hid (show Con.subst ts t d = ⟨1, num - (m : Int), ByteArray.empty, .mk [], [], []⟩ from by rw [HV.out, if_neg h2, if_neg h3]; rfl)
      have hwr : IntKind.i64.wrap (num - d) = num - d := by rw [IntKind.wrap_i64]; omega
      have hwr2 : IntKind.i64.wrap (num - (m : Int)) = num - (m : Int) := by rw [IntKind.wrap_i64]; omega
      have hr := boxN_new (w.alloc (.cells #[.int .i64 op, .int .i64 num, .string s, .slice ka kn kc, .slice na nn nc, .slice la ln lc] 28)) 28 #[.int .i64 1, .int .i64 (num - (m : Int)), .string ⟨#[]⟩, .slice none 0 0, .slice none 0 0, .slice none 0 0]
      have hr1 := hr.1
      rw [size_alloc] at hr1
      have d0 := hr1.cell 0 (.int .i64 1) rfl
      have d1 := hr1.cell 1 (.int .i64 (num - (m : Int))) rfl
      have d2 := hr1.cell 2 (.string ⟨#[]⟩) rfl
      have d3 := hr1.cell 3 (.slice none 0 0) rfl
      have d4 := hr1.cell 4 (.slice none 0 0) rfl
      have d5 := hr1.cell 5 (.slice none 0 0) rfl
      have HB9 := Lib.hid (belowStep hr.2 (boxN_new w 28 #[.int .i64 op, .int .i64 num, .string s, .slice ka kn kc, .slice na nn nc, .slice la ln lc]).2)
      clear hr hr1 HV
      have c0 := HBX.out.cell 0 (.int .i64 op) rfl
      have c1 := HBX.out.cell 1 (.int .i64 num) rfl
      have c2 := HBX.out.cell 2 (.string s) rfl
      have c3 := HBX.out.cell 3 (.slice ka kn kc) rfl
      have c4 := HBX.out.cell 4 (.slice na nn nc) rfl
      have c5 := HBX.out.cell 5 (.slice la ln lc) rfl
      go_enter Tryz.func127, Tryz.ntmps127
      go_wp2
      refine bodyPost_ret (v := .agg #[.int .i64 1, .int .i64 (num - (m : Int)), .string ⟨#[]⟩, .slice none 0 0, .slice none 0 0, .slice none 0 0]) (by simp [results, Tryz.results127, go_sem, d0, d1, d2, d3, d4, d5]) rfl ?_
      rw [HV2.out]
      exact ⟨⟨_, rfl, conV_lf 1 (num - (m : Int)) _ _⟩, HB9.out⟩
  have q1 : (op == 1) = false := by simpa using h1
  have HV := Lib.hid (HSN.out h1)
  clear HSV HSN
  have c0 := HBX.out.cell 0 (.int .i64 op) rfl
  have c1 := HBX.out.cell 1 (.int .i64 num) rfl
  have c2 := HBX.out.cell 2 (.string s) rfl
  have c3 := HBX.out.cell 3 (.slice ka kn kc) rfl
  have c4 := HBX.out.cell 4 (.slice na nn nc) rfl
  have c5 := HBX.out.cell 5 (.slice la ln lc) rfl
  go_enter Tryz.func127, Tryz.ntmps127
  go_upto_region 1 with fail
  generalize hw1 : (w.alloc (.cells #[.int .i64 op, .int .i64 num, .string s, .slice ka kn kc, .slice na nn nc, .slice la ln lc] 28)).alloc (.cells #[.int .i64 0, .int .i64 0, .string ⟨#[]⟩, .slice none 0 0, .slice none 0 0, .slice none 0 0] 28) = w1 at *
  have HSZ := Lib.hid (show w1.heap.size = w.heap.size + 2 from by rw [← hw1, size_alloc, size_alloc])
  clear hw1
  go_upto_region 9 with fail
  clear c0 c1 c2 c3 c4 c5 q1
  obtain ⟨dp, hdp⟩ : ∃ dp, dp = Con.deep t.op d := ⟨_, rfl⟩
  have hdp2 : 0 ≤ dp ∧ dp ≤ d + 1 := by have := Con.deep_le t.op d; omega
  have HDP := Lib.hid (fun W (hW : Same P w W) => (rdeep_any P t d W (.agg #[.int .i64 op, .int .i64 num, .string s, .slice ka kn kc, .slice na nn nc, .slice la ln lc]) (HCV.out W hW) (by omega) (by omega)))
  rw [← hdp] at HDP
  rw [← hdp] at HV
  clear hdp
  obtain ⟨F, hF⟩ : ∃ F : Con → Con, F = fun x => Con.subst ts x dp := ⟨_, rfl⟩
  have HV2 := Lib.hid (show Con.subst ts t d = Con.inside t (t.l.map F) from by rw [HV.out, hF])
  replace HIH := Lib.hid (fun (i : Nat) (hi : i < t.l.length) (W : World) (x : Value) (h1 : ∀ q, P q → q < W.heap.size) (h2 : ConV W P t.l[i] x) (h2' : ConSl W P (.slice ea m ec) ts) => (show Calls Tryz.prog 127 #[x, .slice ea m ec, .int .i64 dp] W (RcP P (F t.l[i]) W) from by rw [hF]; exact HIH.out i hi dp W x h1 h2 h2' hdp2.1 hdp2.2))
  clear HV hF
  obtain ⟨iC, ci0, ci1, ci2, ci3⟩ := info_parts infoCon
  go_loopg [7, 8] (ln + 1) (fun gk sl i wr => ∃ (k : Nat) (us : List Value), k ≤ ln ∧ i = .int .i64 k ∧ gk = ln + 1 - k ∧ CB P w1.heap.size wr ((t.l.take k).map F) us sl ∧ Below w1.heap.size w1 wr)
  case atStart => exact ⟨0, [], Nat.zero_le _, rfl, by omega, by rw [List.take_zero]; exact CB.nil _ _ _, Below.refl _ _⟩
  case round =>
    obtain ⟨k, us, hk, rfl, hgk, hcb, hbw⟩ := hrel
    have HCB := Lib.hid hcb
    have HBW := Lib.hid hbw
    replace HBX := Lib.hid (HBX.out.of_eq (hbw.block _ HBX.out.lt))
    replace HRX := Lib.hid (HRX.out.of_eq (hbw.block _ HRX.out.lt))
    have HPR := Lib.hid (fun q (hq : P q) => (show q < wr.heap.size from Nat.lt_of_lt_of_le (HP.out q hq) (Nat.le_trans HB.out.size hbw.size)))
    have HSR := Lib.hid (show Same P w wr from fun q hq => (hbw.block q (by have := HP.out q hq; have := HSZ.out; omega)).trans (HB.out.block q (HP.out q hq)))
    clear hcb hbw
    by_cases hlt : k < ln
    · have hkl : k < t.l.length := by rw [← HLN.out]; exact hlt
      have q5 : decide ((k : Int) < (ln : Int)) = true := decide_eq_true (by omega)
      have q6 : decide ((k : Int) < 0) = false := decide_eq_false (by omega)
      have q7 : decide ((ln : Int) ≤ (k : Int)) = false := decide_eq_false (by omega)
      obtain ⟨eb, off, c', ya, yn, yc, za, zn, zc, pa, pn, pc, e, hpb, f0, f1, f2, f3, f4, f5, hx⟩ := (con_list (HCV.out wr HSR.out)).part k hkl
      injection e with e1 e2 e3
      subst e1 e3
      clear e2
      have HSF := Lib.hid (fun W (hW : Below wr.heap.size wr W) => HIH.out k hkl W _ (fun q hq => Nat.lt_of_lt_of_le (HPR.out q hq) hW.size) (hx.keep (Same.of_below hW HPR.out)) (HCL.out W (fun q hq => (hW.block q (HPR.out q hq)).trans (HSR.out q hq))))
      have HTK := Lib.hid (show (t.l.take (k + 1)).map F = (t.l.take k).map F ++ [F t.l[k]] from by rw [List.take_succ_eq_append_getElem hkl, List.map_append]; rfl)
      obtain ⟨u, hu⟩ : ∃ u, u = t.l[k] := ⟨_, rfl⟩
      rw [← hu] at HSF HTK f0 f1 f2
      clear hx hu
      obtain ⟨op2, hop2⟩ : ∃ op2, op2 = u.op := ⟨_, rfl⟩
      obtain ⟨num2, hnum2⟩ : ∃ num2, num2 = u.n := ⟨_, rfl⟩
      obtain ⟨s2, hs2⟩ : ∃ s2, s2 = u.s := ⟨_, rfl⟩
      rw [← hop2] at f0 HSF
      rw [← hnum2] at f1 HSF
      rw [← hs2] at f2 HSF
      clear hop2 hnum2 hs2
      have hLk : k = ((t.l.take k).map F).length := by rw [List.length_map, List.length_take]; omega
      obtain ⟨L, hL⟩ : ∃ L, L = (t.l.take k).map F := ⟨_, rfl⟩
      rw [← hL] at HTK HCB hLk
      have HLK := Lib.hid hLk
      clear hLk hL
      obtain ⟨sa, sc, hsv⟩ := row_form6 HCB.out.row
      subst hsv
      rw [← HLK.out] at HCB ⊢
      have HEL := Lib.hid (show ∀ W : World, (∀ q, P q → W.heap[q]? = wr.heap[q]?) → W.cell? ⟨eb, off + k * 6, none⟩ = some (.int .i64 op2) ∧ W.cell? ⟨eb, off + k * 6 + 1, none⟩ = some (.int .i64 num2) ∧ W.cell? ⟨eb, off + k * 6 + 2, none⟩ = some (.string s2) ∧ W.cell? ⟨eb, off + k * 6 + 3, none⟩ = some (.slice ya yn yc) ∧ W.cell? ⟨eb, off + k * 6 + 4, none⟩ = some (.slice za zn zc) ∧ W.cell? ⟨eb, off + k * 6 + 5, none⟩ = some (.slice pa pn pc) from fun W hW => by
        have e := hW eb hpb
        exact ⟨(cell_eq9 e).trans f0, (cell_eq9 e).trans f1, (cell_eq9 e).trans f2, (cell_eq9 e).trans f3, (cell_eq9 e).trans f4, (cell_eq9 e).trans f5⟩)
      have HLOW := Lib.hid HCB.out.low
      have HSS := Lib.hid (show ∀ W : World, Blk W w.heap.size 28 #[.int .i64 op, .int .i64 num, .string s, .slice ka kn kc, .slice na nn nc, .slice (some ⟨eb, off, none⟩) ln lc] → (∀ q, P q → W.heap[q]? = wr.heap[q]?) → (fun W : World => W.cell? ⟨w.heap.size, 0, none⟩ = some (.int .i64 op) ∧ W.cell? ⟨w.heap.size, 1, none⟩ = some (.int .i64 num) ∧ W.cell? ⟨w.heap.size, 2, none⟩ = some (.string s) ∧ W.cell? ⟨w.heap.size, 3, none⟩ = some (.slice ka kn kc) ∧ W.cell? ⟨w.heap.size, 4, none⟩ = some (.slice na nn nc) ∧ W.cell? ⟨w.heap.size, 5, none⟩ = some (.slice (some ⟨eb, off, none⟩) ln lc) ∧ W.cell? ⟨eb, off + k * 6, none⟩ = some (.int .i64 op2) ∧ W.cell? ⟨eb, off + k * 6 + 1, none⟩ = some (.int .i64 num2) ∧ W.cell? ⟨eb, off + k * 6 + 2, none⟩ = some (.string s2) ∧ W.cell? ⟨eb, off + k * 6 + 3, none⟩ = some (.slice ya yn yc) ∧ W.cell? ⟨eb, off + k * 6 + 4, none⟩ = some (.slice za zn zc) ∧ W.cell? ⟨eb, off + k * 6 + 5, none⟩ = some (.slice pa pn pc)) W from fun W h1 h2 => ⟨h1.cell 0 _ rfl, h1.cell 1 _ rfl, h1.cell 2 _ rfl, h1.cell 3 _ rfl, h1.cell 4 _ rfl, h1.cell 5 _ rfl, HEL.out W h2⟩)
      have HKP := Lib.hid (fun W (hW : Below wr.heap.size wr W) => HSS.out W (HBX.out.of_eq (hW.block _ HBX.out.lt)) (fun q hq => hW.block q (HPR.out q hq)))
      have HKG := Lib.hid (fun ws x0 x1 x2 x3 x4 x5 w8 (hW : Below wr.heap.size wr ws) (hg : (ws.alloc (.cells #[x0, x1, x2, x3, x4, x5] 28)).grownBy w8 (Value.slice sa k sc).ownBlock) => HSS.out w8
        (grown_block ((HBX.out.of_eq (hW.block _ HBX.out.lt)).alloc _) hg (fun e => by have := (HLOW.out _ e).1; have := HSZ.out; omega))
        (fun q hq => ((hg.block q (by rw [size_alloc]; have := HPR.out q hq; have := hW.size; omega) (fun e => by have := (HLOW.out _ e.symm).1; have := HP.out q hq; have := HSZ.out; omega)).trans (Below.heap_alloc ws _ q (Nat.lt_of_lt_of_le (HPR.out q hq) hW.size))).trans (hW.block q (HPR.out q hq))))
      simp only at HKP HKG
      have HALC := Lib.hid (fun W o (hW : Below wr.heap.size wr W) => (hW.alloc hW.size o))
      have HD0 := Lib.hid (Below.refl wr.heap.size wr).drew
      have HDQ := Lib.hid (fun W (hW : Below wr.heap.size wr W) => HDP.out W (fun q hq => (hW.block q (HPR.out q hq)).trans (HSR.out q hq)))
      have HS7 := Lib.hid (fun ws x0 x1 x2 x3 x4 x5 (hW : Below wr.heap.size wr ws) => (show (ws.alloc (.cells #[x0, x1, x2, x3, x4, x5] 28)).ownsRow w1.heap.size 28 6 (.slice sa k sc) k us ∧ (∀ j u, [x0, x1, x2, x3, x4, x5][j]? = some u → (ws.alloc (.cells #[x0, x1, x2, x3, x4, x5] 28)).cell? ((⟨ws.heap.size, 0, none⟩ : Addr).add j) = some u) ∧ (ws.alloc (.cells #[x0, x1, x2, x3, x4, x5] 28)).heap.size = ws.heap.size + 1 from by
        have h := (HCB.out.below HPR.out hW).row
        rw [← HLK.out] at h
        exact ⟨h.alloc _, World.news_of_block (cs := #[x0, x1, x2, x3, x4, x5]) (t := 28) (fr := (0, 0)) (boxN_new ws 28 #[x0, x1, x2, x3, x4, x5]).1, size_alloc _ _⟩))
      have hwb : w1.heap.size ≤ wr.heap.size := HBW.out.size
      clear f0 f1 f2 f3 f4 f5 hpb HEL HSS
      have c0 := HBX.out.cell 0 (.int .i64 op) rfl
      have c1 := HBX.out.cell 1 (.int .i64 num) rfl
      have c2 := HBX.out.cell 2 (.string s) rfl
      have c3 := HBX.out.cell 3 (.slice ka kn kc) rfl
      have c4 := HBX.out.cell 4 (.slice na nn nc) rfl
      have c5 := HBX.out.cell 5 (.slice (some ⟨eb, off, none⟩) ln lc) rfl
      go_wp2_with fail
      clear c0 c1 c2 c3 c4 c5
      go_region_held3 (fun W => W.cell? ⟨w.heap.size, 0, none⟩ = some (.int .i64 op) ∧ W.cell? ⟨w.heap.size, 1, none⟩ = some (.int .i64 num) ∧ W.cell? ⟨w.heap.size, 2, none⟩ = some (.string s) ∧ W.cell? ⟨w.heap.size, 3, none⟩ = some (.slice ka kn kc) ∧ W.cell? ⟨w.heap.size, 4, none⟩ = some (.slice na nn nc) ∧ W.cell? ⟨w.heap.size, 5, none⟩ = some (.slice (some ⟨eb, off, none⟩) ln lc) ∧ W.cell? ⟨eb, off + k * 6, none⟩ = some (.int .i64 op2) ∧ W.cell? ⟨eb, off + k * 6 + 1, none⟩ = some (.int .i64 num2) ∧ W.cell? ⟨eb, off + k * 6 + 2, none⟩ = some (.string s2) ∧ W.cell? ⟨eb, off + k * 6 + 3, none⟩ = some (.slice ya yn yc) ∧ W.cell? ⟨eb, off + k * 6 + 4, none⟩ = some (.slice za zn zc) ∧ W.cell? ⟨eb, off + k * 6 + 5, none⟩ = some (.slice pa pn pc))
        (first | (with_reducible exact HKP.out _ HD0.out) | (with_reducible exact HKP.out _ (by assumption)) | (with_reducible exact HKP.out _ (HALC.out _ _ (by assumption))) | (with_reducible exact HKG.out _ _ _ _ _ _ _ _ (by assumption) (by assumption)))
        (first
        | (go_at_call 125; (with_reducible refine (HDQ.out _ (by first | exact HD0.out | assumption)).mono ?_); rintro e wd ⟨rfl, hbd⟩; have hbd2 := belowStep (a := wr) hbd (by first | exact HD0.out | assumption))
        | (go_at_call 127; (with_reducible refine (HSF.out _ (by assumption)).mono ?_); rintro e ws ⟨⟨yv, rfl, hy⟩, hbs⟩; have hbs2 := belowStep (a := wr) hbs (by assumption); obtain ⟨ua, un, uc, va, vn, vc, xa, xn, xc, hyv, -, -, -⟩ := hy.shape; subst hyv; obtain ⟨hrow7, hnew7, hsz7⟩ := HS7.out ws (.int .i64 (F u).op) (.int .i64 (F u).n) (.string (F u).s) (.slice ua un uc) (.slice va vn vc) (.slice xa xn xc) hbs2; have hws := hbs2.size)
        | (refine step_append_lies _ rfl (.tmp 46) (.tmp 57) 26 rfl w1.heap.size 28 iC (.agg #[.int .i64 0, .int .i64 0, .string ByteArray.empty, .slice none 0 0, .slice none 0 0, .slice none 0 0]) 6 104 Tryz.underlying26 ci0 ci1 ci2 ci3 rfl (by decide) (.slice sa k sc) k us (by simp [Act.eval, Act.put]) hrow7 ⟨ws.heap.size, 0, none⟩ 1 1 [.int .i64 (F u).op, .int .i64 (F u).n, .string (F u).s, .slice ua un uc, .slice va vn vc, .slice xa xn xc] (by simp [Act.eval, Act.put]) rfl hnew7 (by simp [Value.oneCell']) (by decide) (by unfold maxLen; omega) (by omega) (by rw [hsz7]; omega) (ws.heap.size + 1) hsz7 ?_; intro gg cap w8 hown hgrow hat hlt8))
      have hcb2 := HCB.out.below HPR.out hbs2
      have hlow := HLOW.out
      have hwd := hbd2.size
      have HCB2 := Lib.hid (hcb2.push HLK.out (fun q hq => Nat.lt_of_lt_of_le (HPR.out q hq) hbs2.size) hy (fun q hq => ⟨by
        rcases hq with hq | hq
        · exact .inl hq
        · exact .inr ⟨by omega, hq.2⟩, fun e => by
        have h1 := hlow q e
        rcases hq with hq | hq
        · have := HP.out q hq; have := HSZ.out; omega
        · have := hq.1; omega⟩) hown hgrow hat)
      have HBW2 := Lib.hid (((belowStep hbs2 HBW.out).alloc (by omega) (.cells #[.int .i64 (F u).op, .int .i64 (F u).n, .string (F u).s, .slice ua un uc, .slice va vn vc, .slice xa xn xc] 28)).grown hgrow (by rw [hsz7]; omega) (fun j hj => (hlow j hj).1))
      rw [← HTK.out] at HCB2
      clear hcb2 hlow hwd hy hown hgrow hat hlt8 hrow7 hnew7 hsz7 hws hbs hbs2 hbd hbd2 HKP HKG HALC HD0 HDQ HS7 HSF HTK HLOW HCB HLK
      go_wp2
      go_roundg (gk - 1)
      case measure => omega
      case rel => exact ⟨k + 1, _, by omega, by go_num, by omega, HCB2.out, HBW2.out⟩
    · have hkn : ln = k := by omega
      subst hkn
      have q5 : decide ((ln : Int) < (ln : Int)) = false := decide_eq_false (by omega)
      have hta : t.l.take ln = t.l := List.take_of_length_le (by rw [HLN.out]; exact Nat.le_refl _)
      rw [hta] at HCB
      clear hta
      obtain ⟨L, hL⟩ : ∃ L, L = t.l.map F := ⟨_, rfl⟩
      rw [← hL] at HCB HV2
      clear hL
      obtain ⟨sa, sc, hsv⟩ := row_form6 HCB.out.row
      subst hsv
      have hcl := HCB.out.cons (S := fun q => P q ∨ (w1.heap.size ≤ q ∧ q < wr.heap.size)) (fun q hq => .inl hq) (fun q h1 h2 => .inr ⟨h1, h2⟩)
      have HIN := Lib.hid (rinside_any (fun q => P q ∨ (w1.heap.size ≤ q ∧ q < wr.heap.size)) t L wr (.agg #[.int .i64 op, .int .i64 num, .string s, .slice ka kn kc, .slice na nn nc, .slice la ln lc]) (.slice sa L.length sc) (fun q hq => by
        rcases hq with hq | hq
        · exact HPR.out q hq
        · exact hq.2) ((HCV.out wr HSR.out).mono (fun q hq => .inl hq)) hcl)
      rw [← HV2.out] at HIN
      generalize L.length = sn at *
      have HBR := Lib.hid (show Below w.heap.size w wr from ⟨HBW.out.os.trans HB.out.os, HBW.out.tape.trans HB.out.tape, HBW.out.output.trans HB.out.output, Nat.le_trans HB.out.size HBW.out.size, fun q hq => (HBW.out.block q (by have := HSZ.out; omega)).trans (HB.out.block q hq)⟩)
      have HWB := Lib.hid (show w.heap.size + 2 ≤ wr.heap.size from by have := HBW.out.size; have := HSZ.out; omega)
      clear hcl HCB HV2
      have c0 := HBX.out.cell 0 (.int .i64 op) rfl
      have c1 := HBX.out.cell 1 (.int .i64 num) rfl
      have c2 := HBX.out.cell 2 (.string s) rfl
      have c3 := HBX.out.cell 3 (.slice ka kn kc) rfl
      have c4 := HBX.out.cell 4 (.slice na nn nc) rfl
      have c5 := HBX.out.cell 5 (.slice la ln lc) rfl
      go_wp2_with fail
      clear c0 c1 c2 c3 c4 c5
      refine HIN.out.mono ?_
      rintro e wq ⟨⟨yv, rfl, hy⟩, hbq⟩
      obtain ⟨ua, un, uc, va, vn, vc, xa, xn, xc, hyv, -, -, -⟩ := hy.shape
      subst hyv
      generalize Con.subst ts t d = z at *
      have hzr := HRX.out.of_eq (hbq.block _ HRX.out.lt)
      have t0 := hzr.thaw 0
      have t1 := hzr.thaw 1
      have t2 := hzr.thaw 2
      have t3 := hzr.thaw 3
      have t4 := hzr.thaw 4
      have t5 := hzr.thaw 5
      have r0 := hzr.cell 0 (.int .i64 0) rfl
      have r1 := hzr.cell 1 (.int .i64 0) rfl
      have r2 := hzr.cell 2 (.string ⟨#[]⟩) rfl
      have r3 := hzr.cell 3 (.slice none 0 0) rfl
      have r4 := hzr.cell 4 (.slice none 0 0) rfl
      have r5 := hzr.cell 5 (.slice none 0 0) rfl
      have hz := store6_blk hzr 0 (.int .i64 z.op) (.int .i64 z.n) (.string z.s) (.slice ua un uc) (.slice va vn vc) (.slice xa xn xc)
      rw [put6_all] at hz
      have HE := Lib.hid (show RcP P z w (.returned (.agg #[.int .i64 z.op, .int .i64 z.n, .string z.s, .slice ua un uc, .slice va vn vc, .slice xa xn xc])) (store6 wq (w.heap.size + 1) 0 (.int .i64 z.op) (.int .i64 z.n) (.string z.s) (.slice ua un uc) (.slice va vn vc) (.slice xa xn xc)) from
        ⟨⟨_, rfl, (hy.keep (fun q hq => store6_other _ _ _ _ _ _ _ _ _ q (by
          have := HSZ.out
          rcases hq with hq | hq
          · have := HP.out q hq; omega
          · omega))).mono (fun q hq => by
          rcases hq with hq | hq
          · exact .inl hq
          · exact .inr ⟨by have := HSZ.out; omega, by rw [store6_size]; have := hbq.size; omega⟩)⟩, store6_below (belowStep hbq HBR.out) _ _ _ _ _ _ _ _ (Nat.le_succ _)⟩)
      unfold store6 at hz HE
      simp only [Nat.zero_add] at hz HE
      have z0 := hz.cell 0 (.int .i64 z.op) rfl
      have z1 := hz.cell 1 (.int .i64 z.n) rfl
      have z2 := hz.cell 2 (.string z.s) rfl
      have z3 := hz.cell 3 (.slice ua un uc) rfl
      have z4 := hz.cell 4 (.slice va vn vc) rfl
      have z5 := hz.cell 5 (.slice xa xn xc) rfl
      clear hy hzr hz hbq HIN
      go_wp2
      refine bodyPost_ret (v := .agg #[.int .i64 z.op, .int .i64 z.n, .string z.s, .slice ua un uc, .slice va vn vc, .slice xa xn xc]) (by simp [results, Tryz.results127, go_sem, z0, z1, z2, z3, z4, z5]) rfl ?_
      exact HE.out
set_option maxRecDepth 100000 in
set_option maxHeartbeats 2000000 in
theorem rSubst_any (P : Nat → Prop) (ts : List Con) (hts : ∀ x ∈ ts, Con.allB x = true) (t : Con) (hall : Con.allB t = true) (hd : t.depth ≤ 100000) (w : World) (v xv : Value) (hP : ∀ q, P q → q < w.heap.size) (ht : ConV w P t v) (hl : ConSl w P xv ts) :
    Calls Tryz.prog 79 #[v, xv] w (RcP P (Con.subst ts t 0) w) := by
  obtain ⟨ka, kn, kc, na, nn, nc, la, ln, lc, rfl, -, -, -⟩ := ht.shape
  obtain ⟨ea, ec, rfl, -, -, -⟩ := hl.each
  generalize hm : ts.length = m at *
  obtain ⟨op, hop⟩ : ∃ op, op = t.op := ⟨_, rfl⟩
  obtain ⟨num, hnum⟩ : ∃ num, num = t.n := ⟨_, rfl⟩
  obtain ⟨s, hs⟩ : ∃ s, s = t.s := ⟨_, rfl⟩
  have HCV := Lib.hid (fun W (hW : Below w.heap.size w W) => rsubst_any P ts hts t hall 0 W _ _ (fun q hq => Nat.lt_of_lt_of_le (hP q hq) hW.size) (ht.keep (Same.of_below hW hP)) (hl.keep (Same.of_below hW hP)) (by omega) (by omega))
  rw [← hop, ← hnum, ← hs] at HCV ⊢
  have HP := Lib.hid hP
  clear ht hl hm hP hop hnum hs
  have hbx := boxN_new w 28 #[.int .i64 op, .int .i64 num, .string s, .slice ka kn kc, .slice na nn nc, .slice la ln lc]
  have hr0 := boxN_new (w.alloc (.cells #[.int .i64 op, .int .i64 num, .string s, .slice ka kn kc, .slice na nn nc, .slice la ln lc] 28)) 28 #[.int .i64 0, .int .i64 0, .string ⟨#[]⟩, .slice none 0 0, .slice none 0 0, .slice none 0 0]
  have hr1 := hr0.1
  rw [size_alloc] at hr1
  have HBX := Lib.hid (hbx.1.alloc (.cells #[.int .i64 0, .int .i64 0, .string ⟨#[]⟩, .slice none 0 0, .slice none 0 0, .slice none 0 0] 28))
  have HRX := Lib.hid hr1
  have HB := Lib.hid (belowStep hr0.2 hbx.2)
  clear hbx hr0 hr1
  go_enter Tryz.func79, Tryz.ntmps79
  go_upto_region 1 with fail
  generalize hw1 : (w.alloc (.cells #[.int .i64 op, .int .i64 num, .string s, .slice ka kn kc, .slice na nn nc, .slice la ln lc] 28)).alloc (.cells #[.int .i64 0, .int .i64 0, .string ⟨#[]⟩, .slice none 0 0, .slice none 0 0, .slice none 0 0] 28) = w1 at *
  have HSZ := Lib.hid (show w1.heap.size = w.heap.size + 2 from by rw [← hw1, size_alloc, size_alloc])
  clear hw1
  have c0 := HBX.out.cell 0 (.int .i64 op) rfl
  have c1 := HBX.out.cell 1 (.int .i64 num) rfl
  have c2 := HBX.out.cell 2 (.string s) rfl
  have c3 := HBX.out.cell 3 (.slice ka kn kc) rfl
  have c4 := HBX.out.cell 4 (.slice na nn nc) rfl
  have c5 := HBX.out.cell 5 (.slice la ln lc) rfl
  go_wp2_with fail
  clear c0 c1 c2 c3 c4 c5
  refine (HCV.out w1 HB.out).mono ?_
  rintro e wq ⟨⟨yv, rfl, hy⟩, hbq⟩
  obtain ⟨ua, un, uc, va, vn, vc, xa, xn, xc, hyv, -, -, -⟩ := hy.shape
  subst hyv
  generalize Con.subst ts t 0 = z at *
  have hzr := HRX.out.of_eq (hbq.block _ HRX.out.lt)
  have HBR := HB
  have HIN := True.intro
  have hy := hy.mono (Q := fun q => P q ∨ (w1.heap.size ≤ q ∧ q < wq.heap.size)) (fun q hq => hq)
  have t0 := hzr.thaw 0
  have t1 := hzr.thaw 1
  have t2 := hzr.thaw 2
  have t3 := hzr.thaw 3
  have t4 := hzr.thaw 4
  have t5 := hzr.thaw 5
  have r0 := hzr.cell 0 (.int .i64 0) rfl
  have r1 := hzr.cell 1 (.int .i64 0) rfl
  have r2 := hzr.cell 2 (.string ⟨#[]⟩) rfl
  have r3 := hzr.cell 3 (.slice none 0 0) rfl
  have r4 := hzr.cell 4 (.slice none 0 0) rfl
  have r5 := hzr.cell 5 (.slice none 0 0) rfl
  have hz := store6_blk hzr 0 (.int .i64 z.op) (.int .i64 z.n) (.string z.s) (.slice ua un uc) (.slice va vn vc) (.slice xa xn xc)
  rw [put6_all] at hz
  have HE := Lib.hid (show RcP P z w (.returned (.agg #[.int .i64 z.op, .int .i64 z.n, .string z.s, .slice ua un uc, .slice va vn vc, .slice xa xn xc])) (store6 wq (w.heap.size + 1) 0 (.int .i64 z.op) (.int .i64 z.n) (.string z.s) (.slice ua un uc) (.slice va vn vc) (.slice xa xn xc)) from
    ⟨⟨_, rfl, (hy.keep (fun q hq => store6_other _ _ _ _ _ _ _ _ _ q (by
      have := HSZ.out
      rcases hq with hq | hq
      · have := HP.out q hq; omega
      · omega))).mono (fun q hq => by
      rcases hq with hq | hq
      · exact .inl hq
      · exact .inr ⟨by have := HSZ.out; omega, by rw [store6_size]; have := hbq.size; omega⟩)⟩, store6_below (belowStep hbq HBR.out) _ _ _ _ _ _ _ _ (Nat.le_succ _)⟩)
  unfold store6 at hz HE
  simp only [Nat.zero_add] at hz HE
  have z0 := hz.cell 0 (.int .i64 z.op) rfl
  have z1 := hz.cell 1 (.int .i64 z.n) rfl
  have z2 := hz.cell 2 (.string z.s) rfl
  have z3 := hz.cell 3 (.slice ua un uc) rfl
  have z4 := hz.cell 4 (.slice va vn vc) rfl
  have z5 := hz.cell 5 (.slice xa xn xc) rfl
  clear hy hzr hz hbq HIN
  go_wp2
  refine bodyPost_ret (v := .agg #[.int .i64 z.op, .int .i64 z.n, .string z.s, .slice ua un uc, .slice va vn vc, .slice xa xn xc]) (by simp [results, Tryz.results79, go_sem, z0, z1, z2, z3, z4, z5]) rfl ?_
  exact HE.out
end Go.Proofs.YtpkgiemdnfbopaaGreat
namespace Go.Proofs.YtpkgiemdnfbopaaGreat
open Go Go.RowKit
open Pl (K Con)
set_option linter.unusedSimpArgs false
set_option linter.unusedVariables false

/-- the place as the reference says it -/
def posI (s : ByteArray) (zs : List ByteArray) : Int := match posB s zs with | some i => (i : Int) | none => -1
theorem posB_hit (s : ByteArray) : ∀ (zs : List ByteArray) (k : Nat) (hk : k < zs.length), zs[k] = s → (∀ j (hj : j < zs.length), j < k → zs[j] ≠ s) → posB s zs = some k := by
  intro zs
  induction zs with
  | nil => intro k hk; exact absurd hk (Nat.not_lt_zero _)
  | cons z r ih =>
    intro k hk he hm
    rw [posB]
    cases k with
    | zero =>
      have he : z = s := he
      rw [if_pos he]
    | succ k =>
      have h0 : z ≠ s := hm 0 (by simp) (by omega)
      have hk' : k < r.length := by simpa using hk
      rw [if_neg h0, ih k hk' (by simpa using he) (fun j hj hjk => by have := hm (j + 1) (by simpa using hj) (by omega); simpa using this)]
      rfl
theorem posB_miss (s : ByteArray) : ∀ (zs : List ByteArray), (∀ j (hj : j < zs.length), zs[j] ≠ s) → posB s zs = none := by
  intro zs
  induction zs with
  | nil => intro _; rfl
  | cons z r ih =>
    intro hm
    have h0 : z ≠ s := hm 0 (by simp)
    rw [posB, if_neg h0, ih (fun j hj => by have := hm (j + 1) (by simpa using hj); simpa using this)]
    rfl
set_option maxHeartbeats 1000000 in
theorem rfind9_any (P : Nat → Prop) (v : Value) (zs : List ByteArray) (x : ByteArray) (w : World) (h : StrSl w P v zs) :
    Calls Tryz.prog 124 #[v, .string x] w fun e w' => e = .returned (.int .i64 (posI x zs)) ∧ w = w' := by
  obtain ⟨a, c, rfl, h1, h2, -, -, h5⟩ := h
  have HC := Lib.hid (show ∀ (k : Nat) (hk : k < zs.length), ∃ b off, a = some ⟨b, off, none⟩ ∧ w.cell? ⟨b, off + k, none⟩ = some (.string zs[k]) from fun k hk => by
    rcases h5 with h5 | ⟨b, off, rfl, -, h8⟩
    · rw [h5] at hk; exact absurd hk (Nat.not_lt_zero _)
    · exact ⟨b, off, rfl, h8 k hk⟩)
  clear h5
  obtain ⟨n, hn⟩ : ∃ n, n = zs.length := ⟨_, rfl⟩
  have HN := Lib.hid hn
  rw [← hn] at h1 ⊢
  have hn63 : n ≤ 9223372036854775807 := by unfold maxLen at h2; omega
  clear hn h1 h2
  go_enter Tryz.func124, Tryz.ntmps124
  go_wp2
  go_loop [5] (fun i => ∃ k : Nat, k ≤ n ∧ i = .int .i64 k ∧ ∀ j (hj : j < zs.length), j < k → zs[j] ≠ x) (fun i => n - (intOf i).toNat)
  case atStart => exact ⟨0, by omega, rfl, fun j hj h => absurd h (Nat.not_lt_zero _)⟩
  case round =>
    obtain ⟨k, hk, rfl, hin⟩ := hrel
    have HI := Lib.hid hin
    clear hin
    by_cases hlt : k < n
    · have hkl : k < zs.length := by rw [← HN.out]; exact hlt
      obtain ⟨b, off, e, f0⟩ := HC.out k hkl
      subst e
      have HZ := Lib.hid (show ∀ z, z = zs[k] → z = zs[k] from fun z h => h)
      obtain ⟨z, hz⟩ : ∃ z, z = zs[k] := ⟨_, rfl⟩
      have HZ := Lib.hid hz
      rw [← hz] at f0
      clear hz
      by_cases he : z = x
      · have he2 : (z.toList == x.toList) = true := (Lib.bytes_beq_iff z x).2 he
        have HE := Lib.hid (show posI x zs = (k : Int) from by unfold posI; rw [posB_hit x zs k hkl (HZ.out.symm.trans he) HI.out])
        clear he
        go_wp2
        go_ret
        exact ⟨ret_int HE.out.symm, rfl⟩
      · have he2 : (z.toList == x.toList) = false := (Lib.bytes_beq_false_iff z x).2 he
        have HE := Lib.hid he
        clear he
        go_wp2
        go_round
        case rel => exact ⟨k + 1, by omega, by go_num, fun j hj hjk => by
          rcases Nat.lt_succ_iff_lt_or_eq.1 hjk with h | h
          · exact HI.out j hj h
          · subst h; rw [← HZ.out]; exact HE.out⟩
        case measure => simp [intOf]; omega
    · have HE := Lib.hid (show posI x zs = -1 from by unfold posI; rw [posB_miss x zs (fun j hj => HI.out j hj (by have := HN.out; omega))])
      go_wp2
      go_ret
      exact ⟨ret_int HE.out.symm, rfl⟩
end Go.Proofs.YtpkgiemdnfbopaaGreat
namespace Go.Proofs.YtpkgiemdnfbopaaGreat
open Go Go.RowKit
open Pl (K Con)
set_option linter.unusedSimpArgs false
set_option linter.unusedVariables false

theorem bytes_ne9 {a b : ByteArray} (h : a ≠ b) : (a.toList == b.toList) = false := (Lib.bytes_beq_false_iff a b).2 h
theorem bytes_eq9 {a b : ByteArray} (h : a = b) : (a.toList == b.toList) = true := (Lib.bytes_beq_iff a b).2 h
end Go.Proofs.YtpkgiemdnfbopaaGreat
namespace Go.Proofs.YtpkgiemdnfbopaaGreat
open Go Go.RowKit
open Pl (K Con)
set_option linter.unusedSimpArgs false
set_option linter.unusedVariables false

/-- no two neighbours with one name -/
def distB : List (ByteArray × K) → Bool
  | [] => true
  | [_] => true
  | a :: b :: r => decide (a.1 ≠ b.1) && distB (b :: r)
theorem distB_iff : ∀ xs : List (ByteArray × K), distB xs = true ↔ ∀ (j : Nat) (h : j + 1 < xs.length), (xs[j]'(by omega)).1 ≠ xs[j + 1].1
  | [] => by simp [distB]
  | [_] => by simp [distB]
  | a :: b :: r => by
    have ih := distB_iff (b :: r)
    rw [distB, Bool.and_eq_true, ih, decide_eq_true_eq]
    constructor
    · rintro ⟨h1, h2⟩ j hj
      cases j with
      | zero => exact h1
      | succ j => exact h2 j (by simpa using hj)
    · intro h
      exact ⟨h 0 (by simp), fun j hj => h (j + 1) (by simpa using hj)⟩
def distV (xs : List (ByteArray × K)) (v : Value) : Value := if distB xs = true then v else .slice none 0 0
set_option maxRecDepth 100000 in
set_option maxHeartbeats 2000000 in
theorem rdistinct_any (P : Nat → Prop) (xs : List (ByteArray × K)) (w : World) (v : Value) (hP : ∀ b, P b → b < w.heap.size) (ha : CstSl w P v xs) :
    Calls Tryz.prog 70 #[v] w fun e w' => e = .returned (.tuple #[distV xs v, .bool (distB xs)]) ∧ Below w.heap.size w w' := by
  have HP := Lib.hid hP
  have HSA := Lib.hid (fun W (hW : Below w.heap.size w W) => ha.keep (Same.of_below hW hP))
  obtain ⟨la, lc, rfl, hlc, hcm, -⟩ := ha
  obtain ⟨n, hn⟩ : ∃ n, n = xs.length := ⟨_, rfl⟩
  have HN := Lib.hid hn
  rw [← hn] at HSA hlc ⊢
  have hn63 : n ≤ 9223372036854775807 := by unfold maxLen at hcm; omega
  have HDI := Lib.hid (distB_iff xs)
  have HDV := Lib.hid (fun v => (show distV xs v = if distB xs = true then v else .slice none 0 0 from rfl))
  clear hn hP hcm hlc
  go_enter Tryz.func70, Tryz.ntmps70
  go_wp2_with fail
  go_loopg [4] (n + 1) (fun g i wr => ∃ k : Nat, (k < n ∨ k = 0) ∧ i = .int .i64 ((k : Int) + 1) ∧ g = n + 1 - k ∧ (∀ (j : Nat) (h : j + 1 < xs.length), j < k → (xs[j]'(by omega)).1 ≠ xs[j + 1].1) ∧ Below w.heap.size w wr)
  case atStart => exact ⟨0, .inr rfl, rfl, by omega, fun j _ h => absurd h (Nat.not_lt_zero _), Below.refl _ _⟩
  case round =>
    obtain ⟨k, hk, rfl, hg, hin, hbw⟩ := hrel
    have HBW := Lib.hid hbw
    have HI := Lib.hid hin
    clear hin
    by_cases hlt : k + 1 < n
    · have q5 : decide ((k : Int) + 1 < (n : Int)) = true := decide_eq_true (by omega)
      have hkl : k + 1 < xs.length := by rw [← HN.out]; exact hlt
      have hkl0 : k < xs.length := by omega
      have hk0 : k < n := by omega
      obtain ⟨b, off, c', ka, kn, kc, e, hPb, -, f0, f1, hx⟩ := (HSA.out wr hbw).part k hkl0
      injection e with e1 e2 e3
      subst e1 e3
      clear e2
      obtain ⟨b2, off2, c'', ka2, kn2, kc2, e, hQb, -, g0, g1, hy⟩ := (HSA.out wr hbw).part (k + 1) hkl
      injection e with e1 e2 e3
      injection e1 with e1
      injection e1 with e4 e5
      subst e3 e4 e5
      clear e2
      have HPR := Lib.hid (fun q (hq : P q) => (show q < wr.heap.size from Nat.lt_of_lt_of_le (HP.out q hq) hbw.size))
      have hd0 : Below wr.heap.size wr wr.drew := (Below.refl _ _).drew
      have f0d := (cell_eq9 (hd0.block b (HPR.out b hPb))).trans f0
      have g0d := (cell_eq9 (hd0.block b (HPR.out b hPb))).trans g0
      have w1' : wrap64 ((k : Int) + 1 - 1) = (k : Int) := by rw [wrap64]; omega
      have w2' : wrap64 ((k : Int) + 1 + 1) = (k : Int) + 1 + 1 := by rw [wrap64]; omega
      have w3' : IntKind.i64.wrap ((k : Int) + 1 - 1) = (k : Int) := by rw [IntKind.wrap_i64]; omega
      have HKK := Lib.hid (show ∀ h, xs[k].1 = xs[k + 1].1 → distB xs = h → h = false from fun h e1 e2 => by
        cases h
        · rfl
        · exact absurd e1 (HDI.out.1 e2 k hkl))
      have HNX := Lib.hid (show xs[k].1 ≠ xs[k + 1].1 → ∀ (j : Nat) (h : j + 1 < xs.length), j < k + 1 → (xs[j]'(by omega)).1 ≠ xs[j + 1].1 from fun e j hj hjk => by
        rcases Nat.lt_succ_iff_lt_or_eq.1 hjk with h | h
        · exact HI.out j hj h
        · subst h; exact e)
      generalize xs[k].1 = s1 at *
      generalize xs[k + 1].1 = s2 at *
      have HBD := Lib.hid (HBW.out.drew)
      clear hx hy hPb hQb hd0 hbw f1 g1 hkl hkl0
      by_cases hnm : s1 = s2
      · have hs2 := bytes_eq9 hnm
        have HF := Lib.hid (HKK.out _ hnm rfl)
        clear hnm
        go_wp2_with fail
        go_region
        go_wp2
        refine bodyPost_ret (v := .tuple #[.slice none 0 0, .bool false]) (by simp [results, Tryz.results70, go_sem]) rfl ?_
        exact ⟨by rw [HDV.out, HF.out]; rfl, HBD.out⟩
      · have hs2 := bytes_ne9 hnm
        have HNXT := Lib.hid (HNX.out hnm)
        clear hnm
        go_wp2_with fail
        go_region
        go_wp2
        go_roundg (gk - 1)
        case measure => omega
        case rel => exact ⟨k + 1, by omega, by simp, by omega, HNXT.out, HBD.out⟩
    · have q5 : decide ((k : Int) + 1 < (n : Int)) = false := decide_eq_false (by omega)
      have HT := Lib.hid (show distB xs = true from HDI.out.2 (fun j hj => HI.out j hj (by have := HN.out; omega)))
      clear hbw
      go_wp2
      refine bodyPost_ret (v := .tuple #[.slice la n lc, .bool true]) (by simp [results, Tryz.results70, go_sem]) rfl ?_
      exact ⟨by rw [HDV.out, HT.out]; rfl, HBW.out⟩
end Go.Proofs.YtpkgiemdnfbopaaGreat
namespace Go.Proofs.YtpkgiemdnfbopaaGreat
open Go Go.RowKit
open Pl (K Con)
set_option linter.unusedSimpArgs false
set_option linter.unusedVariables false

/-- a name at or behind another -/
def cGe (x s : ByteArray) : Bool := !(Op.bytesLess x.toList s.toList)
def cstepA (c x : ByteArray × K) (d : Bool) : List (ByteArray × K) := if d = false ∧ cGe x.1 c.1 = true then [c] else []
def cstepB (c x : ByteArray × K) : List (ByteArray × K) := if x.1 = c.1 ∧ K.eqv x.2 c.2 = true then [] else [x]
/-- what the loop has put together, and whether the constant is in -/
def cpre (c : ByteArray × K) : List (ByteArray × K) → Bool → List (ByteArray × K)
  | [], _ => []
  | x :: r, d => cstepA c x d ++ (cstepB c x ++ cpre c r (d || cGe x.1 c.1))
def cdone (c : ByteArray × K) (l : List (ByteArray × K)) (d : Bool) : Bool := d || l.any (fun x => cGe x.1 c.1)
theorem cdone_cons (c x : ByteArray × K) (r : List (ByteArray × K)) (d : Bool) : cdone c (x :: r) d = cdone c r (d || cGe x.1 c.1) := by simp [cdone, Bool.or_assoc]
theorem cdone_snoc (c x : ByteArray × K) (l : List (ByteArray × K)) (d : Bool) : cdone c (l ++ [x]) d = (cdone c l d || cGe x.1 c.1) := by simp [cdone, Bool.or_assoc]
theorem cpre_snoc (c x : ByteArray × K) : ∀ (l : List (ByteArray × K)) (d : Bool), cpre c (l ++ [x]) d = cpre c l d ++ (cstepA c x (cdone c l d) ++ cstepB c x) := by
  intro l
  induction l with
  | nil => intro d; simp [cpre, cdone]
  | cons y r ih =>
    intro d
    rw [List.cons_append, cpre, cpre, ih, cdone_cons]
    simp [List.append_assoc]
/-- the list with a constant in -/
def caddL (l : List (ByteArray × K)) (c : ByteArray × K) : List (ByteArray × K) := cpre c l false ++ (if cdone c l false = true then [] else [c])
theorem cpre_len (c : ByteArray × K) : ∀ (l : List (ByteArray × K)) (d : Bool), (cpre c l d).length + (if cdone c l d = true then 0 else 1) ≤ l.length + (if d = true then 0 else 1) := by
  intro l
  induction l with
  | nil => intro d; simp [cpre, cdone]
  | cons x r ih =>
    intro d
    have h := ih (d || cGe x.1 c.1)
    rw [cpre, cdone_cons, List.length_append, List.length_append, List.length_cons]
    have hB : (cstepB c x).length ≤ 1 := by unfold cstepB; split <;> simp
    have hA : (cstepA c x d).length + (if (d || cGe x.1 c.1) = true then 0 else 1) ≤ (if d = true then 0 else 1) := by
      unfold cstepA
      cases d <;> cases cGe x.1 c.1 <;> simp
    omega
theorem caddL_len (l : List (ByteArray × K)) (c : ByteArray × K) : (caddL l c).length ≤ l.length + 1 := by
  have h := cpre_len c l false
  unfold caddL
  rw [List.length_append]
  cases hd : cdone c l false <;> rw [hd] at h <;> simp at h ⊢ <;> omega
theorem cpre_le (c : ByteArray × K) (l : List (ByteArray × K)) : (cpre c l false).length ≤ l.length + 1 := by
  have h := cpre_len c l false
  simp at h
  omega
mutual
/-- the constants of a constructor, put into an ascending list -/
def Con.putC : Con → List (ByteArray × K) → List (ByteArray × K)
  | ⟨op, _, s, k, _, l⟩, cs => if op = 2 then caddL cs (s, k) else Con.putCs l cs
def Con.putCs : List Con → List (ByteArray × K) → List (ByteArray × K)
  | [], cs => cs
  | t :: r, cs => Con.putCs r (Con.putC t cs)
end
theorem putCs_fold (l : List Con) : ∀ cs, Con.putCs l cs = l.foldl (fun a t => Con.putC t a) cs := by
  induction l with
  | nil => intro cs; rw [Con.putCs]; rfl
  | cons t r ih => intro cs; rw [Con.putCs, ih]; rfl
theorem putC_const (t : Con) (cs : List (ByteArray × K)) (h : t.op = 2) : Con.putC t cs = caddL cs (t.s, t.kind) := by
  obtain ⟨op, n, s, k, ns, l⟩ := t
  have h : op = 2 := h
  rw [Con.putC, if_pos h]
theorem putC_node (t : Con) (cs : List (ByteArray × K)) (h : t.op ≠ 2) : Con.putC t cs = t.l.foldl (fun a x => Con.putC x a) cs := by
  obtain ⟨op, n, s, k, ns, l⟩ := t
  have h : op ≠ 2 := h
  rw [Con.putC, if_neg h, putCs_fold]
theorem putC_len (t : Con) : ∀ cs, (Con.putC t cs).length ≤ cs.length + t.size := by
  induction t using Con.ind with
  | h t ih =>
  intro cs
  by_cases h2 : t.op = 2
  · rw [putC_const t cs h2]
    have := caddL_len cs (t.s, t.kind)
    have := Con.size_pos t
    omega
  · rw [putC_node t cs h2, Con.size_eq]
    have : ∀ (l : List Con) (cs : List (ByteArray × K)), (∀ x ∈ l, ∀ cs, (Con.putC x cs).length ≤ cs.length + x.size) → (l.foldl (fun a x => Con.putC x a) cs).length ≤ cs.length + Con.sizes l := by
      intro l
      induction l with
      | nil => intro cs _; simp [Con.sizes]
      | cons x r ihr =>
        intro cs h
        rw [List.foldl_cons, Con.sizes_cons]
        have h1 := ihr (Con.putC x cs) (fun y hy => h y (List.mem_cons_of_mem _ hy))
        have h2 := h x List.mem_cons_self cs
        omega
    have h := this t.l cs ih
    omega
/-- the cells of constants side by side, their kinds in the blocks P -/
def CstRow (w : World) (P : Nat → Prop) (us : List Value) (l : List (ByteArray × K)) : Prop :=
  us.length = l.length * 2 ∧ ∀ j (h : j < l.length), l[j].1.size ≤ maxLen ∧ ∃ ka kn kc, us[j * 2]? = some (.string l[j].1) ∧ us[j * 2 + 1]? = some (.slice ka kn kc) ∧ KidV w P l[j].2 (.slice ka kn kc)
/-- a row of its own that holds these constants -/
structure CC (P : Nat → Prop) (B : Nat) (wr : World) (l : List (ByteArray × K)) (us : List Value) (sv : Value) : Prop where
  row : wr.ownsRow B 36 2 sv l.length us
  kids : CstRow wr P us l
theorem CC.nil (P : Nat → Prop) (B : Nat) (wr : World) : CC P B wr [] [] (.slice none 0 0) := ⟨World.ownsRow_nil _ _ _ _, rfl, fun j hj => absurd hj (Nat.not_lt_zero _)⟩
theorem CstRow.keep {w w' : World} {P : Nat → Prop} {us : List Value} {l : List (ByteArray × K)} (h : CstRow w P us l) (hs : Same P w w') : CstRow w' P us l :=
  ⟨h.1, fun j hj => by obtain ⟨h1, ka, kn, kc, h2, h3, h4⟩ := h.2 j hj; exact ⟨h1, ka, kn, kc, h2, h3, h4.keep hs⟩⟩
theorem CC.below {P : Nat → Prop} {B : Nat} {wr W : World} {l : List (ByteArray × K)} {us : List Value} {sv : Value} (h : CC P B wr l us sv) (hP : ∀ b, P b → b < wr.heap.size) (hb : Below wr.heap.size wr W) : CC P B W l us sv :=
  ⟨h.row.kept (row := none) ⟨hb.os, hb.tape, hb.output, hb.size, fun i hi _ => hb.block i hi⟩ (by cases ho : sv.ownBlock with | none => exact .inl rfl | some k => exact .inr (by simp)), h.kids.keep (Same.of_below hb hP)⟩
theorem CstRow.push {w : World} {P : Nat → Prop} {us : List Value} {l : List (ByteArray × K)} {c : ByteArray × K} {ka : Option Addr} {kn kc : Nat} (h : CstRow w P us l) (hs : c.1.size ≤ maxLen) (hk : KidV w P c.2 (.slice ka kn kc)) : CstRow w P (us ++ [.string c.1, .slice ka kn kc]) (l ++ [c]) := by
  obtain ⟨h1, h2⟩ := h
  refine ⟨by simp [h1]; omega, fun j hj => ?_⟩
  by_cases hlt : j < l.length
  · obtain ⟨e1, a, n, k, e2, e3, e4⟩ := h2 j hlt
    rw [List.getElem_append_left hlt]
    exact ⟨e1, a, n, k, by rw [List.getElem?_append_left (by omega)]; exact e2, by rw [List.getElem?_append_left (by omega)]; exact e3, e4⟩
  · have hjl : j = l.length := by simp at hj; omega
    subst hjl
    have hg : (l ++ [c])[l.length] = c := by simp
    rw [hg]
    refine ⟨hs, ka, kn, kc, ?_, ?_, hk⟩
    · rw [← h1, List.getElem?_append_right (Nat.le_refl _)]; simp
    · rw [← h1, List.getElem?_append_right (by omega)]; simp
theorem CC.push {P : Nat → Prop} {B n : Nat} {wr w1 : World} {l : List (ByteArray × K)} {us : List Value} {sv v' : Value} {c : ByteArray × K} {ka : Option Addr} {kn kc : Nat} (h : CC P B wr l us sv) (hn : n = l.length) (hP : ∀ b, P b → b < wr.heap.size ∧ b < B)
    (hs : c.1.size ≤ maxLen) (hk : KidV wr P c.2 (.slice ka kn kc))
    (hown : w1.ownsRow B 36 2 v' (n + 1) (us ++ [.string c.1, .slice ka kn kc])) (hgrow : (wr.alloc (.cells #[.string c.1, .slice ka kn kc] 36)).grownBy w1 sv.ownBlock) :
    CC P B w1 (l ++ [c]) (us ++ [.string c.1, .slice ka kn kc]) v' := by
  subst hn
  have hS : Same P wr w1 := fun q hq =>
    (hgrow.block q (by rw [size_alloc]; have := (hP q hq).1; omega) (fun e => by have := (h.row.lt q e.symm).1; have := (hP q hq).2; omega)).trans (Below.heap_alloc wr _ q (hP q hq).1)
  exact ⟨by rw [List.length_append]; exact hown, (h.kids.push hs hk).keep hS⟩
theorem CC.slice {P S : Nat → Prop} {B : Nat} {wr : World} {l : List (ByteArray × K)} {us : List Value} {sv : Value} (h : CC P B wr l us sv) (hP : ∀ b, P b → S b) (hS : ∀ b, B ≤ b → b < wr.heap.size → S b) : CstSl wr S sv l := by
  have hc := h.row
  rcases h.row.2 with ⟨rfl, h0⟩ | ⟨g, cap, cu, rfl, hbg, hg, hnc, hcm, hcs, htake⟩
  · obtain rfl : l = [] := List.eq_nil_of_length_eq_zero h0
    exact ⟨none, 0, rfl, Nat.le_refl _, Nat.zero_le _, fun _ => rfl, .inl rfl⟩
  · refine ⟨_, cap, rfl, hnc, hcm, (fun h => by cases h), .inr ⟨g, 0, rfl, hS g hbg (hc.lt g rfl).2, fun j hj => ?_⟩⟩
    obtain ⟨e1, ka, kn, kc, e2, e3, e4⟩ := h.kids.2 j hj
    refine ⟨e1, ka, kn, kc, ?_, ?_, e4.mono hP⟩
    · rw [Nat.zero_add, hc.cellAt (j * 2) (by omega), e2]
    · rw [Nat.zero_add, hc.cellAt (j * 2 + 1) (by omega), e3]
theorem infoCst : (Tryz.prog.info? 36).map (fun i => (i.zero, i.size, i.bytes)) = some (some (.agg #[.string ByteArray.empty, .slice none 0 0]), 2, 40) := by kernel_rfl
end Go.Proofs.YtpkgiemdnfbopaaGreat
namespace Go.Proofs.YtpkgiemdnfbopaaGreat
open Go Go.RowKit
open Pl (K Con)
set_option linter.unusedSimpArgs false
set_option linter.unusedVariables false

theorem CstSl.none9 (w : World) (P : Nat → Prop) : CstSl w P (.slice none 0 0) [] := ⟨none, 0, rfl, Nat.le_refl _, Nat.zero_le _, fun _ => rfl, .inl rfl⟩
/-- the constants, and none if two have one name -/
def Con.consL (t : Con) : List (ByteArray × K) := if distB (Con.putC t []) = true then Con.putC t [] else []
def Con.consB (t : Con) : Bool := distB (Con.putC t [])
def ConsP (P : Nat → Prop) (t : Con) (w : World) (e : Ending) (w' : World) : Prop := (∃ y, e = .returned (.tuple #[y, .bool (Con.consB t)]) ∧ CstSl w' (Ext P w w') y (Con.consL t)) ∧ Below w.heap.size w w'
end Go.Proofs.YtpkgiemdnfbopaaGreat
namespace Go.Proofs.YtpkgiemdnfbopaaGreat
open Go Go.RowKit
open Pl (K Con)
set_option linter.unusedSimpArgs false
set_option linter.unusedVariables false
attribute [local go_sem] Oper.semAt_some

/-- what a visit hands over: a node as it lies in memory, and the binders around it -/
structure LeafC (w0 : World) (n₀ : Nat) where
  c : Con
  ka : Option Addr
  kn : Nat
  kc : Nat
  na : Option Addr
  nn : Nat
  nc : Nat
  la : Option Addr
  ln : Nat
  lc : Nat
  b : Int
  hn : Con.nodeB c = true
  hb : 0 ≤ b ∧ b ≤ 1000
  hv : ∀ W, Below n₀ w0 W → ConV W (· < n₀) c (.agg #[.int .i64 c.op, .int .i64 c.n, .string c.s, .slice ka kn kc, .slice na nn nc, .slice la ln lc])
def LeafC.proj {w0 : World} {n₀ : Nat} (x : LeafC w0 n₀) : Con × Int := (x.c, x.b)
def encLC {w0 : World} {n₀ : Nat} (x : LeafC w0 n₀) : Array Value := #[.agg #[.int .i64 x.c.op, .int .i64 x.c.n, .string x.c.s, .slice x.ka x.kn x.kc, .slice x.na x.nn x.nc, .slice x.la x.ln x.lc], .int .i64 x.b]
mutual
/-- the leaves of a constructor, with the binders around them -/
def Con.leafCs : Con → Int → List (Con × Int)
  | ⟨op, n, s, k, ns, l⟩, d => if l.length = 0 then [(⟨op, n, s, k, ns, l⟩, d)] else Con.leafCss l (Con.deep op d)
def Con.leafCss : List Con → Int → List (Con × Int)
  | [], _ => []
  | t :: r, d => Con.leafCs t d ++ Con.leafCss r d
end
theorem leafCss_map (d : Int) (l : List Con) : Con.leafCss l d = l.flatMap (fun t => Con.leafCs t d) := by
  induction l with
  | nil => rw [Con.leafCss]; rfl
  | cons t r ih => rw [Con.leafCss, ih]; rfl
theorem leafCs_none (t : Con) (d : Int) (h : t.l.length = 0) : Con.leafCs t d = [(t, d)] := by
  obtain ⟨op, n, s, k, names, l⟩ := t
  have h : l.length = 0 := h
  rw [Con.leafCs, if_pos h]
theorem leafCs_node (t : Con) (d : Int) (h : t.l.length ≠ 0) : Con.leafCs t d = t.l.flatMap (fun x => Con.leafCs x (Con.deep t.op d)) := by
  obtain ⟨op, n, s, k, names, l⟩ := t
  have h : l.length ≠ 0 := h
  rw [Con.leafCs, if_neg h, leafCss_map]
theorem leafCs_size (t : Con) : ∀ d, (Con.leafCs t d).length ≤ t.size := by
  induction t using Con.ind with
  | h t ih =>
  intro d
  by_cases h : t.l.length = 0
  · rw [leafCs_none t d h, Con.size_eq]; simp
  · rw [leafCs_node t d h, Con.size_eq]
    have : ∀ (l : List Con) (d : Int), (∀ x ∈ l, ∀ d, (Con.leafCs x d).length ≤ x.size) → (l.flatMap (fun x => Con.leafCs x d)).length ≤ Con.sizes l := by
      intro l d
      induction l with
      | nil => intro _; simp
      | cons x r ihr =>
        intro h
        rw [List.flatMap_cons, List.length_append, Con.sizes_cons]
        have := h x List.mem_cons_self d
        have := ihr (fun y hy => h y (List.mem_cons_of_mem _ hy))
        omega
    have := this t.l (Con.deep t.op d) ih
    omega
theorem leafC_sizes (l : List Con) (d : Int) : (l.flatMap (fun x => Con.leafCs x d)).length ≤ Con.sizes l := by
  induction l with
  | nil => simp
  | cons x r ihr =>
    rw [List.flatMap_cons, List.length_append, Con.sizes_cons]
    have := leafCs_size x d
    omega
set_option maxRecDepth 100000 in
set_option maxHeartbeats 2000000 in
theorem visitC_in (F : Fence) (HF : Hid (F = Fence.wide)) (w0 : World) (l n₀ N B0 : Nat) (J Jx : List (LeafC w0 n₀) → World → Prop) (hJ : AbidesFrom B0 J)
    (hY : ∀ m pre x W, J pre W → pre.length < N → YieldAt F m Tryz.prog l (encLC x) W fun e W' => (e = .returned (.bool true) ∧ J (pre ++ [x]) W' ∧ Below n₀ W W') ∨ (e = .returned (.bool false) ∧ Jx (pre ++ [x]) W')) (t : Con) :
    Con.allB t = true → ∀ (n : Nat) (b : Int) (pre : List (LeafC w0 n₀)) (W : World) (v : Value), ConV W (· < n₀) t v → n₀ ≤ W.heap.size → Below n₀ w0 W → 0 ≤ b → b + t.depth ≤ 1000 → J pre W → pre.length + t.size ≤ N →
      CallsIn F n Tryz.prog 108 #[v, .int .i64 b, .func (.yield l) #[] #[]] W fun e W' =>
        (e = .returned (.bool true) ∧ ∃ ls : List (LeafC w0 n₀), ls.map LeafC.proj = Con.leafCs t b ∧ J (pre ++ ls) W' ∧ Below n₀ W W') ∨ (e = .returned (.bool false) ∧ ∃ ls : List (LeafC w0 n₀), ls.map LeafC.proj <+: Con.leafCs t b ∧ Jx (pre ++ ls) W') := by
  have hd : F.depth = none := by rw [HF.out]; rfl
  have hro : F.round = none := by rw [HF.out]; rfl
  have hvf : F.fn 108 := by rw [HF.out]; trivial
  have hbf : F.fn 137 := by rw [HF.out]; trivial
  induction t using Con.ind with
  | h t ih =>
  intro ha n b pre W v ht hn0 hW0 hb0 hbd hj hN
  have HW0 := Lib.hid hW0
  clear hW0
  have ha' := ha
  rw [allB_eq, Bool.and_eq_true, List.all_eq_true] at ha'
  have hnn := nodeB_n t ha'.1
  have hdp := Con.depth_pos t
  obtain ⟨ka, kn, kc, na, nn, nc, la, ln, lc, rfl, -, -, hln⟩ := ht.shape
  have HT := Lib.hid (fun W' (hW : Below n₀ W W') => ht.keep (Same.of_below hW (fun q hq => hq)))
  have HSL := Lib.hid (fun W' (hW : Below n₀ W W') => (show ConSl W' (· < n₀) (.slice la ln lc) t.l from by
    obtain ⟨-, kv', nv', lv', e, hk, hn, hl⟩ := (conV_iff _ _ _ _).1 (HT.out W' hW)
    simp only [Value.agg.injEq, Array.mk.injEq, List.cons.injEq, and_true, true_and] at e
    obtain ⟨rfl, rfl, rfl⟩ := e
    exact hl))
  obtain ⟨hbx, hb⟩ := boxN_new W 28 #[.int .i64 t.op, .int .i64 t.n, .string t.s, .slice ka kn kc, .slice na nn nc, .slice la ln lc]
  have hj1 : J pre (W.alloc (.cells #[.int .i64 t.op, .int .i64 t.n, .string t.s, .slice ka kn kc, .slice na nn nc, .slice la ln lc] 28)) := hJ _ _ _ none hj (World.grownBy_alloc W _ none) (fun r e => by cases e)
  have c0 := hbx.cell 0 (.int .i64 t.op) rfl
  have c1 := hbx.cell 1 (.int .i64 t.n) rfl
  have c2 := hbx.cell 2 (.string t.s) rfl
  have c3 := hbx.cell 3 (.slice ka kn kc) rfl
  have c4 := hbx.cell 4 (.slice na nn nc) rfl
  have c5 := hbx.cell 5 (.slice la ln lc) rfl
  have HB := Lib.hid (show Below n₀ W (W.alloc (.cells #[.int .i64 t.op, .int .i64 t.n, .string t.s, .slice ka kn kc, .slice na nn nc, .slice la ln lc] 28)) from hb.mono hn0)
  have hdd : ∀ k : Nat, (F.depth.isSome = true → 1 ≤ k) := fun k h => by rw [hd] at h; cases h
  by_cases h0 : ln = 0
  · subst h0
    have hl0 : t.l.length = 0 := hln.symm
    have hbb : 0 ≤ b ∧ b ≤ 1000 := ⟨hb0, by omega⟩
    have HLV := Lib.hid (fun W' (hW' : Below n₀ w0 W') => ht.keep (w' := W') (fun q (hq : q < n₀) => (hW'.block q hq).trans (HW0.out.block q hq).symm))
    have hnb := ha'.1
    obtain ⟨fn, tmps, assign, body, hy, hR⟩ := hY (n - 1) pre ⟨t, ka, kn, kc, na, nn, nc, la, 0, lc, b, hnb, hbb, HLV.out⟩ _ hj1 (by have := Con.size_pos t; omega)
    have HE := Lib.hid (leafCs_none t b hl0)
    unfold encLC at hy
    dsimp only at hy
    clear hbx hb ht ih hY hJ hj hj1 hln hl0 hN hbd hdp ha ha' HSL HT hn0
    refine callsIn_of_wp Tryz.func108 rfl hvf ?_ hro
    simp only [Tryz.ntmps108, List.size_toArray, List.length_cons, List.length_nil, Nat.reduceAdd, Nat.reduceSub, Array.replicate_succ, Array.replicate_zero, List.push_toArray, List.append_toArray, List.nil_append, List.cons_append]
    gi_wp2
    refine hR.mono ?_
    rintro e W2 (⟨rfl, hJ2, hb2⟩ | ⟨rfl, hx2⟩)
    · have HJ2 := Lib.hid hJ2
      have HB2 := Lib.hid (HB.out.trans hb2)
      clear hJ2 hb2 hR hy
      gi_wp2
      go_ret
      exact .inl ⟨rfl, [⟨t, ka, kn, kc, na, nn, nc, la, 0, lc, b, hnb, hbb, HLV.out⟩], by rw [HE.out]; rfl, HJ2.out, HB2.out⟩
    · have HX2 := Lib.hid hx2
      clear hx2 hR hy
      gi_wp2
      go_ret
      exact .inr ⟨rfl, _, by rw [HE.out]; exact List.prefix_refl _, HX2.out⟩
  · have hl0 : t.l.length ≠ 0 := by omega
    have hn63 : ln ≤ 9223372036854775807 := by
      have := Con.length_le_sizes t.l
      have := Con.size_eq t
      have h3 := (node_facts t ha'.1).2.2
      omega
    have HLN := Lib.hid hln
    have HE := Lib.hid (leafCs_node t b hl0)
    have HIH := Lib.hid ih
    have HALL := Lib.hid ha'.2
    have HBN := Lib.hid (cbinder_any t.op)
    have HDP := Lib.hid (fun x (hx : x ∈ t.l) => depth_part hx)
    have HSZ := Lib.hid (Con.size_eq t)
    have hq0 : ((ln : Int) == 0) = false := beq_eq_false_iff_ne.2 (by omega)
    obtain ⟨b2, hb2⟩ : ∃ b2, b2 = Con.deep t.op b := ⟨_, rfl⟩
    have hble := Con.deep_le t.op b
    have HDEEP := Lib.hid (show b2 = if Con.binder t.op = true then b + 1 else b from hb2)
    rw [← hb2] at HE hble
    have hbb : 0 ≤ b2 ∧ b2 ≤ b + 1 := by omega
    have w1 : wrap64 (b + 1) = b + 1 := by rw [wrap64]; omega
    have HJ := Lib.hid hJ
    have HJ1 := Lib.hid hj1
    clear hbx hb ht ih hY hJ hj hj1 hln hl0 hdp ha ha' HT hb2 h0
    refine callsIn_of_wp Tryz.func108 rfl hvf ?_ hro
    simp only [Tryz.ntmps108, List.size_toArray, List.length_cons, List.length_nil, Nat.reduceAdd, Nat.reduceSub, Array.replicate_succ, Array.replicate_zero, List.push_toArray, List.append_toArray, List.nil_append, List.cons_append]
    gi_wp2_with fail
    refine (toF HF _ (HBN.out _)).mono ?_
    rintro e w' ⟨rfl, rfl⟩
    generalize W.alloc (.cells #[.int .i64 t.op, .int .i64 t.n, .string t.s, .slice ka kn kc, .slice na nn nc, .slice la ln lc] 28) = w2 at *
    cases hbn : Con.binder t.op
    · rw [hbn] at HDEEP
      have hb2 : b2 = b := HDEEP.out
      subst hb2
      clear HDEEP hbn w1
      all_goals
        gi_wp2_with fail
        clear c0 c1 c2 c3 c4 c5
        gi_loopw [25] (fun i wr => ∃ (k : Nat) (ls : List (LeafC w0 n₀)), k ≤ ln ∧ i = .int .i64 k ∧ ls.map LeafC.proj = (t.l.take k).flatMap (fun x => Con.leafCs x b2) ∧ J (pre ++ ls) wr ∧ Below n₀ W wr) (fun i _ => ln - (intOf i).toNat)
        case atStart => exact ⟨0, [], Nat.zero_le _, rfl, rfl, by rw [List.append_nil]; exact HJ1.out, HB.out⟩
        case round =>
          obtain ⟨k, ls, hk, rfl, hls, hj, hbw⟩ := hrel
          have HLS := Lib.hid hls
          have HJK := Lib.hid hj
          have HBW := Lib.hid hbw
          by_cases hlt : k < ln
          · have q5 : decide ((k : Int) < (ln : Int)) = true := decide_eq_true (by omega)
            have hkl : k < t.l.length := by have := HLN.out; omega
            obtain ⟨bb, off, c', xa, xn, xc, ya, yn, yc, za, zn, zc, e, hPb, f0, f1, f2, f3, f4, f5, hx⟩ := (HSL.out wr hbw).part k hkl
            injection e with e1 e2 e3
            clear e2
            subst e1 e3
            have hbx := (boxN_new wr 28 #[.int .i64 t.l[k].op, .int .i64 t.l[k].n, .string t.l[k].s, .slice xa xn xc, .slice ya yn yc, .slice za zn zc]).1
            have hb1 : Below n₀ wr (wr.alloc (.cells #[.int .i64 t.l[k].op, .int .i64 t.l[k].n, .string t.l[k].s, .slice xa xn xc, .slice ya yn yc, .slice za zn zc] 28)) := (boxN_new wr 28 _).2.mono (Nat.le_trans hn0 hbw.size)
            have hln2 : ls.length ≤ Con.sizes (t.l.take k) := by
              have h1 := congrArg List.length hls
              rw [List.length_map] at h1
              rw [h1]
              exact leafC_sizes _ _
            have hst := Con.sizes_take t.l k hkl
            have hsl := Con.sizes_le t.l (k + 1)
            have hsz := HSZ.out
            have hdp := HDP.out t.l[k] (List.getElem_mem hkl)
            have hc := HIH.out t.l[k] (List.getElem_mem hkl) (HALL.out _ (List.getElem_mem hkl)) (n - 1) _ (pre ++ ls) _ _ (hx.keep (Same.of_below hb1 (fun q hq => hq))) (Nat.le_trans (Nat.le_trans hn0 hbw.size) (by rw [size_alloc]; omega)) (HW0.out.trans (hbw.trans hb1)) hbb.1 (by omega) (HJ.out _ _ _ none hj (World.grownBy_alloc wr _ none) (fun r e => by cases e)) (by rw [List.length_append]; omega)
            have HT := Lib.hid (flatMap_take (fun x => Con.leafCs x b2) t.l k hkl)
            have HC := Lib.hid hc
            have HB1 := Lib.hid (hbw.trans hb1)
            have d0 := hbx.cell 0 (.int .i64 t.l[k].op) rfl
            have d1 := hbx.cell 1 (.int .i64 t.l[k].n) rfl
            have d2 := hbx.cell 2 (.string t.l[k].s) rfl
            have d3 := hbx.cell 3 (.slice xa xn xc) rfl
            have d4 := hbx.cell 4 (.slice ya yn yc) rfl
            have d5 := hbx.cell 5 (.slice za zn zc) rfl
            generalize t.l[k] = z at *
            clear hbx hb1 hln2 hst hsl hsz hdp hc hls hj hbw hx hPb
            gi_wp2_with fail
            refine HC.out.mono ?_
            rintro e W3 (⟨rfl, ls2, hls2, hj3, hb3⟩ | ⟨rfl, ls2, hpf, hx3⟩)
            · have HLS2 := Lib.hid hls2
              have HJ3 := Lib.hid hj3
              have HB3 := Lib.hid (HB1.out.trans hb3)
              clear hls2 hj3 hb3 f0 f1 f2 f3 f4 f5 d0 d1 d2 d3 d4 d5
              gi_wp2
              go_roundw
              case rel =>
                refine ⟨k + 1, ls ++ ls2, by omega, by go_num, ?_, by rw [← List.append_assoc]; exact HJ3.out, HB3.out⟩
                rw [List.map_append, HLS.out, HLS2.out, HT.out]
              case measure => first | (simp [intOf]; done) | (simp [intOf]; omega)
            · have HPF := Lib.hid (show (ls ++ ls2).map LeafC.proj <+: Con.leafCs t b2 from by
                rw [List.map_append, HLS.out, HE.out]
                refine ((List.prefix_append_right_inj _).2 hpf).trans ?_
                rw [← HT.out]
                exact flatMap_prefix _ _ _)
              clear hpf
              have HX3 := Lib.hid hx3
              clear hx3 f0 f1 f2 f3 f4 f5 d0 d1 d2 d3 d4 d5
              gi_wp2
              go_ret
              exact .inr ⟨rfl, ls ++ ls2, HPF.out, by rw [← List.append_assoc]; exact HX3.out⟩
          · have q5 : decide ((k : Int) < (ln : Int)) = false := decide_eq_false (by omega)
            have HF := Lib.hid (show ls.map LeafC.proj = Con.leafCs t b2 from by
              rw [HE.out, ← List.take_of_length_le (l := t.l) (i := k) (by have := HLN.out; omega)]
              exact HLS.out)
            clear hls hj hbw
            gi_wp2
            go_ret
            exact .inl ⟨rfl, ls, HF.out, HJK.out, HBW.out⟩
    · rw [hbn] at HDEEP
      have hb2 : b2 = b + 1 := HDEEP.out
      subst hb2
      clear HDEEP hbn
      all_goals
        gi_wp2_with fail
        clear c0 c1 c2 c3 c4 c5
        gi_loopw [25] (fun i wr => ∃ (k : Nat) (ls : List (LeafC w0 n₀)), k ≤ ln ∧ i = .int .i64 k ∧ ls.map LeafC.proj = (t.l.take k).flatMap (fun x => Con.leafCs x (b + 1)) ∧ J (pre ++ ls) wr ∧ Below n₀ W wr) (fun i _ => ln - (intOf i).toNat)
        case atStart => exact ⟨0, [], Nat.zero_le _, rfl, rfl, by rw [List.append_nil]; exact HJ1.out, HB.out⟩
        case round =>
          obtain ⟨k, ls, hk, rfl, hls, hj, hbw⟩ := hrel
          have HLS := Lib.hid hls
          have HJK := Lib.hid hj
          have HBW := Lib.hid hbw
          by_cases hlt : k < ln
          · have q5 : decide ((k : Int) < (ln : Int)) = true := decide_eq_true (by omega)
            have hkl : k < t.l.length := by have := HLN.out; omega
            obtain ⟨bb, off, c', xa, xn, xc, ya, yn, yc, za, zn, zc, e, hPb, f0, f1, f2, f3, f4, f5, hx⟩ := (HSL.out wr hbw).part k hkl
            injection e with e1 e2 e3
            clear e2
            subst e1 e3
            have hbx := (boxN_new wr 28 #[.int .i64 t.l[k].op, .int .i64 t.l[k].n, .string t.l[k].s, .slice xa xn xc, .slice ya yn yc, .slice za zn zc]).1
            have hb1 : Below n₀ wr (wr.alloc (.cells #[.int .i64 t.l[k].op, .int .i64 t.l[k].n, .string t.l[k].s, .slice xa xn xc, .slice ya yn yc, .slice za zn zc] 28)) := (boxN_new wr 28 _).2.mono (Nat.le_trans hn0 hbw.size)
            have hln2 : ls.length ≤ Con.sizes (t.l.take k) := by
              have h1 := congrArg List.length hls
              rw [List.length_map] at h1
              rw [h1]
              exact leafC_sizes _ _
            have hst := Con.sizes_take t.l k hkl
            have hsl := Con.sizes_le t.l (k + 1)
            have hsz := HSZ.out
            have hdp := HDP.out t.l[k] (List.getElem_mem hkl)
            have hc := HIH.out t.l[k] (List.getElem_mem hkl) (HALL.out _ (List.getElem_mem hkl)) (n - 1) _ (pre ++ ls) _ _ (hx.keep (Same.of_below hb1 (fun q hq => hq))) (Nat.le_trans (Nat.le_trans hn0 hbw.size) (by rw [size_alloc]; omega)) (HW0.out.trans (hbw.trans hb1)) hbb.1 (by omega) (HJ.out _ _ _ none hj (World.grownBy_alloc wr _ none) (fun r e => by cases e)) (by rw [List.length_append]; omega)
            have HT := Lib.hid (flatMap_take (fun x => Con.leafCs x (b + 1)) t.l k hkl)
            have HC := Lib.hid hc
            have HB1 := Lib.hid (hbw.trans hb1)
            have d0 := hbx.cell 0 (.int .i64 t.l[k].op) rfl
            have d1 := hbx.cell 1 (.int .i64 t.l[k].n) rfl
            have d2 := hbx.cell 2 (.string t.l[k].s) rfl
            have d3 := hbx.cell 3 (.slice xa xn xc) rfl
            have d4 := hbx.cell 4 (.slice ya yn yc) rfl
            have d5 := hbx.cell 5 (.slice za zn zc) rfl
            generalize t.l[k] = z at *
            clear hbx hb1 hln2 hst hsl hsz hdp hc hls hj hbw hx hPb
            gi_wp2_with fail
            refine HC.out.mono ?_
            rintro e W3 (⟨rfl, ls2, hls2, hj3, hb3⟩ | ⟨rfl, ls2, hpf, hx3⟩)
            · have HLS2 := Lib.hid hls2
              have HJ3 := Lib.hid hj3
              have HB3 := Lib.hid (HB1.out.trans hb3)
              clear hls2 hj3 hb3 f0 f1 f2 f3 f4 f5 d0 d1 d2 d3 d4 d5
              gi_wp2
              go_roundw
              case rel =>
                refine ⟨k + 1, ls ++ ls2, by omega, by go_num, ?_, by rw [← List.append_assoc]; exact HJ3.out, HB3.out⟩
                rw [List.map_append, HLS.out, HLS2.out, HT.out]
              case measure => first | (simp [intOf]; done) | (simp [intOf]; omega)
            · have HPF := Lib.hid (show (ls ++ ls2).map LeafC.proj <+: Con.leafCs t b from by
                rw [List.map_append, HLS.out, HE.out]
                refine ((List.prefix_append_right_inj _).2 hpf).trans ?_
                rw [← HT.out]
                exact flatMap_prefix _ _ _)
              clear hpf
              have HX3 := Lib.hid hx3
              clear hx3 f0 f1 f2 f3 f4 f5 d0 d1 d2 d3 d4 d5
              gi_wp2
              go_ret
              exact .inr ⟨rfl, ls ++ ls2, HPF.out, by rw [← List.append_assoc]; exact HX3.out⟩
          · have q5 : decide ((k : Int) < (ln : Int)) = false := decide_eq_false (by omega)
            have HF := Lib.hid (show ls.map LeafC.proj = Con.leafCs t b from by
              rw [HE.out, ← List.take_of_length_le (l := t.l) (i := k) (by have := HLN.out; omega)]
              exact HLS.out)
            clear hls hj hbw
            gi_wp2
            go_ret
            exact .inl ⟨rfl, ls, HF.out, HJK.out, HBW.out⟩
set_option maxRecDepth 100000 in
set_option maxHeartbeats 2000000 in
theorem leavesC_stops (F : Fence) (HF : Hid (F = Fence.wide)) (n Bs n₀ : Nat) (t : Con) (ka na la : Option Addr) (kn kc nn nc ln lc : Nat) (w : World) (hn0 : n₀ ≤ w.heap.size) (hB : Bs < w.heap.size) (ha : Con.allB t = true) (hd9 : t.depth ≤ 1000)
    (hbx : ∀ W, Below w.heap.size w W → Blk W Bs 28 #[.int .i64 t.op, .int .i64 t.n, .string t.s, .slice ka kn kc, .slice na nn nc, .slice la ln lc]) (ht : ConV w (· < n₀) t (.agg #[.int .i64 t.op, .int .i64 t.n, .string t.s, .slice ka kn kc, .slice na nn nc, .slice la ln lc])) :
    SeqStopsK F n Tryz.prog 107 #[.pointer (some ⟨Bs, 0, none⟩)] (encLC (w0 := w) (n₀ := n₀)) (Below n₀) (fun ys => ys.map LeafC.proj = Con.leafCs t 0) (fun ys => ys.map LeafC.proj <+: Con.leafCs t 0) t.size w := by
  intro l J Jx W hW hJ hJx hY h0
  have hd : F.depth = none := by rw [HF.out]; rfl
  have hro : F.round = none := by rw [HF.out]; rfl
  have hlf : F.fn 107 := by rw [HF.out]; trivial
  have hvf : F.fn 108 := by rw [HF.out]; trivial
  have hdd : ∀ k : Nat, (F.depth.isSome = true → 1 ≤ k) := fun k h => by rw [hd] at h; cases h
  have HV := Lib.hid (visitC_in F HF w l n₀ t.size W.heap.size J Jx hJ (fun m pre x W1 hj hl => yield_anyDepth hd m (hY pre x W1 hj hl)) t ha (n - 1) 0 [] W _ (ht.keep (Same.of_below (hW.mono hn0) (fun q hq => hq))) (Nat.le_trans hn0 hW.size) (hW.mono hn0) (Int.le_refl _) (by omega) h0 (by simp))
  have hb := hbx W hW
  have c0 := hb.cell 0 (.int .i64 t.op) rfl
  have c1 := hb.cell 1 (.int .i64 t.n) rfl
  have c2 := hb.cell 2 (.string t.s) rfl
  have c3 := hb.cell 3 (.slice ka kn kc) rfl
  have c4 := hb.cell 4 (.slice na nn nc) rfl
  have c5 := hb.cell 5 (.slice la ln lc) rfl
  clear hY hb ht hbx
  refine callsIn_of_wp Tryz.func107 rfl hlf ?_ hro
  simp only [Tryz.ntmps107, List.size_toArray, List.length_cons, List.length_nil, Nat.reduceAdd, Nat.reduceSub, Array.replicate_succ, Array.replicate_zero, List.push_toArray, List.append_toArray, List.nil_append, List.cons_append]
  gi_wp2_with fail
  refine HV.out.mono ?_
  rintro e W1 (⟨rfl, ls, hls, hj, -⟩ | ⟨rfl, ls, hpf, hx⟩)
  · gi_wp2
    go_end0
    exact ⟨⟨_, rfl⟩, .inl ⟨ls, hls, by simpa using hj⟩⟩
  · gi_wp2
    go_end0
    exact ⟨⟨_, rfl⟩, .inr ⟨ls, hpf, by simpa using hx⟩⟩
end Go.Proofs.YtpkgiemdnfbopaaGreat
namespace Go.Proofs.YtpkgiemdnfbopaaGreat
open Go Go.RowKit
open Pl (K Con)
set_option linter.unusedSimpArgs false
set_option linter.unusedVariables false

def cle (a b : ByteArray × K) : Prop := ¬ b.1.toList < a.1.toList
theorem cGe_iff (x s : ByteArray) : cGe x s = true ↔ ¬ x.toList < s.toList := by
  unfold cGe
  rw [Go.Proofs.bytesLess_eq]
  simp
def cfull (c : ByteArray × K) (l : List (ByteArray × K)) (d : Bool) : List (ByteArray × K) := cpre c l d ++ (if cdone c l d = true then [] else [c])
theorem cfull_nil (c : ByteArray × K) (d : Bool) : cfull c [] d = if d = true then [] else [c] := by simp [cfull, cpre, cdone]
theorem cfull_cons (c x : ByteArray × K) (r : List (ByteArray × K)) (d : Bool) : cfull c (x :: r) d = cstepA c x d ++ (cstepB c x ++ cfull c r (d || cGe x.1 c.1)) := by
  unfold cfull
  rw [cpre, cdone_cons]
  simp [List.append_assoc]
theorem caddL_full (l : List (ByteArray × K)) (c : ByteArray × K) : caddL l c = cfull c l false := rfl
theorem cstepB_eq (c x : ByteArray × K) : (x = c ∧ cstepB c x = []) ∨ (x ≠ c ∧ cstepB c x = [x]) := by
  unfold cstepB
  by_cases h : x.1 = c.1 ∧ K.eqv x.2 c.2 = true
  · exact .inl ⟨Prod.ext h.1 ((Pl.K.eqv_iff _ _).1 h.2), if_pos h⟩
  · exact .inr ⟨fun e => h (by subst e; exact ⟨rfl, (Pl.K.eqv_iff _ _).2 rfl⟩), if_neg h⟩
theorem cfull_sub (c : ByteArray × K) : ∀ l : List (ByteArray × K), (cfull c l true).Sublist l ∧ (∀ y, y ∈ cfull c l true ↔ y ∈ l ∧ y ≠ c) := by
  intro l
  induction l with
  | nil => rw [cfull_nil]; simp
  | cons x r ih =>
    rw [cfull_cons, show cstepA c x true = [] from if_neg (by simp), List.nil_append, Bool.true_or]
    rcases cstepB_eq c x with ⟨h, e⟩ | ⟨h, e⟩
    · rw [e, List.nil_append]
      refine ⟨ih.1.cons _, fun y => ?_⟩
      rw [ih.2 y, List.mem_cons]
      constructor
      · rintro ⟨h1, h2⟩; exact ⟨.inr h1, h2⟩
      · rintro ⟨h1 | h1, h2⟩
        · exact absurd (h1.trans h) h2
        · exact ⟨h1, h2⟩
    · rw [e]
      refine ⟨ih.1.cons_cons _, fun y => ?_⟩
      rw [List.cons_append, List.nil_append, List.mem_cons, List.mem_cons, ih.2 y]
      constructor
      · rintro (h1 | ⟨h1, h2⟩)
        · exact ⟨.inl h1, by rw [h1]; exact h⟩
        · exact ⟨.inr h1, h2⟩
      · rintro ⟨h1 | h1, h2⟩
        · exact .inl h1
        · exact .inr ⟨h1, h2⟩
theorem cfull_mem (c : ByteArray × K) : ∀ (l : List (ByteArray × K)) (y : ByteArray × K), y ∈ cfull c l false ↔ y = c ∨ y ∈ l := by
  intro l
  induction l with
  | nil => intro y; rw [cfull_nil]; simp
  | cons x r ih =>
    intro y
    rw [cfull_cons, Bool.false_or]
    cases hg : cGe x.1 c.1
    · rw [show cstepA c x false = [] from if_neg (fun h => by rw [hg] at h; cases h.2), List.nil_append, List.mem_append, ih y, List.mem_cons]
      rcases cstepB_eq c x with ⟨h, e⟩ | ⟨h, e⟩
      · rw [e]
        constructor
        · rintro (h1 | h1 | h1)
          · cases h1
          · exact .inl h1
          · exact .inr (.inr h1)
        · rintro (h1 | h1 | h1)
          · exact .inr (.inl h1)
          · exact .inr (.inl (h1.trans h))
          · exact .inr (.inr h1)
      · rw [e, List.mem_singleton]
        constructor
        · rintro (h1 | h1 | h1)
          · exact .inr (.inl h1)
          · exact .inl h1
          · exact .inr (.inr h1)
        · rintro (h1 | h1 | h1)
          · exact .inr (.inl h1)
          · exact .inl h1
          · exact .inr (.inr h1)
    · rw [show cstepA c x false = [c] from if_pos ⟨rfl, hg⟩, List.mem_append, List.mem_append, List.mem_singleton, (cfull_sub c r).2 y, List.mem_cons]
      rcases cstepB_eq c x with ⟨h, e⟩ | ⟨h, e⟩
      · rw [e]
        constructor
        · rintro (h1 | h1 | h1)
          · exact .inl h1
          · cases h1
          · exact .inr (.inr h1.1)
        · rintro (h1 | h1 | h1)
          · exact .inl h1
          · exact .inl (h1.trans h)
          · by_cases hy : y = c
            · exact .inl hy
            · exact .inr (.inr ⟨h1, hy⟩)
      · rw [e, List.mem_singleton]
        constructor
        · rintro (h1 | h1 | h1)
          · exact .inl h1
          · exact .inr (.inl h1)
          · exact .inr (.inr h1.1)
        · rintro (h1 | h1 | h1)
          · exact .inl h1
          · exact .inr (.inl h1)
          · by_cases hy : y = c
            · exact .inl hy
            · exact .inr (.inr ⟨h1, hy⟩)
theorem cle_trans {a b c : ByteArray × K} (h1 : cle a b) (h2 : cle b c) : cle a c := by
  unfold cle at *
  rw [List.not_lt] at *
  exact List.le_trans h1 h2
theorem cle_of_lt {a b : ByteArray × K} (h : a.1.toList < b.1.toList) : cle a b := by
  unfold cle
  rw [List.not_lt]
  exact List.le_of_lt h
theorem cfull_sorted (c : ByteArray × K) : ∀ l : List (ByteArray × K), l.Pairwise cle → (cfull c l false).Pairwise cle := by
  intro l
  induction l with
  | nil => intro _; rw [cfull_nil]; simp
  | cons x r ih =>
    intro hp
    rw [List.pairwise_cons] at hp
    rw [cfull_cons, Bool.false_or]
    cases hg : cGe x.1 c.1
    · rw [show cstepA c x false = [] from if_neg (fun h => by rw [hg] at h; cases h.2), List.nil_append]
      have hlt : x.1.toList < c.1.toList := by
        have h : ¬ (cGe x.1 c.1 = true) := by rw [hg]; simp
        rw [cGe_iff] at h
        exact Decidable.not_not.1 h
      rcases cstepB_eq c x with ⟨h, e⟩ | ⟨h, e⟩
      · rw [e]; exact ih hp.2
      · rw [e]
        show (x :: cfull c r false).Pairwise cle
        rw [List.pairwise_cons]
        refine ⟨fun y hy => ?_, ih hp.2⟩
        rcases (cfull_mem c r y).1 hy with h1 | h1
        · subst h1; exact cle_of_lt hlt
        · exact hp.1 y h1
    · rw [show cstepA c x false = [c] from if_pos ⟨rfl, hg⟩]
      have hcx : cle c x := by
        rw [cGe_iff] at hg
        exact hg
      have hsub : (cstepB c x ++ cfull c r true).Sublist (x :: r) := by
        rcases cstepB_eq c x with ⟨h, e⟩ | ⟨h, e⟩
        · rw [e]; exact (cfull_sub c r).1.cons _
        · rw [e]; exact (cfull_sub c r).1.cons_cons _
      show (c :: (cstepB c x ++ cfull c r true)).Pairwise cle
      rw [List.pairwise_cons]
      refine ⟨fun y hy => ?_, List.Pairwise.sublist hsub (List.pairwise_cons.2 hp)⟩
      rcases List.mem_cons.1 (hsub.subset hy) with h1 | h1
      · rw [h1]; exact hcx
      · exact cle_trans hcx (hp.1 y h1)
theorem cfull_nodup (c : ByteArray × K) : ∀ l : List (ByteArray × K), l.Nodup → l.Pairwise cle → (cfull c l false).Nodup := by
  intro l
  induction l with
  | nil => intro _ _; rw [cfull_nil]; simp
  | cons x r ih =>
    intro hn hp
    rw [List.nodup_cons] at hn
    rw [List.pairwise_cons] at hp
    rw [cfull_cons, Bool.false_or]
    cases hg : cGe x.1 c.1
    · rw [show cstepA c x false = [] from if_neg (fun h => by rw [hg] at h; cases h.2), List.nil_append]
      rcases cstepB_eq c x with ⟨h, e⟩ | ⟨h, e⟩
      · rw [e]; exact ih hn.2 hp.2
      · rw [e]
        show (x :: cfull c r false).Nodup
        rw [List.nodup_cons]
        refine ⟨fun hy => ?_, ih hn.2 hp.2⟩
        rcases (cfull_mem c r x).1 hy with h1 | h1
        · exact h h1
        · exact hn.1 h1
    · rw [show cstepA c x false = [c] from if_pos ⟨rfl, hg⟩]
      have hsub : (cstepB c x ++ cfull c r true).Sublist (x :: r) := by
        rcases cstepB_eq c x with ⟨h, e⟩ | ⟨h, e⟩
        · rw [e]; exact (cfull_sub c r).1.cons _
        · rw [e]; exact (cfull_sub c r).1.cons_cons _
      show (c :: (cstepB c x ++ cfull c r true)).Nodup
      rw [List.nodup_cons]
      refine ⟨fun hy => ?_, hsub.nodup (List.nodup_cons.2 hn)⟩
      rcases List.mem_append.1 hy with h1 | h1
      · rcases cstepB_eq c x with ⟨h, e⟩ | ⟨h, e⟩
        · rw [e] at h1; cases h1
        · rw [e, List.mem_singleton] at h1; exact h h1.symm
      · exact ((cfull_sub c r).2 c).1 h1 |>.2 rfl
/-- constants put in one after the other -/
def cput (L : List (ByteArray × K)) : List (ByteArray × K) := L.foldl caddL []
theorem cput_all : ∀ (L l : List (ByteArray × K)), l.Nodup → l.Pairwise cle → (L.foldl caddL l).Nodup ∧ (L.foldl caddL l).Pairwise cle ∧ ∀ y, y ∈ L.foldl caddL l ↔ y ∈ l ∨ y ∈ L := by
  intro L
  induction L with
  | nil => intro l h1 h2; exact ⟨h1, h2, fun y => by simp⟩
  | cons c r ih =>
    intro l h1 h2
    rw [List.foldl_cons]
    obtain ⟨a, b, d⟩ := ih (caddL l c) (cfull_nodup c l h1 h2) (cfull_sorted c l h2)
    refine ⟨a, b, fun y => ?_⟩
    rw [d y, caddL_full, cfull_mem, List.mem_cons]
    constructor
    · rintro ((h | h) | h)
      · exact .inr (.inl h)
      · exact .inl h
      · exact .inr (.inr h)
    · rintro (h | h | h)
      · exact .inl (.inr h)
      · exact .inl (.inl h)
      · exact .inr h
theorem cput_nodup (L : List (ByteArray × K)) : (cput L).Nodup := (cput_all L [] List.nodup_nil List.Pairwise.nil).1
theorem cput_sorted (L : List (ByteArray × K)) : (cput L).Pairwise cle := (cput_all L [] List.nodup_nil List.Pairwise.nil).2.1
theorem cput_mem (L : List (ByteArray × K)) (y : ByteArray × K) : y ∈ cput L ↔ y ∈ L := by
  have h := (cput_all L [] List.nodup_nil List.Pairwise.nil).2.2 y
  unfold cput
  rw [h]
  simp
/-- one kind for each name -/
def Func (L : List (ByteArray × K)) : Prop := ∀ s k k', (s, k) ∈ L → (s, k') ∈ L → k = k'
end Go.Proofs.YtpkgiemdnfbopaaGreat
namespace Go.Proofs.YtpkgiemdnfbopaaGreat
open Go Go.RowKit
open Pl (K Con)
set_option linter.unusedSimpArgs false
set_option linter.unusedVariables false

/-- the constant that a leaf is -/
def cstL (p : Con × Int) : Option (ByteArray × K) := if p.1.op = 2 then some (p.1.s, p.1.kind) else none
def Con.cstsOf (t : Con) : List (ByteArray × K) := (Con.leafCs t 0).filterMap cstL
theorem putC_leaves (t : Con) : ∀ (d : Int) (cs : List (ByteArray × K)), Con.allB t = true → Con.putC t cs = ((Con.leafCs t d).filterMap cstL).foldl caddL cs := by
  induction t using Con.ind with
  | h t ih =>
  intro d cs ha
  rw [allB_eq, Bool.and_eq_true, List.all_eq_true] at ha
  by_cases h2 : t.op = 2
  · have hl : t.l.length = 0 := by rw [leaf_none t ha.1 (.inr h2)]; rfl
    rw [putC_const t cs h2, leafCs_none t d hl]
    simp [cstL, h2]
  · rw [putC_node t cs h2]
    by_cases hl : t.l.length = 0
    · rw [leafCs_none t d hl, List.eq_nil_of_length_eq_zero hl]
      simp [cstL, h2]
    · rw [leafCs_node t d hl, List.filterMap_flatMap]
      have : ∀ (l : List Con) (cs : List (ByteArray × K)), (∀ x ∈ l, ∀ cs, Con.putC x cs = ((Con.leafCs x (Con.deep t.op d)).filterMap cstL).foldl caddL cs) → l.foldl (fun a x => Con.putC x a) cs = (l.flatMap (fun x => (Con.leafCs x (Con.deep t.op d)).filterMap cstL)).foldl caddL cs := by
        intro l
        induction l with
        | nil => intro cs _; rfl
        | cons x r ihr =>
          intro cs h
          rw [List.foldl_cons, List.flatMap_cons, List.foldl_append, ← h x List.mem_cons_self cs]
          exact ihr _ (fun y hy => h y (List.mem_cons_of_mem _ hy))
      exact this t.l cs (fun x hx cs => ih x hx _ cs (ha.2 x hx))
theorem putC_cput (t : Con) (ha : Con.allB t = true) : Con.putC t [] = cput (Con.cstsOf t) := putC_leaves t 0 [] ha
theorem cput_strict {L : List (ByteArray × K)} (h : Func L) : (cput L).Pairwise (fun a b => a.1.toList < b.1.toList) := by
  refine List.Pairwise.imp_of_mem (fun {a b} ha hb hab => ?_) ((cput_sorted L).and (cput_nodup L))
  obtain ⟨h1, h2⟩ := hab
  unfold cle at h1
  by_cases hl : a.1.toList < b.1.toList
  · exact hl
  · exfalso
    have e : a.1.toList = b.1.toList := by
      rw [List.not_lt] at h1 hl
      exact List.le_antisymm h1 hl
    have e1 : a.1 = b.1 := bytes_ext e
    have ha' : (a.1, a.2) ∈ L := (cput_mem L a).1 ha
    have hb' : (b.1, b.2) ∈ L := (cput_mem L b).1 hb
    rw [← e1] at hb'
    exact h2 (Prod.ext e1 (h _ _ _ ha' hb'))
theorem distB_func (L : List (ByteArray × K)) : distB (cput L) = true ↔ Func L := by
  rw [distB_iff]
  constructor
  · intro hd
    have key : ∀ l : List (ByteArray × K), l.Pairwise cle → (∀ (j : Nat) (h : j + 1 < l.length), (l[j]'(by omega)).1 ≠ l[j + 1].1) → l.Pairwise (fun a b => a.1.toList < b.1.toList) := by
      intro l
      induction l with
      | nil => intro _ _; exact List.Pairwise.nil
      | cons x r ih =>
        intro hp hd
        rw [List.pairwise_cons] at hp
        have hr := ih hp.2 (fun j hj => by have := hd (j + 1) (by simpa using hj); simpa using this)
        rw [List.pairwise_cons]
        refine ⟨fun y hy => ?_, hr⟩
        cases r with
        | nil => cases hy
        | cons z s =>
          have hxz : x.1 ≠ z.1 := hd 0 (by simp)
          have h1 : x.1.toList < z.1.toList := by
            have h2 := hp.1 z List.mem_cons_self
            unfold cle at h2
            by_cases hl : x.1.toList < z.1.toList
            · exact hl
            · rw [List.not_lt] at h2 hl
              exact absurd (bytes_ext (List.le_antisymm h2 hl)) hxz
          rcases List.mem_cons.1 hy with e | e
          · rw [e]; exact h1
          · exact List.lt_trans h1 ((List.pairwise_cons.1 hr).1 y e)
    have hs := key _ (cput_sorted L) hd
    intro s k k' h1 h2
    have m1 := (cput_mem L _).2 h1
    have m2 := (cput_mem L _).2 h2
    have : ∀ l : List (ByteArray × K), l.Pairwise (fun a b => a.1.toList < b.1.toList) → (s, k) ∈ l → (s, k') ∈ l → k = k' := by
      intro l
      induction l with
      | nil => intro _ h _; cases h
      | cons x r ih =>
        intro hp a b
        rw [List.pairwise_cons] at hp
        rcases List.mem_cons.1 a with a | a <;> rcases List.mem_cons.1 b with b | b
        · have e := a.trans b.symm
          injection e
        · have := hp.1 _ b
          rw [← a] at this
          exact absurd this (List.lt_irrefl _)
        · have := hp.1 _ a
          rw [← b] at this
          exact absurd this (List.lt_irrefl _)
        · exact ih hp.2 a b
    exact this _ hs m1 m2
  · intro hf j hj
    have h := cput_strict hf
    have h2 := (List.pairwise_iff_getElem.1 h) j (j + 1) (by omega) hj (by omega)
    intro e
    rw [e] at h2
    exact List.lt_irrefl _ h2
theorem strict_ext : ∀ (l m : List (List UInt8)), l.Pairwise (fun a b => a < b) → m.Pairwise (fun a b => a < b) → (∀ y, y ∈ l ↔ y ∈ m) → l = m := by
  intro l
  induction l with
  | nil =>
    intro m _ _ h
    cases m with
    | nil => rfl
    | cons y s => exact absurd ((h y).2 List.mem_cons_self) (by simp)
  | cons x r ih =>
    intro m hl hm h
    cases m with
    | nil => exact absurd ((h x).1 List.mem_cons_self) (by simp)
    | cons y s =>
      rw [List.pairwise_cons] at hl hm
      have hxy : x = y := by
        rcases List.mem_cons.1 ((h x).1 List.mem_cons_self) with e | e
        · exact e
        · rcases List.mem_cons.1 ((h y).2 List.mem_cons_self) with e' | e'
          · exact e'.symm
          · exact absurd (List.lt_trans (hm.1 x e) (hl.1 y e')) (List.lt_irrefl _)
      subst hxy
      congr 1
      refine ih s hl.2 hm.2 (fun z => ?_)
      constructor
      · intro hz
        rcases List.mem_cons.1 ((h z).1 (List.mem_cons_of_mem _ hz)) with e | e
        · have := hl.1 z hz; rw [e] at this; exact absurd this (List.lt_irrefl _)
        · exact e
      · intro hz
        rcases List.mem_cons.1 ((h z).2 (List.mem_cons_of_mem _ hz)) with e | e
        · have := hm.1 z hz; rw [e] at this; exact absurd this (List.lt_irrefl _)
        · exact e
theorem sort_strict {ss : List (List UInt8)} (h : ss.Nodup) : (ss.mergeSort (fun x y => decide (x ≤ y))).Pairwise (fun a b => a < b) := by
  have h1 := List.pairwise_mergeSort (le := fun x y : List UInt8 => decide (x ≤ y)) (fun a b c h h' => by rw [decide_eq_true_iff] at *; exact List.le_trans h h') (fun a b => by
    rw [Bool.or_eq_true, decide_eq_true_iff, decide_eq_true_iff]
    exact List.le_total a b) ss
  have h2 : (ss.mergeSort (fun x y => decide (x ≤ y))).Nodup := (List.mergeSort_perm ss _).nodup_iff.2 h
  refine (h1.and h2).imp (fun {a b} hab => ?_)
  obtain ⟨h3, h4⟩ := hab
  rw [decide_eq_true_iff] at h3
  by_cases hl : a < b
  · exact hl
  · rw [List.not_lt] at hl
    exact absurd (List.le_antisymm h3 hl) h4
/-- the sorted names are the constants' names -/
theorem names_sorted {L : List (ByteArray × K)} (hf : Func L) {ss : List (List UInt8)} (hn : ss.Nodup) (hm : ∀ s : ByteArray, s.toList ∈ ss ↔ ∃ k, (s, k) ∈ L) (hb : ∀ y ∈ ss, ∃ s : ByteArray, y = s.toList) : ss.mergeSort (fun x y => decide (x ≤ y)) = (cput L).map (fun c => c.1.toList) := by
  refine strict_ext _ _ (sort_strict hn) (List.pairwise_map.2 (cput_strict hf)) (fun y => ?_)
  rw [List.mem_mergeSort, List.mem_map]
  constructor
  · intro hy
    obtain ⟨s, rfl⟩ := hb y hy
    obtain ⟨k, hk⟩ := (hm s).1 hy
    exact ⟨(s, k), (cput_mem L _).2 hk, rfl⟩
  · rintro ⟨c, hc, rfl⟩
    exact (hm c.1).2 ⟨c.2, (cput_mem L c).1 hc⟩
end Go.Proofs.YtpkgiemdnfbopaaGreat
namespace Go.Proofs
open Go.Shelf
def Tryz.keysZ_ren : Go.Shelf.Ren := ⟨fun | 7 => 55 | 10 => 111 | n => n, fun | 23 => 83 | 26 => 9 | 3 => 24 | 28 => 52 | 0 => 0 | 27 => 51 | 33 => 33 | 4 => 4 | n => n, fun | n => n⟩
theorem Tryz.keysZ : Go.Proofs.SlLaysZ.n7 Tryz.prog Tryz.keysZ_ren := {
  mixed := by kernel_rfl
  f7 := ⟨Tryz.f55.name, by decide, Tryz.func55.trans (congrArg some (by kernel_rfl))⟩
  f10 := ⟨Tryz.f111.name, by decide, Tryz.func111.trans (congrArg some (by kernel_rfl))⟩
  t0 := Tryz.underlying0
  a0 := Tryz.isAgg0
  z0 := Tryz.sizeOf0
  v0 := Tryz.zeroValue0
  t4 := Tryz.underlying4
  a4 := Tryz.isAgg4
  z4 := Tryz.sizeOf4
  v4 := Tryz.zeroValue4
  t23 := Tryz.underlying83
  a23 := Tryz.isAgg83
  z23 := Tryz.sizeOf83
  v23 := Tryz.zeroValue83
  t26 := Tryz.underlying9
  a26 := Tryz.isAgg9
  z26 := Tryz.sizeOf9
  v26 := Tryz.zeroValue9
  t27 := Tryz.underlying51
  a27 := Tryz.isAgg51
  z27 := Tryz.sizeOf51
  v27 := Tryz.zeroValue51
  t28 := Tryz.underlying52
  a28 := Tryz.isAgg52
  z28 := Tryz.sizeOf52
  v28 := Tryz.zeroValue52
  t33 := Tryz.underlying33
  a33 := Tryz.isAgg33
  z33 := Tryz.sizeOf33
  v33 := Tryz.zeroValue33 }
def Tryz.sortedZ_ren : Go.Shelf.Ren := ⟨fun | 6 => 23 | 8 => 74 | 9 => 75 | 11 => 121 | 13 => 123 | 12 => 122 | 23 => 161 | 24 => 162 | 14 => 152 | 15 => 153 | 16 => 154 | 17 => 155 | 18 => 156 | 19 => 157 | 20 => 158 | 21 => 159 | 22 => 160 | 25 => 190 | 26 => 191 | 27 => 192 | 28 => 193 | 29 => 194 | 30 => 195 | 31 => 207 | n => n, fun | 26 => 9 | 28 => 52 | 24 => 25 | 0 => 0 | 3 => 3 | 37 => 144 | 48 => 174 | 50 => 176 | 4 => 4 | 40 => 167 | 39 => 166 | 45 => 96 | 5 => 5 | 9 => 9 | 51 => 189 | 55 => 132 | 57 => 197 | 58 => 198 | 33 => 33 | n => n, fun | n => n⟩
theorem Tryz.sortedZ : Go.Proofs.SlLaysZ.n6 Tryz.prog Tryz.sortedZ_ren := {
  mixed := by kernel_rfl
  f6 := ⟨Tryz.f23.name, by decide, Tryz.func23.trans (congrArg some (by kernel_rfl))⟩
  f8 := ⟨Tryz.f74.name, by decide, Tryz.func74.trans (congrArg some (by kernel_rfl))⟩
  f11 := ⟨Tryz.f121.name, by decide, Tryz.func121.trans (congrArg some (by kernel_rfl))⟩
  t0 := Tryz.underlying0
  a0 := Tryz.isAgg0
  z0 := Tryz.sizeOf0
  v0 := Tryz.zeroValue0
  t24 := Tryz.underlying25
  a24 := Tryz.isAgg25
  z24 := Tryz.sizeOf25
  v24 := Tryz.zeroValue25
  t26 := Tryz.underlying9
  a26 := Tryz.isAgg9
  z26 := Tryz.sizeOf9
  v26 := Tryz.zeroValue9
  t28 := Tryz.underlying52
  a28 := Tryz.isAgg52
  z28 := Tryz.sizeOf52
  v28 := Tryz.zeroValue52
  i26 := by kernel_rfl }
end Go.Proofs
namespace Go.Proofs.YtpkgiemdnfbopaaGreat
open Go Go.RowKit Go.Sort Go.Maps
open Pl (K Con)
set_option linter.unusedSimpArgs false
set_option linter.unusedVariables false

theorem sortsZ (m : Nat) : AnyZ.SortsIn Tryz.prog Tryz.sortedZ_ren Fence.wide m :=
  ⟨fun blk off cap ss W hH hblk hsz => callsIn_wide.2 (Tryz.slices_Sort_string blk off cap ss W hH hblk hsz), fun p cap W => callsIn_wide.2 (Tryz.slices_Sort_string_none p cap W)⟩
theorem keysZ_any (mb : Option Nat) (W : World) : Calls Tryz.prog 55 #[.map mb] W fun e w' => e = .returned (.func (.func 111) #[] #[.pointer (some ⟨W.heap.size, 0, none⟩)]) ∧ w' = W.alloc (.cells #[.map mb] 83) :=
  callsIn_wide.1 (show CallsIn Fence.wide 5 _ _ _ _ _ from AnyZ.keys_in Tryz.keysZ Fence.wide 5 trivial rfl mb W)
set_option maxHeartbeats 1000000 in
theorem sortedZ_any {H : Type} (b nn : Nat) (D0 : DataW H) (R : Value → Option (DataW H × List MemPlace)) (w : World) (hown : w.ownsMap Tryz.prog 9 R b nn D0) (hmax : Maps.size D0 ≤ maxLen) (hbytes : Maps.size D0 * 16 ≤ 140737488355328) :
    Calls Tryz.prog 23 #[.func (.func 111) #[] #[.pointer (some ⟨w.heap.size, 0, none⟩)]] (w.alloc (.cells #[.map (some b)] 83)) fun e w' => ∃ (v : Value) (ss : List (List UInt8)), e = .returned v ∧ ss.Perm (strKeys D0) ∧
      w'.ownsRow (w.alloc (.cells #[.map (some b)] 83)).heap.size 9 1 v ss.length ((ss.mergeSort (fun x y => decide (x ≤ y))).map encStr) ∧ (v = .slice none 0 0 ↔ ss = []) ∧ Below (w.alloc (.cells #[.map (some b)] 83)).heap.size (w.alloc (.cells #[.map (some b)] 83)) w' := by
  refine (callsIn_wide (n := 5)).1 ?_
  have hbl := hown.lt
  have hseq : SeqGives Fence.wide 2 Tryz.prog 111 #[.pointer (some ⟨w.heap.size, 0, none⟩)] encStr (fun ss => ss.Perm (strKeys D0)) (Maps.size D0) (w.alloc (.cells #[.map (some b)] 83)) :=
    AnyZ.keys_gives (ρ := Tryz.keysZ_ren) { Tryz.keysZ with } Fence.wide _ trivial rfl (by omega) w.heap.size b nn D0 _ (by simp) (by simp) (by
      obtain ⟨es, clock, hb, Ft, hs, hD⟩ := hown
      exact ⟨es, clock, (Below.heap_alloc _ _ b hbl).trans hb, Ft, hs, hD⟩)
  exact AnyZ.sorted_in Tryz.sortedZ Fence.wide 5 trivial trivial trivial trivial rfl (by omega) (sortsZ _) (enters_of Tryz.func75 (by kernel_rfl) rfl) 111 #[.pointer (some ⟨w.heap.size, 0, none⟩)] trivial (enters_of Tryz.func111 (by kernel_rfl) rfl) _ _ hmax hbytes _ hseq
end Go.Proofs.YtpkgiemdnfbopaaGreat
namespace Go.Proofs.YtpkgiemdnfbopaaGreat
open Go Go.RowKit Go.Sort
open Pl (K Con)
set_option linter.unusedSimpArgs false
set_option linter.unusedVariables false

/-- an element is kept as it is -/
def keep9 : Value → Option (DataW Value × List MemPlace) := fun v => some (.held v, [])
/-- a map of names to kinds, these put in so far -/
def KMap (w : World) (P : Nat → Prop) (b n : Nat) (zs : List (ByteArray × K)) : Prop :=
  ∃ D : DataW Value, w.ownsMap Tryz.prog 9 keep9 b n D ∧ Maps.Tidy D ∧ (∀ s : ByteArray, Maps.has D (.string s.data.toList) = true ↔ ∃ k, (s, k) ∈ zs) ∧
    (∀ s k, (s, k) ∈ zs → ∃ ka kn kc, (∀ z, D.atKey (.string s.data.toList) z = .held (.agg #[.slice ka kn kc])) ∧ KidV w P k (.slice ka kn kc))
theorem kmap_new (w : World) (P : Nat → Prop) : KMap (w.alloc (.map #[] 0)) P w.heap.size 0 [] :=
  ⟨.map [], w.ownsMap_made _ _ _, Maps.tidy_empty, fun s => by simp [Maps.has], fun s k h => by cases h⟩
theorem KMap.kept {w w' : World} {P : Nat → Prop} {b n : Nat} {zs : List (ByteArray × K)} {row : Option Nat} (h : KMap w P b n zs) (hg : w.grownBy w' row) (hne : some b ≠ row) (hs : Same P w w') : KMap w' P b n zs := by
  obtain ⟨D, h1, h2, h3, h4⟩ := h
  exact ⟨D, h1.kept hg hne, h2, h3, fun s k hk => by obtain ⟨ka, kn, kc, e1, e2⟩ := h4 s k hk; exact ⟨ka, kn, kc, e1, e2.keep hs⟩⟩
theorem zeroKind9 (w : World) : (zeroValue 24).run Tryz.prog w = .ok (.agg #[.slice none 0 0]) w := by
  first | kernel_rfl | simp [go_sem]
set_option maxRecDepth 100000 in
theorem kmap_look {w : World} {P : Nat → Prop} {b n : Nat} {zs : List (ByteArray × K)} (h : KMap w P b n zs) (s : ByteArray) (hs : s.size ≤ maxLen) :
    (∀ k, (s, k) ∈ zs → ∃ ka kn kc, (Instr.lookup 83 (.map (some b)) (.string s) true).run Tryz.prog w = .ok (.tuple #[.agg #[.slice ka kn kc], .bool true]) w ∧ KidV w P k (.slice ka kn kc)) ∧
    ((∀ k, (s, k) ∉ zs) → (Instr.lookup 83 (.map (some b)) (.string s) true).run Tryz.prog w = .ok (.tuple #[.agg #[.slice none 0 0], .bool false]) w) := by
  obtain ⟨D, hD, hT, hH, hV⟩ := h
  obtain ⟨v, ps, hrun, hv⟩ := hD.look_ok (Maps.string_keyed Tryz.underlying9) Tryz.underlying83 (z := .agg #[.slice none 0 0]) (zeroKind9 w) (zd := .held (.agg #[.slice none 0 0])) (zp := []) rfl (WideMaps.keyOf_string_mk Tryz.underlying9 hs)
  unfold keep9 at hv
  injection hv with hv
  injection hv with hv _
  constructor
  · intro k hk
    obtain ⟨ka, kn, kc, e1, e2⟩ := hV s k hk
    rw [e1] at hv
    injection hv with hv
    exact ⟨ka, kn, kc, (by have e := hrun; rw [hv, (hH s).2 ⟨k, hk⟩] at e; exact e), e2⟩
  · intro hn
    have hh : Maps.has D (.string s.data.toList) = false := by
      cases hh : Maps.has D (.string s.data.toList)
      · rfl
      · obtain ⟨k, hk⟩ := (hH s).1 hh
        exact absurd hk (hn k)
    rw [Maps.atKey_of_not_has hh] at hv
    replace hv := DataW.held.inj hv
    have e := hrun
    rw [hh, hv] at e
    exact e
set_option maxRecDepth 100000 in
theorem kmap_get {w : World} {P : Nat → Prop} {b n : Nat} {zs : List (ByteArray × K)} (h : KMap w P b n zs) (s : ByteArray) (hs : s.size ≤ maxLen) (k : K) (hk : (s, k) ∈ zs) :
    ∃ ka kn kc, (Instr.lookup 83 (.map (some b)) (.string s) false).run Tryz.prog w = .ok (.agg #[.slice ka kn kc]) w ∧ KidV w P k (.slice ka kn kc) := by
  obtain ⟨D, hD, hT, hH, hV⟩ := h
  obtain ⟨v, ps, hrun, hv⟩ := hD.lookup (Maps.string_keyed Tryz.underlying9) Tryz.underlying83 (z := .agg #[.slice none 0 0]) (zeroKind9 w) (zd := .held (.agg #[.slice none 0 0])) (zp := []) rfl (WideMaps.keyOf_string_mk Tryz.underlying9 hs)
  unfold keep9 at hv
  injection hv with hv
  injection hv with hv _
  obtain ⟨ka, kn, kc, e1, e2⟩ := hV s k hk
  rw [e1] at hv
  injection hv with hv
  exact ⟨ka, kn, kc, (by have e := hrun; rw [hv] at e; exact e), e2⟩
theorem kmap_put {w : World} {P : Nat → Prop} {b n : Nat} {zs : List (ByteArray × K)} (h : KMap w P b n zs) (hn : n < maxLen) (s : ByteArray) (hs : s.size ≤ maxLen) (k : K) (hf : ∀ k', (s, k') ∈ zs → k' = k) (ka : Option Addr) (kn kc : Nat) (hk : KidV w P k (.slice ka kn kc)) (hP : ¬ P b) (hPl : ∀ q, P q → q < w.heap.size) :
    ∃ w', (Instr.mapUpdate 83 (.map (some b)) (.string s) (.agg #[.slice ka kn kc])).run Tryz.prog w = .ok () w' ∧ KMap w' P b (n + 1) (zs ++ [(s, k)]) ∧ w.grownBy w' (some b) := by
  obtain ⟨D, hD, hT, hH, hV⟩ := h
  obtain ⟨w', h1, h2, h3⟩ := hD.update (Maps.string_keyed Tryz.underlying9) Tryz.underlying83 hn (WideMaps.keyOf_string_mk Tryz.underlying9 hs) (d := .held (.agg #[.slice ka kn kc])) (ps := []) (val := .agg #[.slice ka kn kc]) rfl
  have hS : Same P w w' := fun q hq => h3.block q (hPl q hq) (fun e => by injection e with e; subst e; exact hP hq)
  refine ⟨w', h1, ⟨_, h2, hT.put (by trivial) _, fun z => ?_, fun z k' hz => ?_⟩, h3⟩
  · by_cases hz : z = s
    · subst hz
      rw [Maps.has_put_same hT.isMap (by trivial)]
      simp
    · rw [Maps.has_put_other (fun e => hz ((str_key9 z s).1 e)), hH z]
      constructor
      · rintro ⟨k', h⟩; exact ⟨k', List.mem_append_left _ h⟩
      · rintro ⟨k', h⟩
        rcases List.mem_append.1 h with h | h
        · exact ⟨k', h⟩
        · rw [List.mem_singleton] at h
          injection h with h _
          exact absurd h hz
  · by_cases hzs : z = s
    · subst hzs
      have hkk : k' = k := by
        rcases List.mem_append.1 hz with h | h
        · exact hf k' h
        · rw [List.mem_singleton] at h
          injection h
      subst hkk
      exact ⟨ka, kn, kc, fun _ => by rw [Maps.atKey_put_same hT.isMap (by trivial)], hk.keep hS⟩
    · have hm : (z, k') ∈ zs := by
        rcases List.mem_append.1 hz with h | h
        · exact h
        · rw [List.mem_singleton] at h
          injection h with h _
          exact absurd h hzs
      obtain ⟨a, n2, c, e1, e2⟩ := hV z k' hm
      exact ⟨a, n2, c, fun x => by rw [Maps.atKey_put_other (fun e => hzs ((str_key9 z s).1 e)), e1], e2.keep hS⟩
/-- what the sorted keys are -/
theorem kmap_keys {w : World} {P : Nat → Prop} {b n : Nat} {zs : List (ByteArray × K)} (h : KMap w P b n zs) :
    ∃ D : DataW Value, w.ownsMap Tryz.prog 9 keep9 b n D ∧ Maps.size D ≤ n ∧ ∀ ss : List (List UInt8), ss.Perm (strKeys D) → ss.Nodup ∧ (∀ s : ByteArray, s.toList ∈ ss ↔ ∃ k, (s, k) ∈ zs) ∧ (∀ y ∈ ss, ∃ s : ByteArray, y = s.toList) := by
  obtain ⟨D, hD, hT, hH, -⟩ := h
  refine ⟨D, hD, hD.size_le, fun ss hp => ?_⟩
  obtain ⟨es, hes, hpw⟩ := hT
  obtain ⟨es', hes', hko⟩ := hD.keysOf
  have hee : es = es' := by rw [hes] at hes'; injection hes'
  subst hee
  have hk : ∀ p ∈ es, ∃ x, p.1 = .string x := fun p hp => by
    obtain ⟨v, hv⟩ := hko p hp
    obtain ⟨x, _, hx, _⟩ := Maps.keyOf_str Tryz.underlying9 hv
    exact ⟨x, hx⟩
  have hnd : (strKeys D).Nodup := by
    rw [hes]
    show (es.map fun p => strOf p.1).Nodup
    refine List.pairwise_map.2 (hpw.imp_of_mem fun {p q} hp' hq' hne e => hne ?_)
    obtain ⟨a, ha⟩ := hk p hp'
    obtain ⟨b, hb⟩ := hk q hq'
    rw [ha, hb] at e ⊢
    exact congrArg _ e
  have hmem : ∀ x : List UInt8, x ∈ strKeys D ↔ Maps.has D (.string x) = true := fun x => by
    rw [hes, Maps.has_eq, List.any_eq_true]
    show x ∈ es.map (fun p => strOf p.1) ↔ _
    rw [List.mem_map]
    constructor
    · rintro ⟨p, hp', rfl⟩
      obtain ⟨a, ha⟩ := hk p hp'
      exact ⟨p, hp', by rw [ha]; simp [Lit.sameKey, strOf]⟩
    · rintro ⟨p, hp', hs⟩
      obtain ⟨a, ha⟩ := hk p hp'
      rw [ha] at hs
      exact ⟨p, hp', by rw [ha]; simpa [Lit.sameKey, strOf] using hs⟩
  refine ⟨hp.nodup_iff.2 hnd, fun s => ?_, fun y hy => ⟨⟨y.toArray⟩, by rw [Lib.toList_data]⟩⟩
  rw [hp.mem_iff, hmem, ← hH s, Lib.toList_data]
end Go.Proofs.YtpkgiemdnfbopaaGreat
namespace Go.Proofs.YtpkgiemdnfbopaaGreat
open Go Go.RowKit
open Pl (K Con)
set_option linter.unusedSimpArgs false
set_option linter.unusedVariables false
attribute [local go_sem] Oper.semAt_some

def encS9 (x : ByteArray) : Array Value := #[.string x]
theorem valuesS_any (w : World) (a : Option Addr) (n c : Nat) :
    Calls Tryz.prog 24 #[.slice a n c] w fun e w' => e = .returned (.func (.func 76) #[] #[.pointer (some ⟨w.heap.size, 0, none⟩)]) ∧ w' = w.alloc (.cells #[.slice a n c] 25) := by
  go_enter Tryz.func24, Tryz.ntmps24
  go_wp2
  go_ret
  exact ⟨rfl, rfl⟩
set_option maxRecDepth 100000 in
set_option maxHeartbeats 2000000 in
theorem values_stops (F : Fence) (HF : Hid (F = Fence.wide)) (n Bs n₀ : Nat) (P : Nat → Prop) (v : Value) (zs : List ByteArray) (w : World) (hn0 : n₀ ≤ w.heap.size) (hB : Bs < w.heap.size) (hP : ∀ q, P q → q < n₀)
    (hbx : Blk w Bs 25 #[v]) (ht : StrSl w P v zs) :
    SeqStopsK F n Tryz.prog 76 #[.pointer (some ⟨Bs, 0, none⟩)] encS9 (Below n₀) (fun ys => ys = zs) (fun ys => ys <+: zs) zs.length w := by
  intro l J Jx W hW hJ hJx hY h0
  have hd : F.depth = none := by rw [HF.out]; rfl
  have hro : F.round = none := by rw [HF.out]; rfl
  have hlf : F.fn 76 := by rw [HF.out]; trivial
  have hdd : ∀ k : Nat, (F.depth.isSome = true → 1 ≤ k) := fun k h => by rw [hd] at h; cases h
  have HT := Lib.hid (fun W' (hW' : Below n₀ W W') => ht.keep (w' := W') (fun q hq => (hW'.block q (hP q hq)).trans (hW.block q (Nat.lt_of_lt_of_le (hP q hq) hn0))))
  have hb := hbx.of_eq (hW.block _ hB)
  have c0 := hb.cell 0 v rfl
  have HY := Lib.hid hY
  obtain ⟨a, c, rfl, h1, h2, -, h4, h5⟩ := ht
  obtain ⟨m, hm⟩ : ∃ m, m = zs.length := ⟨_, rfl⟩
  have HM := Lib.hid hm
  rw [← hm] at h1 c0 HT HY
  have hm63 : m ≤ 9223372036854775807 := by unfold maxLen at h2; omega
  have H0 := Lib.hid h0
  clear hY hb hbx h1 h2 h4 h5 hm h0
  refine callsIn_of_wp Tryz.func76 rfl hlf ?_ hro
  simp only [Tryz.ntmps76, List.size_toArray, List.length_cons, List.length_nil, Nat.reduceAdd, Nat.reduceSub, Array.replicate_succ, Array.replicate_zero, List.push_toArray, List.append_toArray, List.nil_append, List.cons_append]
  gi_wp2_with fail
  clear c0
  gi_loopw [7] (fun i wr => ∃ k : Nat, k ≤ m ∧ i = .int .i64 k ∧ J (zs.take k) wr ∧ Below n₀ W wr) (fun i _ => m - (intOf i).toNat)
  case atStart => exact ⟨0, Nat.zero_le _, rfl, by rw [List.take_zero]; exact H0.out, Below.refl _ _⟩
  case round =>
    obtain ⟨k, hk, rfl, hj, hbw⟩ := hrel
    have HJK := Lib.hid hj
    have HBW := Lib.hid hbw
    by_cases hlt : k < m
    · have q5 : decide ((k : Int) < (m : Int)) = true := decide_eq_true (by omega)
      have hkl : k < zs.length := by rw [← HM.out]; exact hlt
      have hcell : ∃ b off, a = some ⟨b, off, none⟩ ∧ wr.cell? ⟨b, off + k, none⟩ = some (.string zs[k]) := by
        obtain ⟨a', c', e, -, -, -, -, h8⟩ := HT.out wr hbw
        injection e with e1 e2 e3
        subst e1
        rcases h8 with h8 | ⟨b, off, rfl, -, h9⟩
        · rw [h8] at hkl; exact absurd hkl (Nat.not_lt_zero _)
        · exact ⟨b, off, rfl, h9 k hkl⟩
      obtain ⟨b, off, ea, f0⟩ := hcell
      subst ea
      have HTK := Lib.hid (show zs.take (k + 1) = zs.take k ++ [zs[k]] from List.take_succ_eq_append_getElem hkl)
      have HPF := Lib.hid (show zs.take k ++ [zs[k]] <+: zs from by rw [← HTK.out]; exact List.take_prefix _ _)
      obtain ⟨fn, tmps, assign, body, hy, hR⟩ := HY.out (zs.take k) zs[k] wr hj (by rw [List.length_take]; omega)
      unfold encS9 at hy
      generalize zs[k] = z at *
      clear hj hbw hkl
      gi_wp2_with fail
      refine hR.mono ?_
      rintro e W3 h3
      rcases h3 with ⟨rfl, hj3, hb3⟩ | ⟨rfl, hx3⟩
      · have HJ3 := Lib.hid hj3
        have HB3 := Lib.hid (HBW.out.trans hb3)
        clear hj3 hb3 f0 hy hR
        gi_wp2
        go_roundw
        case rel => exact ⟨k + 1, by omega, by go_num, by rw [HTK.out]; exact HJ3.out, HB3.out⟩
        case measure => first | (simp [intOf]; done) | (simp [intOf]; omega)
      · have HX3 := Lib.hid hx3
        clear hx3 f0 hy hR
        gi_wp2
        refine bodyPost_ret (v := .tuple #[]) (by simp [results, Tryz.results76, Tryz.f76, go_sem]) rfl ?_
        exact ⟨⟨_, rfl⟩, .inr ⟨_, HPF.out, HX3.out⟩⟩
    · have q5 : decide ((k : Int) < (m : Int)) = false := decide_eq_false (by omega)
      have HE := Lib.hid (show zs.take k = zs from List.take_of_length_le (by rw [← HM.out]; omega))
      rw [HE.out] at HJK
      clear hj hbw
      gi_wp2
      go_end0
      exact ⟨⟨_, rfl⟩, .inl ⟨zs, rfl, HJK.out⟩⟩
end Go.Proofs.YtpkgiemdnfbopaaGreat
namespace Go.Proofs.YtpkgiemdnfbopaaGreat
open Go Go.RowKit Go.Sort
open Pl (K Con)
set_option linter.unusedSimpArgs false
set_option linter.unusedVariables false
attribute [local go_sem] Oper.semAt_some

/-- an append to a row of strings, and its store, leave what is no cells -/
theorem own_sameS {W w1 : World} {B4 k base : Nat} {v v' : Value} {xs : List Value} (x : ByteArray) (h1 : Blk W B4 25 #[v]) (hown : W.ownsRow base 9 1 v k xs) (hgrow : (W.alloc (.cells #[.string x] 9)).grownBy w1 v.ownBlock) :
    ∀ (j : Nat) (o : Obj), W.heap[j]? = some o → o.isCells = false → (w1.setCell ⟨B4, 0, none⟩ v').heap[j]? = some o := by
  intro j o ho hc
  have hjl : j < W.heap.size := (Array.getElem?_eq_some_iff.1 ho).1
  have hj4 : j ≠ B4 := by
    rintro rfl
    have h1 : W.heap[j]? = some (.cells #[v] 25 (0, 0)) := h1
    rw [h1] at ho
    injection ho with ho
    subst ho
    cases hc
  have hjr : some j ≠ v.ownBlock := by
    intro e
    rcases hown.2 with ⟨rfl, _⟩ | ⟨g, cap, cur, rfl, _, hg, _⟩
    · cases e
    · have e : some j = some g := e
      injection e with e
      subst e
      rw [hg] at ho
      injection ho with ho
      subst ho
      cases hc
  rw [Below.heap_setCell w1 _ _ j (show j ≠ B4 from hj4), hgrow.block j (by rw [size_alloc]; omega) hjr, Below.heap_alloc W _ j hjl, ho]
theorem ownsRowS_own {β : Type} (s : β) {B base k : Nat} {v : Value} {xs : List Value} (A D : World) (row : Option Nat) (h : A.ownsRow base 9 1 v k xs) (hg : A.grownBy D row) (hr : ∀ r, row = some r → B ≤ r ∧ ∃ o : Obj, A.heap[r]? = some o ∧ o.isCells = false) : D.ownsRow base 9 1 v k xs := by
  refine h.kept hg ?_
  rcases h.2 with ⟨rfl, _⟩ | ⟨g, cap, cur, rfl, _, hgg, _⟩
  · exact .inl rfl
  · refine .inr (fun e => ?_)
    obtain ⟨-, o, ho, hoc⟩ := hr g e.symm
    rw [hgg] at ho
    injection ho with ho
    subst ho
    cases hoc
theorem ownS_other {W : World} {B4 base k : Nat} {v v' : Value} {xs : List Value} (h : W.ownsRow base 9 1 v k xs) (hne : some B4 ≠ v.ownBlock) : (W.setCell ⟨B4, 0, none⟩ v').ownsRow base 9 1 v k xs := by
  refine ⟨h.1, ?_⟩
  rcases h.2 with hn | ⟨g, cap, cur, rfl, hb, hgg, rest⟩
  · exact .inl hn
  · exact .inr ⟨g, cap, cur, rfl, hb, (Below.heap_setCell W _ _ g (show g ≠ B4 from fun e => hne (by rw [e]; rfl))).trans hgg, rest⟩
/-- a list of strings in a new row -/
def RowSP (zs : List ByteArray) (w : World) (e : Ending) (w' : World) : Prop := (∃ y, e = .returned y ∧ w'.ownsRow w.heap.size 9 1 y zs.length (zs.map Value.string)) ∧ Below w.heap.size w w'
set_option maxRecDepth 100000 in
set_option maxHeartbeats 2000000 in
theorem appendSeqS_any (Bs : Nat) (P : Nat → Prop) (v : Value) (zs : List ByteArray) (w : World) (hB : Bs < w.heap.size) (hP : ∀ q, P q → q < w.heap.size) (hbx : Blk w Bs 25 #[v]) (ht : StrSl w P v zs) (hlen : zs.length ≤ 1000000) :
    Calls Tryz.prog 121 #[.slice none 0 0, .func (.func 76) #[] #[.pointer (some ⟨Bs, 0, none⟩)]] w (RowSP zs w) := by
  refine wide_of (n := 12) (fun F HF => ?_)
  have hd : F.depth = none := by rw [HF.out]; rfl
  have hro : F.round = none := by rw [HF.out]; rfl
  have hf1 : F.fn 121 := by rw [HF.out]; trivial
  have hlf : F.fn 76 := by rw [HF.out]; trivial
  have hdd : ∀ k : Nat, (F.depth.isSome = true → 1 ≤ k) := fun k h => by rw [hd] at h; cases h
  obtain ⟨hb4, hbb⟩ := boxN_new w 25 #[.slice none 0 0]
  have hbx2 := hbx.of_eq (hbb.block _ hB)
  have ht2 := ht.keep (Same.of_below hbb hP)
  have hsz := size_alloc w (.cells #[.slice none 0 0] 25)
  obtain ⟨ii, hii, hiz, his, hib⟩ := info_parts infoStr9
  refine callsIn_of_wp_marks Tryz.func121 rfl hf1 ?_ hro
  simp only [Tryz.ntmps121, List.size_toArray, List.length_cons, List.length_nil, Nat.reduceAdd, Nat.reduceSub, Array.replicate_succ, Array.replicate_zero, List.push_toArray, List.append_toArray, List.nil_append, List.cons_append]
  gi_wp2_with fail
  generalize w.alloc (.cells #[.slice none 0 0] 25) = w2 at *
  refine wpIn_rangeFunc_ownH hro (by omega) (gf := 76) (lb := #[.pointer (some ⟨Bs, 0, none⟩)]) rfl hlf (enters_of Tryz.func76 (by kernel_rfl) rfl)
    (values_stops F HF (12 - 1) Bs w.heap.size P v zs w2 (by omega) (by omega) hP hbx2 ht2) belowK_t (belowK_b (by omega)) (Below.refl _ _) (fun _ => rfl)
    (fun pre W => ∃ v, Blk W w.heap.size 25 #[v] ∧ W.ownsRow (w.heap.size + 1) 9 1 v pre.length (pre.map Value.string) ∧ Below w.heap.size w W)
    (fun c pre W => False)
    (fun s A D row hs hg hr => by
      obtain ⟨v, h1, h2, h3⟩ := hs
      exact ⟨v, blk_own (β := Unit) () A D row h1 hg hr, ownsRowS_own () A D row h2 hg hr, below_own (β := Unit) (by omega) () A D row h3 hg hr⟩)
    (fun c s A D row hs hg hr => hs)
    ⟨_, hb4, World.ownsRow_nil _ _ _ _, hbb⟩
    (fun x a' W' => a' = { tmps := #[.slice none 0 0, .func (.func 76) #[] #[.pointer (some ⟨Bs, 0, none⟩)], .pointer (some ⟨w.heap.size, 0, none⟩), undef, .slice none 0 0, .string x, .func (.func 76) #[] #[.pointer (some ⟨Bs, 0, none⟩)], .string x, undef, undef, undef, undef, undef], defers := [] })
    (fun x a' _ A D row hs hg hr => hs)
    ?assign ?body ?done ?stop
  case assign =>
    rintro lp pre x W K h1 hK
    unfold encS9
    gi_wp2
    exact hK _ _ (KeepsFrom.refl _ _) (Below.refl _ _) h1 rfl
  case stop =>
    rintro D c pre W hD hpf hF hK
    exact hF.elim
  case body =>
    rintro lp pre x a' W hlp ⟨r, hr⟩ ⟨v9, h1, h2, h3⟩ rfl hlt
    have x4 := h1.cell 0 v9 rfl
    have f4 := h1.thaw 0
    have hlt4 := h1.lt
    have H1 := Lib.hid h1
    have H3 := Lib.hid h3
    have HLEN := Lib.hid (show pre.length < 1000000 from by omega)
    clear h1 h3 hlt hbx2 ht2 hbb hb4 hbx ht
    gi_wp2_with (first
      | (gi_at_builtin; refine wpListIn_append_own _ rfl _ _ 25 rfl (w.heap.size + 1) 9 ii (.string ByteArray.empty) 1 16 Tryz.underlying25 hii hiz his hib rfl (by decide) _ _ _ rfl (h2.alloc _) ⟨W.heap.size, 0, none⟩ 1 1 [.string x] rfl rfl ?c1 ?c2 ?c3 ?c4 ?c5 ?_)
      | gi_in)
    case c1 =>
      intro j u hj
      match j, hj with
      | 0, hj => simp at hj; subst hj; simp [Addr.add]
    case c2 => intro u hu; simp at hu; subst hu; rfl
    case c3 => have := HLEN.out; unfold maxLen; omega
    case c4 => have := HLEN.out; omega
    case c5 => simp; omega
    · intro v8 W1 hown9 hgrow _
      obtain ⟨g9, cap9, rfl⟩ : ∃ g cap, v8 = .slice (some ⟨g, 0, none⟩) (pre.length + 1) cap := by
        rcases hown9.2 with ⟨_, h⟩ | ⟨g, cap, _, h, _⟩
        · omega
        · exact ⟨g, cap, h⟩
      have hne4 : some w.heap.size ≠ v9.ownBlock := fun e => by have := (h2.lt w.heap.size e.symm).1; omega
      have h1a := H1.out.alloc (.cells #[.string x] 9)
      have h1b : Blk W1 w.heap.size 25 #[v9] := (hgrow.block w.heap.size h1a.lt hne4).trans h1a
      have x5 := h1b.cell 0 v9 rfl
      have f5 := h1b.thaw 0
      have hsame := own_sameS (v' := (.slice (some ⟨g9, 0, none⟩) (pre.length + 1) cap9)) x H1.out h2 hgrow
      have hbel : Below w.heap.size W (W1.setCell ⟨w.heap.size, 0, none⟩ (.slice (some ⟨g9, 0, none⟩) (pre.length + 1) cap9)) := (((Below.refl w.heap.size W).alloc H3.out.size (.cells #[.string x] 9)).grown hgrow (Nat.le_trans H3.out.size (by rw [size_alloc]; omega)) (fun k e => by have := (h2.lt k e).1; omega)).setCell (p := ⟨w.heap.size, 0, none⟩) (Nat.le_refl _) (.slice (some ⟨g9, 0, none⟩) (pre.length + 1) cap9)
      have hgb : some w.heap.size ≠ (.slice (some ⟨g9, 0, none⟩) (pre.length + 1) cap9 : Value).ownBlock := fun e => by have := (hown9.lt w.heap.size e.symm).1; omega
      have HE := Lib.hid (show KeepsFrom w2.heap.size W (W1.setCell ⟨w.heap.size, 0, none⟩ (.slice (some ⟨g9, 0, none⟩) (pre.length + 1) cap9)) ∧ Below w.heap.size W (W1.setCell ⟨w.heap.size, 0, none⟩ (.slice (some ⟨g9, 0, none⟩) (pre.length + 1) cap9)) ∧ ∃ v, Blk (W1.setCell ⟨w.heap.size, 0, none⟩ (.slice (some ⟨g9, 0, none⟩) (pre.length + 1) cap9)) w.heap.size 25 #[v] ∧ (W1.setCell ⟨w.heap.size, 0, none⟩ (.slice (some ⟨g9, 0, none⟩) (pre.length + 1) cap9)).ownsRow (w.heap.size + 1) 9 1 v (pre ++ [x]).length ((pre ++ [x]).map Value.string) ∧ Below w.heap.size w (W1.setCell ⟨w.heap.size, 0, none⟩ (.slice (some ⟨g9, 0, none⟩) (pre.length + 1) cap9)) from
        ⟨⟨hbel.size, fun k o _ ho hc => hsame k o ho hc⟩, hbel, (.slice (some ⟨g9, 0, none⟩) (pre.length + 1) cap9), blk_one h1b, by
          have h := ownS_other (v' := (.slice (some ⟨g9, 0, none⟩) (pre.length + 1) cap9)) hown9 hgb
          simpa using h, H3.out.trans hbel⟩)
      clear h2 hown9 hgrow h1a h1b hsame hbel hgb hne4
      gi_wp2
      exact HE.out
  case done =>
    rintro D xs W hD hS ⟨v9, h1, h2, h3⟩ hK
    subst hS
    have x4 := h1.cell 0 v9 rfl
    have HE := Lib.hid (show RowSP xs w (.returned v9) (W.putObj D (.deferred none)) from
      ⟨⟨_, rfl, ⟨h2.1, (ownsRowS_own (B := D) () _ _ _ h2 (grownBy_putObj' W D (.deferred none)) (fun r e => by cases e; exact ⟨Nat.le_refl _, _, hK, rfl⟩)).2.imp id fun ⟨g, cap, cur, e1, e2, e3⟩ => ⟨g, cap, cur, e1, Nat.le_of_succ_le e2, e3⟩⟩⟩, h3.trans (belowK_b (w := w) (Nat.le_refl _) _ D _ (.deferred none) (by omega) hK rfl rfl)⟩)
    clear h1 h2 h3
    gi_wp2
    refine ⟨by simp, .inl ⟨_, _, rfl, run_takeDeferred hK, ?_⟩⟩
    refine ⟨v9, by simp [results, Tryz.results121, Tryz.f121, go_sem], ?_⟩
    exact HE.out
end Go.Proofs.YtpkgiemdnfbopaaGreat
namespace Go.Proofs.YtpkgiemdnfbopaaGreat
open Go Go.RowKit Go.Sort
open Pl (K Con)
set_option linter.unusedSimpArgs false
set_option linter.unusedVariables false

theorem encS_data (zs : List ByteArray) : zs.map Value.string = (zs.map (fun z => z.data.toList)).map encStr := by
  rw [List.map_map]
  refine List.map_congr_left (fun z _ => ?_)
  show Value.string z = encStr z.data.toList
  unfold encStr
  cases z
  simp
theorem collectS_any (Bs : Nat) (P : Nat → Prop) (v : Value) (zs : List ByteArray) (w : World) (hB : Bs < w.heap.size) (hP : ∀ q, P q → q < w.heap.size) (hbx : Blk w Bs 25 #[v]) (ht : StrSl w P v zs) (hlen : zs.length ≤ 1000000) :
    Calls Tryz.prog 74 #[.func (.func 76) #[] #[.pointer (some ⟨Bs, 0, none⟩)]] w (RowSP zs w) := by
  have HA := Lib.hid (appendSeqS_any Bs P v zs w hB hP hbx ht hlen)
  clear hbx ht
  go_enter Tryz.func74, Tryz.ntmps74
  go_wp2_with fail
  refine HA.out.mono ?_
  rintro e w2 ⟨⟨y, rfl, hy⟩, hb⟩
  have HE := Lib.hid (show w2.ownsRow w.heap.size 9 1 y zs.length (zs.map Value.string) ∧ Below w.heap.size w w2 from ⟨hy, hb⟩)
  clear hy hb
  go_wp2
  go_ret
  exact ⟨⟨_, rfl, HE.out.1⟩, HE.out.2⟩
/-- the bytes of names, ascending -/
def sortedB (zs : List ByteArray) : List (List UInt8) := (zs.map (fun z => z.data.toList)).mergeSort (fun x y => decide (x ≤ y))
def SortSP (zs : List ByteArray) (w : World) (e : Ending) (w' : World) : Prop := (∃ y, e = .returned y ∧ w'.ownsRow w.heap.size 9 1 y zs.length ((sortedB zs).map encStr)) ∧ Below w.heap.size w w'
set_option maxHeartbeats 1000000 in
theorem sortedS_any (Bs : Nat) (P : Nat → Prop) (v : Value) (zs : List ByteArray) (w : World) (hB : Bs < w.heap.size) (hP : ∀ q, P q → q < w.heap.size) (hbx : Blk w Bs 25 #[v]) (ht : StrSl w P v zs) (hlen : zs.length ≤ 1000000) :
    Calls Tryz.prog 23 #[.func (.func 76) #[] #[.pointer (some ⟨Bs, 0, none⟩)]] w (SortSP zs w) := by
  have HA := Lib.hid (collectS_any Bs P v zs w hB hP hbx ht hlen)
  clear hbx ht
  go_enter Tryz.func23, Tryz.ntmps23
  go_wp2_with fail
  refine HA.out.mono ?_
  rintro e W ⟨⟨y, rfl, hy⟩, hb⟩
  rw [encS_data] at hy
  obtain ⟨ss, hss⟩ : ∃ ss, ss = zs.map (fun z => z.data.toList) := ⟨_, rfl⟩
  have hsl : ss.length = zs.length := by rw [hss, List.length_map]
  have HSB := Lib.hid (show sortedB zs = ss.mergeSort (fun x y => decide (x ≤ y)) from by rw [hss]; rfl)
  rw [← hss] at hy
  have HSL := Lib.hid hsl
  rw [← hsl] at hy
  clear hss hsl
  rcases hy.2 with ⟨rfl, hz⟩ | ⟨gb, cap, cur, rfl, hbase, hgb, r1, r2, r3, r4⟩
  · have hs0 : ss = [] := List.eq_nil_of_length_eq_zero hz
    subst hs0
    have HE := Lib.hid (show W.ownsRow w.heap.size 9 1 (.slice none 0 0) zs.length ((sortedB zs).map encStr) ∧ Below w.heap.size w W from ⟨by rw [HSB.out, ← HSL.out]; simpa using hy, hb⟩)
    clear hy hb
    go_wp2_with fail
    refine (Tryz.slices_Sort_string_none none 0 W).mono ?_
    rintro e w' ⟨rfl, rfl⟩
    go_wp2
    go_ret
    exact ⟨⟨_, rfl, HE.out.1⟩, HE.out.2⟩
  · have hH : Holds encStr W gb 0 ss.toArray := holds_of_block hgb (by simpa using r4)
    have hgl : gb < W.heap.size := (Array.getElem?_eq_some_iff.1 hgb).1
    have HSO := Lib.hid (Tryz.slices_Sort_string gb 0 cap ss W hH hgl (by have := HSL.out; omega))
    have HNX := Lib.hid (fun nn os => (show (grow (putRow encStr (Sort.ahead W nn) gb 0 (ss.mergeSort fun x y => decide (x ≤ y)).toArray) os).ownsRow w.heap.size 9 1 (.slice (some ⟨gb, 0, none⟩) ss.length cap) zs.length ((sortedB zs).map encStr) ∧ Below w.heap.size w (grow (putRow encStr (Sort.ahead W nn) gb 0 (ss.mergeSort fun x y => decide (x ≤ y)).toArray) os) from by
      refine ⟨?_, hb.grown (grownBy_sorted _) hb.size (fun j hj => by cases hj; exact hbase)⟩
      rw [HSB.out, ← HSL.out]
      exact ownsRow_sorted (by simp) hbase hgb r1 r2 r3))
    generalize ss.length = sn at *
    clear hy hb hH hgl r1 r2 r3 r4 hgb
    go_wp2_with fail
    refine HSO.out.mono ?_
    rintro e w' ⟨rfl, nn, os, rfl⟩
    have HE := Lib.hid (HNX.out nn os)
    clear HNX HSO
    generalize grow (putRow encStr (Sort.ahead W nn) gb 0 (ss.mergeSort fun x y => decide (x ≤ y)).toArray) os = w9 at *
    go_wp2
    go_ret
    exact ⟨⟨_, rfl, HE.out.1⟩, HE.out.2⟩
end Go.Proofs.YtpkgiemdnfbopaaGreat
namespace Go.Proofs.YtpkgiemdnfbopaaGreat
open Go Go.RowKit Go.Sort
open Pl (K Con)
set_option linter.unusedSimpArgs false
set_option linter.unusedVariables false

theorem adj_strict : ∀ l : List (List UInt8), l.Pairwise (fun a b => a ≤ b) → (∀ (j : Nat) (h : j + 1 < l.length), l[j]'(by omega) ≠ l[j + 1]) → l.Pairwise (fun a b => a < b) := by
  intro l
  induction l with
  | nil => intro _ _; exact List.Pairwise.nil
  | cons x r ih =>
    intro hp hd
    rw [List.pairwise_cons] at hp
    have hr := ih hp.2 (fun j hj => by have := hd (j + 1) (by simpa using hj); simpa using this)
    rw [List.pairwise_cons]
    refine ⟨fun y hy => ?_, hr⟩
    cases r with
    | nil => cases hy
    | cons z s =>
      have hxz : x ≠ z := hd 0 (by simp)
      have h1 : x < z := by
        have h2 := hp.1 z List.mem_cons_self
        by_cases hl : x < z
        · exact hl
        · rw [List.not_lt] at hl
          exact absurd (List.le_antisymm h2 hl) hxz
      rcases List.mem_cons.1 hy with e | e
      · rw [e]; exact h1
      · exact List.lt_trans h1 ((List.pairwise_cons.1 hr).1 y e)
theorem compact_len_iff (l : List (List UInt8)) (hs : l.Pairwise (fun a b => a ≤ b)) : (Lib.compact l).length = l.length ↔ l.Nodup := by
  have hk : (Lib.compact l).length = l.length ↔ ∀ j, j < l.length → Lib.keeps l.toArray j = true := by
    unfold Lib.compact Lib.compactUpTo
    rw [List.length_map]
    constructor
    · intro h j hj
      have h2 : ((List.range l.length).filter (Lib.keeps l.toArray)).length = (List.range l.length).length := by rw [List.length_range]; exact h
      have h3 := (List.length_filter_eq_length_iff).1 h2
      exact h3 j (List.mem_range.2 hj)
    · intro h
      rw [List.filter_eq_self.2 (fun j hj => h j (List.mem_range.1 hj)), List.length_range]
  rw [hk]
  constructor
  · intro h
    have h2 := adj_strict l hs (fun j hj e => by
      have h3 := h (j + 1) hj
      rw [Lib.keeps_neg (by omega) (by simp [List.getElem?_eq_getElem hj, List.getElem?_eq_getElem (show j < l.length by omega), e])] at h3
      cases h3)
    exact h2.imp (fun {a b} hab e => by rw [e] at hab; exact List.lt_irrefl _ hab)
  · intro h j hj
    cases j with
    | zero => simp [Lib.keeps]
    | succ j =>
      refine Lib.keeps_pos (fun e => ?_)
      have h2 := (List.pairwise_iff_getElem.1 h) j (j + 1) (by omega) hj (by omega)
      simp [List.getElem?_eq_getElem hj, List.getElem?_eq_getElem (show j < l.length by omega)] at e
      exact h2 e.symm
theorem sortedB_sorted (zs : List ByteArray) : (sortedB zs).Pairwise (fun a b => a ≤ b) := by
  have h1 := List.pairwise_mergeSort (le := fun x y : List UInt8 => decide (x ≤ y)) (fun a b c h h' => by rw [decide_eq_true_iff] at *; exact List.le_trans h h') (fun a b => by
    rw [Bool.or_eq_true, decide_eq_true_iff, decide_eq_true_iff]
    exact List.le_total a b) (zs.map (fun z => z.data.toList))
  exact h1.imp (fun {a b} h => by rw [decide_eq_true_iff] at h; exact h)
theorem sortedB_len (zs : List ByteArray) : (sortedB zs).length = zs.length := by unfold sortedB; rw [List.length_mergeSort, List.length_map]
theorem sortedB_nodup (zs : List ByteArray) : (sortedB zs).Nodup ↔ zs.Nodup := by
  unfold sortedB
  rw [(List.mergeSort_perm _ _).nodup_iff]
  unfold List.Nodup
  rw [List.pairwise_map]
  constructor
  · exact fun h => h.imp (fun {a b} hab e => hab (by rw [e]))
  · exact fun h => h.imp (fun {a b} hab e => hab (bytes_ext (by rw [Lib.toList_data, Lib.toList_data, e])))
/-- as many as before just where none comes twice -/
theorem names_twice (zs : List ByteArray) : (Lib.compact (sortedB zs)).length = zs.length ↔ zs.Nodup := by
  rw [← sortedB_len zs, compact_len_iff _ (sortedB_sorted zs), sortedB_nodup]
set_option maxHeartbeats 1000000 in
theorem compactS_any (B : Nat) (zs : List ByteArray) (y : Value) (w : World) (h : w.ownsRow B 9 1 y zs.length ((sortedB zs).map encStr)) (hlen : zs.length ≤ 1000000) :
    Calls Tryz.prog 22 #[y] w fun e w' => (∃ a c, e = .returned (.slice a (Lib.compact (sortedB zs)).length c)) ∧ Below B w w' := by
  rcases h.2 with ⟨rfl, hz⟩ | ⟨gb, cap, cur, rfl, hbase, hgb, r1, r2, r3, r4⟩
  · have hz0 : zs = [] := List.eq_nil_of_length_eq_zero hz
    subst hz0
    refine (Tryz.slices_Compact_string_empty none 0 w).mono ?_
    rintro e w' ⟨rfl, rfl⟩
    refine ⟨⟨none, 0, ?_⟩, Below.refl _ _⟩
    have e0 : (Lib.compact (sortedB [])).length = 0 := (names_twice []).2 List.nodup_nil
    rw [e0]
  · have hH : Holds encStr w gb 0 (sortedB zs).toArray := holds_of_block hgb (by simpa [sortedB_len] using r4)
    have HC := Tryz.slices_Compact_string gb 0 cap (sortedB zs) w hH (by rw [sortedB_len]; omega) (by rw [sortedB_len]; exact r1)
    rw [sortedB_len] at HC
    refine HC.mono ?_
    rintro e w' ⟨rfl, q, rfl⟩
    exact ⟨⟨_, _, rfl⟩, Go.Lib.below_putRow (Below.refl _ _) hbase⟩
end Go.Proofs.YtpkgiemdnfbopaaGreat
namespace Go.Proofs.YtpkgiemdnfbopaaGreat
open Go Go.RowKit Go.Sort
open Pl (K Con)
set_option linter.unusedSimpArgs false
set_option linter.unusedVariables false

theorem wpListIn_append_lies9 {F : Fence} {m9 : Nat} {P : Program} {w : World} {ops : Array Oper} {rest : List Oper} {o : Oper} {a : Act} {Q : Exit → Act → World → Prop} (hgd : o.guard = none) (s x : Operand) (t : TypeId)
    (ho : o.op = .call { callee := .builtin .append, args := #[s, x], argTypes := #[t, t] })
    (base : Nat) (e : TypeId) (i : TypeInfo) (z : Value) (size bytes : Nat) (ht : P.underlying t = some (.slice e)) (hi : P.info? e = some i) (hz : i.zero = some z)
    (hsize : i.size = size) (hby : i.bytes = bytes) (hzs : z.cells.size = size) (hsz : 0 < size)
    (v : Value) (n : Nat) (xs : List Value) (hs : a.eval s = v) (hown : w.ownsRow base e size v n xs)
    (ad : Addr) (m c : Nat) (news : List Value) (hx : a.eval x = .slice (some ad) m c) (hl : news.length = m * size) (hnews : ∀ j u, news[j]? = some u → w.cell? (ad.add j) = some u) (h1 : ∀ u ∈ news, u.oneCell' = true)
    (hm : 0 < m) (h63 : n + m ≤ maxLen) (hbytes : (n + m) * bytes ≤ 140737488355328) (hbase : base ≤ w.heap.size) (H : Nat) (hH : w.heap.size = H)
    (h : ∀ g cap w', w'.ownsRow base e size (.slice (some ⟨g, 0, none⟩) (n + m) cap) (n + m) (xs ++ news) → w.grownBy w' v.ownBlock → (v.ownBlock = some g ∨ g = H) → g < w'.heap.size → wpListIn F m9 P ops Q rest (a.put o.dst (.slice (some ⟨g, 0, none⟩) (n + m) cap)) w') : wpListIn F m9 P ops Q (o :: rest) a w := by
  refine wpListIn_plain hgd fun K hK' => ?_
  obtain ⟨g, cap, w', hrun, h2, h3, h4, h5⟩ := run_append_lies (P := P) w t o.type base e i z size bytes ht hi hz hsize hby hzs hsz v n xs hown ad m c news hl hnews h1 hm h63 hbytes hbase H hH
  unfold Oper.wpIn
  refine ⟨?_, ?_⟩
  · simp [Oper.about, ho, resolve, Target.leads, Sem.run_pure]
  · rw [Oper.semAt_plain F _ _ (by rw [ho]; intro c hc'; cases hc')]
    simp [execOp, ho, resolve, invoke, builtin, hs, hx, hrun, Result.andThen]
    exact hK' _ _ (h g cap w' h2 h3 h4 h5)
/-- a row of its own that holds these constants, their kinds in new blocks too -/
structure CD (B : Nat) (wr : World) (l : List (ByteArray × K)) (us : List Value) (sv : Value) : Prop where
  row : wr.ownsRow B 36 2 sv l.length us
  kids : CstRow wr (fun q => (B ≤ q ∧ q < wr.heap.size) ∧ sv.ownBlock ≠ some q) us l
theorem CstRow.mono {w : World} {P Q : Nat → Prop} {us : List Value} {l : List (ByteArray × K)} (h : CstRow w P us l) (hs : ∀ b, P b → Q b) : CstRow w Q us l :=
  ⟨h.1, fun j hj => by obtain ⟨h1, ka, kn, kc, h2, h3, h4⟩ := h.2 j hj; exact ⟨h1, ka, kn, kc, h2, h3, h4.mono hs⟩⟩
theorem CD.nil (B : Nat) (wr : World) : CD B wr [] [] (.slice none 0 0) := ⟨World.ownsRow_nil _ _ _ _, rfl, fun j hj => absurd hj (Nat.not_lt_zero _)⟩
theorem CD.below {B : Nat} {wr W : World} {l : List (ByteArray × K)} {us : List Value} {sv : Value} (h : CD B wr l us sv) (hb : Below wr.heap.size wr W) : CD B W l us sv :=
  ⟨h.row.kept (row := none) ⟨hb.os, hb.tape, hb.output, hb.size, fun i hi _ => hb.block i hi⟩ (by cases ho : sv.ownBlock with | none => exact .inl rfl | some k => exact .inr (by simp)), (h.kids.keep (Same.of_below hb (fun q hq => hq.1.2))).mono (fun q hq => ⟨⟨hq.1.1, Nat.lt_of_lt_of_le hq.1.2 hb.size⟩, hq.2⟩)⟩
theorem CD.push {B gg cap n : Nat} {wr w1 : World} {l : List (ByteArray × K)} {us : List Value} {sv : Value} {c : ByteArray × K} {ka : Option Addr} {kn kc : Nat} {Q : Nat → Prop} (h : CD B wr l us sv) (hn : n = l.length)
    (hs : c.1.size ≤ maxLen) (hk : KidV wr Q c.2 (.slice ka kn kc)) (hQ : ∀ q, Q q → (B ≤ q ∧ q < wr.heap.size) ∧ sv.ownBlock ≠ some q)
    (hown : w1.ownsRow B 36 2 (.slice (some ⟨gg, 0, none⟩) (n + 1) cap) (n + 1) (us ++ [.string c.1, .slice ka kn kc])) (hgrow : (wr.alloc (.cells #[.string c.1, .slice ka kn kc] 36)).grownBy w1 sv.ownBlock) (hat : sv.ownBlock = some gg ∨ gg = wr.heap.size + 1) :
    CD B w1 (l ++ [c]) (us ++ [.string c.1, .slice ka kn kc]) (.slice (some ⟨gg, 0, none⟩) (n + 1) cap) := by
  subst hn
  have hs1 : wr.heap.size ≤ w1.heap.size := by have h1 := hgrow.size; rw [size_alloc] at h1; omega
  have hS : Same (fun q => (B ≤ q ∧ q < wr.heap.size) ∧ sv.ownBlock ≠ some q) wr w1 := fun q hq =>
    (hgrow.block q (by rw [size_alloc]; have := hq.1.2; omega) (fun e => hq.2 e.symm)).trans (Below.heap_alloc wr _ q hq.1.2)
  refine ⟨by rw [List.length_append]; exact hown, ((h.kids.push hs (hk.mono hQ)).keep hS).mono (fun q hq => ⟨⟨hq.1.1, by have := hq.1.2; omega⟩, fun e => ?_⟩)⟩
  have e : (some gg : Option Nat) = some q := e
  injection e with e
  rcases hat with h5 | h5
  · exact hq.2 (by rw [h5, e])
  · have := hq.1.2; omega
theorem CD.slice {B : Nat} {wr : World} {l : List (ByteArray × K)} {us : List Value} {sv : Value} (h : CD B wr l us sv) : CstSl wr (fun q => B ≤ q ∧ q < wr.heap.size) sv l := by
  have hc := h.row
  rcases h.row.2 with ⟨rfl, h0⟩ | ⟨g, cap, cu, rfl, hbg, hg, hnc, hcm, hcs, htake⟩
  · obtain rfl : l = [] := List.eq_nil_of_length_eq_zero h0
    exact ⟨none, 0, rfl, Nat.le_refl _, Nat.zero_le _, fun _ => rfl, .inl rfl⟩
  · refine ⟨_, cap, rfl, hnc, hcm, (fun h => by cases h), .inr ⟨g, 0, rfl, ⟨hbg, (hc.lt g rfl).2⟩, fun j hj => ?_⟩⟩
    obtain ⟨e1, ka, kn, kc, e2, e3, e4⟩ := h.kids.2 j hj
    refine ⟨e1, ka, kn, kc, ?_, ?_, e4.mono (fun q hq => hq.1)⟩
    · rw [Nat.zero_add, hc.cellAt (j * 2) (by omega), e2]
    · rw [Nat.zero_add, hc.cellAt (j * 2 + 1) (by omega), e3]
end Go.Proofs.YtpkgiemdnfbopaaGreat
