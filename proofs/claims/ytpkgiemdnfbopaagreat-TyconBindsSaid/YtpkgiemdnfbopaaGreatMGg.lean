/-
  Several texts in one (Tt Tu Tv ShelfZ Tw Tx Ty Tz Va Vb Vd Vc Ve).
-/
import Derived.Test.YtpkgiemdnfbopaaGreatMGf
import Derived.Sort.Walk0
import Derived.Shelf.SlIter.Nil
import Derived.Ground.GgzProg
import Derived.Test.YtpkgiemdnfbopaaGreatProg
import Derived.Test.YtpkgiemdnfbopaaGreatShelf
import Derived.Maps.OwnSet
import Derived.Shelf.AbstractIn
import Derived.Test.YtpkgiemdnfbopaaGreatMGd
import Derived.Deep.AppendLies
import Derived.OwnWalkIn
namespace Go.Proofs.YtpkgiemdnfbopaaGreat
open Go Go.RowKit
open Pl (K Con)
set_option linter.unusedSimpArgs false
set_option linter.unusedVariables false
attribute [local go_sem] Oper.semAt_some

/-- what a visit hands over: a node as it lies in memory, and the binders around it -/
structure LeafC (w0 : World) (n₀ : Nat) where
  c : Con
  ka : Option Addr
  kn : Nat
  kc : Nat
  na : Option Addr
  nn : Nat
  nc : Nat
  la : Option Addr
  ln : Nat
  lc : Nat
  b : Int
  hn : Con.nodeB c = true
  hb : 0 ≤ b ∧ b ≤ 1000
  hv : ∀ W, Below n₀ w0 W → ConV W (· < n₀) c (.agg #[.int .i64 c.op, .int .i64 c.n, .string c.s, .slice ka kn kc, .slice na nn nc, .slice la ln lc])
def LeafC.proj {w0 : World} {n₀ : Nat} (x : LeafC w0 n₀) : Con × Int := (x.c, x.b)
def encLC {w0 : World} {n₀ : Nat} (x : LeafC w0 n₀) : Array Value := #[.agg #[.int .i64 x.c.op, .int .i64 x.c.n, .string x.c.s, .slice x.ka x.kn x.kc, .slice x.na x.nn x.nc, .slice x.la x.ln x.lc], .int .i64 x.b]
mutual
/-- the leaves of a constructor, with the binders around them -/
def Con.leafCs : Con → Int → List (Con × Int)
  | ⟨op, n, s, k, ns, l⟩, d => if l.length = 0 then [(⟨op, n, s, k, ns, l⟩, d)] else Con.leafCss l (Con.deep op d)
def Con.leafCss : List Con → Int → List (Con × Int)
  | [], _ => []
  | t :: r, d => Con.leafCs t d ++ Con.leafCss r d
end
theorem leafCss_map (d : Int) (l : List Con) : Con.leafCss l d = l.flatMap (fun t => Con.leafCs t d) := by
  induction l with
  | nil => rw [Con.leafCss]; rfl
  | cons t r ih => rw [Con.leafCss, ih]; rfl
theorem leafCs_none (t : Con) (d : Int) (h : t.l.length = 0) : Con.leafCs t d = [(t, d)] := by
  obtain ⟨op, n, s, k, names, l⟩ := t
  have h : l.length = 0 := h
  rw [Con.leafCs, if_pos h]
theorem leafCs_node (t : Con) (d : Int) (h : t.l.length ≠ 0) : Con.leafCs t d = t.l.flatMap (fun x => Con.leafCs x (Con.deep t.op d)) := by
  obtain ⟨op, n, s, k, names, l⟩ := t
  have h : l.length ≠ 0 := h
  rw [Con.leafCs, if_neg h, leafCss_map]
theorem leafCs_size (t : Con) : ∀ d, (Con.leafCs t d).length ≤ t.size := by
  induction t using Con.ind with
  | h t ih =>
  intro d
  by_cases h : t.l.length = 0
  · rw [leafCs_none t d h, Con.size_eq]; simp
  · rw [leafCs_node t d h, Con.size_eq]
    have : ∀ (l : List Con) (d : Int), (∀ x ∈ l, ∀ d, (Con.leafCs x d).length ≤ x.size) → (l.flatMap (fun x => Con.leafCs x d)).length ≤ Con.sizes l := by
      intro l d
      induction l with
      | nil => intro _; simp
      | cons x r ihr =>
        intro h
        rw [List.flatMap_cons, List.length_append, Con.sizes_cons]
        have := h x List.mem_cons_self d
        have := ihr (fun y hy => h y (List.mem_cons_of_mem _ hy))
        omega
    have := this t.l (Con.deep t.op d) ih
    omega
theorem leafC_sizes (l : List Con) (d : Int) : (l.flatMap (fun x => Con.leafCs x d)).length ≤ Con.sizes l := by
  induction l with
  | nil => simp
  | cons x r ihr =>
    rw [List.flatMap_cons, List.length_append, Con.sizes_cons]
    have := leafCs_size x d
    omega
set_option maxRecDepth 100000 in
set_option maxHeartbeats 2000000 in
theorem visitC_in (F : Fence) (HF : Hid (F = Fence.wide)) (w0 : World) (l n₀ N B0 : Nat) (J Jx : List (LeafC w0 n₀) → World → Prop) (hJ : AbidesFrom B0 J)
    (hY : ∀ m pre x W, J pre W → pre.length < N → YieldAt F m Tryz.prog l (encLC x) W fun e W' => (e = .returned (.bool true) ∧ J (pre ++ [x]) W' ∧ Below n₀ W W') ∨ (e = .returned (.bool false) ∧ Jx (pre ++ [x]) W')) (t : Con) :
    Con.allB t = true → ∀ (n : Nat) (b : Int) (pre : List (LeafC w0 n₀)) (W : World) (v : Value), ConV W (· < n₀) t v → n₀ ≤ W.heap.size → Below n₀ w0 W → 0 ≤ b → b + t.depth ≤ 1000 → J pre W → pre.length + t.size ≤ N →
      CallsIn F n Tryz.prog 108 #[v, .int .i64 b, .func (.yield l) #[] #[]] W fun e W' =>
        (e = .returned (.bool true) ∧ ∃ ls : List (LeafC w0 n₀), ls.map LeafC.proj = Con.leafCs t b ∧ J (pre ++ ls) W' ∧ Below n₀ W W') ∨ (e = .returned (.bool false) ∧ ∃ ls : List (LeafC w0 n₀), ls.map LeafC.proj <+: Con.leafCs t b ∧ Jx (pre ++ ls) W') := by
  have hd : F.depth = none := by rw [HF.out]; rfl
  have hro : F.round = none := by rw [HF.out]; rfl
  have hvf : F.fn 108 := by rw [HF.out]; trivial
  have hbf : F.fn 137 := by rw [HF.out]; trivial
  induction t using Con.ind with
  | h t ih =>
  intro ha n b pre W v ht hn0 hW0 hb0 hbd hj hN
  have HW0 := Lib.hid hW0
  clear hW0
  have ha' := ha
  rw [allB_eq, Bool.and_eq_true, List.all_eq_true] at ha'
  have hnn := nodeB_n t ha'.1
  have hdp := Con.depth_pos t
  obtain ⟨ka, kn, kc, na, nn, nc, la, ln, lc, rfl, -, -, hln⟩ := ht.shape
  have HT := Lib.hid (fun W' (hW : Below n₀ W W') => ht.keep (Same.of_below hW (fun q hq => hq)))
  have HSL := Lib.hid (fun W' (hW : Below n₀ W W') => (show ConSl W' (· < n₀) (.slice la ln lc) t.l from by
    obtain ⟨-, kv', nv', lv', e, hk, hn, hl⟩ := (conV_iff _ _ _ _).1 (HT.out W' hW)
    simp only [Value.agg.injEq, Array.mk.injEq, List.cons.injEq, and_true, true_and] at e
    obtain ⟨rfl, rfl, rfl⟩ := e
    exact hl))
  obtain ⟨hbx, hb⟩ := boxN_new W 28 #[.int .i64 t.op, .int .i64 t.n, .string t.s, .slice ka kn kc, .slice na nn nc, .slice la ln lc]
  have hj1 : J pre (W.alloc (.cells #[.int .i64 t.op, .int .i64 t.n, .string t.s, .slice ka kn kc, .slice na nn nc, .slice la ln lc] 28)) := hJ _ _ _ none hj (World.grownBy_alloc W _ none) (fun r e => by cases e)
  have c0 := hbx.cell 0 (.int .i64 t.op) rfl
  have c1 := hbx.cell 1 (.int .i64 t.n) rfl
  have c2 := hbx.cell 2 (.string t.s) rfl
  have c3 := hbx.cell 3 (.slice ka kn kc) rfl
  have c4 := hbx.cell 4 (.slice na nn nc) rfl
  have c5 := hbx.cell 5 (.slice la ln lc) rfl
  have HB := Lib.hid (show Below n₀ W (W.alloc (.cells #[.int .i64 t.op, .int .i64 t.n, .string t.s, .slice ka kn kc, .slice na nn nc, .slice la ln lc] 28)) from hb.mono hn0)
  have hdd : ∀ k : Nat, (F.depth.isSome = true → 1 ≤ k) := fun k h => by rw [hd] at h; cases h
  by_cases h0 : ln = 0
  · subst h0
    have hl0 : t.l.length = 0 := hln.symm
    have hbb : 0 ≤ b ∧ b ≤ 1000 := ⟨hb0, by omega⟩
    have HLV := Lib.hid (fun W' (hW' : Below n₀ w0 W') => ht.keep (w' := W') (fun q (hq : q < n₀) => (hW'.block q hq).trans (HW0.out.block q hq).symm))
    have hnb := ha'.1
    obtain ⟨fn, tmps, assign, body, hy, hR⟩ := hY (n - 1) pre ⟨t, ka, kn, kc, na, nn, nc, la, 0, lc, b, hnb, hbb, HLV.out⟩ _ hj1 (by have := Con.size_pos t; omega)
    have HE := Lib.hid (leafCs_none t b hl0)
    unfold encLC at hy
    dsimp only at hy
    clear hbx hb ht ih hY hJ hj hj1 hln hl0 hN hbd hdp ha ha' HSL HT hn0
    refine callsIn_of_wp Tryz.func108 rfl hvf ?_ hro
    simp only [Tryz.ntmps108, List.size_toArray, List.length_cons, List.length_nil, Nat.reduceAdd, Nat.reduceSub, Array.replicate_succ, Array.replicate_zero, List.push_toArray, List.append_toArray, List.nil_append, List.cons_append]
    gi_wp2
    refine hR.mono ?_
    rintro e W2 (⟨rfl, hJ2, hb2⟩ | ⟨rfl, hx2⟩)
    · have HJ2 := Lib.hid hJ2
      have HB2 := Lib.hid (HB.out.trans hb2)
      clear hJ2 hb2 hR hy
      gi_wp2
      go_ret
      exact .inl ⟨rfl, [⟨t, ka, kn, kc, na, nn, nc, la, 0, lc, b, hnb, hbb, HLV.out⟩], by rw [HE.out]; rfl, HJ2.out, HB2.out⟩
    · have HX2 := Lib.hid hx2
      clear hx2 hR hy
      gi_wp2
      go_ret
      exact .inr ⟨rfl, _, by rw [HE.out]; exact List.prefix_refl _, HX2.out⟩
  · have hl0 : t.l.length ≠ 0 := by omega
    have hn63 : ln ≤ 9223372036854775807 := by
      have := Con.length_le_sizes t.l
      have := Con.size_eq t
      have h3 := (node_facts t ha'.1).2.2
      omega
    have HLN := Lib.hid hln
    have HE := Lib.hid (leafCs_node t b hl0)
    have HIH := Lib.hid ih
    have HALL := Lib.hid ha'.2
    have HBN := Lib.hid (cbinder_any t.op)
    have HDP := Lib.hid (fun x (hx : x ∈ t.l) => depth_part hx)
    have HSZ := Lib.hid (Con.size_eq t)
    have hq0 : ((ln : Int) == 0) = false := beq_eq_false_iff_ne.2 (by omega)
    obtain ⟨b2, hb2⟩ : ∃ b2, b2 = Con.deep t.op b := ⟨_, rfl⟩
    have hble := Con.deep_le t.op b
    have HDEEP := Lib.hid (show b2 = if Con.binder t.op = true then b + 1 else b from hb2)
    rw [← hb2] at HE hble
    have hbb : 0 ≤ b2 ∧ b2 ≤ b + 1 := by omega
    have w1 : wrap64 (b + 1) = b + 1 := by rw [wrap64]; omega
    have HJ := Lib.hid hJ
    have HJ1 := Lib.hid hj1
    clear hbx hb ht ih hY hJ hj hj1 hln hl0 hdp ha ha' HT hb2 h0
    refine callsIn_of_wp Tryz.func108 rfl hvf ?_ hro
    simp only [Tryz.ntmps108, List.size_toArray, List.length_cons, List.length_nil, Nat.reduceAdd, Nat.reduceSub, Array.replicate_succ, Array.replicate_zero, List.push_toArray, List.append_toArray, List.nil_append, List.cons_append]
    gi_wp2_with fail
    refine (toF HF _ (HBN.out _)).mono ?_
    rintro e w' ⟨rfl, rfl⟩
    generalize W.alloc (.cells #[.int .i64 t.op, .int .i64 t.n, .string t.s, .slice ka kn kc, .slice na nn nc, .slice la ln lc] 28) = w2 at *
    cases hbn : Con.binder t.op
    · rw [hbn] at HDEEP
      have hb2 : b2 = b := HDEEP.out
      subst hb2
      clear HDEEP hbn w1
      all_goals
        gi_wp2_with fail
        clear c0 c1 c2 c3 c4 c5
        gi_loopw [25] (fun i wr => ∃ (k : Nat) (ls : List (LeafC w0 n₀)), k ≤ ln ∧ i = .int .i64 k ∧ ls.map LeafC.proj = (t.l.take k).flatMap (fun x => Con.leafCs x b2) ∧ J (pre ++ ls) wr ∧ Below n₀ W wr) (fun i _ => ln - (intOf i).toNat)
        case atStart => exact ⟨0, [], Nat.zero_le _, rfl, rfl, by rw [List.append_nil]; exact HJ1.out, HB.out⟩
        case round =>
          obtain ⟨k, ls, hk, rfl, hls, hj, hbw⟩ := hrel
          have HLS := Lib.hid hls
          have HJK := Lib.hid hj
          have HBW := Lib.hid hbw
          by_cases hlt : k < ln
          · have q5 : decide ((k : Int) < (ln : Int)) = true := decide_eq_true (by omega)
            have hkl : k < t.l.length := by have := HLN.out; omega
            obtain ⟨bb, off, c', xa, xn, xc, ya, yn, yc, za, zn, zc, e, hPb, f0, f1, f2, f3, f4, f5, hx⟩ := (HSL.out wr hbw).part k hkl
            injection e with e1 e2 e3
            clear e2
            subst e1 e3
            have hbx := (boxN_new wr 28 #[.int .i64 t.l[k].op, .int .i64 t.l[k].n, .string t.l[k].s, .slice xa xn xc, .slice ya yn yc, .slice za zn zc]).1
            have hb1 : Below n₀ wr (wr.alloc (.cells #[.int .i64 t.l[k].op, .int .i64 t.l[k].n, .string t.l[k].s, .slice xa xn xc, .slice ya yn yc, .slice za zn zc] 28)) := (boxN_new wr 28 _).2.mono (Nat.le_trans hn0 hbw.size)
            have hln2 : ls.length ≤ Con.sizes (t.l.take k) := by
              have h1 := congrArg List.length hls
              rw [List.length_map] at h1
              rw [h1]
              exact leafC_sizes _ _
            have hst := Con.sizes_take t.l k hkl
            have hsl := Con.sizes_le t.l (k + 1)
            have hsz := HSZ.out
            have hdp := HDP.out t.l[k] (List.getElem_mem hkl)
            have hc := HIH.out t.l[k] (List.getElem_mem hkl) (HALL.out _ (List.getElem_mem hkl)) (n - 1) _ (pre ++ ls) _ _ (hx.keep (Same.of_below hb1 (fun q hq => hq))) (Nat.le_trans (Nat.le_trans hn0 hbw.size) (by rw [size_alloc]; omega)) (HW0.out.trans (hbw.trans hb1)) hbb.1 (by omega) (HJ.out _ _ _ none hj (World.grownBy_alloc wr _ none) (fun r e => by cases e)) (by rw [List.length_append]; omega)
            have HT := Lib.hid (flatMap_take (fun x => Con.leafCs x b2) t.l k hkl)
            have HC := Lib.hid hc
            have HB1 := Lib.hid (hbw.trans hb1)
            have d0 := hbx.cell 0 (.int .i64 t.l[k].op) rfl
            have d1 := hbx.cell 1 (.int .i64 t.l[k].n) rfl
            have d2 := hbx.cell 2 (.string t.l[k].s) rfl
            have d3 := hbx.cell 3 (.slice xa xn xc) rfl
            have d4 := hbx.cell 4 (.slice ya yn yc) rfl
            have d5 := hbx.cell 5 (.slice za zn zc) rfl
            generalize t.l[k] = z at *
            clear hbx hb1 hln2 hst hsl hsz hdp hc hls hj hbw hx hPb
            gi_wp2_with fail
            refine HC.out.mono ?_
            rintro e W3 (⟨rfl, ls2, hls2, hj3, hb3⟩ | ⟨rfl, ls2, hpf, hx3⟩)
            · have HLS2 := Lib.hid hls2
              have HJ3 := Lib.hid hj3
              have HB3 := Lib.hid (HB1.out.trans hb3)
              clear hls2 hj3 hb3 f0 f1 f2 f3 f4 f5 d0 d1 d2 d3 d4 d5
              gi_wp2
              go_roundw
              case rel =>
                refine ⟨k + 1, ls ++ ls2, by omega, by go_num, ?_, by rw [← List.append_assoc]; exact HJ3.out, HB3.out⟩
                rw [List.map_append, HLS.out, HLS2.out, HT.out]
              case measure => first | (simp [intOf]; done) | (simp [intOf]; omega)
            · have HPF := Lib.hid (show (ls ++ ls2).map LeafC.proj <+: Con.leafCs t b2 from by
                rw [List.map_append, HLS.out, HE.out]
                refine ((List.prefix_append_right_inj _).2 hpf).trans ?_
                rw [← HT.out]
                exact flatMap_prefix _ _ _)
              clear hpf
              have HX3 := Lib.hid hx3
              clear hx3 f0 f1 f2 f3 f4 f5 d0 d1 d2 d3 d4 d5
              gi_wp2
              go_ret
              exact .inr ⟨rfl, ls ++ ls2, HPF.out, by rw [← List.append_assoc]; exact HX3.out⟩
          · have q5 : decide ((k : Int) < (ln : Int)) = false := decide_eq_false (by omega)
            have HF := Lib.hid (show ls.map LeafC.proj = Con.leafCs t b2 from by
              rw [HE.out, ← List.take_of_length_le (l := t.l) (i := k) (by have := HLN.out; omega)]
              exact HLS.out)
            clear hls hj hbw
            gi_wp2
            go_ret
            exact .inl ⟨rfl, ls, HF.out, HJK.out, HBW.out⟩
    · rw [hbn] at HDEEP
      have hb2 : b2 = b + 1 := HDEEP.out
      subst hb2
      clear HDEEP hbn
      all_goals
        gi_wp2_with fail
        clear c0 c1 c2 c3 c4 c5
        gi_loopw [25] (fun i wr => ∃ (k : Nat) (ls : List (LeafC w0 n₀)), k ≤ ln ∧ i = .int .i64 k ∧ ls.map LeafC.proj = (t.l.take k).flatMap (fun x => Con.leafCs x (b + 1)) ∧ J (pre ++ ls) wr ∧ Below n₀ W wr) (fun i _ => ln - (intOf i).toNat)
        case atStart => exact ⟨0, [], Nat.zero_le _, rfl, rfl, by rw [List.append_nil]; exact HJ1.out, HB.out⟩
        case round =>
          obtain ⟨k, ls, hk, rfl, hls, hj, hbw⟩ := hrel
          have HLS := Lib.hid hls
          have HJK := Lib.hid hj
          have HBW := Lib.hid hbw
          by_cases hlt : k < ln
          · have q5 : decide ((k : Int) < (ln : Int)) = true := decide_eq_true (by omega)
            have hkl : k < t.l.length := by have := HLN.out; omega
            obtain ⟨bb, off, c', xa, xn, xc, ya, yn, yc, za, zn, zc, e, hPb, f0, f1, f2, f3, f4, f5, hx⟩ := (HSL.out wr hbw).part k hkl
            injection e with e1 e2 e3
            clear e2
            subst e1 e3
            have hbx := (boxN_new wr 28 #[.int .i64 t.l[k].op, .int .i64 t.l[k].n, .string t.l[k].s, .slice xa xn xc, .slice ya yn yc, .slice za zn zc]).1
            have hb1 : Below n₀ wr (wr.alloc (.cells #[.int .i64 t.l[k].op, .int .i64 t.l[k].n, .string t.l[k].s, .slice xa xn xc, .slice ya yn yc, .slice za zn zc] 28)) := (boxN_new wr 28 _).2.mono (Nat.le_trans hn0 hbw.size)
            have hln2 : ls.length ≤ Con.sizes (t.l.take k) := by
              have h1 := congrArg List.length hls
              rw [List.length_map] at h1
              rw [h1]
              exact leafC_sizes _ _
            have hst := Con.sizes_take t.l k hkl
            have hsl := Con.sizes_le t.l (k + 1)
            have hsz := HSZ.out
            have hdp := HDP.out t.l[k] (List.getElem_mem hkl)
            have hc := HIH.out t.l[k] (List.getElem_mem hkl) (HALL.out _ (List.getElem_mem hkl)) (n - 1) _ (pre ++ ls) _ _ (hx.keep (Same.of_below hb1 (fun q hq => hq))) (Nat.le_trans (Nat.le_trans hn0 hbw.size) (by rw [size_alloc]; omega)) (HW0.out.trans (hbw.trans hb1)) hbb.1 (by omega) (HJ.out _ _ _ none hj (World.grownBy_alloc wr _ none) (fun r e => by cases e)) (by rw [List.length_append]; omega)
            have HT := Lib.hid (flatMap_take (fun x => Con.leafCs x (b + 1)) t.l k hkl)
            have HC := Lib.hid hc
            have HB1 := Lib.hid (hbw.trans hb1)
            have d0 := hbx.cell 0 (.int .i64 t.l[k].op) rfl
            have d1 := hbx.cell 1 (.int .i64 t.l[k].n) rfl
            have d2 := hbx.cell 2 (.string t.l[k].s) rfl
            have d3 := hbx.cell 3 (.slice xa xn xc) rfl
            have d4 := hbx.cell 4 (.slice ya yn yc) rfl
            have d5 := hbx.cell 5 (.slice za zn zc) rfl
            generalize t.l[k] = z at *
            clear hbx hb1 hln2 hst hsl hsz hdp hc hls hj hbw hx hPb
            gi_wp2_with fail
            refine HC.out.mono ?_
            rintro e W3 (⟨rfl, ls2, hls2, hj3, hb3⟩ | ⟨rfl, ls2, hpf, hx3⟩)
            · have HLS2 := Lib.hid hls2
              have HJ3 := Lib.hid hj3
              have HB3 := Lib.hid (HB1.out.trans hb3)
              clear hls2 hj3 hb3 f0 f1 f2 f3 f4 f5 d0 d1 d2 d3 d4 d5
              gi_wp2
              go_roundw
              case rel =>
                refine ⟨k + 1, ls ++ ls2, by omega, by go_num, ?_, by rw [← List.append_assoc]; exact HJ3.out, HB3.out⟩
                rw [List.map_append, HLS.out, HLS2.out, HT.out]
              case measure => first | (simp [intOf]; done) | (simp [intOf]; omega)
            · have HPF := Lib.hid (show (ls ++ ls2).map LeafC.proj <+: Con.leafCs t b from by
                rw [List.map_append, HLS.out, HE.out]
                refine ((List.prefix_append_right_inj _).2 hpf).trans ?_
                rw [← HT.out]
                exact flatMap_prefix _ _ _)
              clear hpf
              have HX3 := Lib.hid hx3
              clear hx3 f0 f1 f2 f3 f4 f5 d0 d1 d2 d3 d4 d5
              gi_wp2
              go_ret
              exact .inr ⟨rfl, ls ++ ls2, HPF.out, by rw [← List.append_assoc]; exact HX3.out⟩
          · have q5 : decide ((k : Int) < (ln : Int)) = false := decide_eq_false (by omega)
            have HF := Lib.hid (show ls.map LeafC.proj = Con.leafCs t b from by
              rw [HE.out, ← List.take_of_length_le (l := t.l) (i := k) (by have := HLN.out; omega)]
              exact HLS.out)
            clear hls hj hbw
            gi_wp2
            go_ret
            exact .inl ⟨rfl, ls, HF.out, HJK.out, HBW.out⟩
set_option maxRecDepth 100000 in
set_option maxHeartbeats 2000000 in
theorem leavesC_stops (F : Fence) (HF : Hid (F = Fence.wide)) (n Bs n₀ : Nat) (t : Con) (ka na la : Option Addr) (kn kc nn nc ln lc : Nat) (w : World) (hn0 : n₀ ≤ w.heap.size) (hB : Bs < w.heap.size) (ha : Con.allB t = true) (hd9 : t.depth ≤ 1000)
    (hbx : ∀ W, Below w.heap.size w W → Blk W Bs 28 #[.int .i64 t.op, .int .i64 t.n, .string t.s, .slice ka kn kc, .slice na nn nc, .slice la ln lc]) (ht : ConV w (· < n₀) t (.agg #[.int .i64 t.op, .int .i64 t.n, .string t.s, .slice ka kn kc, .slice na nn nc, .slice la ln lc])) :
    SeqStopsK F n Tryz.prog 107 #[.pointer (some ⟨Bs, 0, none⟩)] (encLC (w0 := w) (n₀ := n₀)) (Below n₀) (fun ys => ys.map LeafC.proj = Con.leafCs t 0) (fun ys => ys.map LeafC.proj <+: Con.leafCs t 0) t.size w := by
  intro l J Jx W hW hJ hJx hY h0
  have hd : F.depth = none := by rw [HF.out]; rfl
  have hro : F.round = none := by rw [HF.out]; rfl
  have hlf : F.fn 107 := by rw [HF.out]; trivial
  have hvf : F.fn 108 := by rw [HF.out]; trivial
  have hdd : ∀ k : Nat, (F.depth.isSome = true → 1 ≤ k) := fun k h => by rw [hd] at h; cases h
  have HV := Lib.hid (visitC_in F HF w l n₀ t.size W.heap.size J Jx hJ (fun m pre x W1 hj hl => yield_anyDepth hd m (hY pre x W1 hj hl)) t ha (n - 1) 0 [] W _ (ht.keep (Same.of_below (hW.mono hn0) (fun q hq => hq))) (Nat.le_trans hn0 hW.size) (hW.mono hn0) (Int.le_refl _) (by omega) h0 (by simp))
  have hb := hbx W hW
  have c0 := hb.cell 0 (.int .i64 t.op) rfl
  have c1 := hb.cell 1 (.int .i64 t.n) rfl
  have c2 := hb.cell 2 (.string t.s) rfl
  have c3 := hb.cell 3 (.slice ka kn kc) rfl
  have c4 := hb.cell 4 (.slice na nn nc) rfl
  have c5 := hb.cell 5 (.slice la ln lc) rfl
  clear hY hb ht hbx
  refine callsIn_of_wp Tryz.func107 rfl hlf ?_ hro
  simp only [Tryz.ntmps107, List.size_toArray, List.length_cons, List.length_nil, Nat.reduceAdd, Nat.reduceSub, Array.replicate_succ, Array.replicate_zero, List.push_toArray, List.append_toArray, List.nil_append, List.cons_append]
  gi_wp2_with fail
  refine HV.out.mono ?_
  rintro e W1 (⟨rfl, ls, hls, hj, -⟩ | ⟨rfl, ls, hpf, hx⟩)
  · gi_wp2
    go_end0
    exact ⟨⟨_, rfl⟩, .inl ⟨ls, hls, by simpa using hj⟩⟩
  · gi_wp2
    go_end0
    exact ⟨⟨_, rfl⟩, .inr ⟨ls, hpf, by simpa using hx⟩⟩
end Go.Proofs.YtpkgiemdnfbopaaGreat
namespace Go.Proofs.YtpkgiemdnfbopaaGreat
open Go Go.RowKit
open Pl (K Con)
set_option linter.unusedSimpArgs false
set_option linter.unusedVariables false

def cle (a b : ByteArray × K) : Prop := ¬ b.1.toList < a.1.toList
theorem cGe_iff (x s : ByteArray) : cGe x s = true ↔ ¬ x.toList < s.toList := by
  unfold cGe
  rw [Go.Proofs.bytesLess_eq]
  simp
def cfull (c : ByteArray × K) (l : List (ByteArray × K)) (d : Bool) : List (ByteArray × K) := cpre c l d ++ (if cdone c l d = true then [] else [c])
theorem cfull_nil (c : ByteArray × K) (d : Bool) : cfull c [] d = if d = true then [] else [c] := by simp [cfull, cpre, cdone]
theorem cfull_cons (c x : ByteArray × K) (r : List (ByteArray × K)) (d : Bool) : cfull c (x :: r) d = cstepA c x d ++ (cstepB c x ++ cfull c r (d || cGe x.1 c.1)) := by
  unfold cfull
  rw [cpre, cdone_cons]
  simp [List.append_assoc]
theorem caddL_full (l : List (ByteArray × K)) (c : ByteArray × K) : caddL l c = cfull c l false := rfl
theorem cstepB_eq (c x : ByteArray × K) : (x = c ∧ cstepB c x = []) ∨ (x ≠ c ∧ cstepB c x = [x]) := by
  unfold cstepB
  by_cases h : x.1 = c.1 ∧ K.eqv x.2 c.2 = true
  · exact .inl ⟨Prod.ext h.1 ((Pl.K.eqv_iff _ _).1 h.2), if_pos h⟩
  · exact .inr ⟨fun e => h (by subst e; exact ⟨rfl, (Pl.K.eqv_iff _ _).2 rfl⟩), if_neg h⟩
theorem cfull_sub (c : ByteArray × K) : ∀ l : List (ByteArray × K), (cfull c l true).Sublist l ∧ (∀ y, y ∈ cfull c l true ↔ y ∈ l ∧ y ≠ c) := by
  intro l
  induction l with
  | nil => rw [cfull_nil]; simp
  | cons x r ih =>
    rw [cfull_cons, show cstepA c x true = [] from if_neg (by simp), List.nil_append, Bool.true_or]
    rcases cstepB_eq c x with ⟨h, e⟩ | ⟨h, e⟩
    · rw [e, List.nil_append]
      refine ⟨ih.1.cons _, fun y => ?_⟩
      rw [ih.2 y, List.mem_cons]
      constructor
      · rintro ⟨h1, h2⟩; exact ⟨.inr h1, h2⟩
      · rintro ⟨h1 | h1, h2⟩
        · exact absurd (h1.trans h) h2
        · exact ⟨h1, h2⟩
    · rw [e]
      refine ⟨ih.1.cons_cons _, fun y => ?_⟩
      rw [List.cons_append, List.nil_append, List.mem_cons, List.mem_cons, ih.2 y]
      constructor
      · rintro (h1 | ⟨h1, h2⟩)
        · exact ⟨.inl h1, by rw [h1]; exact h⟩
        · exact ⟨.inr h1, h2⟩
      · rintro ⟨h1 | h1, h2⟩
        · exact .inl h1
        · exact .inr ⟨h1, h2⟩
theorem cfull_mem (c : ByteArray × K) : ∀ (l : List (ByteArray × K)) (y : ByteArray × K), y ∈ cfull c l false ↔ y = c ∨ y ∈ l := by
  intro l
  induction l with
  | nil => intro y; rw [cfull_nil]; simp
  | cons x r ih =>
    intro y
    rw [cfull_cons, Bool.false_or]
    cases hg : cGe x.1 c.1
    · rw [show cstepA c x false = [] from if_neg (fun h => by rw [hg] at h; cases h.2), List.nil_append, List.mem_append, ih y, List.mem_cons]
      rcases cstepB_eq c x with ⟨h, e⟩ | ⟨h, e⟩
      · rw [e]
        constructor
        · rintro (h1 | h1 | h1)
          · cases h1
          · exact .inl h1
          · exact .inr (.inr h1)
        · rintro (h1 | h1 | h1)
          · exact .inr (.inl h1)
          · exact .inr (.inl (h1.trans h))
          · exact .inr (.inr h1)
      · rw [e, List.mem_singleton]
        constructor
        · rintro (h1 | h1 | h1)
          · exact .inr (.inl h1)
          · exact .inl h1
          · exact .inr (.inr h1)
        · rintro (h1 | h1 | h1)
          · exact .inr (.inl h1)
          · exact .inl h1
          · exact .inr (.inr h1)
    · rw [show cstepA c x false = [c] from if_pos ⟨rfl, hg⟩, List.mem_append, List.mem_append, List.mem_singleton, (cfull_sub c r).2 y, List.mem_cons]
      rcases cstepB_eq c x with ⟨h, e⟩ | ⟨h, e⟩
      · rw [e]
        constructor
        · rintro (h1 | h1 | h1)
          · exact .inl h1
          · cases h1
          · exact .inr (.inr h1.1)
        · rintro (h1 | h1 | h1)
          · exact .inl h1
          · exact .inl (h1.trans h)
          · by_cases hy : y = c
            · exact .inl hy
            · exact .inr (.inr ⟨h1, hy⟩)
      · rw [e, List.mem_singleton]
        constructor
        · rintro (h1 | h1 | h1)
          · exact .inl h1
          · exact .inr (.inl h1)
          · exact .inr (.inr h1.1)
        · rintro (h1 | h1 | h1)
          · exact .inl h1
          · exact .inr (.inl h1)
          · by_cases hy : y = c
            · exact .inl hy
            · exact .inr (.inr ⟨h1, hy⟩)
theorem cle_trans {a b c : ByteArray × K} (h1 : cle a b) (h2 : cle b c) : cle a c := by
  unfold cle at *
  rw [List.not_lt] at *
  exact List.le_trans h1 h2
theorem cle_of_lt {a b : ByteArray × K} (h : a.1.toList < b.1.toList) : cle a b := by
  unfold cle
  rw [List.not_lt]
  exact List.le_of_lt h
theorem cfull_sorted (c : ByteArray × K) : ∀ l : List (ByteArray × K), l.Pairwise cle → (cfull c l false).Pairwise cle := by
  intro l
  induction l with
  | nil => intro _; rw [cfull_nil]; simp
  | cons x r ih =>
    intro hp
    rw [List.pairwise_cons] at hp
    rw [cfull_cons, Bool.false_or]
    cases hg : cGe x.1 c.1
    · rw [show cstepA c x false = [] from if_neg (fun h => by rw [hg] at h; cases h.2), List.nil_append]
      have hlt : x.1.toList < c.1.toList := by
        have h : ¬ (cGe x.1 c.1 = true) := by rw [hg]; simp
        rw [cGe_iff] at h
        exact Decidable.not_not.1 h
      rcases cstepB_eq c x with ⟨h, e⟩ | ⟨h, e⟩
      · rw [e]; exact ih hp.2
      · rw [e]
        show (x :: cfull c r false).Pairwise cle
        rw [List.pairwise_cons]
        refine ⟨fun y hy => ?_, ih hp.2⟩
        rcases (cfull_mem c r y).1 hy with h1 | h1
        · subst h1; exact cle_of_lt hlt
        · exact hp.1 y h1
    · rw [show cstepA c x false = [c] from if_pos ⟨rfl, hg⟩]
      have hcx : cle c x := by
        rw [cGe_iff] at hg
        exact hg
      have hsub : (cstepB c x ++ cfull c r true).Sublist (x :: r) := by
        rcases cstepB_eq c x with ⟨h, e⟩ | ⟨h, e⟩
        · rw [e]; exact (cfull_sub c r).1.cons _
        · rw [e]; exact (cfull_sub c r).1.cons_cons _
      show (c :: (cstepB c x ++ cfull c r true)).Pairwise cle
      rw [List.pairwise_cons]
      refine ⟨fun y hy => ?_, List.Pairwise.sublist hsub (List.pairwise_cons.2 hp)⟩
      rcases List.mem_cons.1 (hsub.subset hy) with h1 | h1
      · rw [h1]; exact hcx
      · exact cle_trans hcx (hp.1 y h1)
theorem cfull_nodup (c : ByteArray × K) : ∀ l : List (ByteArray × K), l.Nodup → l.Pairwise cle → (cfull c l false).Nodup := by
  intro l
  induction l with
  | nil => intro _ _; rw [cfull_nil]; simp
  | cons x r ih =>
    intro hn hp
    rw [List.nodup_cons] at hn
    rw [List.pairwise_cons] at hp
    rw [cfull_cons, Bool.false_or]
    cases hg : cGe x.1 c.1
    · rw [show cstepA c x false = [] from if_neg (fun h => by rw [hg] at h; cases h.2), List.nil_append]
      rcases cstepB_eq c x with ⟨h, e⟩ | ⟨h, e⟩
      · rw [e]; exact ih hn.2 hp.2
      · rw [e]
        show (x :: cfull c r false).Nodup
        rw [List.nodup_cons]
        refine ⟨fun hy => ?_, ih hn.2 hp.2⟩
        rcases (cfull_mem c r x).1 hy with h1 | h1
        · exact h h1
        · exact hn.1 h1
    · rw [show cstepA c x false = [c] from if_pos ⟨rfl, hg⟩]
      have hsub : (cstepB c x ++ cfull c r true).Sublist (x :: r) := by
        rcases cstepB_eq c x with ⟨h, e⟩ | ⟨h, e⟩
        · rw [e]; exact (cfull_sub c r).1.cons _
        · rw [e]; exact (cfull_sub c r).1.cons_cons _
      show (c :: (cstepB c x ++ cfull c r true)).Nodup
      rw [List.nodup_cons]
      refine ⟨fun hy => ?_, hsub.nodup (List.nodup_cons.2 hn)⟩
      rcases List.mem_append.1 hy with h1 | h1
      · rcases cstepB_eq c x with ⟨h, e⟩ | ⟨h, e⟩
        · rw [e] at h1; cases h1
        · rw [e, List.mem_singleton] at h1; exact h h1.symm
      · exact ((cfull_sub c r).2 c).1 h1 |>.2 rfl
/-- constants put in one after the other -/
def cput (L : List (ByteArray × K)) : List (ByteArray × K) := L.foldl caddL []
theorem cput_all : ∀ (L l : List (ByteArray × K)), l.Nodup → l.Pairwise cle → (L.foldl caddL l).Nodup ∧ (L.foldl caddL l).Pairwise cle ∧ ∀ y, y ∈ L.foldl caddL l ↔ y ∈ l ∨ y ∈ L := by
  intro L
  induction L with
  | nil => intro l h1 h2; exact ⟨h1, h2, fun y => by simp⟩
  | cons c r ih =>
    intro l h1 h2
    rw [List.foldl_cons]
    obtain ⟨a, b, d⟩ := ih (caddL l c) (cfull_nodup c l h1 h2) (cfull_sorted c l h2)
    refine ⟨a, b, fun y => ?_⟩
    rw [d y, caddL_full, cfull_mem, List.mem_cons]
    constructor
    · rintro ((h | h) | h)
      · exact .inr (.inl h)
      · exact .inl h
      · exact .inr (.inr h)
    · rintro (h | h | h)
      · exact .inl (.inr h)
      · exact .inl (.inl h)
      · exact .inr h
theorem cput_nodup (L : List (ByteArray × K)) : (cput L).Nodup := (cput_all L [] List.nodup_nil List.Pairwise.nil).1
theorem cput_sorted (L : List (ByteArray × K)) : (cput L).Pairwise cle := (cput_all L [] List.nodup_nil List.Pairwise.nil).2.1
theorem cput_mem (L : List (ByteArray × K)) (y : ByteArray × K) : y ∈ cput L ↔ y ∈ L := by
  have h := (cput_all L [] List.nodup_nil List.Pairwise.nil).2.2 y
  unfold cput
  rw [h]
  simp
/-- one kind for each name -/
def Func (L : List (ByteArray × K)) : Prop := ∀ s k k', (s, k) ∈ L → (s, k') ∈ L → k = k'
end Go.Proofs.YtpkgiemdnfbopaaGreat
namespace Go.Proofs.YtpkgiemdnfbopaaGreat
open Go Go.RowKit
open Pl (K Con)
set_option linter.unusedSimpArgs false
set_option linter.unusedVariables false

/-- the constant that a leaf is -/
def cstL (p : Con × Int) : Option (ByteArray × K) := if p.1.op = 2 then some (p.1.s, p.1.kind) else none
def Con.cstsOf (t : Con) : List (ByteArray × K) := (Con.leafCs t 0).filterMap cstL
theorem putC_leaves (t : Con) : ∀ (d : Int) (cs : List (ByteArray × K)), Con.allB t = true → Con.putC t cs = ((Con.leafCs t d).filterMap cstL).foldl caddL cs := by
  induction t using Con.ind with
  | h t ih =>
  intro d cs ha
  rw [allB_eq, Bool.and_eq_true, List.all_eq_true] at ha
  by_cases h2 : t.op = 2
  · have hl : t.l.length = 0 := by rw [leaf_none t ha.1 (.inr h2)]; rfl
    rw [putC_const t cs h2, leafCs_none t d hl]
    simp [cstL, h2]
  · rw [putC_node t cs h2]
    by_cases hl : t.l.length = 0
    · rw [leafCs_none t d hl, List.eq_nil_of_length_eq_zero hl]
      simp [cstL, h2]
    · rw [leafCs_node t d hl, List.filterMap_flatMap]
      have : ∀ (l : List Con) (cs : List (ByteArray × K)), (∀ x ∈ l, ∀ cs, Con.putC x cs = ((Con.leafCs x (Con.deep t.op d)).filterMap cstL).foldl caddL cs) → l.foldl (fun a x => Con.putC x a) cs = (l.flatMap (fun x => (Con.leafCs x (Con.deep t.op d)).filterMap cstL)).foldl caddL cs := by
        intro l
        induction l with
        | nil => intro cs _; rfl
        | cons x r ihr =>
          intro cs h
          rw [List.foldl_cons, List.flatMap_cons, List.foldl_append, ← h x List.mem_cons_self cs]
          exact ihr _ (fun y hy => h y (List.mem_cons_of_mem _ hy))
      exact this t.l cs (fun x hx cs => ih x hx _ cs (ha.2 x hx))
theorem putC_cput (t : Con) (ha : Con.allB t = true) : Con.putC t [] = cput (Con.cstsOf t) := putC_leaves t 0 [] ha
theorem cput_strict {L : List (ByteArray × K)} (h : Func L) : (cput L).Pairwise (fun a b => a.1.toList < b.1.toList) := by
  refine List.Pairwise.imp_of_mem (fun {a b} ha hb hab => ?_) ((cput_sorted L).and (cput_nodup L))
  obtain ⟨h1, h2⟩ := hab
  unfold cle at h1
  by_cases hl : a.1.toList < b.1.toList
  · exact hl
  · exfalso
    have e : a.1.toList = b.1.toList := by
      rw [List.not_lt] at h1 hl
      exact List.le_antisymm h1 hl
    have e1 : a.1 = b.1 := bytes_ext e
    have ha' : (a.1, a.2) ∈ L := (cput_mem L a).1 ha
    have hb' : (b.1, b.2) ∈ L := (cput_mem L b).1 hb
    rw [← e1] at hb'
    exact h2 (Prod.ext e1 (h _ _ _ ha' hb'))
theorem distB_func (L : List (ByteArray × K)) : distB (cput L) = true ↔ Func L := by
  rw [distB_iff]
  constructor
  · intro hd
    have key : ∀ l : List (ByteArray × K), l.Pairwise cle → (∀ (j : Nat) (h : j + 1 < l.length), (l[j]'(by omega)).1 ≠ l[j + 1].1) → l.Pairwise (fun a b => a.1.toList < b.1.toList) := by
      intro l
      induction l with
      | nil => intro _ _; exact List.Pairwise.nil
      | cons x r ih =>
        intro hp hd
        rw [List.pairwise_cons] at hp
        have hr := ih hp.2 (fun j hj => by have := hd (j + 1) (by simpa using hj); simpa using this)
        rw [List.pairwise_cons]
        refine ⟨fun y hy => ?_, hr⟩
        cases r with
        | nil => cases hy
        | cons z s =>
          have hxz : x.1 ≠ z.1 := hd 0 (by simp)
          have h1 : x.1.toList < z.1.toList := by
            have h2 := hp.1 z List.mem_cons_self
            unfold cle at h2
            by_cases hl : x.1.toList < z.1.toList
            · exact hl
            · rw [List.not_lt] at h2 hl
              exact absurd (bytes_ext (List.le_antisymm h2 hl)) hxz
          rcases List.mem_cons.1 hy with e | e
          · rw [e]; exact h1
          · exact List.lt_trans h1 ((List.pairwise_cons.1 hr).1 y e)
    have hs := key _ (cput_sorted L) hd
    intro s k k' h1 h2
    have m1 := (cput_mem L _).2 h1
    have m2 := (cput_mem L _).2 h2
    have : ∀ l : List (ByteArray × K), l.Pairwise (fun a b => a.1.toList < b.1.toList) → (s, k) ∈ l → (s, k') ∈ l → k = k' := by
      intro l
      induction l with
      | nil => intro _ h _; cases h
      | cons x r ih =>
        intro hp a b
        rw [List.pairwise_cons] at hp
        rcases List.mem_cons.1 a with a | a <;> rcases List.mem_cons.1 b with b | b
        · have e := a.trans b.symm
          injection e
        · have := hp.1 _ b
          rw [← a] at this
          exact absurd this (List.lt_irrefl _)
        · have := hp.1 _ a
          rw [← b] at this
          exact absurd this (List.lt_irrefl _)
        · exact ih hp.2 a b
    exact this _ hs m1 m2
  · intro hf j hj
    have h := cput_strict hf
    have h2 := (List.pairwise_iff_getElem.1 h) j (j + 1) (by omega) hj (by omega)
    intro e
    rw [e] at h2
    exact List.lt_irrefl _ h2
theorem strict_ext : ∀ (l m : List (List UInt8)), l.Pairwise (fun a b => a < b) → m.Pairwise (fun a b => a < b) → (∀ y, y ∈ l ↔ y ∈ m) → l = m := by
  intro l
  induction l with
  | nil =>
    intro m _ _ h
    cases m with
    | nil => rfl
    | cons y s => exact absurd ((h y).2 List.mem_cons_self) (by simp)
  | cons x r ih =>
    intro m hl hm h
    cases m with
    | nil => exact absurd ((h x).1 List.mem_cons_self) (by simp)
    | cons y s =>
      rw [List.pairwise_cons] at hl hm
      have hxy : x = y := by
        rcases List.mem_cons.1 ((h x).1 List.mem_cons_self) with e | e
        · exact e
        · rcases List.mem_cons.1 ((h y).2 List.mem_cons_self) with e' | e'
          · exact e'.symm
          · exact absurd (List.lt_trans (hm.1 x e) (hl.1 y e')) (List.lt_irrefl _)
      subst hxy
      congr 1
      refine ih s hl.2 hm.2 (fun z => ?_)
      constructor
      · intro hz
        rcases List.mem_cons.1 ((h z).1 (List.mem_cons_of_mem _ hz)) with e | e
        · have := hl.1 z hz; rw [e] at this; exact absurd this (List.lt_irrefl _)
        · exact e
      · intro hz
        rcases List.mem_cons.1 ((h z).2 (List.mem_cons_of_mem _ hz)) with e | e
        · have := hm.1 z hz; rw [e] at this; exact absurd this (List.lt_irrefl _)
        · exact e
theorem sort_strict {ss : List (List UInt8)} (h : ss.Nodup) : (ss.mergeSort (fun x y => decide (x ≤ y))).Pairwise (fun a b => a < b) := by
  have h1 := List.pairwise_mergeSort (le := fun x y : List UInt8 => decide (x ≤ y)) (fun a b c h h' => by rw [decide_eq_true_iff] at *; exact List.le_trans h h') (fun a b => by
    rw [Bool.or_eq_true, decide_eq_true_iff, decide_eq_true_iff]
    exact List.le_total a b) ss
  have h2 : (ss.mergeSort (fun x y => decide (x ≤ y))).Nodup := (List.mergeSort_perm ss _).nodup_iff.2 h
  refine (h1.and h2).imp (fun {a b} hab => ?_)
  obtain ⟨h3, h4⟩ := hab
  rw [decide_eq_true_iff] at h3
  by_cases hl : a < b
  · exact hl
  · rw [List.not_lt] at hl
    exact absurd (List.le_antisymm h3 hl) h4
/-- the sorted names are the constants' names -/
theorem names_sorted {L : List (ByteArray × K)} (hf : Func L) {ss : List (List UInt8)} (hn : ss.Nodup) (hm : ∀ s : ByteArray, s.toList ∈ ss ↔ ∃ k, (s, k) ∈ L) (hb : ∀ y ∈ ss, ∃ s : ByteArray, y = s.toList) : ss.mergeSort (fun x y => decide (x ≤ y)) = (cput L).map (fun c => c.1.toList) := by
  refine strict_ext _ _ (sort_strict hn) (List.pairwise_map.2 (cput_strict hf)) (fun y => ?_)
  rw [List.mem_mergeSort, List.mem_map]
  constructor
  · intro hy
    obtain ⟨s, rfl⟩ := hb y hy
    obtain ⟨k, hk⟩ := (hm s).1 hy
    exact ⟨(s, k), (cput_mem L _).2 hk, rfl⟩
  · rintro ⟨c, hc, rfl⟩
    exact (hm c.1).2 ⟨c.2, (cput_mem L c).1 hc⟩
end Go.Proofs.YtpkgiemdnfbopaaGreat
namespace Go.Proofs
open Go.Shelf
def Tryz.keysZ_ren : Go.Shelf.Ren := ⟨fun | 7 => 55 | 10 => 111 | n => n, fun | 23 => 83 | 26 => 9 | 3 => 24 | 28 => 52 | 0 => 0 | 27 => 51 | 33 => 33 | 4 => 4 | n => n, fun | n => n⟩
theorem Tryz.keysZ : Go.Proofs.SlLaysZ.n7 Tryz.prog Tryz.keysZ_ren := {
  mixed := by kernel_rfl
  f7 := ⟨Tryz.f55.name, by decide, Tryz.func55.trans (congrArg some (by kernel_rfl))⟩
  f10 := ⟨Tryz.f111.name, by decide, Tryz.func111.trans (congrArg some (by kernel_rfl))⟩
  t0 := Tryz.underlying0
  a0 := Tryz.isAgg0
  z0 := Tryz.sizeOf0
  v0 := Tryz.zeroValue0
  t4 := Tryz.underlying4
  a4 := Tryz.isAgg4
  z4 := Tryz.sizeOf4
  v4 := Tryz.zeroValue4
  t23 := Tryz.underlying83
  a23 := Tryz.isAgg83
  z23 := Tryz.sizeOf83
  v23 := Tryz.zeroValue83
  t26 := Tryz.underlying9
  a26 := Tryz.isAgg9
  z26 := Tryz.sizeOf9
  v26 := Tryz.zeroValue9
  t27 := Tryz.underlying51
  a27 := Tryz.isAgg51
  z27 := Tryz.sizeOf51
  v27 := Tryz.zeroValue51
  t28 := Tryz.underlying52
  a28 := Tryz.isAgg52
  z28 := Tryz.sizeOf52
  v28 := Tryz.zeroValue52
  t33 := Tryz.underlying33
  a33 := Tryz.isAgg33
  z33 := Tryz.sizeOf33
  v33 := Tryz.zeroValue33 }
def Tryz.sortedZ_ren : Go.Shelf.Ren := ⟨fun | 6 => 23 | 8 => 74 | 9 => 75 | 11 => 121 | 13 => 123 | 12 => 122 | 23 => 161 | 24 => 162 | 14 => 152 | 15 => 153 | 16 => 154 | 17 => 155 | 18 => 156 | 19 => 157 | 20 => 158 | 21 => 159 | 22 => 160 | 25 => 190 | 26 => 191 | 27 => 192 | 28 => 193 | 29 => 194 | 30 => 195 | 31 => 207 | n => n, fun | 26 => 9 | 28 => 52 | 24 => 25 | 0 => 0 | 3 => 3 | 37 => 144 | 48 => 174 | 50 => 176 | 4 => 4 | 40 => 167 | 39 => 166 | 45 => 96 | 5 => 5 | 9 => 9 | 51 => 189 | 55 => 132 | 57 => 197 | 58 => 198 | 33 => 33 | n => n, fun | n => n⟩
theorem Tryz.sortedZ : Go.Proofs.SlLaysZ.n6 Tryz.prog Tryz.sortedZ_ren := {
  mixed := by kernel_rfl
  f6 := ⟨Tryz.f23.name, by decide, Tryz.func23.trans (congrArg some (by kernel_rfl))⟩
  f8 := ⟨Tryz.f74.name, by decide, Tryz.func74.trans (congrArg some (by kernel_rfl))⟩
  f11 := ⟨Tryz.f121.name, by decide, Tryz.func121.trans (congrArg some (by kernel_rfl))⟩
  t0 := Tryz.underlying0
  a0 := Tryz.isAgg0
  z0 := Tryz.sizeOf0
  v0 := Tryz.zeroValue0
  t24 := Tryz.underlying25
  a24 := Tryz.isAgg25
  z24 := Tryz.sizeOf25
  v24 := Tryz.zeroValue25
  t26 := Tryz.underlying9
  a26 := Tryz.isAgg9
  z26 := Tryz.sizeOf9
  v26 := Tryz.zeroValue9
  t28 := Tryz.underlying52
  a28 := Tryz.isAgg52
  z28 := Tryz.sizeOf52
  v28 := Tryz.zeroValue52
  i26 := by kernel_rfl }
end Go.Proofs
namespace Go.Proofs.YtpkgiemdnfbopaaGreat
open Go Go.RowKit Go.Sort Go.Maps
open Pl (K Con)
set_option linter.unusedSimpArgs false
set_option linter.unusedVariables false

theorem sortsZ (m : Nat) : AnyZ.SortsIn Tryz.prog Tryz.sortedZ_ren Fence.wide m :=
  ⟨fun blk off cap ss W hH hblk hsz => callsIn_wide.2 (Tryz.slices_Sort_string blk off cap ss W hH hblk hsz), fun p cap W => callsIn_wide.2 (Tryz.slices_Sort_string_none p cap W)⟩
theorem keysZ_any (mb : Option Nat) (W : World) : Calls Tryz.prog 55 #[.map mb] W fun e w' => e = .returned (.func (.func 111) #[] #[.pointer (some ⟨W.heap.size, 0, none⟩)]) ∧ w' = W.alloc (.cells #[.map mb] 83) :=
  callsIn_wide.1 (show CallsIn Fence.wide 5 _ _ _ _ _ from AnyZ.keys_in Tryz.keysZ Fence.wide 5 trivial rfl mb W)
set_option maxHeartbeats 1000000 in
theorem sortedZ_any {H : Type} (b nn : Nat) (D0 : DataW H) (R : Value → Option (DataW H × List MemPlace)) (w : World) (hown : w.ownsMap Tryz.prog 9 R b nn D0) (hmax : Maps.size D0 ≤ maxLen) (hbytes : Maps.size D0 * 16 ≤ 140737488355328) :
    Calls Tryz.prog 23 #[.func (.func 111) #[] #[.pointer (some ⟨w.heap.size, 0, none⟩)]] (w.alloc (.cells #[.map (some b)] 83)) fun e w' => ∃ (v : Value) (ss : List (List UInt8)), e = .returned v ∧ ss.Perm (strKeys D0) ∧
      w'.ownsRow (w.alloc (.cells #[.map (some b)] 83)).heap.size 9 1 v ss.length ((ss.mergeSort (fun x y => decide (x ≤ y))).map encStr) ∧ (v = .slice none 0 0 ↔ ss = []) ∧ Below (w.alloc (.cells #[.map (some b)] 83)).heap.size (w.alloc (.cells #[.map (some b)] 83)) w' := by
  refine (callsIn_wide (n := 5)).1 ?_
  have hbl := hown.lt
  have hseq : SeqGives Fence.wide 2 Tryz.prog 111 #[.pointer (some ⟨w.heap.size, 0, none⟩)] encStr (fun ss => ss.Perm (strKeys D0)) (Maps.size D0) (w.alloc (.cells #[.map (some b)] 83)) :=
    AnyZ.keys_gives (ρ := Tryz.keysZ_ren) { Tryz.keysZ with } Fence.wide _ trivial rfl (by omega) w.heap.size b nn D0 _ (by simp) (by simp) (by
      obtain ⟨es, clock, hb, Ft, hs, hD⟩ := hown
      exact ⟨es, clock, (Below.heap_alloc _ _ b hbl).trans hb, Ft, hs, hD⟩)
  exact AnyZ.sorted_in Tryz.sortedZ Fence.wide 5 trivial trivial trivial trivial rfl (by omega) (sortsZ _) (enters_of Tryz.func75 (by kernel_rfl) rfl) 111 #[.pointer (some ⟨w.heap.size, 0, none⟩)] trivial (enters_of Tryz.func111 (by kernel_rfl) rfl) _ _ hmax hbytes _ hseq
end Go.Proofs.YtpkgiemdnfbopaaGreat
namespace Go.Proofs.YtpkgiemdnfbopaaGreat
open Go Go.RowKit Go.Sort
open Pl (K Con)
set_option linter.unusedSimpArgs false
set_option linter.unusedVariables false

/-- an element is kept as it is -/
def keep9 : Value → Option (DataW Value × List MemPlace) := fun v => some (.held v, [])
/-- a map of names to kinds, these put in so far -/
def KMap (w : World) (P : Nat → Prop) (b n : Nat) (zs : List (ByteArray × K)) : Prop :=
  ∃ D : DataW Value, w.ownsMap Tryz.prog 9 keep9 b n D ∧ Maps.Tidy D ∧ (∀ s : ByteArray, Maps.has D (.string s.data.toList) = true ↔ ∃ k, (s, k) ∈ zs) ∧
    (∀ s k, (s, k) ∈ zs → ∃ ka kn kc, (∀ z, D.atKey (.string s.data.toList) z = .held (.agg #[.slice ka kn kc])) ∧ KidV w P k (.slice ka kn kc))
theorem kmap_new (w : World) (P : Nat → Prop) : KMap (w.alloc (.map #[] 0)) P w.heap.size 0 [] :=
  ⟨.map [], w.ownsMap_made _ _ _, Maps.tidy_empty, fun s => by simp [Maps.has], fun s k h => by cases h⟩
theorem KMap.kept {w w' : World} {P : Nat → Prop} {b n : Nat} {zs : List (ByteArray × K)} {row : Option Nat} (h : KMap w P b n zs) (hg : w.grownBy w' row) (hne : some b ≠ row) (hs : Same P w w') : KMap w' P b n zs := by
  obtain ⟨D, h1, h2, h3, h4⟩ := h
  exact ⟨D, h1.kept hg hne, h2, h3, fun s k hk => by obtain ⟨ka, kn, kc, e1, e2⟩ := h4 s k hk; exact ⟨ka, kn, kc, e1, e2.keep hs⟩⟩
theorem zeroKind9 (w : World) : (zeroValue 24).run Tryz.prog w = .ok (.agg #[.slice none 0 0]) w := by
  first | kernel_rfl | simp [go_sem]
set_option maxRecDepth 100000 in
theorem kmap_look {w : World} {P : Nat → Prop} {b n : Nat} {zs : List (ByteArray × K)} (h : KMap w P b n zs) (s : ByteArray) (hs : s.size ≤ maxLen) :
    (∀ k, (s, k) ∈ zs → ∃ ka kn kc, (Instr.lookup 83 (.map (some b)) (.string s) true).run Tryz.prog w = .ok (.tuple #[.agg #[.slice ka kn kc], .bool true]) w ∧ KidV w P k (.slice ka kn kc)) ∧
    ((∀ k, (s, k) ∉ zs) → (Instr.lookup 83 (.map (some b)) (.string s) true).run Tryz.prog w = .ok (.tuple #[.agg #[.slice none 0 0], .bool false]) w) := by
  obtain ⟨D, hD, hT, hH, hV⟩ := h
  obtain ⟨v, ps, hrun, hv⟩ := hD.look_ok (Maps.string_keyed Tryz.underlying9) Tryz.underlying83 (z := .agg #[.slice none 0 0]) (zeroKind9 w) (zd := .held (.agg #[.slice none 0 0])) (zp := []) rfl (WideMaps.keyOf_string_mk Tryz.underlying9 hs)
  unfold keep9 at hv
  injection hv with hv
  injection hv with hv _
  constructor
  · intro k hk
    obtain ⟨ka, kn, kc, e1, e2⟩ := hV s k hk
    rw [e1] at hv
    injection hv with hv
    exact ⟨ka, kn, kc, (by have e := hrun; rw [hv, (hH s).2 ⟨k, hk⟩] at e; exact e), e2⟩
  · intro hn
    have hh : Maps.has D (.string s.data.toList) = false := by
      cases hh : Maps.has D (.string s.data.toList)
      · rfl
      · obtain ⟨k, hk⟩ := (hH s).1 hh
        exact absurd hk (hn k)
    rw [Maps.atKey_of_not_has hh] at hv
    replace hv := DataW.held.inj hv
    have e := hrun
    rw [hh, hv] at e
    exact e
set_option maxRecDepth 100000 in
theorem kmap_get {w : World} {P : Nat → Prop} {b n : Nat} {zs : List (ByteArray × K)} (h : KMap w P b n zs) (s : ByteArray) (hs : s.size ≤ maxLen) (k : K) (hk : (s, k) ∈ zs) :
    ∃ ka kn kc, (Instr.lookup 83 (.map (some b)) (.string s) false).run Tryz.prog w = .ok (.agg #[.slice ka kn kc]) w ∧ KidV w P k (.slice ka kn kc) := by
  obtain ⟨D, hD, hT, hH, hV⟩ := h
  obtain ⟨v, ps, hrun, hv⟩ := hD.lookup (Maps.string_keyed Tryz.underlying9) Tryz.underlying83 (z := .agg #[.slice none 0 0]) (zeroKind9 w) (zd := .held (.agg #[.slice none 0 0])) (zp := []) rfl (WideMaps.keyOf_string_mk Tryz.underlying9 hs)
  unfold keep9 at hv
  injection hv with hv
  injection hv with hv _
  obtain ⟨ka, kn, kc, e1, e2⟩ := hV s k hk
  rw [e1] at hv
  injection hv with hv
  exact ⟨ka, kn, kc, (by have e := hrun; rw [hv] at e; exact e), e2⟩
theorem kmap_put {w : World} {P : Nat → Prop} {b n : Nat} {zs : List (ByteArray × K)} (h : KMap w P b n zs) (hn : n < maxLen) (s : ByteArray) (hs : s.size ≤ maxLen) (k : K) (hf : ∀ k', (s, k') ∈ zs → k' = k) (ka : Option Addr) (kn kc : Nat) (hk : KidV w P k (.slice ka kn kc)) (hP : ¬ P b) (hPl : ∀ q, P q → q < w.heap.size) :
    ∃ w', (Instr.mapUpdate 83 (.map (some b)) (.string s) (.agg #[.slice ka kn kc])).run Tryz.prog w = .ok () w' ∧ KMap w' P b (n + 1) (zs ++ [(s, k)]) ∧ w.grownBy w' (some b) := by
  obtain ⟨D, hD, hT, hH, hV⟩ := h
  obtain ⟨w', h1, h2, h3⟩ := hD.update (Maps.string_keyed Tryz.underlying9) Tryz.underlying83 hn (WideMaps.keyOf_string_mk Tryz.underlying9 hs) (d := .held (.agg #[.slice ka kn kc])) (ps := []) (val := .agg #[.slice ka kn kc]) rfl
  have hS : Same P w w' := fun q hq => h3.block q (hPl q hq) (fun e => by injection e with e; subst e; exact hP hq)
  refine ⟨w', h1, ⟨_, h2, hT.put (by trivial) _, fun z => ?_, fun z k' hz => ?_⟩, h3⟩
  · by_cases hz : z = s
    · subst hz
      rw [Maps.has_put_same hT.isMap (by trivial)]
      simp
    · rw [Maps.has_put_other (fun e => hz ((str_key9 z s).1 e)), hH z]
      constructor
      · rintro ⟨k', h⟩; exact ⟨k', List.mem_append_left _ h⟩
      · rintro ⟨k', h⟩
        rcases List.mem_append.1 h with h | h
        · exact ⟨k', h⟩
        · rw [List.mem_singleton] at h
          injection h with h _
          exact absurd h hz
  · by_cases hzs : z = s
    · subst hzs
      have hkk : k' = k := by
        rcases List.mem_append.1 hz with h | h
        · exact hf k' h
        · rw [List.mem_singleton] at h
          injection h
      subst hkk
      exact ⟨ka, kn, kc, fun _ => by rw [Maps.atKey_put_same hT.isMap (by trivial)], hk.keep hS⟩
    · have hm : (z, k') ∈ zs := by
        rcases List.mem_append.1 hz with h | h
        · exact h
        · rw [List.mem_singleton] at h
          injection h with h _
          exact absurd h hzs
      obtain ⟨a, n2, c, e1, e2⟩ := hV z k' hm
      exact ⟨a, n2, c, fun x => by rw [Maps.atKey_put_other (fun e => hzs ((str_key9 z s).1 e)), e1], e2.keep hS⟩
/-- what the sorted keys are -/
theorem kmap_keys {w : World} {P : Nat → Prop} {b n : Nat} {zs : List (ByteArray × K)} (h : KMap w P b n zs) :
    ∃ D : DataW Value, w.ownsMap Tryz.prog 9 keep9 b n D ∧ Maps.size D ≤ n ∧ ∀ ss : List (List UInt8), ss.Perm (strKeys D) → ss.Nodup ∧ (∀ s : ByteArray, s.toList ∈ ss ↔ ∃ k, (s, k) ∈ zs) ∧ (∀ y ∈ ss, ∃ s : ByteArray, y = s.toList) := by
  obtain ⟨D, hD, hT, hH, -⟩ := h
  refine ⟨D, hD, hD.size_le, fun ss hp => ?_⟩
  obtain ⟨es, hes, hpw⟩ := hT
  obtain ⟨es', hes', hko⟩ := hD.keysOf
  have hee : es = es' := by rw [hes] at hes'; injection hes'
  subst hee
  have hk : ∀ p ∈ es, ∃ x, p.1 = .string x := fun p hp => by
    obtain ⟨v, hv⟩ := hko p hp
    obtain ⟨x, _, hx, _⟩ := Maps.keyOf_str Tryz.underlying9 hv
    exact ⟨x, hx⟩
  have hnd : (strKeys D).Nodup := by
    rw [hes]
    show (es.map fun p => strOf p.1).Nodup
    refine List.pairwise_map.2 (hpw.imp_of_mem fun {p q} hp' hq' hne e => hne ?_)
    obtain ⟨a, ha⟩ := hk p hp'
    obtain ⟨b, hb⟩ := hk q hq'
    rw [ha, hb] at e ⊢
    exact congrArg _ e
  have hmem : ∀ x : List UInt8, x ∈ strKeys D ↔ Maps.has D (.string x) = true := fun x => by
    rw [hes, Maps.has_eq, List.any_eq_true]
    show x ∈ es.map (fun p => strOf p.1) ↔ _
    rw [List.mem_map]
    constructor
    · rintro ⟨p, hp', rfl⟩
      obtain ⟨a, ha⟩ := hk p hp'
      exact ⟨p, hp', by rw [ha]; simp [Lit.sameKey, strOf]⟩
    · rintro ⟨p, hp', hs⟩
      obtain ⟨a, ha⟩ := hk p hp'
      rw [ha] at hs
      exact ⟨p, hp', by rw [ha]; simpa [Lit.sameKey, strOf] using hs⟩
  refine ⟨hp.nodup_iff.2 hnd, fun s => ?_, fun y hy => ⟨⟨y.toArray⟩, by rw [Lib.toList_data]⟩⟩
  rw [hp.mem_iff, hmem, ← hH s, Lib.toList_data]
end Go.Proofs.YtpkgiemdnfbopaaGreat
namespace Go.Proofs.YtpkgiemdnfbopaaGreat
open Go Go.RowKit
open Pl (K Con)
set_option linter.unusedSimpArgs false
set_option linter.unusedVariables false
attribute [local go_sem] Oper.semAt_some

def encS9 (x : ByteArray) : Array Value := #[.string x]
theorem valuesS_any (w : World) (a : Option Addr) (n c : Nat) :
    Calls Tryz.prog 24 #[.slice a n c] w fun e w' => e = .returned (.func (.func 76) #[] #[.pointer (some ⟨w.heap.size, 0, none⟩)]) ∧ w' = w.alloc (.cells #[.slice a n c] 25) := by
  go_enter Tryz.func24, Tryz.ntmps24
  go_wp2
  go_ret
  exact ⟨rfl, rfl⟩
set_option maxRecDepth 100000 in
set_option maxHeartbeats 2000000 in
theorem values_stops (F : Fence) (HF : Hid (F = Fence.wide)) (n Bs n₀ : Nat) (P : Nat → Prop) (v : Value) (zs : List ByteArray) (w : World) (hn0 : n₀ ≤ w.heap.size) (hB : Bs < w.heap.size) (hP : ∀ q, P q → q < n₀)
    (hbx : Blk w Bs 25 #[v]) (ht : StrSl w P v zs) :
    SeqStopsK F n Tryz.prog 76 #[.pointer (some ⟨Bs, 0, none⟩)] encS9 (Below n₀) (fun ys => ys = zs) (fun ys => ys <+: zs) zs.length w := by
  intro l J Jx W hW hJ hJx hY h0
  have hd : F.depth = none := by rw [HF.out]; rfl
  have hro : F.round = none := by rw [HF.out]; rfl
  have hlf : F.fn 76 := by rw [HF.out]; trivial
  have hdd : ∀ k : Nat, (F.depth.isSome = true → 1 ≤ k) := fun k h => by rw [hd] at h; cases h
  have HT := Lib.hid (fun W' (hW' : Below n₀ W W') => ht.keep (w' := W') (fun q hq => (hW'.block q (hP q hq)).trans (hW.block q (Nat.lt_of_lt_of_le (hP q hq) hn0))))
  have hb := hbx.of_eq (hW.block _ hB)
  have c0 := hb.cell 0 v rfl
  have HY := Lib.hid hY
  obtain ⟨a, c, rfl, h1, h2, -, h4, h5⟩ := ht
  obtain ⟨m, hm⟩ : ∃ m, m = zs.length := ⟨_, rfl⟩
  have HM := Lib.hid hm
  rw [← hm] at h1 c0 HT HY
  have hm63 : m ≤ 9223372036854775807 := by unfold maxLen at h2; omega
  have H0 := Lib.hid h0
  clear hY hb hbx h1 h2 h4 h5 hm h0
  refine callsIn_of_wp Tryz.func76 rfl hlf ?_ hro
  simp only [Tryz.ntmps76, List.size_toArray, List.length_cons, List.length_nil, Nat.reduceAdd, Nat.reduceSub, Array.replicate_succ, Array.replicate_zero, List.push_toArray, List.append_toArray, List.nil_append, List.cons_append]
  gi_wp2_with fail
  clear c0
  gi_loopw [7] (fun i wr => ∃ k : Nat, k ≤ m ∧ i = .int .i64 k ∧ J (zs.take k) wr ∧ Below n₀ W wr) (fun i _ => m - (intOf i).toNat)
  case atStart => exact ⟨0, Nat.zero_le _, rfl, by rw [List.take_zero]; exact H0.out, Below.refl _ _⟩
  case round =>
    obtain ⟨k, hk, rfl, hj, hbw⟩ := hrel
    have HJK := Lib.hid hj
    have HBW := Lib.hid hbw
    by_cases hlt : k < m
    · have q5 : decide ((k : Int) < (m : Int)) = true := decide_eq_true (by omega)
      have hkl : k < zs.length := by rw [← HM.out]; exact hlt
      have hcell : ∃ b off, a = some ⟨b, off, none⟩ ∧ wr.cell? ⟨b, off + k, none⟩ = some (.string zs[k]) := by
        obtain ⟨a', c', e, -, -, -, -, h8⟩ := HT.out wr hbw
        injection e with e1 e2 e3
        subst e1
        rcases h8 with h8 | ⟨b, off, rfl, -, h9⟩
        · rw [h8] at hkl; exact absurd hkl (Nat.not_lt_zero _)
        · exact ⟨b, off, rfl, h9 k hkl⟩
      obtain ⟨b, off, ea, f0⟩ := hcell
      subst ea
      have HTK := Lib.hid (show zs.take (k + 1) = zs.take k ++ [zs[k]] from List.take_succ_eq_append_getElem hkl)
      have HPF := Lib.hid (show zs.take k ++ [zs[k]] <+: zs from by rw [← HTK.out]; exact List.take_prefix _ _)
      obtain ⟨fn, tmps, assign, body, hy, hR⟩ := HY.out (zs.take k) zs[k] wr hj (by rw [List.length_take]; omega)
      unfold encS9 at hy
      generalize zs[k] = z at *
      clear hj hbw hkl
      gi_wp2_with fail
      refine hR.mono ?_
      rintro e W3 h3
      rcases h3 with ⟨rfl, hj3, hb3⟩ | ⟨rfl, hx3⟩
      · have HJ3 := Lib.hid hj3
        have HB3 := Lib.hid (HBW.out.trans hb3)
        clear hj3 hb3 f0 hy hR
        gi_wp2
        go_roundw
        case rel => exact ⟨k + 1, by omega, by go_num, by rw [HTK.out]; exact HJ3.out, HB3.out⟩
        case measure => first | (simp [intOf]; done) | (simp [intOf]; omega)
      · have HX3 := Lib.hid hx3
        clear hx3 f0 hy hR
        gi_wp2
        refine bodyPost_ret (v := .tuple #[]) (by simp [results, Tryz.results76, Tryz.f76, go_sem]) rfl ?_
        exact ⟨⟨_, rfl⟩, .inr ⟨_, HPF.out, HX3.out⟩⟩
    · have q5 : decide ((k : Int) < (m : Int)) = false := decide_eq_false (by omega)
      have HE := Lib.hid (show zs.take k = zs from List.take_of_length_le (by rw [← HM.out]; omega))
      rw [HE.out] at HJK
      clear hj hbw
      gi_wp2
      go_end0
      exact ⟨⟨_, rfl⟩, .inl ⟨zs, rfl, HJK.out⟩⟩
end Go.Proofs.YtpkgiemdnfbopaaGreat
namespace Go.Proofs.YtpkgiemdnfbopaaGreat
open Go Go.RowKit Go.Sort
open Pl (K Con)
set_option linter.unusedSimpArgs false
set_option linter.unusedVariables false
attribute [local go_sem] Oper.semAt_some

/-- an append to a row of strings, and its store, leave what is no cells -/
theorem own_sameS {W w1 : World} {B4 k base : Nat} {v v' : Value} {xs : List Value} (x : ByteArray) (h1 : Blk W B4 25 #[v]) (hown : W.ownsRow base 9 1 v k xs) (hgrow : (W.alloc (.cells #[.string x] 9)).grownBy w1 v.ownBlock) :
    ∀ (j : Nat) (o : Obj), W.heap[j]? = some o → o.isCells = false → (w1.setCell ⟨B4, 0, none⟩ v').heap[j]? = some o := by
  intro j o ho hc
  have hjl : j < W.heap.size := (Array.getElem?_eq_some_iff.1 ho).1
  have hj4 : j ≠ B4 := by
    rintro rfl
    have h1 : W.heap[j]? = some (.cells #[v] 25 (0, 0)) := h1
    rw [h1] at ho
    injection ho with ho
    subst ho
    cases hc
  have hjr : some j ≠ v.ownBlock := by
    intro e
    rcases hown.2 with ⟨rfl, _⟩ | ⟨g, cap, cur, rfl, _, hg, _⟩
    · cases e
    · have e : some j = some g := e
      injection e with e
      subst e
      rw [hg] at ho
      injection ho with ho
      subst ho
      cases hc
  rw [Below.heap_setCell w1 _ _ j (show j ≠ B4 from hj4), hgrow.block j (by rw [size_alloc]; omega) hjr, Below.heap_alloc W _ j hjl, ho]
theorem ownsRowS_own {β : Type} (s : β) {B base k : Nat} {v : Value} {xs : List Value} (A D : World) (row : Option Nat) (h : A.ownsRow base 9 1 v k xs) (hg : A.grownBy D row) (hr : ∀ r, row = some r → B ≤ r ∧ ∃ o : Obj, A.heap[r]? = some o ∧ o.isCells = false) : D.ownsRow base 9 1 v k xs := by
  refine h.kept hg ?_
  rcases h.2 with ⟨rfl, _⟩ | ⟨g, cap, cur, rfl, _, hgg, _⟩
  · exact .inl rfl
  · refine .inr (fun e => ?_)
    obtain ⟨-, o, ho, hoc⟩ := hr g e.symm
    rw [hgg] at ho
    injection ho with ho
    subst ho
    cases hoc
theorem ownS_other {W : World} {B4 base k : Nat} {v v' : Value} {xs : List Value} (h : W.ownsRow base 9 1 v k xs) (hne : some B4 ≠ v.ownBlock) : (W.setCell ⟨B4, 0, none⟩ v').ownsRow base 9 1 v k xs := by
  refine ⟨h.1, ?_⟩
  rcases h.2 with hn | ⟨g, cap, cur, rfl, hb, hgg, rest⟩
  · exact .inl hn
  · exact .inr ⟨g, cap, cur, rfl, hb, (Below.heap_setCell W _ _ g (show g ≠ B4 from fun e => hne (by rw [e]; rfl))).trans hgg, rest⟩
/-- a list of strings in a new row -/
def RowSP (zs : List ByteArray) (w : World) (e : Ending) (w' : World) : Prop := (∃ y, e = .returned y ∧ w'.ownsRow w.heap.size 9 1 y zs.length (zs.map Value.string)) ∧ Below w.heap.size w w'
set_option maxRecDepth 100000 in
set_option maxHeartbeats 2000000 in
theorem appendSeqS_any (Bs : Nat) (P : Nat → Prop) (v : Value) (zs : List ByteArray) (w : World) (hB : Bs < w.heap.size) (hP : ∀ q, P q → q < w.heap.size) (hbx : Blk w Bs 25 #[v]) (ht : StrSl w P v zs) (hlen : zs.length ≤ 1000000) :
    Calls Tryz.prog 121 #[.slice none 0 0, .func (.func 76) #[] #[.pointer (some ⟨Bs, 0, none⟩)]] w (RowSP zs w) := by
  refine wide_of (n := 12) (fun F HF => ?_)
  have hd : F.depth = none := by rw [HF.out]; rfl
  have hro : F.round = none := by rw [HF.out]; rfl
  have hf1 : F.fn 121 := by rw [HF.out]; trivial
  have hlf : F.fn 76 := by rw [HF.out]; trivial
  have hdd : ∀ k : Nat, (F.depth.isSome = true → 1 ≤ k) := fun k h => by rw [hd] at h; cases h
  obtain ⟨hb4, hbb⟩ := boxN_new w 25 #[.slice none 0 0]
  have hbx2 := hbx.of_eq (hbb.block _ hB)
  have ht2 := ht.keep (Same.of_below hbb hP)
  have hsz := size_alloc w (.cells #[.slice none 0 0] 25)
  obtain ⟨ii, hii, hiz, his, hib⟩ := info_parts infoStr9
  refine callsIn_of_wp_marks Tryz.func121 rfl hf1 ?_ hro
  simp only [Tryz.ntmps121, List.size_toArray, List.length_cons, List.length_nil, Nat.reduceAdd, Nat.reduceSub, Array.replicate_succ, Array.replicate_zero, List.push_toArray, List.append_toArray, List.nil_append, List.cons_append]
  gi_wp2_with fail
  generalize w.alloc (.cells #[.slice none 0 0] 25) = w2 at *
  refine wpIn_rangeFunc_ownH hro (by omega) (gf := 76) (lb := #[.pointer (some ⟨Bs, 0, none⟩)]) rfl hlf (enters_of Tryz.func76 (by kernel_rfl) rfl)
    (values_stops F HF (12 - 1) Bs w.heap.size P v zs w2 (by omega) (by omega) hP hbx2 ht2) belowK_t (belowK_b (by omega)) (Below.refl _ _) (fun _ => rfl)
    (fun pre W => ∃ v, Blk W w.heap.size 25 #[v] ∧ W.ownsRow (w.heap.size + 1) 9 1 v pre.length (pre.map Value.string) ∧ Below w.heap.size w W)
    (fun c pre W => False)
    (fun s A D row hs hg hr => by
      obtain ⟨v, h1, h2, h3⟩ := hs
      exact ⟨v, blk_own (β := Unit) () A D row h1 hg hr, ownsRowS_own () A D row h2 hg hr, below_own (β := Unit) (by omega) () A D row h3 hg hr⟩)
    (fun c s A D row hs hg hr => hs)
    ⟨_, hb4, World.ownsRow_nil _ _ _ _, hbb⟩
    (fun x a' W' => a' = { tmps := #[.slice none 0 0, .func (.func 76) #[] #[.pointer (some ⟨Bs, 0, none⟩)], .pointer (some ⟨w.heap.size, 0, none⟩), undef, .slice none 0 0, .string x, .func (.func 76) #[] #[.pointer (some ⟨Bs, 0, none⟩)], .string x, undef, undef, undef, undef, undef], defers := [] })
    (fun x a' _ A D row hs hg hr => hs)
    ?assign ?body ?done ?stop
  case assign =>
    rintro lp pre x W K h1 hK
    unfold encS9
    gi_wp2
    exact hK _ _ (KeepsFrom.refl _ _) (Below.refl _ _) h1 rfl
  case stop =>
    rintro D c pre W hD hpf hF hK
    exact hF.elim
  case body =>
    rintro lp pre x a' W hlp ⟨r, hr⟩ ⟨v9, h1, h2, h3⟩ rfl hlt
    have x4 := h1.cell 0 v9 rfl
    have f4 := h1.thaw 0
    have hlt4 := h1.lt
    have H1 := Lib.hid h1
    have H3 := Lib.hid h3
    have HLEN := Lib.hid (show pre.length < 1000000 from by omega)
    clear h1 h3 hlt hbx2 ht2 hbb hb4 hbx ht
    gi_wp2_with (first
      | (gi_at_builtin; refine wpListIn_append_own _ rfl _ _ 25 rfl (w.heap.size + 1) 9 ii (.string ByteArray.empty) 1 16 Tryz.underlying25 hii hiz his hib rfl (by decide) _ _ _ rfl (h2.alloc _) ⟨W.heap.size, 0, none⟩ 1 1 [.string x] rfl rfl ?c1 ?c2 ?c3 ?c4 ?c5 ?_)
      | gi_in)
    case c1 =>
      intro j u hj
      match j, hj with
      | 0, hj => simp at hj; subst hj; simp [Addr.add]
    case c2 => intro u hu; simp at hu; subst hu; rfl
    case c3 => have := HLEN.out; unfold maxLen; omega
    case c4 => have := HLEN.out; omega
    case c5 => simp; omega
    · intro v8 W1 hown9 hgrow _
      obtain ⟨g9, cap9, rfl⟩ : ∃ g cap, v8 = .slice (some ⟨g, 0, none⟩) (pre.length + 1) cap := by
        rcases hown9.2 with ⟨_, h⟩ | ⟨g, cap, _, h, _⟩
        · omega
        · exact ⟨g, cap, h⟩
      have hne4 : some w.heap.size ≠ v9.ownBlock := fun e => by have := (h2.lt w.heap.size e.symm).1; omega
      have h1a := H1.out.alloc (.cells #[.string x] 9)
      have h1b : Blk W1 w.heap.size 25 #[v9] := (hgrow.block w.heap.size h1a.lt hne4).trans h1a
      have x5 := h1b.cell 0 v9 rfl
      have f5 := h1b.thaw 0
      have hsame := own_sameS (v' := (.slice (some ⟨g9, 0, none⟩) (pre.length + 1) cap9)) x H1.out h2 hgrow
      have hbel : Below w.heap.size W (W1.setCell ⟨w.heap.size, 0, none⟩ (.slice (some ⟨g9, 0, none⟩) (pre.length + 1) cap9)) := (((Below.refl w.heap.size W).alloc H3.out.size (.cells #[.string x] 9)).grown hgrow (Nat.le_trans H3.out.size (by rw [size_alloc]; omega)) (fun k e => by have := (h2.lt k e).1; omega)).setCell (p := ⟨w.heap.size, 0, none⟩) (Nat.le_refl _) (.slice (some ⟨g9, 0, none⟩) (pre.length + 1) cap9)
      have hgb : some w.heap.size ≠ (.slice (some ⟨g9, 0, none⟩) (pre.length + 1) cap9 : Value).ownBlock := fun e => by have := (hown9.lt w.heap.size e.symm).1; omega
      have HE := Lib.hid (show KeepsFrom w2.heap.size W (W1.setCell ⟨w.heap.size, 0, none⟩ (.slice (some ⟨g9, 0, none⟩) (pre.length + 1) cap9)) ∧ Below w.heap.size W (W1.setCell ⟨w.heap.size, 0, none⟩ (.slice (some ⟨g9, 0, none⟩) (pre.length + 1) cap9)) ∧ ∃ v, Blk (W1.setCell ⟨w.heap.size, 0, none⟩ (.slice (some ⟨g9, 0, none⟩) (pre.length + 1) cap9)) w.heap.size 25 #[v] ∧ (W1.setCell ⟨w.heap.size, 0, none⟩ (.slice (some ⟨g9, 0, none⟩) (pre.length + 1) cap9)).ownsRow (w.heap.size + 1) 9 1 v (pre ++ [x]).length ((pre ++ [x]).map Value.string) ∧ Below w.heap.size w (W1.setCell ⟨w.heap.size, 0, none⟩ (.slice (some ⟨g9, 0, none⟩) (pre.length + 1) cap9)) from
        ⟨⟨hbel.size, fun k o _ ho hc => hsame k o ho hc⟩, hbel, (.slice (some ⟨g9, 0, none⟩) (pre.length + 1) cap9), blk_one h1b, by
          have h := ownS_other (v' := (.slice (some ⟨g9, 0, none⟩) (pre.length + 1) cap9)) hown9 hgb
          simpa using h, H3.out.trans hbel⟩)
      clear h2 hown9 hgrow h1a h1b hsame hbel hgb hne4
      gi_wp2
      exact HE.out
  case done =>
    rintro D xs W hD hS ⟨v9, h1, h2, h3⟩ hK
    subst hS
    have x4 := h1.cell 0 v9 rfl
    have HE := Lib.hid (show RowSP xs w (.returned v9) (W.putObj D (.deferred none)) from
      ⟨⟨_, rfl, ⟨h2.1, (ownsRowS_own (B := D) () _ _ _ h2 (grownBy_putObj' W D (.deferred none)) (fun r e => by cases e; exact ⟨Nat.le_refl _, _, hK, rfl⟩)).2.imp id fun ⟨g, cap, cur, e1, e2, e3⟩ => ⟨g, cap, cur, e1, Nat.le_of_succ_le e2, e3⟩⟩⟩, h3.trans (belowK_b (w := w) (Nat.le_refl _) _ D _ (.deferred none) (by omega) hK rfl rfl)⟩)
    clear h1 h2 h3
    gi_wp2
    refine ⟨by simp, .inl ⟨_, _, rfl, run_takeDeferred hK, ?_⟩⟩
    refine ⟨v9, by simp [results, Tryz.results121, Tryz.f121, go_sem], ?_⟩
    exact HE.out
end Go.Proofs.YtpkgiemdnfbopaaGreat
namespace Go.Proofs.YtpkgiemdnfbopaaGreat
open Go Go.RowKit Go.Sort
open Pl (K Con)
set_option linter.unusedSimpArgs false
set_option linter.unusedVariables false

theorem encS_data (zs : List ByteArray) : zs.map Value.string = (zs.map (fun z => z.data.toList)).map encStr := by
  rw [List.map_map]
  refine List.map_congr_left (fun z _ => ?_)
  show Value.string z = encStr z.data.toList
  unfold encStr
  cases z
  simp
theorem collectS_any (Bs : Nat) (P : Nat → Prop) (v : Value) (zs : List ByteArray) (w : World) (hB : Bs < w.heap.size) (hP : ∀ q, P q → q < w.heap.size) (hbx : Blk w Bs 25 #[v]) (ht : StrSl w P v zs) (hlen : zs.length ≤ 1000000) :
    Calls Tryz.prog 74 #[.func (.func 76) #[] #[.pointer (some ⟨Bs, 0, none⟩)]] w (RowSP zs w) := by
  have HA := Lib.hid (appendSeqS_any Bs P v zs w hB hP hbx ht hlen)
  clear hbx ht
  go_enter Tryz.func74, Tryz.ntmps74
  go_wp2_with fail
  refine HA.out.mono ?_
  rintro e w2 ⟨⟨y, rfl, hy⟩, hb⟩
  have HE := Lib.hid (show w2.ownsRow w.heap.size 9 1 y zs.length (zs.map Value.string) ∧ Below w.heap.size w w2 from ⟨hy, hb⟩)
  clear hy hb
  go_wp2
  go_ret
  exact ⟨⟨_, rfl, HE.out.1⟩, HE.out.2⟩
/-- the bytes of names, ascending -/
def sortedB (zs : List ByteArray) : List (List UInt8) := (zs.map (fun z => z.data.toList)).mergeSort (fun x y => decide (x ≤ y))
def SortSP (zs : List ByteArray) (w : World) (e : Ending) (w' : World) : Prop := (∃ y, e = .returned y ∧ w'.ownsRow w.heap.size 9 1 y zs.length ((sortedB zs).map encStr)) ∧ Below w.heap.size w w'
set_option maxHeartbeats 1000000 in
theorem sortedS_any (Bs : Nat) (P : Nat → Prop) (v : Value) (zs : List ByteArray) (w : World) (hB : Bs < w.heap.size) (hP : ∀ q, P q → q < w.heap.size) (hbx : Blk w Bs 25 #[v]) (ht : StrSl w P v zs) (hlen : zs.length ≤ 1000000) :
    Calls Tryz.prog 23 #[.func (.func 76) #[] #[.pointer (some ⟨Bs, 0, none⟩)]] w (SortSP zs w) := by
  have HA := Lib.hid (collectS_any Bs P v zs w hB hP hbx ht hlen)
  clear hbx ht
  go_enter Tryz.func23, Tryz.ntmps23
  go_wp2_with fail
  refine HA.out.mono ?_
  rintro e W ⟨⟨y, rfl, hy⟩, hb⟩
  rw [encS_data] at hy
  obtain ⟨ss, hss⟩ : ∃ ss, ss = zs.map (fun z => z.data.toList) := ⟨_, rfl⟩
  have hsl : ss.length = zs.length := by rw [hss, List.length_map]
  have HSB := Lib.hid (show sortedB zs = ss.mergeSort (fun x y => decide (x ≤ y)) from by rw [hss]; rfl)
  rw [← hss] at hy
  have HSL := Lib.hid hsl
  rw [← hsl] at hy
  clear hss hsl
  rcases hy.2 with ⟨rfl, hz⟩ | ⟨gb, cap, cur, rfl, hbase, hgb, r1, r2, r3, r4⟩
  · have hs0 : ss = [] := List.eq_nil_of_length_eq_zero hz
    subst hs0
    have HE := Lib.hid (show W.ownsRow w.heap.size 9 1 (.slice none 0 0) zs.length ((sortedB zs).map encStr) ∧ Below w.heap.size w W from ⟨by rw [HSB.out, ← HSL.out]; simpa using hy, hb⟩)
    clear hy hb
    go_wp2_with fail
    refine (Tryz.slices_Sort_string_none none 0 W).mono ?_
    rintro e w' ⟨rfl, rfl⟩
    go_wp2
    go_ret
    exact ⟨⟨_, rfl, HE.out.1⟩, HE.out.2⟩
  · have hH : Holds encStr W gb 0 ss.toArray := holds_of_block hgb (by simpa using r4)
    have hgl : gb < W.heap.size := (Array.getElem?_eq_some_iff.1 hgb).1
    have HSO := Lib.hid (Tryz.slices_Sort_string gb 0 cap ss W hH hgl (by have := HSL.out; omega))
    have HNX := Lib.hid (fun nn os => (show (grow (putRow encStr (Sort.ahead W nn) gb 0 (ss.mergeSort fun x y => decide (x ≤ y)).toArray) os).ownsRow w.heap.size 9 1 (.slice (some ⟨gb, 0, none⟩) ss.length cap) zs.length ((sortedB zs).map encStr) ∧ Below w.heap.size w (grow (putRow encStr (Sort.ahead W nn) gb 0 (ss.mergeSort fun x y => decide (x ≤ y)).toArray) os) from by
      refine ⟨?_, hb.grown (grownBy_sorted _) hb.size (fun j hj => by cases hj; exact hbase)⟩
      rw [HSB.out, ← HSL.out]
      exact ownsRow_sorted (by simp) hbase hgb r1 r2 r3))
    generalize ss.length = sn at *
    clear hy hb hH hgl r1 r2 r3 r4 hgb
    go_wp2_with fail
    refine HSO.out.mono ?_
    rintro e w' ⟨rfl, nn, os, rfl⟩
    have HE := Lib.hid (HNX.out nn os)
    clear HNX HSO
    generalize grow (putRow encStr (Sort.ahead W nn) gb 0 (ss.mergeSort fun x y => decide (x ≤ y)).toArray) os = w9 at *
    go_wp2
    go_ret
    exact ⟨⟨_, rfl, HE.out.1⟩, HE.out.2⟩
end Go.Proofs.YtpkgiemdnfbopaaGreat
namespace Go.Proofs.YtpkgiemdnfbopaaGreat
open Go Go.RowKit Go.Sort
open Pl (K Con)
set_option linter.unusedSimpArgs false
set_option linter.unusedVariables false

theorem adj_strict : ∀ l : List (List UInt8), l.Pairwise (fun a b => a ≤ b) → (∀ (j : Nat) (h : j + 1 < l.length), l[j]'(by omega) ≠ l[j + 1]) → l.Pairwise (fun a b => a < b) := by
  intro l
  induction l with
  | nil => intro _ _; exact List.Pairwise.nil
  | cons x r ih =>
    intro hp hd
    rw [List.pairwise_cons] at hp
    have hr := ih hp.2 (fun j hj => by have := hd (j + 1) (by simpa using hj); simpa using this)
    rw [List.pairwise_cons]
    refine ⟨fun y hy => ?_, hr⟩
    cases r with
    | nil => cases hy
    | cons z s =>
      have hxz : x ≠ z := hd 0 (by simp)
      have h1 : x < z := by
        have h2 := hp.1 z List.mem_cons_self
        by_cases hl : x < z
        · exact hl
        · rw [List.not_lt] at hl
          exact absurd (List.le_antisymm h2 hl) hxz
      rcases List.mem_cons.1 hy with e | e
      · rw [e]; exact h1
      · exact List.lt_trans h1 ((List.pairwise_cons.1 hr).1 y e)
theorem compact_len_iff (l : List (List UInt8)) (hs : l.Pairwise (fun a b => a ≤ b)) : (Lib.compact l).length = l.length ↔ l.Nodup := by
  have hk : (Lib.compact l).length = l.length ↔ ∀ j, j < l.length → Lib.keeps l.toArray j = true := by
    unfold Lib.compact Lib.compactUpTo
    rw [List.length_map]
    constructor
    · intro h j hj
      have h2 : ((List.range l.length).filter (Lib.keeps l.toArray)).length = (List.range l.length).length := by rw [List.length_range]; exact h
      have h3 := (List.length_filter_eq_length_iff).1 h2
      exact h3 j (List.mem_range.2 hj)
    · intro h
      rw [List.filter_eq_self.2 (fun j hj => h j (List.mem_range.1 hj)), List.length_range]
  rw [hk]
  constructor
  · intro h
    have h2 := adj_strict l hs (fun j hj e => by
      have h3 := h (j + 1) hj
      rw [Lib.keeps_neg (by omega) (by simp [List.getElem?_eq_getElem hj, List.getElem?_eq_getElem (show j < l.length by omega), e])] at h3
      cases h3)
    exact h2.imp (fun {a b} hab e => by rw [e] at hab; exact List.lt_irrefl _ hab)
  · intro h j hj
    cases j with
    | zero => simp [Lib.keeps]
    | succ j =>
      refine Lib.keeps_pos (fun e => ?_)
      have h2 := (List.pairwise_iff_getElem.1 h) j (j + 1) (by omega) hj (by omega)
      simp [List.getElem?_eq_getElem hj, List.getElem?_eq_getElem (show j < l.length by omega)] at e
      exact h2 e.symm
theorem sortedB_sorted (zs : List ByteArray) : (sortedB zs).Pairwise (fun a b => a ≤ b) := by
  have h1 := List.pairwise_mergeSort (le := fun x y : List UInt8 => decide (x ≤ y)) (fun a b c h h' => by rw [decide_eq_true_iff] at *; exact List.le_trans h h') (fun a b => by
    rw [Bool.or_eq_true, decide_eq_true_iff, decide_eq_true_iff]
    exact List.le_total a b) (zs.map (fun z => z.data.toList))
  exact h1.imp (fun {a b} h => by rw [decide_eq_true_iff] at h; exact h)
theorem sortedB_len (zs : List ByteArray) : (sortedB zs).length = zs.length := by unfold sortedB; rw [List.length_mergeSort, List.length_map]
theorem sortedB_nodup (zs : List ByteArray) : (sortedB zs).Nodup ↔ zs.Nodup := by
  unfold sortedB
  rw [(List.mergeSort_perm _ _).nodup_iff]
  unfold List.Nodup
  rw [List.pairwise_map]
  constructor
  · exact fun h => h.imp (fun {a b} hab e => hab (by rw [e]))
  · exact fun h => h.imp (fun {a b} hab e => hab (bytes_ext (by rw [Lib.toList_data, Lib.toList_data, e])))
/-- as many as before just where none comes twice -/
theorem names_twice (zs : List ByteArray) : (Lib.compact (sortedB zs)).length = zs.length ↔ zs.Nodup := by
  rw [← sortedB_len zs, compact_len_iff _ (sortedB_sorted zs), sortedB_nodup]
set_option maxHeartbeats 1000000 in
theorem compactS_any (B : Nat) (zs : List ByteArray) (y : Value) (w : World) (h : w.ownsRow B 9 1 y zs.length ((sortedB zs).map encStr)) (hlen : zs.length ≤ 1000000) :
    Calls Tryz.prog 22 #[y] w fun e w' => (∃ a c, e = .returned (.slice a (Lib.compact (sortedB zs)).length c)) ∧ Below B w w' := by
  rcases h.2 with ⟨rfl, hz⟩ | ⟨gb, cap, cur, rfl, hbase, hgb, r1, r2, r3, r4⟩
  · have hz0 : zs = [] := List.eq_nil_of_length_eq_zero hz
    subst hz0
    refine (Tryz.slices_Compact_string_empty none 0 w).mono ?_
    rintro e w' ⟨rfl, rfl⟩
    refine ⟨⟨none, 0, ?_⟩, Below.refl _ _⟩
    have e0 : (Lib.compact (sortedB [])).length = 0 := (names_twice []).2 List.nodup_nil
    rw [e0]
  · have hH : Holds encStr w gb 0 (sortedB zs).toArray := holds_of_block hgb (by simpa [sortedB_len] using r4)
    have HC := Tryz.slices_Compact_string gb 0 cap (sortedB zs) w hH (by rw [sortedB_len]; omega) (by rw [sortedB_len]; exact r1)
    rw [sortedB_len] at HC
    refine HC.mono ?_
    rintro e w' ⟨rfl, q, rfl⟩
    exact ⟨⟨_, _, rfl⟩, Go.Lib.below_putRow (Below.refl _ _) hbase⟩
end Go.Proofs.YtpkgiemdnfbopaaGreat
namespace Go.Proofs.YtpkgiemdnfbopaaGreat
open Go Go.RowKit Go.Sort
open Pl (K Con)
set_option linter.unusedSimpArgs false
set_option linter.unusedVariables false

theorem wpListIn_append_lies9 {F : Fence} {m9 : Nat} {P : Program} {w : World} {ops : Array Oper} {rest : List Oper} {o : Oper} {a : Act} {Q : Exit → Act → World → Prop} (hgd : o.guard = none) (s x : Operand) (t : TypeId)
    (ho : o.op = .call { callee := .builtin .append, args := #[s, x], argTypes := #[t, t] })
    (base : Nat) (e : TypeId) (i : TypeInfo) (z : Value) (size bytes : Nat) (ht : P.underlying t = some (.slice e)) (hi : P.info? e = some i) (hz : i.zero = some z)
    (hsize : i.size = size) (hby : i.bytes = bytes) (hzs : z.cells.size = size) (hsz : 0 < size)
    (v : Value) (n : Nat) (xs : List Value) (hs : a.eval s = v) (hown : w.ownsRow base e size v n xs)
    (ad : Addr) (m c : Nat) (news : List Value) (hx : a.eval x = .slice (some ad) m c) (hl : news.length = m * size) (hnews : ∀ j u, news[j]? = some u → w.cell? (ad.add j) = some u) (h1 : ∀ u ∈ news, u.oneCell' = true)
    (hm : 0 < m) (h63 : n + m ≤ maxLen) (hbytes : (n + m) * bytes ≤ 140737488355328) (hbase : base ≤ w.heap.size) (H : Nat) (hH : w.heap.size = H)
    (h : ∀ g cap w', w'.ownsRow base e size (.slice (some ⟨g, 0, none⟩) (n + m) cap) (n + m) (xs ++ news) → w.grownBy w' v.ownBlock → (v.ownBlock = some g ∨ g = H) → g < w'.heap.size → wpListIn F m9 P ops Q rest (a.put o.dst (.slice (some ⟨g, 0, none⟩) (n + m) cap)) w') : wpListIn F m9 P ops Q (o :: rest) a w := by
  refine wpListIn_plain hgd fun K hK' => ?_
  obtain ⟨g, cap, w', hrun, h2, h3, h4, h5⟩ := run_append_lies (P := P) w t o.type base e i z size bytes ht hi hz hsize hby hzs hsz v n xs hown ad m c news hl hnews h1 hm h63 hbytes hbase H hH
  unfold Oper.wpIn
  refine ⟨?_, ?_⟩
  · simp [Oper.about, ho, resolve, Target.leads, Sem.run_pure]
  · rw [Oper.semAt_plain F _ _ (by rw [ho]; intro c hc'; cases hc')]
    simp [execOp, ho, resolve, invoke, builtin, hs, hx, hrun, Result.andThen]
    exact hK' _ _ (h g cap w' h2 h3 h4 h5)
/-- a row of its own that holds these constants, their kinds in new blocks too -/
structure CD (B : Nat) (wr : World) (l : List (ByteArray × K)) (us : List Value) (sv : Value) : Prop where
  row : wr.ownsRow B 36 2 sv l.length us
  kids : CstRow wr (fun q => (B ≤ q ∧ q < wr.heap.size) ∧ sv.ownBlock ≠ some q) us l
theorem CstRow.mono {w : World} {P Q : Nat → Prop} {us : List Value} {l : List (ByteArray × K)} (h : CstRow w P us l) (hs : ∀ b, P b → Q b) : CstRow w Q us l :=
  ⟨h.1, fun j hj => by obtain ⟨h1, ka, kn, kc, h2, h3, h4⟩ := h.2 j hj; exact ⟨h1, ka, kn, kc, h2, h3, h4.mono hs⟩⟩
theorem CD.nil (B : Nat) (wr : World) : CD B wr [] [] (.slice none 0 0) := ⟨World.ownsRow_nil _ _ _ _, rfl, fun j hj => absurd hj (Nat.not_lt_zero _)⟩
theorem CD.below {B : Nat} {wr W : World} {l : List (ByteArray × K)} {us : List Value} {sv : Value} (h : CD B wr l us sv) (hb : Below wr.heap.size wr W) : CD B W l us sv :=
  ⟨h.row.kept (row := none) ⟨hb.os, hb.tape, hb.output, hb.size, fun i hi _ => hb.block i hi⟩ (by cases ho : sv.ownBlock with | none => exact .inl rfl | some k => exact .inr (by simp)), (h.kids.keep (Same.of_below hb (fun q hq => hq.1.2))).mono (fun q hq => ⟨⟨hq.1.1, Nat.lt_of_lt_of_le hq.1.2 hb.size⟩, hq.2⟩)⟩
theorem CD.push {B gg cap n : Nat} {wr w1 : World} {l : List (ByteArray × K)} {us : List Value} {sv : Value} {c : ByteArray × K} {ka : Option Addr} {kn kc : Nat} {Q : Nat → Prop} (h : CD B wr l us sv) (hn : n = l.length)
    (hs : c.1.size ≤ maxLen) (hk : KidV wr Q c.2 (.slice ka kn kc)) (hQ : ∀ q, Q q → (B ≤ q ∧ q < wr.heap.size) ∧ sv.ownBlock ≠ some q)
    (hown : w1.ownsRow B 36 2 (.slice (some ⟨gg, 0, none⟩) (n + 1) cap) (n + 1) (us ++ [.string c.1, .slice ka kn kc])) (hgrow : (wr.alloc (.cells #[.string c.1, .slice ka kn kc] 36)).grownBy w1 sv.ownBlock) (hat : sv.ownBlock = some gg ∨ gg = wr.heap.size + 1) :
    CD B w1 (l ++ [c]) (us ++ [.string c.1, .slice ka kn kc]) (.slice (some ⟨gg, 0, none⟩) (n + 1) cap) := by
  subst hn
  have hs1 : wr.heap.size ≤ w1.heap.size := by have h1 := hgrow.size; rw [size_alloc] at h1; omega
  have hS : Same (fun q => (B ≤ q ∧ q < wr.heap.size) ∧ sv.ownBlock ≠ some q) wr w1 := fun q hq =>
    (hgrow.block q (by rw [size_alloc]; have := hq.1.2; omega) (fun e => hq.2 e.symm)).trans (Below.heap_alloc wr _ q hq.1.2)
  refine ⟨by rw [List.length_append]; exact hown, ((h.kids.push hs (hk.mono hQ)).keep hS).mono (fun q hq => ⟨⟨hq.1.1, by have := hq.1.2; omega⟩, fun e => ?_⟩)⟩
  have e : (some gg : Option Nat) = some q := e
  injection e with e
  rcases hat with h5 | h5
  · exact hq.2 (by rw [h5, e])
  · have := hq.1.2; omega
theorem CD.slice {B : Nat} {wr : World} {l : List (ByteArray × K)} {us : List Value} {sv : Value} (h : CD B wr l us sv) : CstSl wr (fun q => B ≤ q ∧ q < wr.heap.size) sv l := by
  have hc := h.row
  rcases h.row.2 with ⟨rfl, h0⟩ | ⟨g, cap, cu, rfl, hbg, hg, hnc, hcm, hcs, htake⟩
  · obtain rfl : l = [] := List.eq_nil_of_length_eq_zero h0
    exact ⟨none, 0, rfl, Nat.le_refl _, Nat.zero_le _, fun _ => rfl, .inl rfl⟩
  · refine ⟨_, cap, rfl, hnc, hcm, (fun h => by cases h), .inr ⟨g, 0, rfl, ⟨hbg, (hc.lt g rfl).2⟩, fun j hj => ?_⟩⟩
    obtain ⟨e1, ka, kn, kc, e2, e3, e4⟩ := h.kids.2 j hj
    refine ⟨e1, ka, kn, kc, ?_, ?_, e4.mono (fun q hq => hq.1)⟩
    · rw [Nat.zero_add, hc.cellAt (j * 2) (by omega), e2]
    · rw [Nat.zero_add, hc.cellAt (j * 2 + 1) (by omega), e3]
end Go.Proofs.YtpkgiemdnfbopaaGreat
namespace Go.Proofs.YtpkgiemdnfbopaaGreat
open Go Go.RowKit Go.Sort
open Pl (K Con)
set_option linter.unusedSimpArgs false
set_option linter.unusedVariables false
attribute [local go_sem] Oper.semAt_some

/-- two cells of boxes written -/
theorem twoSet {w : World} {g2 g3 : Nat} {T2 T3 : TypeId} {x2 x3 : Value} (y2 y3 : Value) (h2 : Blk w g2 T2 #[x2]) (h3 : Blk w g3 T3 #[x3]) (hne : g2 ≠ g3) :
    Blk ((w.setCell ⟨g2, 0, none⟩ y2).setCell ⟨g3, 0, none⟩ y3) g2 T2 #[y2] ∧ Blk ((w.setCell ⟨g2, 0, none⟩ y2).setCell ⟨g3, 0, none⟩ y3) g3 T3 #[y3] ∧ Blk (w.setCell ⟨g2, 0, none⟩ y2) g3 T3 #[x3] := by
  have a := blk_one (y := y2) h2
  have b : Blk (w.setCell ⟨g2, 0, none⟩ y2) g3 T3 #[x3] := h3.of_eq (Below.heap_setCell w _ _ g3 (show g3 ≠ g2 from fun e => hne e.symm))
  exact ⟨a.of_eq (Below.heap_setCell _ _ _ g2 (show g2 ≠ g3 from hne)), blk_one b, b⟩
theorem make_kmap (w : World) : (Instr.makeMap 83 none).run Tryz.prog w = .ok (.map (some w.heap.size)) (w.alloc (.map #[] 0)) := by
  first | kernel_rfl | simp [Instr.makeMap, go_sem]
theorem KMap.below {w W : World} {P : Nat → Prop} {b n : Nat} {zs : List (ByteArray × K)} (h : KMap w P b n zs) (hb : Below w.heap.size w W) (hP : ∀ q, P q → q < w.heap.size) : KMap W P b n zs :=
  h.kept (row := none) ⟨hb.os, hb.tape, hb.output, hb.size, fun i hi _ => hb.block i hi⟩ (by simp) (Same.of_below hb hP)
/-- what Consts answers -/
def consOut (t : Con) : List (ByteArray × K) × Int := if Con.validB t = true then (if Con.consB t = true then (Con.consL t, 0) else ([], 11)) else ([], 1)
def CsP (r : List (ByteArray × K) × Int) (w : World) (e : Ending) (w' : World) : Prop := (∃ y, e = .returned (.tuple #[y, .int .i64 r.2]) ∧ CstSl w' (fun q => w.heap.size ≤ q ∧ q < w'.heap.size) y r.1) ∧ Below w.heap.size w w'
/-- the constants among leaves -/
def csts {w0 : World} {n₀ : Nat} (ls : List (LeafC w0 n₀)) : List (ByteArray × K) := ls.filterMap (fun x => cstL x.proj)
theorem csts_proj {w0 : World} {n₀ : Nat} (ls : List (LeafC w0 n₀)) : csts ls = (ls.map LeafC.proj).filterMap cstL := by
  unfold csts
  rw [List.filterMap_map]
  rfl
theorem csts_snoc {w0 : World} {n₀ : Nat} (ls : List (LeafC w0 n₀)) (x : LeafC w0 n₀) : csts (ls ++ [x]) = csts ls ++ (if x.c.op = 2 then [(x.c.s, x.c.kind)] else []) := by
  unfold csts
  rw [List.filterMap_append]
  congr 1
  unfold cstL LeafC.proj
  by_cases h : x.c.op = 2 <;> simp [h]
theorem csts_valid {w0 : World} {n₀ : Nat} (ls : List (LeafC w0 n₀)) (s : ByteArray) (k : K) (h : (s, k) ∈ csts ls) : K.valid k = true := by
  unfold csts at h
  rw [List.mem_filterMap] at h
  obtain ⟨x, -, hx⟩ := h
  unfold cstL LeafC.proj at hx
  dsimp only at hx
  split at hx
  · injection hx with hx
    injection hx with _ hx
    rw [← hx]
    exact (node_facts x.c x.hn).1
  · cases hx
theorem csts_size {w0 : World} {n₀ : Nat} (ls : List (LeafC w0 n₀)) (s : ByteArray) (k : K) (h : (s, k) ∈ csts ls) : s.size ≤ maxLen := by
  unfold csts at h
  rw [List.mem_filterMap] at h
  obtain ⟨x, -, hx⟩ := h
  unfold cstL LeafC.proj at hx
  dsimp only at hx
  split at hx
  · injection hx with hx
    injection hx with hx _
    rw [← hx]
    exact ((conV_iff _ _ _ _).1 (x.hv w0 (Below.refl _ _))).1
  · cases hx
theorem encStr_toList (s : ByteArray) : encStr s.toList = .string s := by
  rw [Lib.toList_data]
/-- what a round over the leaves keeps -/
structure CJ (w w6 : World) (mb : Nat) (pre : List (LeafC w6 w.heap.size)) (W : World) : Prop where
  map : ∃ n, n ≤ pre.length ∧ KMap W (· < w.heap.size) mb n (csts pre)
  func : Func (csts pre)
  box : Blk W (mb + 1) 83 #[.map (some mb)]
  r2 : Blk W (w.heap.size + 1) 29 #[.slice none 0 0]
  r3 : Blk W (w.heap.size + 1 + 1) 39 #[.int .i64 0]
  bel : Below w.heap.size w6 W
structure CX (w w6 : World) (pre : List (LeafC w6 w.heap.size)) (W : World) : Prop where
  nf : ¬ Func (csts pre)
  r2 : Blk W (w.heap.size + 1) 29 #[.slice none 0 0]
  r3 : Blk W (w.heap.size + 1 + 1) 39 #[.int .i64 11]
  bel : Below w.heap.size w6 W
theorem CJ.own {w w6 : World} {mb B : Nat} (hB : mb < B) (hw : w.heap.size ≤ B) (h6 : w.heap.size ≤ w6.heap.size) : OwnFrom B (CJ w w6 mb) := fun s A D row h hg hr => by
  obtain ⟨⟨n, h1, h2⟩, hf, hb, hr2, hr3, hbel⟩ := h
  refine ⟨⟨n, h1, h2.kept hg (fun e => by have := (hr mb e.symm).1; omega) (fun q (hq : q < w.heap.size) => hg.block q (by have := hbel.size; omega) (fun e => by have := (hr q e.symm).1; omega))⟩, hf, blk_own (β := Unit) () A D row hb hg hr, blk_own (β := Unit) () A D row hr2 hg hr, blk_own (β := Unit) () A D row hr3 hg hr, hbel.grown hg (Nat.le_trans h6 hbel.size) (fun k e => Nat.le_trans hw (hr k e).1)⟩
theorem CX.own {w w6 : World} {B : Nat} (hw : w.heap.size ≤ B) (h6 : w.heap.size ≤ w6.heap.size) : OwnFrom B (CX w w6) := fun s A D row h hg hr => by
  obtain ⟨hf, hr2, hr3, hbel⟩ := h
  exact ⟨hf, blk_own (β := Unit) () A D row hr2 hg hr, blk_own (β := Unit) () A D row hr3 hg hr, hbel.grown hg (Nat.le_trans h6 hbel.size) (fun k e => Nat.le_trans hw (hr k e).1)⟩
set_option maxRecDepth 100000 in
set_option maxHeartbeats 4000000 in
theorem cconsts_any (t : Con) (w : World) (v : Value) (ht : ConV w (· < w.heap.size) t v) :
    Calls Tryz.prog 13 #[v] w (CsP (consOut t) w) := by
  refine wide_of (n := 12) (fun F HF => ?_)
  have hd : F.depth = none := by rw [HF.out]; rfl
  have hro : F.round = none := by rw [HF.out]; rfl
  have hf1 : F.fn 13 := by rw [HF.out]; trivial
  have hf2 : F.fn 53 := by rw [HF.out]; trivial
  have hlf : F.fn 107 := by rw [HF.out]; trivial
  have hf4 : F.fn 52 := by rw [HF.out]; trivial
  have hf5 : F.fn 54 := by rw [HF.out]; trivial
  have hf6 : F.fn 55 := by rw [HF.out]; trivial
  have hf7 : F.fn 23 := by rw [HF.out]; trivial
  have hf8 : F.fn 56 := by rw [HF.out]; trivial
  have hdd : ∀ k : Nat, (F.depth.isSome = true → 1 ≤ k) := fun k h => by rw [hd] at h; cases h
  have HV := Lib.hid (fun W (hW : Below w.heap.size w W) => cvalid_any (· < w.heap.size) t W v (fun q hq => Nat.lt_of_lt_of_le hq hW.size) (ht.keep (Same.of_below hW (fun _ h => h))))
  have HT := Lib.hid (fun W (hW : Below w.heap.size w W) => (ht.keep (Same.of_below hW (fun _ h => h))))
  obtain ⟨ka, kn, kc, na, nn, nc, la, ln, lc, rfl, -, -, -⟩ := ht.shape
  have HLV := Lib.hid (fun W => leaves_any W t.op t.n t.s ka na la kn kc nn nc ln lc)
  have HO := Lib.hid (show consOut t = if Con.validB t = true then (if Con.consB t = true then (Con.consL t, 0) else ([], 11)) else ([], 1) from rfl)
  have hb1 := boxN_new w 28 #[.int .i64 t.op, .int .i64 t.n, .string t.s, .slice ka kn kc, .slice na nn nc, .slice la ln lc]
  have hb2 := boxN_new (w.alloc (.cells #[.int .i64 t.op, .int .i64 t.n, .string t.s, .slice ka kn kc, .slice na nn nc, .slice la ln lc] 28)) 29 #[.slice none 0 0]
  have hb3 := boxN_new ((w.alloc (.cells #[.int .i64 t.op, .int .i64 t.n, .string t.s, .slice ka kn kc, .slice na nn nc, .slice la ln lc] 28)).alloc (.cells #[.slice none 0 0] 29)) 39 #[.int .i64 0]
  have k1 := (hb1.1.alloc (.cells #[.slice none 0 0] 29)).alloc (.cells #[.int .i64 0] 39)
  have k2 := hb2.1.alloc (.cells #[.int .i64 0] 39)
  have k3 := hb3.1
  have hbb := belowStep hb3.2 (belowStep hb2.2 hb1.2)
  rw [size_alloc] at k2
  rw [size_alloc, size_alloc] at k3
  have HBX := Lib.hid k1
  have HR2 := Lib.hid k2
  have HR3 := Lib.hid k3
  have HB := Lib.hid hbb
  have c0 := k1.cell 0 (.int .i64 t.op) rfl
  have c1 := k1.cell 1 (.int .i64 t.n) rfl
  have c2 := k1.cell 2 (.string t.s) rfl
  have c3 := k1.cell 3 (.slice ka kn kc) rfl
  have c4 := k1.cell 4 (.slice na nn nc) rfl
  have c5 := k1.cell 5 (.slice la ln lc) rfl
  clear hb1 hb2 hb3 k1 k2 k3 hbb ht
  refine callsIn_of_wp_marks Tryz.func13 rfl hf1 ?_ hro
  simp only [Tryz.ntmps13, List.size_toArray, List.length_cons, List.length_nil, Nat.reduceAdd, Nat.reduceSub, Array.replicate_succ, Array.replicate_zero, List.push_toArray, List.append_toArray, List.nil_append, List.cons_append]
  gi_wp2_with fail
  clear c0 c1 c2 c3 c4 c5
  generalize ((w.alloc (.cells #[.int .i64 t.op, .int .i64 t.n, .string t.s, .slice ka kn kc, .slice na nn nc, .slice la ln lc] 28)).alloc (.cells #[.slice none 0 0] 29)).alloc (.cells #[.int .i64 0] 39) = w1 at *
  refine (toF HF _ (HV.out _ HB.out)).mono ?_
  rintro e w2 ⟨rfl, h2⟩
  replace HB := Lib.hid (belowStep h2 HB.out)
  replace HBX := Lib.hid (HBX.out.of_eq (h2.block _ HBX.out.lt))
  replace HR2 := Lib.hid (HR2.out.of_eq (h2.block _ HR2.out.lt))
  replace HR3 := Lib.hid (HR3.out.of_eq (h2.block _ HR3.out.lt))
  clear h2
  cases hv : Con.validB t
  · have HOV := Lib.hid (show consOut t = ([], 1) from by rw [HO.out, if_neg (by rw [hv]; simp)])
    have hts := twoSet (.slice none 0 0) (.int .i64 1) HR2.out HR3.out (by omega)
    have x2 := HR2.out.cell 0 (.slice none 0 0) rfl
    have f2 := HR2.out.thaw 0
    have x3 := hts.2.2.cell 0 (.int .i64 0) rfl
    have f3 := hts.2.2.thaw 0
    have z2 := hts.1.cell 0 (.slice none 0 0) rfl
    have z3 := hts.2.1.cell 0 (.int .i64 1) rfl
    have HE := Lib.hid (show CsP (consOut t) w (.returned (.tuple #[.slice none 0 0, .int .i64 1])) ((w2.setCell ⟨w.heap.size + 1, 0, none⟩ (.slice none 0 0)).setCell ⟨w.heap.size + 1 + 1, 0, none⟩ (.int .i64 1)) from
      ⟨⟨_, by rw [HOV.out], by rw [HOV.out]; exact CstSl.none9 _ _⟩, (HB.out.setCell (p := ⟨w.heap.size + 1, 0, none⟩) (Nat.le_succ _) _).setCell (p := ⟨w.heap.size + 1 + 1, 0, none⟩) (by show w.heap.size ≤ w.heap.size + 1 + 1; omega) _⟩)
    clear HV HT HLV HBX HB HO HR2 HR3 hts HOV
    gi_wp2
    refine ⟨.tuple #[.slice none 0 0, .int .i64 1], by simp [results, Tryz.results13, Tryz.f13, go_sem, z2, z3], HE.out⟩
  have HVT := Lib.hid hv
  have HOV := Lib.hid (show consOut t = (if Con.consB t = true then (Con.consL t, 0) else ([], 11)) from by rw [HO.out, if_pos HVT.out])
  have HTS := Lib.hid (show t.size ≤ 20000 from by
    have h := HVT.out
    unfold Con.validB Con.small at h
    simp only [Bool.and_eq_true, decide_eq_true_eq] at h
    omega)
  rw [hv] at HV
  clear hv HV HO
  have hmm := make_kmap
  have hg2 := HR2.out.lt
  have hkm := kmap_new w2 (· < w.heap.size)
  have hbm : Below w2.heap.size w2 (w2.alloc (.map #[] 0)) := (Below.refl _ _).alloc (Nat.le_refl _) _
  obtain ⟨hb4, hbb4⟩ := boxN_new (w2.alloc (.map #[] 0)) 83 #[.map (some w2.heap.size)]
  have hbb := belowStep hbb4 hbm
  have HKM := Lib.hid (hkm.kept (World.grownBy_alloc _ (.cells #[.map (some w2.heap.size)] 83) none) (by simp) (Same.of_below hbb4 (fun q (hq : q < w.heap.size) => by rw [size_alloc]; have := HB.out.size; omega)))
  have HB4 := Lib.hid hb4
  replace HBX := Lib.hid (HBX.out.of_eq (hbb.block _ HBX.out.lt))
  have hr2 := HR2.out.of_eq (hbb.block _ HR2.out.lt)
  have hr3 := HR3.out.of_eq (hbb.block _ HR3.out.lt)
  have HGB := Lib.hid (show w.heap.size + 3 ≤ w2.heap.size from by have := HR3.out.lt; omega)
  have HBB := Lib.hid (belowStep hbb HB.out)
  have HS4 := Lib.hid (show ((w2.alloc (.map #[] 0)).alloc (.cells #[.map (some w2.heap.size)] 83)).heap.size = w2.heap.size + 2 from by rw [size_alloc, size_alloc])
  rw [size_alloc] at hb4 HB4
  have c0 := HBX.out.cell 0 (.int .i64 t.op) rfl
  have c1 := HBX.out.cell 1 (.int .i64 t.n) rfl
  have c2 := HBX.out.cell 2 (.string t.s) rfl
  have c3 := HBX.out.cell 3 (.slice ka kn kc) rfl
  have c4 := HBX.out.cell 4 (.slice na nn nc) rfl
  have c5 := HBX.out.cell 5 (.slice la ln lc) rfl
  clear hb4 hbb4 hbm hkm hbb
  gi_wp2_with fail
  clear c0 c1 c2 c3 c4 c5 hmm
  generalize (w2.alloc (.map #[] 0)).alloc (.cells #[.map (some w2.heap.size)] 83) = w4 at *
  obtain ⟨mb, hmb⟩ : ∃ mb, mb = w2.heap.size := ⟨_, rfl⟩
  rw [← hmb] at HKM HB4 HS4 HGB ⊢
  clear hmb hg2
  refine (toF HF _ (HLV.out _)).mono ?_
  rintro e w5 ⟨rfl, rfl⟩
  obtain ⟨hbc, hb5⟩ := boxN_new w4 28 #[.int .i64 t.op, .int .i64 t.n, .string t.s, .slice ka kn kc, .slice na nn nc, .slice la ln lc]
  have hsz5 := size_alloc w4 (.cells #[.int .i64 t.op, .int .i64 t.n, .string t.s, .slice ka kn kc, .slice na nn nc, .slice la ln lc] 28)
  have HKM6 := Lib.hid (HKM.out.below hb5 (fun q (hq : q < w.heap.size) => by have := HBB.out.size; omega))
  have hb4 := HB4.out.of_eq (hb5.block _ HB4.out.lt)
  have hr26 := hr2.of_eq (hb5.block _ hr2.lt)
  have hr36 := hr3.of_eq (hb5.block _ hr3.lt)
  have hb6 := belowStep hb5 HBB.out
  have hht := HT.out _ hb6
  have hs4 := HS4.out
  have hgb := HGB.out
  generalize w4.alloc (.cells #[.int .i64 t.op, .int .i64 t.n, .string t.s, .slice ka kn kc, .slice na nn nc, .slice la ln lc] 28) = w6 at *
  have hwz : w.heap.size ≤ w6.heap.size := hb6.size
  have hmb6 : mb + 1 < w6.heap.size := by omega
  have hg36 : w.heap.size + 1 + 1 < w6.heap.size := by omega
  have hlt6 : w4.heap.size < w6.heap.size := by omega
  clear hr2 hr3 HKM HB4 HS4 HGB HLV hs4 HBX
  gi_wp2_with fail
  refine wpIn_rangeFunc_ownH hro (by omega) (gf := 107) (lb := #[.pointer (some ⟨w4.heap.size, 0, none⟩)]) rfl hlf (enters_of Tryz.func107 (by kernel_rfl) rfl)
    (leavesC_stops F HF (12 - 1) w4.heap.size w.heap.size t ka na la kn kc nn nc ln lc w6 hwz hlt6 (valid_all t HVT.out) (valid_depth t HVT.out) (fun W' hW' => hbc.of_eq (hW'.block _ hbc.lt)) hht) belowK_t (belowK_b hwz) (Below.refl _ _) (fun _ => rfl)
    (CJ w w6 mb) (fun c pre W => c = .ret ∧ CX w w6 pre W) (CJ.own (by omega) hwz hwz) (fun c s A D row hs hg hr => ⟨hs.1, CX.own hwz hwz s A D row hs.2 hg hr⟩)
    ⟨⟨0, Nat.le_refl _, HKM6.out⟩, (fun s k k' h => by cases h), hb4, hr26, hr36, Below.refl _ _⟩
    (fun x a' W' => ∃ Bx, Blk W' Bx 28 #[.int .i64 x.c.op, .int .i64 x.c.n, .string x.c.s, .slice x.ka x.kn x.kc, .slice x.na x.nn x.nc, .slice x.la x.ln x.lc] ∧ a' = { tmps := #[.agg #[.int .i64 t.op, .int .i64 t.n, .string t.s, .slice ka kn kc, .slice na nn nc, .slice la ln lc], .pointer (some ⟨w.heap.size, 0, none⟩), .pointer (some ⟨w.heap.size + 1, 0, none⟩), .pointer (some ⟨w.heap.size + 1 + 1, 0, none⟩), .pointer (some ⟨mb + 1, 0, none⟩), .pointer (some ⟨Bx, 0, none⟩), undef, undef, undef, undef, undef, .agg #[.int .i64 t.op, .int .i64 t.n, .string t.s, .slice ka kn kc, .slice na nn nc, .slice la ln lc], .bool true, .bool false, .map (some mb), .agg #[.int .i64 t.op, .int .i64 t.n, .string t.s, .slice ka kn kc, .slice na nn nc, .slice la ln lc], .func (.func 107) #[] #[.pointer (some ⟨w4.heap.size, 0, none⟩)], .agg #[.int .i64 x.c.op, .int .i64 x.c.n, .string x.c.s, .slice x.ka x.kn x.kc, .slice x.na x.nn x.nc, .slice x.la x.ln x.lc], .int .i64 x.b, undef, undef, undef, undef, undef, undef, undef, undef, undef, undef, undef, undef, undef, undef, undef, undef, undef, undef, undef, undef, undef, undef, undef, undef, undef, undef, undef, undef, undef, undef, undef, undef, undef, undef, undef, undef, undef, undef, undef, undef, undef, undef], defers := [] })
    (fun x a' _ A D row hs hg hr => by obtain ⟨Bx, h1, h2⟩ := hs; exact ⟨Bx, blk_own (β := Unit) () A D row h1 hg hr, h2⟩)
    ?assign ?body ?done ?stop
  case assign =>
    rintro lp pre x W' K h1 hK
    unfold encLC
    gi_wp2
    exact hK _ _ ((KeepsOthers.alloc _ _).from _) ((Below.refl w.heap.size W').alloc (Nat.le_trans hwz h1.bel.size) _) ((CJ.own (B := w6.heap.size) (by omega) hwz hwz).alloc _ h1) ⟨W'.heap.size, blk_new W' _ _, rfl⟩
  case body =>
    rintro lp pre x a' W' hlp ⟨r, hr⟩ hj ⟨Bx, hBx, rfl⟩ hlt
    have e0 := hBx.cell 0 (.int .i64 x.c.op) rfl
    have e2 := hBx.cell 2 (.string x.c.s) rfl
    have e3 := hBx.cell 3 (.slice x.ka x.kn x.kc) rfl
    have y4 := hj.box.cell 0 (.map (some mb)) rfl
    have hWs := Nat.le_trans hwz hj.bel.size
    have hw6W := hj.bel.size
    by_cases hop : x.c.op = 2
    rotate_left
    · have q1 : (x.c.op != 2) = true := by simpa using hop
      have HE := Lib.hid (show KeepsFrom w6.heap.size W' W' ∧ Below w.heap.size W' W' ∧ CJ w w6 mb (pre ++ [x]) W' from
        ⟨KeepsFrom.refl _ _, Below.refl _ _, by
          have e : csts (pre ++ [x]) = csts pre := by rw [csts_snoc, if_neg hop, List.append_nil]
          obtain ⟨⟨n, h1, h2⟩, h3, h4, h5, h6, h7⟩ := hj
          exact ⟨⟨n, by rw [List.length_append]; omega, by rw [e]; exact h2⟩, by rw [e]; exact h3, h4, h5, h6, h7⟩⟩)
      clear hj hop
      gi_wp2
      exact HE.out
    have q1 : (x.c.op != 2) = false := by simpa using hop
    have HCS := Lib.hid (show csts (pre ++ [x]) = csts pre ++ [(x.c.s, x.c.kind)] from by rw [csts_snoc, if_pos hop])
    have hcv := x.hv W' hj.bel
    have HSS := Lib.hid ((conV_iff _ _ _ _).1 hcv).1
    have HKV := Lib.hid (show KidV W' (· < w.heap.size) x.c.kind (.slice x.ka x.kn x.kc) from by
      obtain ⟨-, kv', nv', lv', e, hk, hn, hl⟩ := (conV_iff _ _ _ _).1 hcv
      simp only [Value.agg.injEq, Array.mk.injEq, List.cons.injEq, and_true, true_and] at e
      obtain ⟨rfl, rfl, rfl⟩ := e
      exact hk)
    have HVK := Lib.hid (node_facts x.c x.hn).1
    have HJ := Lib.hid hj
    have HFU := Lib.hid hj.func
    obtain ⟨mn, hmn, hkm⟩ := hj.map
    have HMN := Lib.hid (show mn < maxLen from by unfold maxLen; have := HTS.out; omega)
    have HML := Lib.hid hmn
    have hlk := kmap_look hkm x.c.s HSS.out
    clear hcv hop hmn
    by_cases hfd : ∃ k, (x.c.s, k) ∈ csts pre
    · obtain ⟨k9, hk9⟩ := hfd
      obtain ⟨fa, fn, fc, hl9, hfk⟩ := hlk.1 k9 hk9
      clear hlk
      have HK9 := Lib.hid (csts_valid pre _ _ hk9)
      obtain ⟨hb7, hbb7⟩ := boxN_new W' 24 #[.slice fa fn fc]
      have x6 := hb7.cell 0 (.slice fa fn fc) rfl
      have e3' := (hBx.of_eq (hbb7.block _ hBx.lt)).cell 3 (.slice x.ka x.kn x.kc) rfl
      have HEQ := Lib.hid (equal_any_k8 (· < w.heap.size) (· < w.heap.size) k9 x.c.kind (W'.alloc (.cells #[.slice fa fn fc] 24)) (.agg #[.slice fa fn fc]) (.agg #[.slice x.ka x.kn x.kc]) (fun q hq => Nat.lt_of_lt_of_le hq (Nat.le_trans hWs hbb7.size)) (fun q hq => Nat.lt_of_lt_of_le hq (Nat.le_trans hWs hbb7.size)) ⟨_, rfl, hfk.keep (Same.of_below hbb7 (fun q (hq : q < w.heap.size) => by omega))⟩ ⟨_, rfl, HKV.out.keep (Same.of_below hbb7 (fun q (hq : q < w.heap.size) => by omega))⟩)
      have HBB7 := Lib.hid hbb7
      have HRE := Lib.hid (show (K.valid k9 && K.valid x.c.kind && K.eqv k9 x.c.kind) = K.eqv k9 x.c.kind from by rw [HK9.out, HVK.out]; simp)
      have HEI := Lib.hid (Pl.K.eqv_iff k9 x.c.kind)
      rw [HRE.out] at HEQ
      generalize K.eqv k9 x.c.kind = rr at *
      clear hb7 hbb7 hfk HRE
      gi_wp2_with fail
      refine (toF HF _ HEQ.out).mono ?_
      rintro e W3 ⟨rfl, hb3⟩
      have hb37 := belowStep hb3 HBB7.out
      cases rr
      · have hts := twoSet (.slice none 0 0) (.int .i64 11) (HJ.out.r2.of_eq (hb37.block _ HJ.out.r2.lt)) (HJ.out.r3.of_eq (hb37.block _ HJ.out.r3.lt)) (by omega)
        have x2 := (HJ.out.r2.of_eq (hb37.block _ HJ.out.r2.lt)).cell 0 (.slice none 0 0) rfl
        have f2 := (HJ.out.r2.of_eq (hb37.block _ HJ.out.r2.lt)).thaw 0
        have x3 := hts.2.2.cell 0 (.int .i64 0) rfl
        have f3 := hts.2.2.thaw 0
        have hbl : Below w.heap.size W' ((W3.setCell ⟨w.heap.size + 1, 0, none⟩ (.slice none 0 0)).setCell ⟨w.heap.size + 1 + 1, 0, none⟩ (.int .i64 11)) := ((hb37.mono hWs).setCell (p := ⟨w.heap.size + 1, 0, none⟩) (Nat.le_succ _) _).setCell (p := ⟨w.heap.size + 1 + 1, 0, none⟩) (by show w.heap.size ≤ w.heap.size + 1 + 1; omega) _
        have HE := Lib.hid (show KeepsFrom w6.heap.size W' ((W3.setCell ⟨w.heap.size + 1, 0, none⟩ (.slice none 0 0)).setCell ⟨w.heap.size + 1 + 1, 0, none⟩ (.int .i64 11)) ∧ CX w w6 (pre ++ [x]) ((W3.setCell ⟨w.heap.size + 1, 0, none⟩ (.slice none 0 0)).setCell ⟨w.heap.size + 1 + 1, 0, none⟩ (.int .i64 11)) from
          ⟨⟨hbl.size, fun k o hk ho hc => by
            have hkl : k < W'.heap.size := (Array.getElem?_eq_some_iff.1 ho).1
            rw [Below.heap_setCell _ _ _ k (show k ≠ w.heap.size + 1 + 1 by omega), Below.heap_setCell _ _ _ k (show k ≠ w.heap.size + 1 by omega), hb37.block k hkl, ho]⟩,
           ⟨(fun hf => by
              have h1 := hf x.c.s k9 x.c.kind (by rw [HCS.out]; exact List.mem_append_left _ hk9) (by rw [HCS.out]; exact List.mem_append_right _ (List.mem_singleton.2 rfl))
              have h2 := HEI.out.2 h1
              cases h2), hts.1, hts.2.1, HJ.out.bel.trans hbl⟩⟩)
        clear hts hbl hb37 hb3 hkm hj HKV
        gi_wp2
        exact ⟨HE.out.1, rfl, HE.out.2⟩
      · have HKK := Lib.hid (HEI.out.1 rfl)
        obtain ⟨W4, hrun, hkm4, hgr4⟩ := kmap_put (hkm.below hb37 (fun q (hq : q < w.heap.size) => by omega)) HMN.out x.c.s HSS.out x.c.kind (fun k' hk' => (HFU.out _ _ _ hk' hk9).trans HKK.out) x.ka x.kn x.kc (HKV.out.keep (Same.of_below hb37 (fun q (hq : q < w.heap.size) => by omega))) (by omega) (fun q (hq : q < w.heap.size) => by have := hb37.size; omega)
        have y4' := (HJ.out.box.of_eq (hb37.block _ HJ.out.box.lt)).cell 0 (.map (some mb)) rfl
        have e2' := (hBx.of_eq (hb37.block _ hBx.lt)).cell 2 (.string x.c.s) rfl
        have e3'' := (hBx.of_eq (hb37.block _ hBx.lt)).cell 3 (.slice x.ka x.kn x.kc) rfl
        have HE := Lib.hid (show KeepsFrom w6.heap.size W' W4 ∧ Below w.heap.size W' W4 ∧ CJ w w6 mb (pre ++ [x]) W4 from by
          have hk4 : ∀ k, k < W'.heap.size → k ≠ mb → W4.heap[k]? = W'.heap[k]? := fun k hk hne => (hgr4.block k (Nat.lt_of_lt_of_le hk hb37.size) (fun e => by injection e with e; exact hne e)).trans (hb37.block k hk)
          have hsz4 : W'.heap.size ≤ W4.heap.size := Nat.le_trans hb37.size hgr4.size
          have hbl : Below w.heap.size W' W4 := (hb37.mono hWs).grown hgr4 (Nat.le_trans hWs hb37.size) (fun j hj => by injection hj with hj; omega)
          refine ⟨⟨hsz4, fun k o hk ho hc => (hk4 k (Array.getElem?_eq_some_iff.1 ho).1 (by omega)).trans ho⟩, hbl, ⟨mn + 1, by rw [List.length_append, List.length_singleton]; have := HML.out; omega, by rw [HCS.out]; exact hkm4⟩, ?_, HJ.out.box.of_eq (hk4 _ HJ.out.box.lt (by omega)), HJ.out.r2.of_eq (hk4 _ HJ.out.r2.lt (by omega)), HJ.out.r3.of_eq (hk4 _ HJ.out.r3.lt (by omega)), HJ.out.bel.trans hbl⟩
          rw [HCS.out]
          intro s k k' h1 h2
          rcases List.mem_append.1 h1 with h1 | h1 <;> rcases List.mem_append.1 h2 with h2 | h2
          · exact HFU.out _ _ _ h1 h2
          · rw [List.mem_singleton] at h2
            injection h2 with h2 h3
            subst h2 h3
            exact (HFU.out _ _ _ h1 hk9).trans HKK.out
          · rw [List.mem_singleton] at h1
            injection h1 with h1 h3
            subst h1 h3
            exact ((HFU.out _ _ _ h2 hk9).trans HKK.out).symm
          · rw [List.mem_singleton] at h1 h2
            injection h1 with _ h1
            injection h2 with _ h2
            rw [h1, h2])
        clear hb37 hb3 hkm hj HKV hkm4 hgr4 hBx
        gi_wp2
        exact HE.out
    · have hnf : ∀ k, (x.c.s, k) ∉ csts pre := fun k h => hfd ⟨k, h⟩
      have hl9 := hlk.2 hnf
      clear hlk
      obtain ⟨hb7, hb37⟩ := boxN_new W' 24 #[.slice none 0 0]
      obtain ⟨W4, hrun, hkm4, hgr4⟩ := kmap_put (hkm.below hb37 (fun q (hq : q < w.heap.size) => by omega)) HMN.out x.c.s HSS.out x.c.kind (fun k' hk' => absurd hk' (hnf k')) x.ka x.kn x.kc (HKV.out.keep (Same.of_below hb37 (fun q (hq : q < w.heap.size) => by omega))) (by omega) (fun q (hq : q < w.heap.size) => by have := hb37.size; omega)
      have y4' := (HJ.out.box.of_eq (hb37.block _ HJ.out.box.lt)).cell 0 (.map (some mb)) rfl
      have e2' := (hBx.of_eq (hb37.block _ hBx.lt)).cell 2 (.string x.c.s) rfl
      have e3'' := (hBx.of_eq (hb37.block _ hBx.lt)).cell 3 (.slice x.ka x.kn x.kc) rfl
      have HE := Lib.hid (show KeepsFrom w6.heap.size W' W4 ∧ Below w.heap.size W' W4 ∧ CJ w w6 mb (pre ++ [x]) W4 from by
        have hk4 : ∀ k, k < W'.heap.size → k ≠ mb → W4.heap[k]? = W'.heap[k]? := fun k hk hne => (hgr4.block k (Nat.lt_of_lt_of_le hk hb37.size) (fun e => by injection e with e; exact hne e)).trans (hb37.block k hk)
        have hsz4 : W'.heap.size ≤ W4.heap.size := Nat.le_trans hb37.size hgr4.size
        have hbl : Below w.heap.size W' W4 := (hb37.mono hWs).grown hgr4 (Nat.le_trans hWs hb37.size) (fun j hj => by injection hj with hj; omega)
        refine ⟨⟨hsz4, fun k o hk ho hc => (hk4 k (Array.getElem?_eq_some_iff.1 ho).1 (by omega)).trans ho⟩, hbl, ⟨mn + 1, by rw [List.length_append, List.length_singleton]; have := HML.out; omega, by rw [HCS.out]; exact hkm4⟩, ?_, HJ.out.box.of_eq (hk4 _ HJ.out.box.lt (by omega)), HJ.out.r2.of_eq (hk4 _ HJ.out.r2.lt (by omega)), HJ.out.r3.of_eq (hk4 _ HJ.out.r3.lt (by omega)), HJ.out.bel.trans hbl⟩
        rw [HCS.out]
        intro s k k' h1 h2
        rcases List.mem_append.1 h1 with h1 | h1 <;> rcases List.mem_append.1 h2 with h2 | h2
        · exact HFU.out _ _ _ h1 h2
        · rw [List.mem_singleton] at h2
          injection h2 with h2 h3
          subst h2 h3
          exact absurd h1 (hnf _)
        · rw [List.mem_singleton] at h1
          injection h1 with h1 h3
          subst h1 h3
          exact absurd h2 (hnf _)
        · rw [List.mem_singleton] at h1 h2
          injection h1 with _ h1
          injection h2 with _ h2
          rw [h1, h2])
      clear hb37 hkm hj HKV hkm4 hgr4 hBx hnf hfd hb7
      gi_wp2
      exact HE.out
  case done =>
    rintro D xs W hD hS hj hK
    have hL : csts xs = Con.cstsOf t := by unfold Con.cstsOf; rw [csts_proj, hS]
    have hfun := hj.func
    have hval := csts_valid xs
    have hszs := csts_size xs
    obtain ⟨mn, hmn, hkm⟩ := hj.map
    rw [hL] at hfun hkm hval hszs
    have hxl : xs.length ≤ 20000 := by
      have h1 := congrArg List.length hS
      rw [List.length_map] at h1
      have h2 := leafCs_size t 0
      have := HTS.out
      omega
    have hcb : distB (Con.putC t []) = true := by rw [putC_cput t (valid_all t HVT.out), distB_func]; exact hfun
    have HOW := Lib.hid (show consOut t = (cput (Con.cstsOf t), 0) from by
      rw [HOV.out, if_pos (show Con.consB t = true from hcb)]
      unfold Con.consL
      rw [if_pos hcb, putC_cput t (valid_all t HVT.out)])
    have hLlen : (cput (Con.cstsOf t)).length ≤ 20000 := by
      have h1 := putC_len t []
      rw [putC_cput t (valid_all t HVT.out)] at h1
      have := HTS.out
      simp at h1
      omega
    generalize Con.cstsOf t = L at *
    obtain ⟨D0, hD0, hsz0, hkeys⟩ := kmap_keys hkm
    have HSO := Lib.hid (sortedZ_any mb mn D0 keep9 W hD0 (by unfold maxLen; omega) (by omega))
    have HKY := Lib.hid (keysZ_any (some mb) W)
    have HKEY := Lib.hid hkeys
    have HFU := Lib.hid hfun
    have HVAL := Lib.hid hval
    have HSZS := Lib.hid hszs
    have HKMP := Lib.hid hkm
    have HBOX := Lib.hid hj.box
    have HBW := Lib.hid (hb6.trans hj.bel)
    have HDK := Lib.hid hK
    have HDD := Lib.hid (show w.heap.size + 1 + 1 < D ∧ D < W.heap.size from ⟨Nat.lt_of_lt_of_le hg36 hD, (Array.getElem?_eq_some_iff.1 hK).1⟩)
    have HR2W := Lib.hid hj.r2
    have HR3W := Lib.hid hj.r3
    have y4 := hj.box.cell 0 (.map (some mb)) rfl
    clear hj hL hfun hval hszs hkm hD0 hkeys hcb HOV hS hmn hsz0 hxl hK hD hht hb6 hbc hb5 hb4 hr26 hr36 HKM6 HBB hgb hlt6 hg36 HT
    gi_wp2_with fail
    refine (toF HF _ HKY.out).mono ?_
    rintro e W5 ⟨rfl, rfl⟩
    gi_wp2_with fail
    refine (toF HF _ HSO.out).mono ?_
    rintro e W6 ⟨y, ss, rfl, hperm, hrow, -, hb⟩
    obtain ⟨k1, k2, k3⟩ := HKEY.out ss hperm
    have hns := names_sorted HFU.out k1 k2 k3
    have hsl : ss.length = (cput L).length := by have h := congrArg List.length hns; rw [List.length_mergeSort, List.length_map] at h; exact h
    rw [hns, hsl] at hrow
    have HB6 := Lib.hid (show Below W.heap.size W W6 from ((Below.refl _ _).alloc (Nat.le_refl _) _).trans (hb.mono (by simp)))
    have hrow2 : W6.ownsRow (W.alloc (.cells #[.map (some mb)] 83)).heap.size 9 1 y ((cput L).map (fun c => c.1)).length (((cput L).map (fun c => c.1)).map Value.string) := by
      rw [List.length_map]
      rw [show ((cput L).map (fun c => c.1)).map Value.string = ((cput L).map (fun c => c.1.toList)).map encStr from by rw [List.map_map, List.map_map]; exact List.map_congr_left (fun c _ => (encStr_toList c.1).symm)]
      exact hrow
    have HCM := Lib.hid (fun (c : ByteArray × K) (hc : c ∈ cput L) => (cput_mem L c).1 hc)
    have hstr := strSl_row hrow2 (fun z hz => by
      obtain ⟨c, hc, rfl⟩ := List.mem_map.1 hz
      exact HSZS.out c.1 c.2 (HCM.out c hc))
    have HSTR := Lib.hid (fun W' (hW : Below W6.heap.size W6 W') => hstr.keep (Same.of_below hW (fun q hq => hq.2)))
    obtain ⟨m, hm⟩ : ∃ m, m = (cput L).length := ⟨_, rfl⟩
    have HM := Lib.hid hm
    obtain ⟨ya, yc, hyv⟩ := row_form6 hrow
    rw [← hm] at hyv hLlen
    subst hyv
    obtain ⟨iC, ci0, ci1, ci2, ci3⟩ := info_parts infoCst
    clear hperm k1 k2 k3 hns hsl hrow hrow2 hstr hb hm HSO HKY HKEY y4
    gi_wp2_with fail
    gi_loopw [8, 46] (fun ov i wr => ∃ (k : Nat) (us : List Value), k ≤ m ∧ i = .int .i64 k ∧ CD W6.heap.size wr ((cput L).take k) us ov ∧ Below W6.heap.size W6 wr) (fun _ i _ => m - (intOf i).toNat)
    case atStart => exact ⟨0, [], Nat.zero_le _, rfl, by rw [List.take_zero]; exact CD.nil _ _, Below.refl _ _⟩
    case round =>
      obtain ⟨k, us, hk, rfl, hcd, hbw⟩ := hrel
      have HCD := Lib.hid hcd
      have HBZ := Lib.hid hbw
      have hw6r := hbw.size
      have hbWr : Below W.heap.size W wr := HB6.out.trans (hbw.mono HB6.out.size)
      have hwW : w.heap.size ≤ W.heap.size := HBW.out.size
      have hW6 : W.heap.size ≤ W6.heap.size := HB6.out.size
      by_cases hlt : k < m
      · have q5 : decide ((k : Int) < (m : Int)) = true := decide_eq_true (by omega)
        have hkl : k < (cput L).length := by rw [← HM.out]; exact hlt
        have hkn : k < ((cput L).map (fun c => c.1)).length := by rw [List.length_map]; exact hkl
        have hcell : ∃ b off, ya = some ⟨b, off, none⟩ ∧ wr.cell? ⟨b, off + k, none⟩ = some (.string (cput L)[k].1) := by
          obtain ⟨a', c', e, -, -, -, -, h8⟩ := HSTR.out wr hbw
          injection e with e1 e2 e3
          subst e1
          rcases h8 with h8 | ⟨b, off, rfl, -, h9⟩
          · rw [h8] at hkn; exact absurd hkn (Nat.not_lt_zero _)
          · have h := h9 k hkn
            rw [List.getElem_map] at h
            exact ⟨b, off, rfl, h⟩
        obtain ⟨b, off, ea, f0⟩ := hcell
        subst ea
        have HTK := Lib.hid (show (cput L).take (k + 1) = (cput L).take k ++ [(cput L)[k]] from List.take_succ_eq_append_getElem hkl)
        have hmem : ((cput L)[k].1, (cput L)[k].2) ∈ L := HCM.out (cput L)[k] (List.getElem_mem hkl)
        have hsz9 := HSZS.out _ _ hmem
        have hvl9 := HVAL.out _ _ hmem
        obtain ⟨fa, fn, fc, hget, hfk⟩ := kmap_get (HKMP.out.below hbWr (fun q (hq : q < w.heap.size) => by omega)) _ hsz9 _ hmem
        have HCO := Lib.hid (copiedKind_any (· < w.heap.size) _ wr (.agg #[.slice fa fn fc]) (fun q (hq : q < w.heap.size) => by omega) ⟨_, rfl, hfk⟩ hvl9)
        have y5 := (HBOX.out.of_eq (hbWr.block _ HBOX.out.lt)).cell 0 (.map (some mb)) rfl
        have HSZ9 := Lib.hid hsz9
        generalize hck : (cput L)[k] = ck at *
        obtain ⟨s9, k9⟩ := ck
        dsimp only at *
        have hkl2 : ((cput L).take k).length = k := by rw [List.length_take]; omega
        have HKL := Lib.hid hkl2.symm
        obtain ⟨ca, cc, hov⟩ := row_form6 HCD.out.row
        rw [hkl2] at hov
        subst hov
        clear hcd hbw hkl hkn hmem hsz9 hvl9 hfk hck hkl2 hbWr
        gi_wp2_with fail
        refine (toF HF _ HCO.out).mono ?_
        rintro e W7 ⟨⟨ra, rc, rfl, hrk⟩, hb7⟩
        have HRK := Lib.hid hrk
        have HB7 := Lib.hid hb7
        have HCD7 := Lib.hid (HCD.out.below hb7)
        have hs7 := hb7.size
        generalize k9.l.length = rn at *
        have hrow7 : (W7.alloc (.cells #[.string s9, .slice ra rn rc] 36)).ownsRow W6.heap.size 36 2 (.slice ca k cc) k us := by
          have h := HCD7.out.row
          rw [← HKL.out] at h
          exact h.alloc _
        have hsz7 : (W7.alloc (.cells #[.string s9, .slice ra rn rc] 36)).heap.size = W7.heap.size + 1 := size_alloc _ _
        clear hrk hb7 HCO
        gi_wp2_with (first
          | (gi_at_builtin; refine wpListIn_append_lies9 rfl _ _ 29 rfl W6.heap.size 36 iC (.agg #[.string ByteArray.empty, .slice none 0 0]) 2 40 Tryz.underlying29 ci0 ci1 ci2 ci3 rfl (by decide) _ _ _ rfl hrow7 ⟨W7.heap.size, 0, none⟩ 1 1 [.string s9, .slice ra rn rc] rfl rfl ?c1 ?c2 (by decide) ?c3 ?c4 ?c5 (W7.heap.size + 1) hsz7 ?_)
          | gi_in)
        case c1 =>
          intro j u hj
          match j, hj with
          | 0, hj => simp at hj; subst hj; simp [Addr.add]
          | 1, hj => simp at hj; subst hj; simp [Addr.add]
          | j + 2, hj => simp at hj
        case c2 => first | rfl | (intro u hu; simp at hu; rcases hu with rfl | rfl <;> rfl)
        case c3 => unfold maxLen; omega
        case c4 => omega
        case c5 => rw [hsz7]; omega
        intro gg cap w8 hown hgrow hat hlt8
        have HCD8 := Lib.hid (HCD7.out.push (c := (s9, k9)) HKL.out HSZ9.out HRK.out (fun q (hq : From wr.heap.size W7 q) => ⟨⟨Nat.le_trans hw6r hq.1, hq.2⟩, fun e => by have := (HCD.out.row.lt q e).2; have := hq.1; omega⟩) hown hgrow hat)
        have HB8 := Lib.hid (((belowStep HB7.out HBZ.out).alloc (Nat.le_trans hw6r hs7) (.cells #[.string s9, .slice ra rn rc] 36)).grown hgrow (by rw [hsz7]; omega) (fun j hj => (HCD.out.row.lt j hj).1))
        rw [← HTK.out] at HCD8
        clear hown hgrow hat hlt8 hrow7 hsz7 f0 y5 hget
        gi_wp2
        go_roundw
        case rel => exact ⟨k + 1, _, by omega, by go_num, HCD8.out, HB8.out⟩
        case measure => first | (simp [intOf]; done) | (simp [intOf]; omega)
      · have q5 : decide ((k : Int) < (m : Int)) = false := decide_eq_false (by omega)
        have hta : (cput L).take k = cput L := List.take_of_length_le (by rw [← HM.out]; omega)
        rw [hta] at hcd
        obtain ⟨oa, oc, hov⟩ := row_form6 hcd.row
        rw [← HM.out] at hov
        subst hov
        have hd1 := HDD.out
        have r2 := HR2W.out.of_eq (hbWr.block _ HR2W.out.lt)
        have r3 := HR3W.out.of_eq (hbWr.block _ HR3W.out.lt)
        have hts := twoSet (.slice oa m oc) (.int .i64 0) r2 r3 (by omega)
        have x2 := r2.cell 0 (.slice none 0 0) rfl
        have f2 := r2.thaw 0
        have x3 := hts.2.2.cell 0 (.int .i64 0) rfl
        have f3 := hts.2.2.thaw 0
        obtain ⟨WZ, hWZ⟩ : ∃ WZ, WZ = (wr.setCell ⟨w.heap.size + 1, 0, none⟩ (.slice oa m oc)).setCell ⟨w.heap.size + 1 + 1, 0, none⟩ (.int .i64 0) := ⟨_, rfl⟩
        have hother : ∀ q, q ≠ w.heap.size + 1 → q ≠ w.heap.size + 1 + 1 → WZ.heap[q]? = wr.heap[q]? := fun q h1 h2 => by
          rw [hWZ, Below.heap_setCell _ _ _ q (show q ≠ w.heap.size + 1 + 1 from h2), Below.heap_setCell _ _ _ q (show q ≠ w.heap.size + 1 from h1)]
        have hzs : WZ.heap.size = wr.heap.size := by rw [hWZ]; simp
        have hKZ : WZ.heap[D]? = some (.deferred (some [])) := by
          rw [hother D (by omega) (by omega), hbWr.block D hd1.2]
          exact HDK.out
        have hblZ : Below w.heap.size w WZ := by
          rw [hWZ]
          exact ((HBW.out.trans (hbWr.mono hwW)).setCell (p := ⟨w.heap.size + 1, 0, none⟩) (Nat.le_succ _) _).setCell (p := ⟨w.heap.size + 1 + 1, 0, none⟩) (by show w.heap.size ≤ w.heap.size + 1 + 1; omega) _
        have hpo : ∀ q, q ≠ D → (WZ.putObj D (.deferred none)).heap[q]? = WZ.heap[q]? := fun q h => World.putObj_heap_other h
        have hps : (WZ.putObj D (.deferred none)).heap.size = WZ.heap.size := by simp
        rw [← hWZ] at hts
        have z2 := (hts.1.of_eq (hpo _ (by omega))).cell 0 (.slice oa m oc) rfl
        have z3 := (hts.2.1.of_eq (hpo _ (by omega))).cell 0 (.int .i64 0) rfl
        have HE := Lib.hid (show CsP (consOut t) w (.returned (.tuple #[.slice oa m oc, .int .i64 0])) (WZ.putObj D (.deferred none)) from
          ⟨⟨_, by rw [HOW.out], by
            rw [HOW.out]
            refine (hcd.slice.keep (w' := WZ.putObj D (.deferred none)) (fun q hq => (hpo q (by have := hq.1; omega)).trans (hother q (by have := hq.1; omega) (by have := hq.1; omega)))).mono (fun q hq => ⟨by have := hq.1; omega, by rw [hps, hzs]; exact hq.2⟩)⟩,
           hblZ.trans (belowK_b (w := w) (Nat.le_refl _) _ D _ (.deferred none) (by omega) hKZ rfl rfl)⟩)
        have HKZ := Lib.hid hKZ
        have HWZ := Lib.hid hWZ
        clear hts hother hzs hKZ hblZ hpo hps hcd hbWr hbw hd1 r2 r3 hta HR2W HR3W HSTR HCM HKMP HVAL HSZS HFU HBOX HCD HBZ
        gi_wp2
        rw [← HWZ.out]
        refine ⟨by simp, .inl ⟨_, _, rfl, run_takeDeferred HKZ.out, ?_⟩⟩
        refine ⟨.tuple #[.slice oa m oc, .int .i64 0], by simp [results, Tryz.results13, Tryz.f13, go_sem, z2, z3], ?_⟩
        exact HE.out
  case stop =>
    rintro D c pre W hD hpf ⟨rfl, hx⟩ hK
    have hnf : Con.consB t = false := by
      cases h : Con.consB t
      · rfl
      · exfalso
        unfold Con.consB at h
        rw [putC_cput t (valid_all t HVT.out), distB_func] at h
        refine hx.nf (fun s k k' h1 h2 => h s k k' ?_ ?_)
        · unfold Con.cstsOf
          rw [csts_proj] at h1
          exact (hpf.filterMap _).subset h1
        · unfold Con.cstsOf
          rw [csts_proj] at h2
          exact (hpf.filterMap _).subset h2
    have e2 : (W.putObj D (.deferred none)).heap[w.heap.size + 1]? = W.heap[w.heap.size + 1]? := World.putObj_heap_other (by omega)
    have e3 : (W.putObj D (.deferred none)).heap[w.heap.size + 1 + 1]? = W.heap[w.heap.size + 1 + 1]? := World.putObj_heap_other (by omega)
    have z2 := (hx.r2.of_eq e2).cell 0 (.slice none 0 0) rfl
    have z3 := (hx.r3.of_eq e3).cell 0 (.int .i64 11) rfl
    have HE := Lib.hid (show CsP (consOut t) w (.returned (.tuple #[.slice none 0 0, .int .i64 11])) (W.putObj D (.deferred none)) from
      ⟨⟨_, by rw [HOV.out, hnf]; rfl, by rw [HOV.out, hnf]; exact CstSl.none9 _ _⟩, (hb6.trans (hx.bel)).trans (belowK_b (w := w) (Nat.le_refl _) _ D _ (.deferred none) (Nat.le_trans hwz hD) hK rfl rfl)⟩)
    clear hx hnf e2 e3
    gi_wp2
    refine ⟨by simp, .inl ⟨_, _, rfl, run_takeDeferred hK, ?_⟩⟩
    refine ⟨.tuple #[.slice none 0 0, .int .i64 11], by simp [results, Tryz.results13, Tryz.f13, go_sem, z2, z3], HE.out⟩
end Go.Proofs.YtpkgiemdnfbopaaGreat
namespace Go.Proofs.YtpkgiemdnfbopaaGreat
open Go Go.RowKit
open Pl (K Con)
set_option linter.unusedSimpArgs false
set_option linter.unusedVariables false

theorem sizes_map9 (f : Con → Con) : ∀ l : List Con, (∀ x ∈ l, (f x).size = x.size) → Con.sizes (l.map f) = Con.sizes l := by
  intro l
  induction l with
  | nil => intro _; rfl
  | cons x r ih =>
    intro h
    rw [List.map_cons, Con.sizes_cons, Con.sizes_cons, h x List.mem_cons_self, ih (fun y hy => h y (List.mem_cons_of_mem _ hy))]
theorem depths_map9 (f : Con → Con) : ∀ l : List Con, (∀ x ∈ l, (f x).depth = x.depth) → Con.depths (l.map f) = Con.depths l := by
  intro l
  induction l with
  | nil => intro _; rfl
  | cons x r ih =>
    intro h
    rw [List.map_cons, Con.depths_cons, Con.depths_cons, h x List.mem_cons_self, ih (fun y hy => h y (List.mem_cons_of_mem _ hy))]
theorem reb_same9 (F : Con → Int → Con) (hF : ∀ t d, Con.leafy t d → Con.nodeB t = true → (F t d).l = [] ∧ (F t d).n ≤ 20000) (t : Con) : ∀ d, Con.allB t = true → (Con.reb F t d).size = t.size ∧ (Con.reb F t d).depth = t.depth ∧ Con.nOk (Con.reb F t d) = true := by
  induction t using Con.ind with
  | h t ih =>
  intro d ha
  rw [allB_eq, Bool.and_eq_true, List.all_eq_true] at ha
  by_cases hl : Con.leafy t d
  · obtain ⟨h1, h2⟩ := hF t d hl ha.1
    have h3 := leaf_none t ha.1 (by rcases hl with h | h; exact .inr h; exact .inl h.1)
    rw [reb_leaf F t d hl, Con.size_eq, Con.depth_eq, nOk_eq, h1, Con.size_eq t, Con.depth_eq t, h3]
    exact ⟨rfl, rfl, by simp [h2]⟩
  · rw [reb_node F t d hl, Con.size_eq, Con.depth_eq, nOk_eq, Con.size_eq t, Con.depth_eq t]
    have hi : ∀ l, (Con.inside t l).l = l := fun l => rfl
    have hn : (Con.inside t (t.l.map (fun x => Con.reb F x (Con.deep t.op d)))).n = t.n := rfl
    rw [hi, hn]
    refine ⟨by rw [sizes_map9 _ _ (fun x hx => (ih x hx _ (ha.2 x hx)).1)], by rw [depths_map9 _ _ (fun x hx => (ih x hx _ (ha.2 x hx)).2.1)], ?_⟩
    rw [Bool.and_eq_true, List.all_eq_true]
    refine ⟨by have := (nodeB_n t ha.1).2; simpa using this, fun y hy => ?_⟩
    obtain ⟨x, hx, rfl⟩ := List.mem_map.1 hy
    exact (ih x hx _ (ha.2 x hx)).2.2
theorem unb_leaf9 (cs : List (ByteArray × K)) (t : Con) (d : Int) (hl : Con.leafy t d) (hn : Con.nodeB t = true) : (suF (unb cs) t d).l = [] ∧ (suF (unb cs) t d).n ≤ 20000 := by
  have h3 := leaf_none t hn (by rcases hl with h | h; exact .inr h; exact .inl h.1)
  have h4 := (nodeB_n t hn).2
  by_cases h1 : t.op = 1
  · have hd : d ≤ t.n := by rcases hl with h | h; omega; exact h.2
    obtain ⟨i, hi⟩ : ∃ i : Nat, t.n - d = (i : Int) := ⟨(t.n - d).toNat, by omega⟩
    by_cases h : i < cs.length
    · rw [suF_const cs t d h1 i hi h]
      exact ⟨rfl, by show (0 : Int) ≤ 20000; omega⟩
    · unfold suF
      rw [if_pos h1, unb_len, if_neg (by omega)]
      exact ⟨h3, by show t.n - (cs.length : Int) ≤ 20000; omega⟩
  · unfold suF
    rw [if_neg h1]
    exact ⟨h3, h4⟩
/-- Unbind's answer where all is well -/
theorem unbindOut_ok (t : Con) (cs : List (ByteArray × K)) (ht : Con.validB t = true) (hc : cs.all cstB = true) (h9 : idxCode (cs.map (·.1)) = 0) : unbindOut t cs = (Con.subst (unb cs) t 0, 0) := by
  unfold unbindOut
  rw [if_pos (by rw [ht, hc]; rfl), if_pos h9, ← reb_subst (unb cs) (unb_all cs hc) t 0 (valid_all t ht)]
  unfold fitOut
  rw [if_pos]
  obtain ⟨h1, h2, h3⟩ := reb_same9 (suF (unb cs)) (fun t d hl hn => unb_leaf9 cs t d hl hn) t 0 (valid_all t ht)
  unfold fitB
  rw [h1, h2, h3]
  unfold Con.validB Con.small at ht
  simp only [Bool.and_eq_true, decide_eq_true_eq] at ht ⊢
  exact ⟨by omega, by omega, trivial⟩
end Go.Proofs.YtpkgiemdnfbopaaGreat
