/-
  Several texts in one (Ue Uf Ug Uh Rg Rh Qr Qs Qt Ri).
-/
import Derived.Test.YtpkgiemdnfbopaaGreatMKa
import Derived.Deep.RegionLawGrows
import Derived.Deep.Onto
import Derived.Laws.AppendOwnNone
import Derived.Laws.OwnMore
import Derived.Deep.AppendLies
namespace Go.Proofs.YtpkgiemdnfbopaaGreat
open Go Go.RowKit
open Pl (K Con KR KS kof kofs ownK inK appK)
set_option linter.unusedSimpArgs false
set_option linter.unusedVariables false

theorem low_up {P : Nat → Prop} {w W : World} (hP : ∀ b, P b → b < w.heap.size) (hb : Below w.heap.size w W) : ∀ b, P b → b < W.heap.size := fun b h => Nat.lt_of_lt_of_le (hP b h) hb.size
theorem shape_len (t : Con) (h : Con.nodeB t = true) : (t.op = 11 ∨ t.op = 13 → t.l.length = 1) ∧ (t.op = 12 → t.l.length = 2) := by
  unfold Con.nodeB at h
  simp only [Bool.and_eq_true] at h
  obtain ⟨-, hs, -⟩ := h
  unfold Con.shapeB at hs
  constructor
  · intro ho
    have hp : Con.partsOf t.op = 1 := by rcases ho with ho | ho <;> rw [ho] <;> rfl
    rw [hp, if_pos (by decide), Bool.and_eq_true, decide_eq_true_eq] at hs
    omega
  · intro ho
    have hp : Con.partsOf t.op = 2 := by rw [ho]; rfl
    rw [hp, if_pos (by decide), Bool.and_eq_true, decide_eq_true_eq] at hs
    omega
/-- one part's kind -/
theorem ksl_at {w : World} {P : Nat → Prop} {a : Option Addr} {n c : Nat} {l : List K} (h : KSl w P (.slice a n c) l) (hn : 0 < l.length) : n = l.length ∧ ∃ b off, a = some ⟨b, off, none⟩ ∧ P b ∧ ∀ (j : Nat) (hj : j < l.length), ∃ a7 n7 c7, w.cell? ⟨b, off + j, none⟩ = some (.slice a7 n7 c7) ∧ KidV w P l[j] (.slice a7 n7 c7) := by
  obtain ⟨a5, c5, e5, -, -, hkk⟩ := h.each
  injection e5 with e5 e9 e6
  subst e5 e6
  obtain ⟨b, off, e, hPb, hke⟩ := kids_each hkk hn
  refine ⟨e9, b, off, e, hPb, fun j hj => ?_⟩
  obtain ⟨x, hx, hk⟩ := hke j hj
  obtain ⟨a7, c7, rfl⟩ := hk.form
  exact ⟨a7, _, c7, hx, hk⟩
theorem getD_at (l : List K) (j : Nat) (h : j < l.length) : l.getD j (.mk []) = l[j] := by rw [List.getD_eq_getElem?_getD, List.getElem?_eq_getElem h]; rfl

set_option maxRecDepth 100000 in
set_option maxHeartbeats 4000000 in
theorem node_var (P : Nat → Prop) (g ks : List K) (t : Con) (w : World) (v x y : Value) (hP : ∀ b, P b → b < w.heap.size) (hg : KSl w P v g) (ht : ConV w P t x) (hs : KSl w P y ks) (hn : Con.nodeB t = true) (hl : ks.length = t.l.length) (hv : ∀ k ∈ ks, K.valid k = true) (hcase : t.op = 1) :
    Calls Tryz.prog 133 #[v, x, y] w (KrP P (ownK g.reverse t.op t.n t.kind ks) w) := by
  have hkv := kind_valid t hn
  have hnb := nodeB_n t hn
  have hsl := shape_len t hn
  obtain ⟨R, hV⟩ : ∃ R : KR, R = ownK g.reverse t.op t.n t.kind ks := ⟨_, rfl⟩
  rw [← hV]
  obtain ⟨ka, kn, kc, na, nn, nc, la, ln, lc, rfl, -, -, -⟩ := ht.shape
  have hkd : KidV w P t.kind (.slice ka kn kc) := by
    obtain ⟨hs, kv', nv', lv', e, hk, hn, hl⟩ := (conV_iff _ _ _ _).1 ht
    simp only [Value.agg.injEq, Array.mk.injEq, List.cons.injEq, and_true, true_and] at e
    obtain ⟨rfl, rfl, rfl⟩ := e
    exact hk
  obtain ⟨ya, yc, rfl, -⟩ := hs.each
  obtain ⟨ga, gc, rfl, -⟩ := hg.each
  have HS := Lib.hid (fun W (hW : Below w.heap.size w W) => hs.keep (Same.of_below hW hP))
  have HGG := Lib.hid (fun W (hW : Below w.heap.size w W) => hg.keep (Same.of_below hW hP))
  have HK := Lib.hid (fun W (hW : Below w.heap.size w W) => hkd.keep (Same.of_below hW hP))
  have HLO := Lib.hid (fun W (hW : Below w.heap.size w W) => low_up hP hW)
  obtain ⟨yn, hyn⟩ : ∃ yn, yn = ks.length := ⟨_, rfl⟩
  rw [← hyn] at HS ⊢
  generalize g.length = gn at *
  generalize t.n = num at *
  generalize t.s = s at *
  obtain ⟨op, hop⟩ : ∃ op, op = t.op := ⟨_, rfl⟩
  rw [← hop] at hV hsl hcase ⊢
  obtain ⟨hbx, hbx2, hb⟩ := twoN_new w 28 24 #[.int .i64 op, .int .i64 num, .string s, .slice ka kn kc, .slice na nn nc, .slice la ln lc] #[.slice none 0 0]
  have HP := Lib.hid hP
  have HB := Lib.hid hb
  have H1 := Lib.hid hbx
  have HR := Lib.hid hbx2
  have HG := Lib.hid (Nat.le_succ w.heap.size)
  have HRL := Lib.hid hbx2.lt
  have HCASE := Lib.hid hcase
  clear hP hs hg ht hkd hb hbx hbx2 hn hop hcase
  go_enter Tryz.func133, Tryz.ntmps133
  go_upto_region 1 with fail
  generalize (w.alloc (.cells #[.int .i64 op, .int .i64 num, .string s, .slice ka kn kc, .slice na nn nc, .slice la ln lc] 28)).alloc (.cells #[.slice none 0 0] 24) = w2 at *
  have c0 := H1.out.cell 0 (.int .i64 op) rfl
  have c1 := H1.out.cell 1 (.int .i64 num) rfl
  have c3 := H1.out.cell 3 (.slice ka kn kc) rfl
  unfold ownK at hV
  have hcase := HCASE.out
  subst hcase
  rw [if_pos rfl] at hV
  have HV := Lib.hid (show R = varK g.reverse num from hV)
  have HC := Lib.hid (variable_any P g num w2 (.slice ga gn gc) (HLO.out w2 HB.out) (HGG.out w2 HB.out) hnb.1 (by omega))
  clear hV c3
  go_wp2_with fail
  clear c0 c1
  refine HC.out.mono ?_
  rintro e w3 ⟨⟨ra, rn, rc, rfl, hk⟩, hb3⟩
  have HX := Lib.hid (hk.mono (fun q hq => (show Ext1 P w w3 (w.heap.size + 1) q from by
    have := HRL.out
    have := HB.out.size
    rcases hq with hq | hq
    · exact ⟨.inl hq, by have := HP.out q hq; omega⟩
    · exact ⟨.inr ⟨by omega, hq.2⟩, by omega⟩)))
  replace HR := Lib.hid (HR.out.of_eq (hb3.block _ HR.out.lt))
  replace HB := Lib.hid (belowStep hb3 HB.out)
  obtain ⟨er, her⟩ : ∃ er, KR.er R = er := ⟨_, rfl⟩
  rw [HV.out] at her
  rw [her]
  clear hk hb3
  have hr9 := HR.out
  have c9 := hr9.cell 0 (.slice none 0 0) rfl
  have f9 := hr9.thaw 0
  have HE1 := Lib.hid (blk_one (y := .slice ra rn rc) hr9)
  have HE := Lib.hid (krp_end (P := P) HV.out HG.out HB.out ⟨her, HX.out⟩)
  clear hr9
  go_wp2
  have d9 := HE1.out.cell 0 (.slice ra rn rc) rfl
  refine bodyPost_ret (v := .tuple #[.agg #[.slice ra rn rc], .int .i64 er]) (by simp [results, Tryz.results133, go_sem, d9]) rfl ?_
  exact HE.out
set_option maxRecDepth 100000 in
set_option maxHeartbeats 4000000 in
theorem node_const (P : Nat → Prop) (g ks : List K) (t : Con) (w : World) (v x y : Value) (hP : ∀ b, P b → b < w.heap.size) (hg : KSl w P v g) (ht : ConV w P t x) (hs : KSl w P y ks) (hn : Con.nodeB t = true) (hl : ks.length = t.l.length) (hv : ∀ k ∈ ks, K.valid k = true) (hcase : t.op = 2) :
    Calls Tryz.prog 133 #[v, x, y] w (KrP P (ownK g.reverse t.op t.n t.kind ks) w) := by
  have hkv := kind_valid t hn
  have hnb := nodeB_n t hn
  have hsl := shape_len t hn
  obtain ⟨R, hV⟩ : ∃ R : KR, R = ownK g.reverse t.op t.n t.kind ks := ⟨_, rfl⟩
  rw [← hV]
  obtain ⟨ka, kn, kc, na, nn, nc, la, ln, lc, rfl, -, -, -⟩ := ht.shape
  have hkd : KidV w P t.kind (.slice ka kn kc) := by
    obtain ⟨hs, kv', nv', lv', e, hk, hn, hl⟩ := (conV_iff _ _ _ _).1 ht
    simp only [Value.agg.injEq, Array.mk.injEq, List.cons.injEq, and_true, true_and] at e
    obtain ⟨rfl, rfl, rfl⟩ := e
    exact hk
  obtain ⟨ya, yc, rfl, -⟩ := hs.each
  obtain ⟨ga, gc, rfl, -⟩ := hg.each
  have HS := Lib.hid (fun W (hW : Below w.heap.size w W) => hs.keep (Same.of_below hW hP))
  have HGG := Lib.hid (fun W (hW : Below w.heap.size w W) => hg.keep (Same.of_below hW hP))
  have HK := Lib.hid (fun W (hW : Below w.heap.size w W) => hkd.keep (Same.of_below hW hP))
  have HLO := Lib.hid (fun W (hW : Below w.heap.size w W) => low_up hP hW)
  obtain ⟨yn, hyn⟩ : ∃ yn, yn = ks.length := ⟨_, rfl⟩
  rw [← hyn] at HS ⊢
  generalize g.length = gn at *
  generalize t.n = num at *
  generalize t.s = s at *
  obtain ⟨op, hop⟩ : ∃ op, op = t.op := ⟨_, rfl⟩
  rw [← hop] at hV hsl hcase ⊢
  obtain ⟨hbx, hbx2, hb⟩ := twoN_new w 28 24 #[.int .i64 op, .int .i64 num, .string s, .slice ka kn kc, .slice na nn nc, .slice la ln lc] #[.slice none 0 0]
  have HP := Lib.hid hP
  have HB := Lib.hid hb
  have H1 := Lib.hid hbx
  have HR := Lib.hid hbx2
  have HG := Lib.hid (Nat.le_succ w.heap.size)
  have HRL := Lib.hid hbx2.lt
  have HCASE := Lib.hid hcase
  clear hP hs hg ht hkd hb hbx hbx2 hn hop hcase
  go_enter Tryz.func133, Tryz.ntmps133
  go_upto_region 1 with fail
  generalize (w.alloc (.cells #[.int .i64 op, .int .i64 num, .string s, .slice ka kn kc, .slice na nn nc, .slice la ln lc] 28)).alloc (.cells #[.slice none 0 0] 24) = w2 at *
  have c0 := H1.out.cell 0 (.int .i64 op) rfl
  have c1 := H1.out.cell 1 (.int .i64 num) rfl
  have c3 := H1.out.cell 3 (.slice ka kn kc) rfl
  unfold ownK at hV
  have hcase := HCASE.out
  rw [if_neg (by omega)] at hV
  have q0 : (op == 1) = false := beq_eq_false_iff_ne.2 (by omega)
  subst hcase
  rw [if_pos rfl] at hV
  have HV := Lib.hid hV
  have HX := Lib.hid ((HK.out w2 HB.out).mono (fun q hq => (show Ext1 P w w2 (w.heap.size + 1) q from ⟨.inl hq, by have := HP.out q hq; omega⟩)))
  clear hV c1
  have hr9 := HR.out
  have c9 := hr9.cell 0 (.slice none 0 0) rfl
  have f9 := hr9.thaw 0
  have HE1 := Lib.hid (blk_one (y := .slice ka kn kc) hr9)
  have HE := Lib.hid (krp_end (P := P) HV.out HG.out HB.out ⟨rfl, HX.out⟩)
  clear hr9
  go_wp2
  have d9 := HE1.out.cell 0 (.slice ka kn kc) rfl
  refine bodyPost_ret (v := .tuple #[.agg #[.slice ka kn kc], .int .i64 0]) (by simp [results, Tryz.results133, go_sem, d9]) rfl ?_
  exact HE.out
set_option maxRecDepth 100000 in
set_option maxHeartbeats 4000000 in
theorem node_lam (P : Nat → Prop) (g ks : List K) (t : Con) (w : World) (v x y : Value) (hP : ∀ b, P b → b < w.heap.size) (hg : KSl w P v g) (ht : ConV w P t x) (hs : KSl w P y ks) (hn : Con.nodeB t = true) (hl : ks.length = t.l.length) (hv : ∀ k ∈ ks, K.valid k = true) (hcase : t.op = 11) :
    Calls Tryz.prog 133 #[v, x, y] w (KrP P (ownK g.reverse t.op t.n t.kind ks) w) := by
  have hkv := kind_valid t hn
  have hnb := nodeB_n t hn
  have hsl := shape_len t hn
  obtain ⟨R, hV⟩ : ∃ R : KR, R = ownK g.reverse t.op t.n t.kind ks := ⟨_, rfl⟩
  rw [← hV]
  obtain ⟨ka, kn, kc, na, nn, nc, la, ln, lc, rfl, -, -, -⟩ := ht.shape
  have hkd : KidV w P t.kind (.slice ka kn kc) := by
    obtain ⟨hs, kv', nv', lv', e, hk, hn, hl⟩ := (conV_iff _ _ _ _).1 ht
    simp only [Value.agg.injEq, Array.mk.injEq, List.cons.injEq, and_true, true_and] at e
    obtain ⟨rfl, rfl, rfl⟩ := e
    exact hk
  obtain ⟨ya, yc, rfl, -⟩ := hs.each
  obtain ⟨ga, gc, rfl, -⟩ := hg.each
  have HS := Lib.hid (fun W (hW : Below w.heap.size w W) => hs.keep (Same.of_below hW hP))
  have HGG := Lib.hid (fun W (hW : Below w.heap.size w W) => hg.keep (Same.of_below hW hP))
  have HK := Lib.hid (fun W (hW : Below w.heap.size w W) => hkd.keep (Same.of_below hW hP))
  have HLO := Lib.hid (fun W (hW : Below w.heap.size w W) => low_up hP hW)
  obtain ⟨yn, hyn⟩ : ∃ yn, yn = ks.length := ⟨_, rfl⟩
  rw [← hyn] at HS ⊢
  generalize g.length = gn at *
  generalize t.n = num at *
  generalize t.s = s at *
  obtain ⟨op, hop⟩ : ∃ op, op = t.op := ⟨_, rfl⟩
  rw [← hop] at hV hsl hcase ⊢
  obtain ⟨hbx, hbx2, hb⟩ := twoN_new w 28 24 #[.int .i64 op, .int .i64 num, .string s, .slice ka kn kc, .slice na nn nc, .slice la ln lc] #[.slice none 0 0]
  have HP := Lib.hid hP
  have HB := Lib.hid hb
  have H1 := Lib.hid hbx
  have HR := Lib.hid hbx2
  have HG := Lib.hid (Nat.le_succ w.heap.size)
  have HRL := Lib.hid hbx2.lt
  have HCASE := Lib.hid hcase
  clear hP hs hg ht hkd hb hbx hbx2 hn hop hcase
  go_enter Tryz.func133, Tryz.ntmps133
  go_upto_region 1 with fail
  generalize (w.alloc (.cells #[.int .i64 op, .int .i64 num, .string s, .slice ka kn kc, .slice na nn nc, .slice la ln lc] 28)).alloc (.cells #[.slice none 0 0] 24) = w2 at *
  have c0 := H1.out.cell 0 (.int .i64 op) rfl
  have c1 := H1.out.cell 1 (.int .i64 num) rfl
  have c3 := H1.out.cell 3 (.slice ka kn kc) rfl
  unfold ownK at hV
  have hcase := HCASE.out
  rw [if_neg (by omega)] at hV
  have q0 : (op == 1) = false := beq_eq_false_iff_ne.2 (by omega)
  rw [if_neg (by omega)] at hV
  have q1 : (op == 2) = false := beq_eq_false_iff_ne.2 (by omega)
  subst hcase
  rw [if_pos rfl] at hV
  have hl1 : ks.length = 1 := by rw [hl]; exact hsl.1 (.inl rfl)
  obtain ⟨-, b, off, rfl, hPb, hke⟩ := ksl_at (HS.out w2.drew HB.out.drew) (by omega)
  obtain ⟨a7, n7, c7, f0, hk7⟩ := hke 0 (by omega)
  rw [Nat.add_zero] at f0
  replace f0 : w2.cell? ⟨b, off, none⟩ = some (.slice a7 n7 c7) := f0
  obtain ⟨k0, hk0⟩ : ∃ k0, k0 = ks[0]'(by omega) := ⟨_, rfl⟩
  rw [← hk0] at hk7
  have hg0 : ks.getD 0 (.mk []) = k0 := by rw [hk0]; exact getD_at ks 0 (by omega)
  have hv0 : K.valid k0 = true := by rw [hk0]; exact hv _ (List.getElem_mem _)
  have HV := Lib.hid (show R = if K.valid (.mk [t.kind, k0]) then .ok (.mk [t.kind, k0]) else .bad 6 [] from by rw [hV, hg0])
  obtain rfl : yn = 1 := by omega
  have HC := Lib.hid (function_any P t.kind k0 w2.drew (.agg #[.slice ka kn kc]) (.agg #[.slice a7 n7 c7]) (HLO.out w2.drew HB.out.drew) ⟨_, rfl, HK.out w2.drew HB.out.drew⟩ ⟨_, rfl, hk7⟩)
  clear hV c1 hk7 hke hg0 hv0 hk0 hl1 hsl hkv hnb hv hyn hl
  replace HB := Lib.hid HB.out.drew
  replace HR := Lib.hid HR.out.drew
  replace HRL := Lib.hid HR.out.lt
  go_upto_region 7 with fail
  go_region_law (go_simp; go_at_call 165; refine HC.out.mono ?_; rintro e w3 ⟨⟨ra, rn, rc, rfl, hk⟩, hb3⟩; (obtain ⟨er, her⟩ : ∃ er, KR.er R = er := ⟨_, rfl⟩); rw [HV.out] at her; rw [her]; have hr9 := HR.out.of_eq (hb3.block _ HR.out.lt); have c9 := hr9.cell 0 (.slice none 0 0) rfl; have f9 := hr9.thaw 0; clear hr9)
  all_goals
    clear c9 f9
    have HX := Lib.hid (hk.mono (fun q hq => (show Ext1 P w w3 (w.heap.size + 1) q from by
      have := HRL.out
      have := HB.out.size
      rcases hq with hq | hq
      · exact ⟨.inl hq, by have := HP.out q hq; omega⟩
      · exact ⟨.inr ⟨by omega, hq.2⟩, by omega⟩)))
    replace HR := Lib.hid (HR.out.of_eq (hb3.block _ HR.out.lt))
    replace HB := Lib.hid (belowStep hb3 HB.out)
    clear hk hb3
    have hr9 := HR.out
    have c9 := hr9.cell 0 (.slice none 0 0) rfl
    have f9 := hr9.thaw 0
    have HE1 := Lib.hid (blk_one (y := .slice ra rn rc) hr9)
    have HE := Lib.hid (krp_end (P := P) HV.out HG.out HB.out ⟨her, HX.out⟩)
    clear hr9
    go_wp2
    have d9 := HE1.out.cell 0 (.slice ra rn rc) rfl
    refine bodyPost_ret (v := .tuple #[.agg #[.slice ra rn rc], .int .i64 er]) (by simp [results, Tryz.results133, go_sem, d9]) rfl ?_
    exact HE.out
set_option maxRecDepth 100000 in
set_option maxHeartbeats 4000000 in
theorem node_app (P : Nat → Prop) (g ks : List K) (t : Con) (w : World) (v x y : Value) (hP : ∀ b, P b → b < w.heap.size) (hg : KSl w P v g) (ht : ConV w P t x) (hs : KSl w P y ks) (hn : Con.nodeB t = true) (hl : ks.length = t.l.length) (hv : ∀ k ∈ ks, K.valid k = true) (hcase : t.op = 12) :
    Calls Tryz.prog 133 #[v, x, y] w (KrP P (ownK g.reverse t.op t.n t.kind ks) w) := by
  have hkv := kind_valid t hn
  have hnb := nodeB_n t hn
  have hsl := shape_len t hn
  obtain ⟨R, hV⟩ : ∃ R : KR, R = ownK g.reverse t.op t.n t.kind ks := ⟨_, rfl⟩
  rw [← hV]
  obtain ⟨ka, kn, kc, na, nn, nc, la, ln, lc, rfl, -, -, -⟩ := ht.shape
  have hkd : KidV w P t.kind (.slice ka kn kc) := by
    obtain ⟨hs, kv', nv', lv', e, hk, hn, hl⟩ := (conV_iff _ _ _ _).1 ht
    simp only [Value.agg.injEq, Array.mk.injEq, List.cons.injEq, and_true, true_and] at e
    obtain ⟨rfl, rfl, rfl⟩ := e
    exact hk
  obtain ⟨ya, yc, rfl, -⟩ := hs.each
  obtain ⟨ga, gc, rfl, -⟩ := hg.each
  have HS := Lib.hid (fun W (hW : Below w.heap.size w W) => hs.keep (Same.of_below hW hP))
  have HGG := Lib.hid (fun W (hW : Below w.heap.size w W) => hg.keep (Same.of_below hW hP))
  have HK := Lib.hid (fun W (hW : Below w.heap.size w W) => hkd.keep (Same.of_below hW hP))
  have HLO := Lib.hid (fun W (hW : Below w.heap.size w W) => low_up hP hW)
  obtain ⟨yn, hyn⟩ : ∃ yn, yn = ks.length := ⟨_, rfl⟩
  rw [← hyn] at HS ⊢
  generalize g.length = gn at *
  generalize t.n = num at *
  generalize t.s = s at *
  obtain ⟨op, hop⟩ : ∃ op, op = t.op := ⟨_, rfl⟩
  rw [← hop] at hV hsl hcase ⊢
  obtain ⟨hbx, hbx2, hb⟩ := twoN_new w 28 24 #[.int .i64 op, .int .i64 num, .string s, .slice ka kn kc, .slice na nn nc, .slice la ln lc] #[.slice none 0 0]
  have HP := Lib.hid hP
  have HB := Lib.hid hb
  have H1 := Lib.hid hbx
  have HR := Lib.hid hbx2
  have HG := Lib.hid (Nat.le_succ w.heap.size)
  have HRL := Lib.hid hbx2.lt
  have HCASE := Lib.hid hcase
  clear hP hs hg ht hkd hb hbx hbx2 hn hop hcase
  go_enter Tryz.func133, Tryz.ntmps133
  go_upto_region 1 with fail
  generalize (w.alloc (.cells #[.int .i64 op, .int .i64 num, .string s, .slice ka kn kc, .slice na nn nc, .slice la ln lc] 28)).alloc (.cells #[.slice none 0 0] 24) = w2 at *
  have c0 := H1.out.cell 0 (.int .i64 op) rfl
  have c1 := H1.out.cell 1 (.int .i64 num) rfl
  have c3 := H1.out.cell 3 (.slice ka kn kc) rfl
  unfold ownK at hV
  have hcase := HCASE.out
  rw [if_neg (by omega)] at hV
  have q0 : (op == 1) = false := beq_eq_false_iff_ne.2 (by omega)
  rw [if_neg (by omega)] at hV
  have q1 : (op == 2) = false := beq_eq_false_iff_ne.2 (by omega)
  rw [if_neg (by omega)] at hV
  have q2 : (op == 11) = false := beq_eq_false_iff_ne.2 (by omega)
  subst hcase
  rw [if_pos rfl] at hV
  have hl1 : ks.length = 2 := by rw [hl]; exact hsl.2 rfl
  obtain ⟨-, b, off, rfl, hPb, hke⟩ := ksl_at (HS.out w2.drew HB.out.drew) (by omega)
  obtain ⟨a7, n7, c7, f0, hk7⟩ := hke 0 (by omega)
  obtain ⟨a8, n8, c8, f1, hk8⟩ := hke 1 (by omega)
  rw [Nat.add_zero] at f0
  replace f0 : w2.cell? ⟨b, off, none⟩ = some (.slice a7 n7 c7) := f0
  replace f1 : w2.cell? ⟨b, off + 1, none⟩ = some (.slice a8 n8 c8) := f1
  obtain ⟨k0, hk0⟩ : ∃ k0, k0 = ks[0]'(by omega) := ⟨_, rfl⟩
  rw [← hk0] at hk7
  have hg0 : ks.getD 0 (.mk []) = k0 := by rw [hk0]; exact getD_at ks 0 (by omega)
  have hv0 : K.valid k0 = true := by rw [hk0]; exact hv _ (List.getElem_mem _)
  obtain ⟨k1, hk1⟩ : ∃ k1, k1 = ks[1]'(by omega) := ⟨_, rfl⟩
  rw [← hk1] at hk8
  have hg1 : ks.getD 1 (.mk []) = k1 := by rw [hk1]; exact getD_at ks 1 (by omega)
  have hv1 : K.valid k1 = true := by rw [hk1]; exact hv _ (List.getElem_mem _)
  have HV := Lib.hid (show R = appK k0 k1 from by rw [hV, hg0, hg1])
  obtain rfl : yn = 2 := by omega
  have HC := Lib.hid (application_any P k0 k1 w2.drew (.agg #[.slice a7 n7 c7]) (.agg #[.slice a8 n8 c8]) (HLO.out w2.drew HB.out.drew) ⟨_, rfl, hk7⟩ ⟨_, rfl, hk8⟩ hv0 hv1)
  clear hV c1 hk7 hk8 hke hg0 hg1 hv0 hv1 hk0 hk1 hl1 hsl hkv hnb hv hyn hl c3
  replace HB := Lib.hid HB.out.drew
  replace HR := Lib.hid HR.out.drew
  replace HRL := Lib.hid HR.out.lt
  go_upto_region 9 with fail
  go_region_law (go_simp; go_at_call 166; refine HC.out.mono ?_; rintro e w3 ⟨⟨ra, rn, rc, rfl, hk⟩, hb3⟩; (obtain ⟨er, her⟩ : ∃ er, KR.er R = er := ⟨_, rfl⟩); rw [HV.out] at her; rw [her]; have hr9 := HR.out.of_eq (hb3.block _ HR.out.lt); have c9 := hr9.cell 0 (.slice none 0 0) rfl; have f9 := hr9.thaw 0; clear hr9)
  all_goals
    clear c9 f9
    have HX := Lib.hid (hk.mono (fun q hq => (show Ext1 P w w3 (w.heap.size + 1) q from by
      have := HRL.out
      have := HB.out.size
      rcases hq with hq | hq
      · exact ⟨.inl hq, by have := HP.out q hq; omega⟩
      · exact ⟨.inr ⟨by omega, hq.2⟩, by omega⟩)))
    replace HR := Lib.hid (HR.out.of_eq (hb3.block _ HR.out.lt))
    replace HB := Lib.hid (belowStep hb3 HB.out)
    clear hk hb3
    have hr9 := HR.out
    have c9 := hr9.cell 0 (.slice none 0 0) rfl
    have f9 := hr9.thaw 0
    have HE1 := Lib.hid (blk_one (y := .slice ra rn rc) hr9)
    have HE := Lib.hid (krp_end (P := P) HV.out HG.out HB.out ⟨her, HX.out⟩)
    clear hr9
    go_wp2
    have d9 := HE1.out.cell 0 (.slice ra rn rc) rfl
    refine bodyPost_ret (v := .tuple #[.agg #[.slice ra rn rc], .int .i64 er]) (by simp [results, Tryz.results133, go_sem, d9]) rfl ?_
    exact HE.out
set_option maxRecDepth 100000 in
set_option maxHeartbeats 4000000 in
theorem node_mu (P : Nat → Prop) (g ks : List K) (t : Con) (w : World) (v x y : Value) (hP : ∀ b, P b → b < w.heap.size) (hg : KSl w P v g) (ht : ConV w P t x) (hs : KSl w P y ks) (hn : Con.nodeB t = true) (hl : ks.length = t.l.length) (hv : ∀ k ∈ ks, K.valid k = true) (hcase : t.op = 13) :
    Calls Tryz.prog 133 #[v, x, y] w (KrP P (ownK g.reverse t.op t.n t.kind ks) w) := by
  have hkv := kind_valid t hn
  have hnb := nodeB_n t hn
  have hsl := shape_len t hn
  obtain ⟨R, hV⟩ : ∃ R : KR, R = ownK g.reverse t.op t.n t.kind ks := ⟨_, rfl⟩
  rw [← hV]
  obtain ⟨ka, kn, kc, na, nn, nc, la, ln, lc, rfl, -, -, -⟩ := ht.shape
  have hkd : KidV w P t.kind (.slice ka kn kc) := by
    obtain ⟨hs, kv', nv', lv', e, hk, hn, hl⟩ := (conV_iff _ _ _ _).1 ht
    simp only [Value.agg.injEq, Array.mk.injEq, List.cons.injEq, and_true, true_and] at e
    obtain ⟨rfl, rfl, rfl⟩ := e
    exact hk
  obtain ⟨ya, yc, rfl, -⟩ := hs.each
  obtain ⟨ga, gc, rfl, -⟩ := hg.each
  have HS := Lib.hid (fun W (hW : Below w.heap.size w W) => hs.keep (Same.of_below hW hP))
  have HGG := Lib.hid (fun W (hW : Below w.heap.size w W) => hg.keep (Same.of_below hW hP))
  have HK := Lib.hid (fun W (hW : Below w.heap.size w W) => hkd.keep (Same.of_below hW hP))
  have HLO := Lib.hid (fun W (hW : Below w.heap.size w W) => low_up hP hW)
  obtain ⟨yn, hyn⟩ : ∃ yn, yn = ks.length := ⟨_, rfl⟩
  rw [← hyn] at HS ⊢
  generalize g.length = gn at *
  generalize t.n = num at *
  generalize t.s = s at *
  obtain ⟨op, hop⟩ : ∃ op, op = t.op := ⟨_, rfl⟩
  rw [← hop] at hV hsl hcase ⊢
  obtain ⟨hbx, hbx2, hb⟩ := twoN_new w 28 24 #[.int .i64 op, .int .i64 num, .string s, .slice ka kn kc, .slice na nn nc, .slice la ln lc] #[.slice none 0 0]
  have HP := Lib.hid hP
  have HB := Lib.hid hb
  have H1 := Lib.hid hbx
  have HR := Lib.hid hbx2
  have HG := Lib.hid (Nat.le_succ w.heap.size)
  have HRL := Lib.hid hbx2.lt
  have HCASE := Lib.hid hcase
  clear hP hs hg ht hkd hb hbx hbx2 hn hop hcase
  go_enter Tryz.func133, Tryz.ntmps133
  go_upto_region 1 with fail
  generalize (w.alloc (.cells #[.int .i64 op, .int .i64 num, .string s, .slice ka kn kc, .slice na nn nc, .slice la ln lc] 28)).alloc (.cells #[.slice none 0 0] 24) = w2 at *
  have c0 := H1.out.cell 0 (.int .i64 op) rfl
  have c1 := H1.out.cell 1 (.int .i64 num) rfl
  have c3 := H1.out.cell 3 (.slice ka kn kc) rfl
  unfold ownK at hV
  have hcase := HCASE.out
  rw [if_neg (by omega)] at hV
  have q0 : (op == 1) = false := beq_eq_false_iff_ne.2 (by omega)
  rw [if_neg (by omega)] at hV
  have q1 : (op == 2) = false := beq_eq_false_iff_ne.2 (by omega)
  rw [if_neg (by omega)] at hV
  have q2 : (op == 11) = false := beq_eq_false_iff_ne.2 (by omega)
  rw [if_neg (by omega)] at hV
  have q3 : (op == 12) = false := beq_eq_false_iff_ne.2 (by omega)
  subst hcase
  rw [if_pos rfl] at hV
  have hl1 : ks.length = 1 := by rw [hl]; exact hsl.1 (.inr rfl)
  obtain ⟨-, b, off, rfl, hPb, hke⟩ := ksl_at (HS.out w2.drew HB.out.drew) (by omega)
  obtain ⟨a7, n7, c7, f0, hk7⟩ := hke 0 (by omega)
  rw [Nat.add_zero] at f0
  replace f0 : w2.cell? ⟨b, off, none⟩ = some (.slice a7 n7 c7) := f0
  obtain ⟨k0, hk0⟩ : ∃ k0, k0 = ks[0]'(by omega) := ⟨_, rfl⟩
  rw [← hk0] at hk7
  have hg0 : ks.getD 0 (.mk []) = k0 := by rw [hk0]; exact getD_at ks 0 (by omega)
  have hv0 : K.valid k0 = true := by rw [hk0]; exact hv _ (List.getElem_mem _)
  have HV := Lib.hid (show R = if K.eqv t.kind k0 then .ok t.kind else .bad 11 [] from by rw [hV, hg0])
  obtain rfl : yn = 1 := by omega
  have HC := Lib.hid (recursive_any P t.kind k0 w2.drew (.agg #[.slice ka kn kc]) (.agg #[.slice a7 n7 c7]) (HLO.out w2.drew HB.out.drew) ⟨_, rfl, HK.out w2.drew HB.out.drew⟩ ⟨_, rfl, hk7⟩ hkv hv0)
  clear hV c1 hk7 hke hg0 hv0 hk0 hl1 hsl hkv hnb hv hyn hl
  replace HB := Lib.hid HB.out.drew
  replace HR := Lib.hid HR.out.drew
  replace HRL := Lib.hid HR.out.lt
  go_upto_region 11 with fail
  go_region_law (go_simp; go_at_call 167; refine HC.out.mono ?_; rintro e w3 ⟨⟨ra, rn, rc, rfl, hk⟩, hb3⟩; (obtain ⟨er, her⟩ : ∃ er, KR.er R = er := ⟨_, rfl⟩); rw [HV.out] at her; rw [her]; have hr9 := HR.out.of_eq (hb3.block _ HR.out.lt); have c9 := hr9.cell 0 (.slice none 0 0) rfl; have f9 := hr9.thaw 0; clear hr9)
  all_goals
    clear c9 f9
    have HX := Lib.hid (hk.mono (fun q hq => (show Ext1 P w w3 (w.heap.size + 1) q from by
      have := HRL.out
      have := HB.out.size
      rcases hq with hq | hq
      · exact ⟨.inl hq, by have := HP.out q hq; omega⟩
      · exact ⟨.inr ⟨by omega, hq.2⟩, by omega⟩)))
    replace HR := Lib.hid (HR.out.of_eq (hb3.block _ HR.out.lt))
    replace HB := Lib.hid (belowStep hb3 HB.out)
    clear hk hb3
    have hr9 := HR.out
    have c9 := hr9.cell 0 (.slice none 0 0) rfl
    have f9 := hr9.thaw 0
    have HE1 := Lib.hid (blk_one (y := .slice ra rn rc) hr9)
    have HE := Lib.hid (krp_end (P := P) HV.out HG.out HB.out ⟨her, HX.out⟩)
    clear hr9
    go_wp2
    have d9 := HE1.out.cell 0 (.slice ra rn rc) rfl
    refine bodyPost_ret (v := .tuple #[.agg #[.slice ra rn rc], .int .i64 er]) (by simp [results, Tryz.results133, go_sem, d9]) rfl ?_
    exact HE.out
set_option maxRecDepth 100000 in
set_option maxHeartbeats 4000000 in
theorem node_type (P : Nat → Prop) (g ks : List K) (t : Con) (w : World) (v x y : Value) (hP : ∀ b, P b → b < w.heap.size) (hg : KSl w P v g) (ht : ConV w P t x) (hs : KSl w P y ks) (hn : Con.nodeB t = true) (hl : ks.length = t.l.length) (hv : ∀ k ∈ ks, K.valid k = true) (hcase : t.op ≠ 1 ∧ t.op ≠ 2 ∧ t.op ≠ 11 ∧ t.op ≠ 12 ∧ t.op ≠ 13) :
    Calls Tryz.prog 133 #[v, x, y] w (KrP P (ownK g.reverse t.op t.n t.kind ks) w) := by
  have hkv := kind_valid t hn
  have hnb := nodeB_n t hn
  have hsl := shape_len t hn
  obtain ⟨R, hV⟩ : ∃ R : KR, R = ownK g.reverse t.op t.n t.kind ks := ⟨_, rfl⟩
  rw [← hV]
  obtain ⟨ka, kn, kc, na, nn, nc, la, ln, lc, rfl, -, -, -⟩ := ht.shape
  have hkd : KidV w P t.kind (.slice ka kn kc) := by
    obtain ⟨hs, kv', nv', lv', e, hk, hn, hl⟩ := (conV_iff _ _ _ _).1 ht
    simp only [Value.agg.injEq, Array.mk.injEq, List.cons.injEq, and_true, true_and] at e
    obtain ⟨rfl, rfl, rfl⟩ := e
    exact hk
  obtain ⟨ya, yc, rfl, -⟩ := hs.each
  obtain ⟨ga, gc, rfl, -⟩ := hg.each
  have HS := Lib.hid (fun W (hW : Below w.heap.size w W) => hs.keep (Same.of_below hW hP))
  have HGG := Lib.hid (fun W (hW : Below w.heap.size w W) => hg.keep (Same.of_below hW hP))
  have HK := Lib.hid (fun W (hW : Below w.heap.size w W) => hkd.keep (Same.of_below hW hP))
  have HLO := Lib.hid (fun W (hW : Below w.heap.size w W) => low_up hP hW)
  obtain ⟨yn, hyn⟩ : ∃ yn, yn = ks.length := ⟨_, rfl⟩
  rw [← hyn] at HS ⊢
  generalize g.length = gn at *
  generalize t.n = num at *
  generalize t.s = s at *
  obtain ⟨op, hop⟩ : ∃ op, op = t.op := ⟨_, rfl⟩
  rw [← hop] at hV hsl hcase ⊢
  obtain ⟨hbx, hbx2, hb⟩ := twoN_new w 28 24 #[.int .i64 op, .int .i64 num, .string s, .slice ka kn kc, .slice na nn nc, .slice la ln lc] #[.slice none 0 0]
  have HP := Lib.hid hP
  have HB := Lib.hid hb
  have H1 := Lib.hid hbx
  have HR := Lib.hid hbx2
  have HG := Lib.hid (Nat.le_succ w.heap.size)
  have HRL := Lib.hid hbx2.lt
  have HCASE := Lib.hid hcase
  clear hP hs hg ht hkd hb hbx hbx2 hn hop hcase
  go_enter Tryz.func133, Tryz.ntmps133
  go_upto_region 1 with fail
  generalize (w.alloc (.cells #[.int .i64 op, .int .i64 num, .string s, .slice ka kn kc, .slice na nn nc, .slice la ln lc] 28)).alloc (.cells #[.slice none 0 0] 24) = w2 at *
  have c0 := H1.out.cell 0 (.int .i64 op) rfl
  have c1 := H1.out.cell 1 (.int .i64 num) rfl
  have c3 := H1.out.cell 3 (.slice ka kn kc) rfl
  unfold ownK at hV
  have hcase := HCASE.out
  rw [if_neg (by omega)] at hV
  have q0 : (op == 1) = false := beq_eq_false_iff_ne.2 (by omega)
  rw [if_neg (by omega)] at hV
  have q1 : (op == 2) = false := beq_eq_false_iff_ne.2 (by omega)
  rw [if_neg (by omega)] at hV
  have q2 : (op == 11) = false := beq_eq_false_iff_ne.2 (by omega)
  rw [if_neg (by omega)] at hV
  have q3 : (op == 12) = false := beq_eq_false_iff_ne.2 (by omega)
  rw [if_neg (by omega)] at hV
  have q4 : (op == 13) = false := beq_eq_false_iff_ne.2 (by omega)
  have HV := Lib.hid hV
  have HC := Lib.hid (typeOf_any P ks w2 (.slice ya yn yc) (HLO.out w2 HB.out) (by rw [hyn]; rw [hyn] at HS; exact HS.out w2 HB.out))
  clear hV c1 c3 hyn hl hv hsl hnb hkv hcase HCASE HS HGG HK HLO
  go_upto_region 12 with fail
  go_wp2_with fail
  clear c0
  refine HC.out.mono ?_
  rintro e w3 ⟨⟨ra, rn, rc, rfl, hk⟩, hb3⟩
  have HX := Lib.hid (hk.mono (fun q hq => (show Ext1 P w w3 (w.heap.size + 1) q from by
    have := HRL.out
    have := HB.out.size
    rcases hq with hq | hq
    · exact ⟨.inl hq, by have := HP.out q hq; omega⟩
    · exact ⟨.inr ⟨by omega, hq.2⟩, by omega⟩)))
  replace HR := Lib.hid (HR.out.of_eq (hb3.block _ HR.out.lt))
  replace HB := Lib.hid (belowStep hb3 HB.out)
  obtain ⟨er, her⟩ : ∃ er, KR.er R = er := ⟨_, rfl⟩
  rw [HV.out] at her
  rw [her]
  clear hk hb3
  have hr9 := HR.out
  have c9 := hr9.cell 0 (.slice none 0 0) rfl
  have f9 := hr9.thaw 0
  have HE1 := Lib.hid (blk_one (y := .slice ra rn rc) hr9)
  have HE := Lib.hid (krp_end (P := P) HV.out HG.out HB.out ⟨her, HX.out⟩)
  clear hr9
  go_wp2
  have d9 := HE1.out.cell 0 (.slice ra rn rc) rfl
  refine bodyPost_ret (v := .tuple #[.agg #[.slice ra rn rc], .int .i64 er]) (by simp [results, Tryz.results133, go_sem, d9]) rfl ?_
  exact HE.out
theorem kindOfNode_any (P : Nat → Prop) (g ks : List K) (t : Con) (w : World) (v x y : Value) (hP : ∀ b, P b → b < w.heap.size) (hg : KSl w P v g) (ht : ConV w P t x) (hs : KSl w P y ks) (hn : Con.nodeB t = true) (hl : ks.length = t.l.length) (hv : ∀ k ∈ ks, K.valid k = true) :
    Calls Tryz.prog 133 #[v, x, y] w (KrP P (ownK g.reverse t.op t.n t.kind ks) w) := by
  by_cases h1 : t.op = 1
  · exact node_var P g ks t w v x y hP hg ht hs hn hl hv h1
  by_cases h2 : t.op = 2
  · exact node_const P g ks t w v x y hP hg ht hs hn hl hv h2
  by_cases h3 : t.op = 11
  · exact node_lam P g ks t w v x y hP hg ht hs hn hl hv h3
  by_cases h4 : t.op = 12
  · exact node_app P g ks t w v x y hP hg ht hs hn hl hv h4
  by_cases h5 : t.op = 13
  · exact node_mu P g ks t w v x y hP hg ht hs hn hl hv h5
  exact node_type P g ks t w v x y hP hg ht hs hn hl hv ⟨h1, h2, h3, h4, h5⟩
end Go.Proofs.YtpkgiemdnfbopaaGreat
namespace Go.Proofs.YtpkgiemdnfbopaaGreat
open Go Go.RowKit
open Pl (K Con KR KS kof kofs ownK inK appK)
set_option linter.unusedSimpArgs false
set_option linter.unusedVariables false

/-- the cells of a row of kinds -/
theorem kinds_us {w : World} {P : Nat → Prop} {a : Option Addr} {n c : Nat} {l : List K} (h : KSl w P (.slice a n c) l) :
    n = l.length ∧ n ≤ c ∧ c ≤ maxLen ∧ (a = none → n = 0 ∧ c = 0) ∧ ∃ us : List Value, us.length = n ∧ (∀ ad, a = some ad → ∀ j u, us[j]? = some u → w.cell? (ad.add j) = some u) ∧ (∀ u ∈ us, u.oneCell' = true) ∧ KindRow w P us l := by
  have hnone : a = none → c = 0 := by
    obtain ⟨a', c', e, -, -, h6, -⟩ := (kidV_iff _ _ _ _).1 h
    injection e with e1 e2 e3
    subst e1 e3
    exact h6
  obtain ⟨a', c', e, h1, h2, h3⟩ := h.each
  injection e with e1 e2 e3
  subst e1 e2 e3
  have each : ∀ j, j < l.length → ∃ x : Value, (∀ ad, a = some ad → w.cell? (ad.add j) = some x) ∧ x.oneCell' = true ∧ ∃ hj : j < l.length, KidV w P l[j] x := by
    intro j hj
    obtain ⟨b, off, x, rfl, _, hx, hk⟩ := h3 j hj
    obtain ⟨a7, c7, rfl⟩ := hk.form
    exact ⟨_, fun ad had => by injection had with had; subst had; rw [Go.WideShapes.add_plain]; exact hx, rfl, hj, hk⟩
  obtain ⟨X, hX⟩ := Go.Deep.choose_lt each
  have hget : ∀ j u, ((List.range l.length).map X)[j]? = some u → j < l.length ∧ u = X j := by
    intro j u hu
    rcases Nat.lt_or_ge j l.length with hj | hj
    · rw [List.getElem?_map, List.getElem?_range hj] at hu
      injection hu with hu
      exact ⟨hj, hu.symm⟩
    · rw [List.getElem?_eq_none (by simpa using hj)] at hu
      cases hu
  refine ⟨rfl, h1, h2, fun h => ⟨by have := hnone h; omega, hnone h⟩, (List.range l.length).map X, by simp, fun ad had j u hu => ?_, fun u hu => ?_, by simp, fun j hj => ?_⟩
  · obtain ⟨hj, rfl⟩ := hget j u hu
    exact (hX j hj).1 ad had
  · obtain ⟨j, hj, rfl⟩ := List.getElem_of_mem hu
    have hj' : j < l.length := by simpa using hj
    rw [List.getElem_map, List.getElem_range]
    exact (hX j hj').2.1
  · obtain ⟨-, -, _, hk⟩ := hX j hj
    exact ⟨X j, by rw [List.getElem?_map, List.getElem?_range hj]; rfl, hk⟩
theorem KindRow.mono {w : World} {P Q : Nat → Prop} {us : List Value} {ts : List K} (h : KindRow w P us ts) (hq : ∀ b, P b → Q b) : KindRow w Q us ts := ⟨h.1, fun j hj => by obtain ⟨x, h1, h2⟩ := h.2 j hj; exact ⟨x, h1, h2.mono hq⟩⟩
theorem row_ksl {w : World} {base n : Nat} {v : Value} {us : List Value} {l : List K} {R S : Nat → Prop} (h : w.ownsRow base 24 1 v n us) (hn : n = l.length) (hr : KindRow w R us l) (hR : ∀ b, R b → S b) (hS : ∀ b, base ≤ b → b < w.heap.size → S b) : KSl w S v l := by
  subst hn
  refine (row_slice h hr).mono (fun q hq => ?_)
  rcases hq with hq | hq
  · exact hR q hq
  · exact hS q hq.1 hq.2
/-- what is appended to a row of kinds -/
theorem scope_row {P : Nat → Prop} {w W w' : World} {g : List K} {k : K} {us : List Value} {x : Value} {n : Nat} {v : Value} (hP : ∀ b, P b → b < W.heap.size) (hs : w.heap.size ≤ W.heap.size) (hr : KindRow W P us g) (hx : KidV W P k x) (ho : w'.ownsRow W.heap.size 24 1 v (n + 1) (us ++ [x])) (hn : n = g.length) (hg : W.grownBy w' none) : KSl w' (Ext P w w') v (g ++ [k]) := by
  have hsame : Same P W w' := fun b hb => hg.block b (hP b hb) (by simp)
  exact row_ksl ho (by rw [List.length_append, hn]; rfl) ((hr.keep hsame).push (hx.keep hsame)) (fun b hb => .inl hb) (fun b h1 h2 => .inr ⟨by omega, h2⟩)
def scopeOf (g : List K) (t : Con) : List K := if Con.binder t.op then g ++ [t.kind] else g
theorem scopeOf_rev (g : List K) (t : Con) : (scopeOf g t).reverse = inK g.reverse t.op t.kind := by
  unfold scopeOf inK
  split
  · rw [List.reverse_append]; rfl
  · rfl
def ScP (P : Nat → Prop) (g : List K) (w : World) (e : Ending) (w' : World) : Prop := (∃ a n c, e = .returned (.slice a n c) ∧ KSl w' (Ext P w w') (.slice a n c) g) ∧ Below w.heap.size w w'

set_option maxRecDepth 100000 in
set_option maxHeartbeats 2000000 in
theorem scope_9 (P : Nat → Prop) (g : List K) (t : Con) (w : World) (v x : Value) (hP : ∀ b, P b → b < w.heap.size) (hg : KSl w P v g) (ht : ConV w P t x) (hl : g.length ≤ 100000) (hcase : t.op = 9) :
    Calls Tryz.prog 132 #[v, x] w (ScP P (scopeOf g t) w) := by
  obtain ⟨R, hV⟩ : ∃ R : List K, R = scopeOf g t := ⟨_, rfl⟩
  rw [← hV]
  obtain ⟨ka, kn, kc, na, nn, nc, la, ln, lc, rfl, -, -, -⟩ := ht.shape
  have hkd : KidV w P t.kind (.slice ka kn kc) := by
    obtain ⟨hs, kv', nv', lv', e, hk, hn, hl⟩ := (conV_iff _ _ _ _).1 ht
    simp only [Value.agg.injEq, Array.mk.injEq, List.cons.injEq, and_true, true_and] at e
    obtain ⟨rfl, rfl, rfl⟩ := e
    exact hk
  obtain ⟨ga, gc, rfl, -⟩ := hg.each
  generalize t.n = num at *
  generalize t.s = s at *
  unfold scopeOf at hV
  obtain ⟨op, hop⟩ : ∃ op, op = t.op := ⟨_, rfl⟩
  rw [← hop] at hV hcase ⊢
  obtain ⟨hbx, hb⟩ := boxN_new w 28 #[.int .i64 op, .int .i64 num, .string s, .slice ka kn kc, .slice na nn nc, .slice la ln lc]
  have HP := Lib.hid hP
  have HB := Lib.hid hb
  have H1 := Lib.hid hbx
  have HCASE := Lib.hid hcase
  have HK := Lib.hid (hkd.keep (Same.of_below hb hP))
  have HGG := Lib.hid (hg.keep (Same.of_below hb hP))
  obtain ⟨gn, hgn⟩ : ∃ gn, gn = g.length := ⟨_, rfl⟩
  rw [← hgn] at HGG hl ⊢
  have HGN := Lib.hid hgn
  clear hg ht hkd hb hbx hop hcase hgn hP
  go_enter Tryz.func132, Tryz.ntmps132
  go_upto_region 1 with fail
  generalize w.alloc (.cells #[.int .i64 op, .int .i64 num, .string s, .slice ka kn kc, .slice na nn nc, .slice la ln lc] 28) = w2 at *
  have c0 := H1.out.cell 0 (.int .i64 op) rfl
  have hcase := HCASE.out
  subst hcase
  have HV := Lib.hid (show R = g ++ [t.kind] from hV)
  have c3 := H1.out.cell 3 (.slice ka kn kc) rfl
  obtain ⟨i28, hi0, hz0, hz1, hz2⟩ := info3 infoKind
  obtain ⟨-, hgc, hcm, hnone, us, hul, hcells, hone, hrow⟩ := kinds_us HGG.out
  have hblk := blk_new w2 #[.slice ka kn kc] 24
  have hb2 : Below w2.heap.size w2 (w2.alloc (.cells #[.slice ka kn kc] 24)).drew := ((Below.refl w2.heap.size w2).alloc (Nat.le_refl _) _).drew
  have hlow : ∀ b, P b → b < w2.heap.size := fun b h => Nat.lt_of_lt_of_le (HP.out b h) HB.out.size
  have HROW := Lib.hid (hrow.keep (Same.of_below hb2 hlow))
  have HKX := Lib.hid (HK.out.keep (Same.of_below hb2 hlow))
  have HLW := Lib.hid (show ∀ b, P b → b < (w2.alloc (.cells #[.slice ka kn kc] 24)).drew.heap.size from fun b h => Nat.lt_of_lt_of_le (hlow b h) hb2.size)
  have HSZ := Lib.hid (show w.heap.size ≤ (w2.alloc (.cells #[.slice ka kn kc] 24)).drew.heap.size from Nat.le_trans HB.out.size hb2.size)
  have HBW := Lib.hid (belowStep hb2 HB.out)
  have HCL := Lib.hid (show ∀ ad, ga = some ad → ∀ j u, us[j]? = some u → (w2.alloc (.cells #[.slice ka kn kc] 24)).drew.cell? (ad.add j) = some u from fun ad had j u hu => by
    have h := hcells ad had j u hu
    have hlt := World.block_lt_of_cell? _ _ h
    have := (hb2.block (ad.add j).block hlt)
    simp only [World.cell?] at h ⊢
    rw [this]
    exact h)
  have HNEW := Lib.hid (show ∀ j u, [Value.slice ka kn kc][j]? = some u → (w2.alloc (.cells #[.slice ka kn kc] 24)).drew.cell? ((⟨w2.heap.size, 0, none⟩ : Addr).add j) = some u from World.news_of_block (cs := #[.slice ka kn kc]) (t := 24) (fr := (0, 0)) hblk)
  clear hV hcells hrow hblk hb2 hlow HGG HK HCASE
  rcases ga with _ | ad
  · obtain ⟨rfl, rfl⟩ := hnone rfl
    obtain rfl : us = [] := List.eq_nil_of_length_eq_zero hul
    go_upto_region 6 with fail
    go_region_law (refine step_append_grows rfl (.tmp 17) (.tmp 20) 22 rfl 24 i28 (.agg #[.slice none 0 0]) 1 24 Tryz.underlying22 hi0 hz0 hz1 hz2 rfl (by decide) none 0 0 [] (by simp [Act.eval, Act.put]) (fun _ => ⟨rfl, rfl⟩) rfl (fun _ h => by cases h) ⟨w2.heap.size, 0, none⟩ 1 1 [.slice ka kn kc] (by simp [Act.eval, Act.put]) rfl HNEW.out (by simp [Value.oneCell']) (by omega) (by unfold maxLen; omega) (by omega) ?_; intro v' w' hown hgrow; have HOWN := Lib.hid hown; have HGROW := Lib.hid hgrow; clear hown hgrow)
    all_goals
      have HOUT := Lib.hid (scope_row (n := 0) HLW.out HSZ.out HROW.out HKX.out HOWN.out HGN.out HGROW.out)
      have HBO := Lib.hid (show Below w.heap.size w w' from HBW.out.grown HGROW.out HSZ.out (fun _ h => by cases h))
      obtain ⟨ra, rn, rc, hv'⟩ : ∃ ra rn rc, v' = .slice ra rn rc := by
        obtain ⟨ra, rc, h, -⟩ := HOUT.out.each
        exact ⟨ra, _, rc, h⟩
      clear HOWN HGROW HROW HKX HNEW HCL HLW HBW
      subst hv'
      go_wp2
      go_ret
      exact ⟨⟨ra, _, rc, rfl, by rw [HV.out]; exact HOUT.out⟩, HBO.out⟩
  · have q6 : ¬ gc < gn := by omega
    go_upto_region 6 with fail
    go_region_law (refine step_append_grows rfl (.tmp 17) (.tmp 20) 22 rfl 24 i28 (.agg #[.slice none 0 0]) 1 24 Tryz.underlying22 hi0 hz0 hz1 hz2 rfl (by decide) (some ad) gn gn us (by simp [Act.eval, Act.put]) (fun h => by cases h) (by rw [hul, Nat.mul_one]) HCL.out ⟨w2.heap.size, 0, none⟩ 1 1 [.slice ka kn kc] (by simp [Act.eval, Act.put]) rfl HNEW.out (by simp [Value.oneCell']) (by omega) (by unfold maxLen; omega) (by omega) ?_; intro v' w' hown hgrow; have HOWN := Lib.hid hown; have HGROW := Lib.hid hgrow; clear hown hgrow)
    all_goals
      have HOUT := Lib.hid (scope_row (n := gn) HLW.out HSZ.out HROW.out HKX.out HOWN.out HGN.out HGROW.out)
      have HBO := Lib.hid (show Below w.heap.size w w' from HBW.out.grown HGROW.out HSZ.out (fun _ h => by cases h))
      obtain ⟨ra, rn, rc, hv'⟩ : ∃ ra rn rc, v' = .slice ra rn rc := by
        obtain ⟨ra, rc, h, -⟩ := HOUT.out.each
        exact ⟨ra, _, rc, h⟩
      clear HOWN HGROW HROW HKX HNEW HCL HLW HBW
      subst hv'
      go_wp2
      go_ret
      exact ⟨⟨ra, _, rc, rfl, by rw [HV.out]; exact HOUT.out⟩, HBO.out⟩
set_option maxRecDepth 100000 in
set_option maxHeartbeats 2000000 in
theorem scope_10 (P : Nat → Prop) (g : List K) (t : Con) (w : World) (v x : Value) (hP : ∀ b, P b → b < w.heap.size) (hg : KSl w P v g) (ht : ConV w P t x) (hl : g.length ≤ 100000) (hcase : t.op = 10) :
    Calls Tryz.prog 132 #[v, x] w (ScP P (scopeOf g t) w) := by
  obtain ⟨R, hV⟩ : ∃ R : List K, R = scopeOf g t := ⟨_, rfl⟩
  rw [← hV]
  obtain ⟨ka, kn, kc, na, nn, nc, la, ln, lc, rfl, -, -, -⟩ := ht.shape
  have hkd : KidV w P t.kind (.slice ka kn kc) := by
    obtain ⟨hs, kv', nv', lv', e, hk, hn, hl⟩ := (conV_iff _ _ _ _).1 ht
    simp only [Value.agg.injEq, Array.mk.injEq, List.cons.injEq, and_true, true_and] at e
    obtain ⟨rfl, rfl, rfl⟩ := e
    exact hk
  obtain ⟨ga, gc, rfl, -⟩ := hg.each
  generalize t.n = num at *
  generalize t.s = s at *
  unfold scopeOf at hV
  obtain ⟨op, hop⟩ : ∃ op, op = t.op := ⟨_, rfl⟩
  rw [← hop] at hV hcase ⊢
  obtain ⟨hbx, hb⟩ := boxN_new w 28 #[.int .i64 op, .int .i64 num, .string s, .slice ka kn kc, .slice na nn nc, .slice la ln lc]
  have HP := Lib.hid hP
  have HB := Lib.hid hb
  have H1 := Lib.hid hbx
  have HCASE := Lib.hid hcase
  have HK := Lib.hid (hkd.keep (Same.of_below hb hP))
  have HGG := Lib.hid (hg.keep (Same.of_below hb hP))
  obtain ⟨gn, hgn⟩ : ∃ gn, gn = g.length := ⟨_, rfl⟩
  rw [← hgn] at HGG hl ⊢
  have HGN := Lib.hid hgn
  clear hg ht hkd hb hbx hop hcase hgn hP
  go_enter Tryz.func132, Tryz.ntmps132
  go_upto_region 1 with fail
  generalize w.alloc (.cells #[.int .i64 op, .int .i64 num, .string s, .slice ka kn kc, .slice na nn nc, .slice la ln lc] 28) = w2 at *
  have c0 := H1.out.cell 0 (.int .i64 op) rfl
  have hcase := HCASE.out
  have q0 : (op == 9) = false := beq_eq_false_iff_ne.2 (by omega)
  subst hcase
  have HV := Lib.hid (show R = g ++ [t.kind] from hV)
  have c3 := H1.out.cell 3 (.slice ka kn kc) rfl
  obtain ⟨i28, hi0, hz0, hz1, hz2⟩ := info3 infoKind
  obtain ⟨-, hgc, hcm, hnone, us, hul, hcells, hone, hrow⟩ := kinds_us HGG.out
  have hblk := blk_new w2 #[.slice ka kn kc] 24
  have hb2 : Below w2.heap.size w2 (w2.alloc (.cells #[.slice ka kn kc] 24)).drew := ((Below.refl w2.heap.size w2).alloc (Nat.le_refl _) _).drew
  have hlow : ∀ b, P b → b < w2.heap.size := fun b h => Nat.lt_of_lt_of_le (HP.out b h) HB.out.size
  have HROW := Lib.hid (hrow.keep (Same.of_below hb2 hlow))
  have HKX := Lib.hid (HK.out.keep (Same.of_below hb2 hlow))
  have HLW := Lib.hid (show ∀ b, P b → b < (w2.alloc (.cells #[.slice ka kn kc] 24)).drew.heap.size from fun b h => Nat.lt_of_lt_of_le (hlow b h) hb2.size)
  have HSZ := Lib.hid (show w.heap.size ≤ (w2.alloc (.cells #[.slice ka kn kc] 24)).drew.heap.size from Nat.le_trans HB.out.size hb2.size)
  have HBW := Lib.hid (belowStep hb2 HB.out)
  have HCL := Lib.hid (show ∀ ad, ga = some ad → ∀ j u, us[j]? = some u → (w2.alloc (.cells #[.slice ka kn kc] 24)).drew.cell? (ad.add j) = some u from fun ad had j u hu => by
    have h := hcells ad had j u hu
    have hlt := World.block_lt_of_cell? _ _ h
    have := (hb2.block (ad.add j).block hlt)
    simp only [World.cell?] at h ⊢
    rw [this]
    exact h)
  have HNEW := Lib.hid (show ∀ j u, [Value.slice ka kn kc][j]? = some u → (w2.alloc (.cells #[.slice ka kn kc] 24)).drew.cell? ((⟨w2.heap.size, 0, none⟩ : Addr).add j) = some u from World.news_of_block (cs := #[.slice ka kn kc]) (t := 24) (fr := (0, 0)) hblk)
  clear hV hcells hrow hblk hb2 hlow HGG HK HCASE
  rcases ga with _ | ad
  · obtain ⟨rfl, rfl⟩ := hnone rfl
    obtain rfl : us = [] := List.eq_nil_of_length_eq_zero hul
    go_upto_region 6 with fail
    go_region_law (refine step_append_grows rfl (.tmp 17) (.tmp 20) 22 rfl 24 i28 (.agg #[.slice none 0 0]) 1 24 Tryz.underlying22 hi0 hz0 hz1 hz2 rfl (by decide) none 0 0 [] (by simp [Act.eval, Act.put]) (fun _ => ⟨rfl, rfl⟩) rfl (fun _ h => by cases h) ⟨w2.heap.size, 0, none⟩ 1 1 [.slice ka kn kc] (by simp [Act.eval, Act.put]) rfl HNEW.out (by simp [Value.oneCell']) (by omega) (by unfold maxLen; omega) (by omega) ?_; intro v' w' hown hgrow; have HOWN := Lib.hid hown; have HGROW := Lib.hid hgrow; clear hown hgrow)
    all_goals
      have HOUT := Lib.hid (scope_row (n := 0) HLW.out HSZ.out HROW.out HKX.out HOWN.out HGN.out HGROW.out)
      have HBO := Lib.hid (show Below w.heap.size w w' from HBW.out.grown HGROW.out HSZ.out (fun _ h => by cases h))
      obtain ⟨ra, rn, rc, hv'⟩ : ∃ ra rn rc, v' = .slice ra rn rc := by
        obtain ⟨ra, rc, h, -⟩ := HOUT.out.each
        exact ⟨ra, _, rc, h⟩
      clear HOWN HGROW HROW HKX HNEW HCL HLW HBW
      subst hv'
      go_wp2
      go_ret
      exact ⟨⟨ra, _, rc, rfl, by rw [HV.out]; exact HOUT.out⟩, HBO.out⟩
  · have q6 : ¬ gc < gn := by omega
    go_upto_region 6 with fail
    go_region_law (refine step_append_grows rfl (.tmp 17) (.tmp 20) 22 rfl 24 i28 (.agg #[.slice none 0 0]) 1 24 Tryz.underlying22 hi0 hz0 hz1 hz2 rfl (by decide) (some ad) gn gn us (by simp [Act.eval, Act.put]) (fun h => by cases h) (by rw [hul, Nat.mul_one]) HCL.out ⟨w2.heap.size, 0, none⟩ 1 1 [.slice ka kn kc] (by simp [Act.eval, Act.put]) rfl HNEW.out (by simp [Value.oneCell']) (by omega) (by unfold maxLen; omega) (by omega) ?_; intro v' w' hown hgrow; have HOWN := Lib.hid hown; have HGROW := Lib.hid hgrow; clear hown hgrow)
    all_goals
      have HOUT := Lib.hid (scope_row (n := gn) HLW.out HSZ.out HROW.out HKX.out HOWN.out HGN.out HGROW.out)
      have HBO := Lib.hid (show Below w.heap.size w w' from HBW.out.grown HGROW.out HSZ.out (fun _ h => by cases h))
      obtain ⟨ra, rn, rc, hv'⟩ : ∃ ra rn rc, v' = .slice ra rn rc := by
        obtain ⟨ra, rc, h, -⟩ := HOUT.out.each
        exact ⟨ra, _, rc, h⟩
      clear HOWN HGROW HROW HKX HNEW HCL HLW HBW
      subst hv'
      go_wp2
      go_ret
      exact ⟨⟨ra, _, rc, rfl, by rw [HV.out]; exact HOUT.out⟩, HBO.out⟩
set_option maxRecDepth 100000 in
set_option maxHeartbeats 2000000 in
theorem scope_11 (P : Nat → Prop) (g : List K) (t : Con) (w : World) (v x : Value) (hP : ∀ b, P b → b < w.heap.size) (hg : KSl w P v g) (ht : ConV w P t x) (hl : g.length ≤ 100000) (hcase : t.op = 11) :
    Calls Tryz.prog 132 #[v, x] w (ScP P (scopeOf g t) w) := by
  obtain ⟨R, hV⟩ : ∃ R : List K, R = scopeOf g t := ⟨_, rfl⟩
  rw [← hV]
  obtain ⟨ka, kn, kc, na, nn, nc, la, ln, lc, rfl, -, -, -⟩ := ht.shape
  have hkd : KidV w P t.kind (.slice ka kn kc) := by
    obtain ⟨hs, kv', nv', lv', e, hk, hn, hl⟩ := (conV_iff _ _ _ _).1 ht
    simp only [Value.agg.injEq, Array.mk.injEq, List.cons.injEq, and_true, true_and] at e
    obtain ⟨rfl, rfl, rfl⟩ := e
    exact hk
  obtain ⟨ga, gc, rfl, -⟩ := hg.each
  generalize t.n = num at *
  generalize t.s = s at *
  unfold scopeOf at hV
  obtain ⟨op, hop⟩ : ∃ op, op = t.op := ⟨_, rfl⟩
  rw [← hop] at hV hcase ⊢
  obtain ⟨hbx, hb⟩ := boxN_new w 28 #[.int .i64 op, .int .i64 num, .string s, .slice ka kn kc, .slice na nn nc, .slice la ln lc]
  have HP := Lib.hid hP
  have HB := Lib.hid hb
  have H1 := Lib.hid hbx
  have HCASE := Lib.hid hcase
  have HK := Lib.hid (hkd.keep (Same.of_below hb hP))
  have HGG := Lib.hid (hg.keep (Same.of_below hb hP))
  obtain ⟨gn, hgn⟩ : ∃ gn, gn = g.length := ⟨_, rfl⟩
  rw [← hgn] at HGG hl ⊢
  have HGN := Lib.hid hgn
  clear hg ht hkd hb hbx hop hcase hgn hP
  go_enter Tryz.func132, Tryz.ntmps132
  go_upto_region 1 with fail
  generalize w.alloc (.cells #[.int .i64 op, .int .i64 num, .string s, .slice ka kn kc, .slice na nn nc, .slice la ln lc] 28) = w2 at *
  have c0 := H1.out.cell 0 (.int .i64 op) rfl
  have hcase := HCASE.out
  have q0 : (op == 9) = false := beq_eq_false_iff_ne.2 (by omega)
  have q1 : (op == 10) = false := beq_eq_false_iff_ne.2 (by omega)
  subst hcase
  have HV := Lib.hid (show R = g ++ [t.kind] from hV)
  have c3 := H1.out.cell 3 (.slice ka kn kc) rfl
  obtain ⟨i28, hi0, hz0, hz1, hz2⟩ := info3 infoKind
  obtain ⟨-, hgc, hcm, hnone, us, hul, hcells, hone, hrow⟩ := kinds_us HGG.out
  have hblk := blk_new w2 #[.slice ka kn kc] 24
  have hb2 : Below w2.heap.size w2 (w2.alloc (.cells #[.slice ka kn kc] 24)).drew := ((Below.refl w2.heap.size w2).alloc (Nat.le_refl _) _).drew
  have hlow : ∀ b, P b → b < w2.heap.size := fun b h => Nat.lt_of_lt_of_le (HP.out b h) HB.out.size
  have HROW := Lib.hid (hrow.keep (Same.of_below hb2 hlow))
  have HKX := Lib.hid (HK.out.keep (Same.of_below hb2 hlow))
  have HLW := Lib.hid (show ∀ b, P b → b < (w2.alloc (.cells #[.slice ka kn kc] 24)).drew.heap.size from fun b h => Nat.lt_of_lt_of_le (hlow b h) hb2.size)
  have HSZ := Lib.hid (show w.heap.size ≤ (w2.alloc (.cells #[.slice ka kn kc] 24)).drew.heap.size from Nat.le_trans HB.out.size hb2.size)
  have HBW := Lib.hid (belowStep hb2 HB.out)
  have HCL := Lib.hid (show ∀ ad, ga = some ad → ∀ j u, us[j]? = some u → (w2.alloc (.cells #[.slice ka kn kc] 24)).drew.cell? (ad.add j) = some u from fun ad had j u hu => by
    have h := hcells ad had j u hu
    have hlt := World.block_lt_of_cell? _ _ h
    have := (hb2.block (ad.add j).block hlt)
    simp only [World.cell?] at h ⊢
    rw [this]
    exact h)
  have HNEW := Lib.hid (show ∀ j u, [Value.slice ka kn kc][j]? = some u → (w2.alloc (.cells #[.slice ka kn kc] 24)).drew.cell? ((⟨w2.heap.size, 0, none⟩ : Addr).add j) = some u from World.news_of_block (cs := #[.slice ka kn kc]) (t := 24) (fr := (0, 0)) hblk)
  clear hV hcells hrow hblk hb2 hlow HGG HK HCASE
  rcases ga with _ | ad
  · obtain ⟨rfl, rfl⟩ := hnone rfl
    obtain rfl : us = [] := List.eq_nil_of_length_eq_zero hul
    go_upto_region 6 with fail
    go_region_law (refine step_append_grows rfl (.tmp 17) (.tmp 20) 22 rfl 24 i28 (.agg #[.slice none 0 0]) 1 24 Tryz.underlying22 hi0 hz0 hz1 hz2 rfl (by decide) none 0 0 [] (by simp [Act.eval, Act.put]) (fun _ => ⟨rfl, rfl⟩) rfl (fun _ h => by cases h) ⟨w2.heap.size, 0, none⟩ 1 1 [.slice ka kn kc] (by simp [Act.eval, Act.put]) rfl HNEW.out (by simp [Value.oneCell']) (by omega) (by unfold maxLen; omega) (by omega) ?_; intro v' w' hown hgrow; have HOWN := Lib.hid hown; have HGROW := Lib.hid hgrow; clear hown hgrow)
    all_goals
      have HOUT := Lib.hid (scope_row (n := 0) HLW.out HSZ.out HROW.out HKX.out HOWN.out HGN.out HGROW.out)
      have HBO := Lib.hid (show Below w.heap.size w w' from HBW.out.grown HGROW.out HSZ.out (fun _ h => by cases h))
      obtain ⟨ra, rn, rc, hv'⟩ : ∃ ra rn rc, v' = .slice ra rn rc := by
        obtain ⟨ra, rc, h, -⟩ := HOUT.out.each
        exact ⟨ra, _, rc, h⟩
      clear HOWN HGROW HROW HKX HNEW HCL HLW HBW
      subst hv'
      go_wp2
      go_ret
      exact ⟨⟨ra, _, rc, rfl, by rw [HV.out]; exact HOUT.out⟩, HBO.out⟩
  · have q6 : ¬ gc < gn := by omega
    go_upto_region 6 with fail
    go_region_law (refine step_append_grows rfl (.tmp 17) (.tmp 20) 22 rfl 24 i28 (.agg #[.slice none 0 0]) 1 24 Tryz.underlying22 hi0 hz0 hz1 hz2 rfl (by decide) (some ad) gn gn us (by simp [Act.eval, Act.put]) (fun h => by cases h) (by rw [hul, Nat.mul_one]) HCL.out ⟨w2.heap.size, 0, none⟩ 1 1 [.slice ka kn kc] (by simp [Act.eval, Act.put]) rfl HNEW.out (by simp [Value.oneCell']) (by omega) (by unfold maxLen; omega) (by omega) ?_; intro v' w' hown hgrow; have HOWN := Lib.hid hown; have HGROW := Lib.hid hgrow; clear hown hgrow)
    all_goals
      have HOUT := Lib.hid (scope_row (n := gn) HLW.out HSZ.out HROW.out HKX.out HOWN.out HGN.out HGROW.out)
      have HBO := Lib.hid (show Below w.heap.size w w' from HBW.out.grown HGROW.out HSZ.out (fun _ h => by cases h))
      obtain ⟨ra, rn, rc, hv'⟩ : ∃ ra rn rc, v' = .slice ra rn rc := by
        obtain ⟨ra, rc, h, -⟩ := HOUT.out.each
        exact ⟨ra, _, rc, h⟩
      clear HOWN HGROW HROW HKX HNEW HCL HLW HBW
      subst hv'
      go_wp2
      go_ret
      exact ⟨⟨ra, _, rc, rfl, by rw [HV.out]; exact HOUT.out⟩, HBO.out⟩
set_option maxRecDepth 100000 in
set_option maxHeartbeats 2000000 in
theorem scope_13 (P : Nat → Prop) (g : List K) (t : Con) (w : World) (v x : Value) (hP : ∀ b, P b → b < w.heap.size) (hg : KSl w P v g) (ht : ConV w P t x) (hl : g.length ≤ 100000) (hcase : t.op = 13) :
    Calls Tryz.prog 132 #[v, x] w (ScP P (scopeOf g t) w) := by
  obtain ⟨R, hV⟩ : ∃ R : List K, R = scopeOf g t := ⟨_, rfl⟩
  rw [← hV]
  obtain ⟨ka, kn, kc, na, nn, nc, la, ln, lc, rfl, -, -, -⟩ := ht.shape
  have hkd : KidV w P t.kind (.slice ka kn kc) := by
    obtain ⟨hs, kv', nv', lv', e, hk, hn, hl⟩ := (conV_iff _ _ _ _).1 ht
    simp only [Value.agg.injEq, Array.mk.injEq, List.cons.injEq, and_true, true_and] at e
    obtain ⟨rfl, rfl, rfl⟩ := e
    exact hk
  obtain ⟨ga, gc, rfl, -⟩ := hg.each
  generalize t.n = num at *
  generalize t.s = s at *
  unfold scopeOf at hV
  obtain ⟨op, hop⟩ : ∃ op, op = t.op := ⟨_, rfl⟩
  rw [← hop] at hV hcase ⊢
  obtain ⟨hbx, hb⟩ := boxN_new w 28 #[.int .i64 op, .int .i64 num, .string s, .slice ka kn kc, .slice na nn nc, .slice la ln lc]
  have HP := Lib.hid hP
  have HB := Lib.hid hb
  have H1 := Lib.hid hbx
  have HCASE := Lib.hid hcase
  have HK := Lib.hid (hkd.keep (Same.of_below hb hP))
  have HGG := Lib.hid (hg.keep (Same.of_below hb hP))
  obtain ⟨gn, hgn⟩ : ∃ gn, gn = g.length := ⟨_, rfl⟩
  rw [← hgn] at HGG hl ⊢
  have HGN := Lib.hid hgn
  clear hg ht hkd hb hbx hop hcase hgn hP
  go_enter Tryz.func132, Tryz.ntmps132
  go_upto_region 1 with fail
  generalize w.alloc (.cells #[.int .i64 op, .int .i64 num, .string s, .slice ka kn kc, .slice na nn nc, .slice la ln lc] 28) = w2 at *
  have c0 := H1.out.cell 0 (.int .i64 op) rfl
  have hcase := HCASE.out
  have q0 : (op == 9) = false := beq_eq_false_iff_ne.2 (by omega)
  have q1 : (op == 10) = false := beq_eq_false_iff_ne.2 (by omega)
  have q2 : (op == 11) = false := beq_eq_false_iff_ne.2 (by omega)
  subst hcase
  have HV := Lib.hid (show R = g ++ [t.kind] from hV)
  have c3 := H1.out.cell 3 (.slice ka kn kc) rfl
  obtain ⟨i28, hi0, hz0, hz1, hz2⟩ := info3 infoKind
  obtain ⟨-, hgc, hcm, hnone, us, hul, hcells, hone, hrow⟩ := kinds_us HGG.out
  have hblk := blk_new w2 #[.slice ka kn kc] 24
  have hb2 : Below w2.heap.size w2 (w2.alloc (.cells #[.slice ka kn kc] 24)).drew := ((Below.refl w2.heap.size w2).alloc (Nat.le_refl _) _).drew
  have hlow : ∀ b, P b → b < w2.heap.size := fun b h => Nat.lt_of_lt_of_le (HP.out b h) HB.out.size
  have HROW := Lib.hid (hrow.keep (Same.of_below hb2 hlow))
  have HKX := Lib.hid (HK.out.keep (Same.of_below hb2 hlow))
  have HLW := Lib.hid (show ∀ b, P b → b < (w2.alloc (.cells #[.slice ka kn kc] 24)).drew.heap.size from fun b h => Nat.lt_of_lt_of_le (hlow b h) hb2.size)
  have HSZ := Lib.hid (show w.heap.size ≤ (w2.alloc (.cells #[.slice ka kn kc] 24)).drew.heap.size from Nat.le_trans HB.out.size hb2.size)
  have HBW := Lib.hid (belowStep hb2 HB.out)
  have HCL := Lib.hid (show ∀ ad, ga = some ad → ∀ j u, us[j]? = some u → (w2.alloc (.cells #[.slice ka kn kc] 24)).drew.cell? (ad.add j) = some u from fun ad had j u hu => by
    have h := hcells ad had j u hu
    have hlt := World.block_lt_of_cell? _ _ h
    have := (hb2.block (ad.add j).block hlt)
    simp only [World.cell?] at h ⊢
    rw [this]
    exact h)
  have HNEW := Lib.hid (show ∀ j u, [Value.slice ka kn kc][j]? = some u → (w2.alloc (.cells #[.slice ka kn kc] 24)).drew.cell? ((⟨w2.heap.size, 0, none⟩ : Addr).add j) = some u from World.news_of_block (cs := #[.slice ka kn kc]) (t := 24) (fr := (0, 0)) hblk)
  clear hV hcells hrow hblk hb2 hlow HGG HK HCASE
  rcases ga with _ | ad
  · obtain ⟨rfl, rfl⟩ := hnone rfl
    obtain rfl : us = [] := List.eq_nil_of_length_eq_zero hul
    go_upto_region 6 with fail
    go_region_law (refine step_append_grows rfl (.tmp 17) (.tmp 20) 22 rfl 24 i28 (.agg #[.slice none 0 0]) 1 24 Tryz.underlying22 hi0 hz0 hz1 hz2 rfl (by decide) none 0 0 [] (by simp [Act.eval, Act.put]) (fun _ => ⟨rfl, rfl⟩) rfl (fun _ h => by cases h) ⟨w2.heap.size, 0, none⟩ 1 1 [.slice ka kn kc] (by simp [Act.eval, Act.put]) rfl HNEW.out (by simp [Value.oneCell']) (by omega) (by unfold maxLen; omega) (by omega) ?_; intro v' w' hown hgrow; have HOWN := Lib.hid hown; have HGROW := Lib.hid hgrow; clear hown hgrow)
    all_goals
      have HOUT := Lib.hid (scope_row (n := 0) HLW.out HSZ.out HROW.out HKX.out HOWN.out HGN.out HGROW.out)
      have HBO := Lib.hid (show Below w.heap.size w w' from HBW.out.grown HGROW.out HSZ.out (fun _ h => by cases h))
      obtain ⟨ra, rn, rc, hv'⟩ : ∃ ra rn rc, v' = .slice ra rn rc := by
        obtain ⟨ra, rc, h, -⟩ := HOUT.out.each
        exact ⟨ra, _, rc, h⟩
      clear HOWN HGROW HROW HKX HNEW HCL HLW HBW
      subst hv'
      go_wp2
      go_ret
      exact ⟨⟨ra, _, rc, rfl, by rw [HV.out]; exact HOUT.out⟩, HBO.out⟩
  · have q6 : ¬ gc < gn := by omega
    go_upto_region 6 with fail
    go_region_law (refine step_append_grows rfl (.tmp 17) (.tmp 20) 22 rfl 24 i28 (.agg #[.slice none 0 0]) 1 24 Tryz.underlying22 hi0 hz0 hz1 hz2 rfl (by decide) (some ad) gn gn us (by simp [Act.eval, Act.put]) (fun h => by cases h) (by rw [hul, Nat.mul_one]) HCL.out ⟨w2.heap.size, 0, none⟩ 1 1 [.slice ka kn kc] (by simp [Act.eval, Act.put]) rfl HNEW.out (by simp [Value.oneCell']) (by omega) (by unfold maxLen; omega) (by omega) ?_; intro v' w' hown hgrow; have HOWN := Lib.hid hown; have HGROW := Lib.hid hgrow; clear hown hgrow)
    all_goals
      have HOUT := Lib.hid (scope_row (n := gn) HLW.out HSZ.out HROW.out HKX.out HOWN.out HGN.out HGROW.out)
      have HBO := Lib.hid (show Below w.heap.size w w' from HBW.out.grown HGROW.out HSZ.out (fun _ h => by cases h))
      obtain ⟨ra, rn, rc, hv'⟩ : ∃ ra rn rc, v' = .slice ra rn rc := by
        obtain ⟨ra, rc, h, -⟩ := HOUT.out.each
        exact ⟨ra, _, rc, h⟩
      clear HOWN HGROW HROW HKX HNEW HCL HLW HBW
      subst hv'
      go_wp2
      go_ret
      exact ⟨⟨ra, _, rc, rfl, by rw [HV.out]; exact HOUT.out⟩, HBO.out⟩
set_option maxRecDepth 100000 in
set_option maxHeartbeats 2000000 in
theorem scope_no (P : Nat → Prop) (g : List K) (t : Con) (w : World) (v x : Value) (hP : ∀ b, P b → b < w.heap.size) (hg : KSl w P v g) (ht : ConV w P t x) (hl : g.length ≤ 100000) (hcase : t.op ≠ 9 ∧ t.op ≠ 10 ∧ t.op ≠ 11 ∧ t.op ≠ 13) :
    Calls Tryz.prog 132 #[v, x] w (ScP P (scopeOf g t) w) := by
  obtain ⟨R, hV⟩ : ∃ R : List K, R = scopeOf g t := ⟨_, rfl⟩
  rw [← hV]
  obtain ⟨ka, kn, kc, na, nn, nc, la, ln, lc, rfl, -, -, -⟩ := ht.shape
  have hkd : KidV w P t.kind (.slice ka kn kc) := by
    obtain ⟨hs, kv', nv', lv', e, hk, hn, hl⟩ := (conV_iff _ _ _ _).1 ht
    simp only [Value.agg.injEq, Array.mk.injEq, List.cons.injEq, and_true, true_and] at e
    obtain ⟨rfl, rfl, rfl⟩ := e
    exact hk
  obtain ⟨ga, gc, rfl, -⟩ := hg.each
  generalize t.n = num at *
  generalize t.s = s at *
  unfold scopeOf at hV
  obtain ⟨op, hop⟩ : ∃ op, op = t.op := ⟨_, rfl⟩
  rw [← hop] at hV hcase ⊢
  obtain ⟨hbx, hb⟩ := boxN_new w 28 #[.int .i64 op, .int .i64 num, .string s, .slice ka kn kc, .slice na nn nc, .slice la ln lc]
  have HP := Lib.hid hP
  have HB := Lib.hid hb
  have H1 := Lib.hid hbx
  have HCASE := Lib.hid hcase
  have HK := Lib.hid (hkd.keep (Same.of_below hb hP))
  have HGG := Lib.hid (hg.keep (Same.of_below hb hP))
  obtain ⟨gn, hgn⟩ : ∃ gn, gn = g.length := ⟨_, rfl⟩
  rw [← hgn] at HGG hl ⊢
  have HGN := Lib.hid hgn
  clear hg ht hkd hb hbx hop hcase hgn hP
  go_enter Tryz.func132, Tryz.ntmps132
  go_upto_region 1 with fail
  generalize w.alloc (.cells #[.int .i64 op, .int .i64 num, .string s, .slice ka kn kc, .slice na nn nc, .slice la ln lc] 28) = w2 at *
  have c0 := H1.out.cell 0 (.int .i64 op) rfl
  have hcase := HCASE.out
  have q0 : (op == 9) = false := beq_eq_false_iff_ne.2 (by omega)
  have q1 : (op == 10) = false := beq_eq_false_iff_ne.2 (by omega)
  have q2 : (op == 11) = false := beq_eq_false_iff_ne.2 (by omega)
  have q3 : (op == 13) = false := beq_eq_false_iff_ne.2 (by omega)
  have HV := Lib.hid (show R = g from by
    rw [hV, if_neg]
    unfold Con.binder
    simp only [Bool.or_eq_true, decide_eq_true_eq]
    omega)
  have HOUT := Lib.hid (HGG.out.mono (fun q hq => (show Ext P w w2 q from .inl hq)))
  clear hV hcase HCASE HK HGG
  go_wp2
  go_ret
  exact ⟨⟨ga, gn, gc, rfl, by rw [HV.out]; exact HOUT.out⟩, HB.out⟩
theorem scopeOf_any (P : Nat → Prop) (g : List K) (t : Con) (w : World) (v x : Value) (hP : ∀ b, P b → b < w.heap.size) (hg : KSl w P v g) (ht : ConV w P t x) (hl : g.length ≤ 100000) :
    Calls Tryz.prog 132 #[v, x] w (ScP P (scopeOf g t) w) := by
  by_cases h1 : t.op = 9
  · exact scope_9 P g t w v x hP hg ht hl h1
  by_cases h2 : t.op = 10
  · exact scope_10 P g t w v x hP hg ht hl h2
  by_cases h3 : t.op = 11
  · exact scope_11 P g t w v x hP hg ht hl h3
  by_cases h4 : t.op = 13
  · exact scope_13 P g t w v x hP hg ht hl h4
  exact scope_no P g t w v x hP hg ht hl ⟨h1, h2, h3, h4⟩
end Go.Proofs.YtpkgiemdnfbopaaGreat
namespace Go.Proofs.YtpkgiemdnfbopaaGreat
open Go Go.RowKit
open Pl (K Con KR KS kof kofs ownK inK appK)
set_option linter.unusedSimpArgs false
set_option linter.unusedVariables false

/-- append to a row of its own what is another one -/
theorem append_onto {P : Program} {w : World} {ops : Array Oper} {rest : List Oper} {o : Oper} {a : Act} {Q : Exit → Act → World → Prop} (hgd : o.guard = none) (s x : Operand) (t : TypeId)
    (ho : o.op = .call { callee := .builtin .append, args := #[s, x], argTypes := #[t, t] })
    (base : Nat) (e : TypeId) (i : TypeInfo) (z : Value) (size bytes : Nat) (ht : P.underlying t = some (.slice e)) (hi : P.info? e = some i) (hz : i.zero = some z)
    (hsize : i.size = size) (hby : i.bytes = bytes) (hzs : z.cells.size = size) (hsz : 0 < size)
    (v : Value) (n : Nat) (xs : List Value) (hs : a.eval s = v) (hown : w.ownsRow base e size v n xs) (u : Value) (base2 m : Nat) (news : List Value) (hx : a.eval x = u) (hu : w.ownsRow base2 e size u m news) (h1 : ∀ u ∈ news, u.oneCell' = true)
    (h63 : n + m ≤ maxLen) (hbytes : (n + m) * bytes ≤ 140737488355328) (hbase : base ≤ w.heap.size)
    (h : ∀ v' w', w'.ownsRow base e size v' (n + m) (xs ++ news) → w.grownBy w' v.ownBlock → wpList P ops Q rest (a.put o.dst v') w') : wpList P ops Q (o :: rest) a w := by
  rcases hu.2 with ⟨rfl, h0⟩ | ⟨g, cap, cu, rfl, hbg, hg, hnc, hcm, hcs, htake⟩
  · have hm : news.length = 0 := by rw [hu.1, h0, Nat.zero_mul]
    obtain rfl : news = [] := List.eq_nil_of_length_eq_zero hm
    subst h0
    have hh := h v w (by rw [Nat.add_zero, List.append_nil]; exact hown) ⟨rfl, rfl, rfl, Nat.le_refl _, fun _ _ _ => rfl⟩
    exact wpList_append_own_none hgd s x t ho base e i size ht hi v n xs hs hown hx hh
  · exact wpList_append_own w hgd s x t ho base e i z size bytes ht hi hz hsize hby hzs hsz v n xs hs hown ⟨g, 0, none⟩ m cap news hx hu.1 (hu.cells rfl) h1 h63 hbytes hbase (fun v' w' h2 h3 _ => h v' w' h2 h3)
theorem infoInt10 : (Tryz.prog.info? 3).map (fun i => (i.zero, i.size, i.bytes)) = some (some (.int .i64 0), 1, 8) := by kernel_rfl
/-- a place, as values -/
def pathV (p : List Nat) : List Value := p.map (fun (i : Nat) => Value.int .i64 (i : Int))
theorem pathV_one (p : List Nat) : ∀ u ∈ pathV p, u.oneCell' = true := by
  intro u hu
  obtain ⟨i, -, rfl⟩ := List.mem_map.1 hu
  rfl
/-- what kindOf answers -/
def KoP (P : Nat → Prop) (r : KR) (w : World) (e : Ending) (w' : World) : Prop :=
  (∃ a n c pv, e = .returned (.tuple #[.agg #[.slice a n c], pv, .int .i64 r.er]) ∧ KidV w' (Ext P w w') r.kd (.slice a n c) ∧ w'.ownsRow w.heap.size 3 1 pv r.pt.length (pathV r.pt)) ∧ Below w.heap.size w w'
theorem kop_bad {P : Nat → Prop} {w W : World} {R : KR} {e : Int} {k m : Nat} {p : List Nat} {pv : Value} {base : Nat} (hv : R = .bad e (k :: p)) (hb : Below w.heap.size w W) (hp : W.ownsRow base 3 1 pv (1 + m) ([.int .i64 (k : Int)] ++ pathV p)) (hm : m = p.length) (hbs : w.heap.size ≤ base) :
    KoP P R w (.returned (.tuple #[.agg #[.slice none 0 0], pv, .int .i64 e])) W := by
  subst hv hm
  refine ⟨⟨none, 0, 0, pv, rfl, kidV_none _ _, ?_⟩, hb⟩
  have h := hp.mono hbs
  rw [Nat.add_comm] at h
  exact h
theorem kop_fwd {P : Nat → Prop} {w W : World} {R r : KR} {er : Int} {g : Nat} {a : Option Addr} {n c : Nat} (hv : R = r) (her : r.er = er) (hpt : r.pt = []) (hg : w.heap.size ≤ g) (hb : Below w.heap.size w W) (hx : KidV W (Ext1 P w W g) r.kd (.slice a n c)) :
    KoP P R w (.returned (.tuple #[.agg #[.slice a n c], .slice none 0 0, .int .i64 er])) (W.setCell ⟨g, 0, none⟩ (.slice a n c)) := by
  subst hv her
  refine ⟨⟨a, n, c, _, rfl, (hx.keep (Same.set (w := W) ⟨g, 0, none⟩ (.slice a n c) (fun q hq => hq.2))).mono (fun q hq => ?_), ?_⟩, below_set hb hg _⟩
  · rcases hq.1 with hq | hq
    · exact .inl hq
    · exact .inr ⟨hq.1, by rw [size_set]; exact hq.2⟩
  · rw [hpt]; exact World.ownsRow_nil _ _ _ _
theorem kop_fwd2 {P : Nat → Prop} {w W : World} {R r : KR} {er : Int} {g : Nat} {a : Option Addr} {n c : Nat} (hv : R = r) (her : r.er = er) (hpt : r.pt = []) (hg : w.heap.size ≤ g) (hb : Below w.heap.size w W) (hx : KidV W (Ext1 P w W g) r.kd (.slice a n c)) :
    KoP P R w (.returned (.tuple #[.agg #[.slice a n c], .slice none 0 0, .int .i64 er])) ((W.setCell ⟨g, 0, none⟩ (.slice a n c)).setCell ⟨g, 0, none⟩ (.slice a n c)) :=
  kop_fwd hv her hpt hg (below_set hb hg _) ((hx.keep (Same.set (w := W) ⟨g, 0, none⟩ (.slice a n c) (fun q hq => hq.2))).mono (fun q hq => ⟨by
    rcases hq.1 with h | h
    · exact .inl h
    · exact .inr ⟨h.1, by rw [size_set]; exact h.2⟩, hq.2⟩))
theorem ownK_pt (r : List K) (op n : Int) (kd : K) (ks : List K) : (ownK r op n kd ks).pt = [] := by
  cases h : ownK r op n kd ks with
  | ok k => rfl
  | bad e p => rw [(Pl.ownK_bad h).1]; rfl
/-- what the loop holds -/
structure KI (Pin : Nat → Prop) (w3 wr : World) (t : Con) (g2 : List K) (ln k : Nat) (ks : List K) (us : List Value) : Prop where
  len : ks.length = k
  eq : kofs g2.reverse t.l 0 = (kofs g2.reverse (t.l.drop k) k).pre ks
  val : ∀ x ∈ ks, K.valid x = true
  row : wr.ownsRow w3.heap.size 24 1 (.slice (some ⟨w3.heap.size, 0, none⟩) ln ln) ln us
  kids : ∀ j (h : j < ks.length), ∃ x, us[j]? = some x ∧ KidV wr (fun q => Pin q ∨ (w3.heap.size < q ∧ q < wr.heap.size)) ks[j] x
  below : Below w3.heap.size w3 wr
  size : w3.heap.size < wr.heap.size
theorem KI.push {Pin : Nat → Prop} {w3 wr wc w5 : World} {t : Con} {g2 : List K} {ln k : Nat} {ks : List K} {us : List Value} {x : K} {a : Option Addr} {n c : Nat} (h : KI Pin w3 wr t g2 ln k ks us) (hPin : ∀ q, Pin q → q < w3.heap.size) (hk : k < t.l.length) (hkl : k < ln) (hx : kof g2.reverse t.l[k] = .ok x) (hv : K.valid x = true)
    (h1 : Below wr.heap.size wr wc) (h2 : Below wc.heap.size wc w5) (hkid : KidV w5 (Ext Pin wc w5) x (.slice a n c)) : KI Pin w3 (w5.setCell ⟨w3.heap.size, k, none⟩ (.slice a n c)) t g2 ln (k + 1) (ks ++ [x]) (us.set k (.slice a n c)) := by
  have hw := belowStep h2 h1
  have hsz := h.size
  have hs1 := h1.size
  have hs2 := h2.size
  have hrow5 : w5.ownsRow w3.heap.size 24 1 (.slice (some ⟨w3.heap.size, 0, none⟩) ln ln) ln us := h.row.kept (row := none) ⟨hw.os, hw.tape, hw.output, hw.size, fun i hi _ => hw.block i hi⟩ (.inr (by simp [Value.ownBlock]))
  refine ⟨by rw [List.length_append, h.len]; rfl, ?_, ?_, (hrow5.stored k (.slice a n c)).1, fun j hj => ?_, ?_, by rw [size_set]; omega⟩
  · rw [h.eq, Pl.kofs_step _ _ _ hk, hx]
    exact Pl.KS.pre_pre ks [x] _
  · intro y hy
    rcases List.mem_append.1 hy with hy | hy
    · exact h.val y hy
    · simp at hy
      rw [hy]; exact hv
  · have hlen : us.length = ln := by have := hrow5.1; rw [Nat.mul_one] at this; exact this
    by_cases hjk : j < ks.length
    · obtain ⟨y, hy, hky⟩ := h.kids j hjk
      have hlt : ∀ q, (Pin q ∨ (w3.heap.size < q ∧ q < wr.heap.size)) → q < wr.heap.size := fun q hq => by
        rcases hq with hq | hq
        · have := hPin q hq; omega
        · exact hq.2
      refine ⟨y, ?_, ?_⟩
      · rw [List.getElem?_set, if_neg (by have := h.len; omega)]
        exact hy
      · rw [List.getElem_append_left hjk]
        refine ((hky.keep (w' := w5) (fun q hq => hw.block q (hlt q hq))).keep (Same.set (w := w5) ⟨w3.heap.size, k, none⟩ (.slice a n c) (fun q hq e => by
          have e : q = w3.heap.size := e
          rcases hq with hq | hq
          · have := hPin q hq; omega
          · have := hq.1; omega))).mono (fun q hq => ?_)
        rcases hq with hq | hq
        · exact .inl hq
        · exact .inr ⟨hq.1, by rw [size_set]; omega⟩
    · have hjk2 : j = k := by rw [List.length_append, h.len] at hj; simp at hj; have := h.len; omega
      subst hjk2
      refine ⟨.slice a n c, ?_, ?_⟩
      · rw [List.getElem?_set, if_pos rfl, if_pos (by omega)]
      · have e : (ks ++ [x])[j] = x := by
          rw [List.getElem_append_right (by have := h.len; omega)]
          simp [h.len]
        rw [e]
        refine (hkid.keep (Same.set (w := w5) ⟨w3.heap.size, j, none⟩ (.slice a n c) (fun q hq e => by
          have e : q = w3.heap.size := e
          rcases hq with hq | hq
          · have := hPin q hq; omega
          · have := hq.1; omega))).mono (fun q hq => ?_)
        rcases hq with hq | hq
        · exact .inl hq
        · exact .inr ⟨by have := hq.1; omega, by rw [size_set]; exact hq.2⟩
  · exact (h.below.trans (hw.mono (by omega))).setCell (p := ⟨w3.heap.size, k, none⟩) (Nat.le_refl _) _
/-- all the parts have kinds -/
theorem KI.row_sl {Pin : Nat → Prop} {w3 wr : World} {t : Con} {g2 : List K} {ln k : Nat} {ks : List K} {us : List Value} (h : KI Pin w3 wr t g2 ln k ks us) (hk : k = ln) :
    KSl wr (fun q => Pin q ∨ (w3.heap.size ≤ q ∧ q < wr.heap.size)) (.slice (some ⟨w3.heap.size, 0, none⟩) ln ln) ks := by
  have hlen : us.length = ln := by have := h.row.1; rw [Nat.mul_one] at this; exact this
  refine row_ksl h.row (by rw [h.len, hk]) (R := fun q => Pin q ∨ (w3.heap.size < q ∧ q < wr.heap.size)) ⟨by rw [hlen, h.len, hk], h.kids⟩ (fun b hb => ?_) (fun b h1 h2 => .inr ⟨h1, h2⟩)
  rcases hb with hb | hb
  · exact .inl hb
  · exact .inr ⟨Nat.le_of_lt hb.1, hb.2⟩
theorem depth_part10 (t : Con) (k : Nat) (h : k < t.l.length) : t.l[k].depth + 1 ≤ t.depth := by
  have := Con.mem_depth (List.getElem_mem h)
  rw [Con.depth_eq t]; omega
theorem kof_len (t : Con) : ∀ (r : List K) (e : Int) (p : List Nat), kof r t = .bad e p → p.length + 1 ≤ t.depth := by
  induction t using Con.ind with
  | h t ih =>
  intro r e p h
  rw [Pl.kof_eq] at h
  cases hs : kofs (inK r t.op t.kind) t.l 0 with
  | bad e' p' =>
    rw [hs] at h
    injection h with h1 h2
    subst h1 h2
    obtain ⟨j, q, hj, h3, h4⟩ := Pl.kofs_bad _ _ _ _ _ hs
    have := ih _ (List.getElem_mem hj) _ _ _ h4
    have := depth_part10 t j hj
    rw [h3, List.length_cons]
    omega
  | ok ks =>
    rw [hs] at h
    rw [(Pl.ownK_bad h).1]
    exact Con.depth_pos t
set_option maxRecDepth 100000 in
set_option maxHeartbeats 2000000 in
theorem kindOf_any (t : Con) : ∀ (P : Nat → Prop) (g : List K) (w : World) (gv v : Value), (∀ b, P b → b < w.heap.size) → KSl w P gv g → ConV w P t v → Con.allB t = true → (∀ k ∈ g, K.valid k = true) → g.length + t.depth ≤ 100000 →
    Calls Tryz.prog 95 #[gv, v] w (KoP P (kof g.reverse t) w) := by
  induction t using Con.ind with
  | h t ih =>
  intro P g w gv v hP hg ht ha hgv hgl
  obtain ⟨hnode, hparts⟩ := allB_parts t ha
  have hkv := kind_valid t hnode
  have hll := (node_facts10 t hnode).2.2
  have HIH := Lib.hid (show ∀ (k : Nat) (hk : k < t.l.length) (r : KR) (P' : Nat → Prop) (g' : List K) (W : World) (gv' v' : Value), r = kof g'.reverse (t.l[k]'hk) → (∀ b, P' b → b < W.heap.size) → KSl W P' gv' g' → ConV W P' (t.l[k]'hk) v' → (∀ k ∈ g', K.valid k = true) → g'.length + (t.l[k]'hk).depth ≤ 100000 → Calls Tryz.prog 95 #[gv', v'] W (KoP P' r W) from fun k hk r P' g' W gv' v' hr a1 a2 a3 a5 a6 => by
    subst hr
    exact ih (t.l[k]'hk) (List.getElem_mem hk) P' g' W gv' v' a1 a2 a3 (hparts _ (List.getElem_mem hk)) a5 a6)
  have HPV := Lib.hid (fun (k : Nat) (hk : k < t.l.length) r x a1 a2 => kof_valid (t.l[k]'hk) r x (hparts _ (List.getElem_mem hk)) a1 a2)
  have HPB := Lib.hid (fun (k : Nat) (hk : k < t.l.length) r e p a1 => kof_bad (t.l[k]'hk) r e p a1)
  have HDP := Lib.hid (depth_part10 t)
  have HSC := Lib.hid (scopeOf_any P g t)
  have HND := Lib.hid (fun P' ks W x a1 a2 a3 a4 a6 a7 => kindOfNode_any P' g ks t W gv v x a1 a2 a3 a4 hnode a6 a7)
  obtain ⟨R, hV⟩ : ∃ R : KR, R = kof g.reverse t := ⟨_, rfl⟩
  rw [← hV]
  rw [Pl.kof_eq, ← scopeOf_rev] at hV
  have hPT := ownK_pt g.reverse t.op t.n t.kind
  generalize hOK : ownK g.reverse t.op t.n t.kind = OK at *
  have HV0 := Lib.hid hV
  have HPT := Lib.hid hPT
  have hg2v : ∀ k ∈ scopeOf g t, K.valid k = true := by
    unfold scopeOf
    split
    · intro k hk
      rcases List.mem_append.1 hk with hk | hk
      · exact hgv k hk
      · simp at hk; rw [hk]; exact hkv
    · exact hgv
  have hg2l : (scopeOf g t).length ≤ g.length + 1 := by
    unfold scopeOf
    split
    · rw [List.length_append]; exact Nat.le_refl _
    · omega
  have HG2V := Lib.hid hg2v
  generalize scopeOf g t = g2 at *
  have HSL := Lib.hid (fun W (hW : Below w.heap.size w W) => (show ConV W P t v ∧ KSl W P gv g ∧ ∀ b, P b → b < W.heap.size from ⟨ht.keep (Same.of_below hW hP), hg.keep (Same.of_below hW hP), low_up hP hW⟩))
  have HP := Lib.hid hP
  obtain ⟨ka, kn, kc, na, nn, nc, la, ln, lc, rfl, -, -, hln⟩ := ht.shape
  have HLL := Lib.hid (fun W (hW : Below w.heap.size w W) => (show ConSl W P (.slice la ln lc) t.l from by
    obtain ⟨hs, kv', nv', lv', e, hk, hn, hl⟩ := (conV_iff _ _ _ _).1 (HSL.out W hW).1
    simp only [Value.agg.injEq, Array.mk.injEq, List.cons.injEq, and_true, true_and] at e
    obtain ⟨rfl, rfl, rfl⟩ := e
    exact hl))
  obtain ⟨ga, gc, rfl, -⟩ := hg.each
  have HGL := Lib.hid hgl
  rw [hln] at HLL
  obtain ⟨n, hn⟩ : ∃ n, n = t.l.length := ⟨_, rfl⟩
  rw [hln] at HSL HND ⊢
  rw [← hn] at HLL hll HSL HND ⊢
  have HN := Lib.hid hn
  generalize t.n = num at *
  generalize t.s = s at *
  generalize t.op = op at *
  generalize g.length = gn at *
  obtain ⟨hbx, hbx2, hb⟩ := twoN_new w 28 24 #[.int .i64 op, .int .i64 num, .string s, .slice ka kn kc, .slice na nn nc, .slice la n lc] #[.slice none 0 0]
  have HB := Lib.hid hb
  have H1 := Lib.hid hbx
  have HR := Lib.hid hbx2
  have c0 := hbx.cell 0 (.int .i64 op) rfl
  have c1 := hbx.cell 1 (.int .i64 num) rfl
  have c2 := hbx.cell 2 (.string s) rfl
  have c3 := hbx.cell 3 (.slice ka kn kc) rfl
  have c4 := hbx.cell 4 (.slice na nn nc) rfl
  have c5 := hbx.cell 5 (.slice la n lc) rfl
  clear ih hP hg ht ha hgv hgl hnode hparts hV hOK hPT hg2v hln hn hbx hbx2 hb hkv
  go_enter Tryz.func95, Tryz.ntmps95
  go_wp2_with fail
  clear c0 c1 c2 c3 c4 c5
  generalize (w.alloc (.cells #[.int .i64 op, .int .i64 num, .string s, .slice ka kn kc, .slice na nn nc, .slice la n lc] 28)).alloc (.cells #[.slice none 0 0] 24) = w2 at *
  refine (HSC.out w2 _ _ (HSL.out w2 HB.out).2.2 (HSL.out w2 HB.out).2.1 (HSL.out w2 HB.out).1 (by have := HGL.out; omega)).mono ?_
  rintro e w3 ⟨⟨ya, yn, yc, rfl, hin⟩, hb3⟩
  have HIN := Lib.hid hin
  have HBB := Lib.hid HB.out.size
  have HS2 := Lib.hid (show w.heap.size + 1 < w2.heap.size from HR.out.lt)
  have HS3 := Lib.hid hb3.size
  have HRL := Lib.hid (show w.heap.size + 1 < w3.heap.size from by have := HS2.out; have := HS3.out; omega)
  replace HB := Lib.hid (belowStep hb3 HB.out)
  replace H1 := Lib.hid (H1.out.of_eq (hb3.block _ H1.out.lt))
  replace HR := Lib.hid (HR.out.of_eq (hb3.block _ HR.out.lt))
  clear hin hb3 HSC
  obtain ⟨i28, hi0, hz0, hz1, hz2⟩ := info3 infoKind
  have hmk : Sem.run Tryz.prog (Instr.makeSlice 22 (.int .i64 (n : Int)) (.int .i64 (n : Int))) w3 = .ok (.slice (some ⟨w3.heap.size, 0, none⟩) n n) (w3.alloc (.cells (madeCells #[.slice none 0 0] n) 24)) := by
    have h := run_make (P := Tryz.prog) w3 22 24 i28 _ Tryz.underlying22 hi0 hz0 .i64 .i64 n n (by omega) (Int.le_refl _) (by rw [hz2]; omega) (by omega)
    simp only [Int.toNat_natCast, hz1, Nat.mul_one] at h
    exact h
  have hcsz : (madeCells #[.slice none 0 0] n).size = n * 1 := by
    have := size_madeCells #[Value.slice none 0 0] n
    rw [this, Nat.mul_one]
  generalize madeCells #[.slice none 0 0] n = cs at *
  have hk0 : KI (Ext P w2 w3) w3 (w3.alloc (.cells cs 24)) t g2 n 0 [] cs.toList := ⟨rfl, by rw [List.drop_zero, Pl.KS.pre_nil], (fun x hx => by cases hx), World.ownsRow_lit w3 cs n (Nat.le_refl _) (by unfold maxLen; omega) hcsz, (fun j hj => absurd hj (Nat.not_lt_zero _)), (Below.refl _ _).alloc (Nat.le_refl _) _, by rw [size_alloc]; omega⟩
  have HK0 := Lib.hid hk0
  have c5 := H1.out.cell 5 (.slice la n lc) rfl
  have d5 := (H1.out.of_eq ((hk0.below).block _ H1.out.lt)).cell 5 (.slice la n lc) rfl
  clear hk0 hcsz
  go_wp2_with fail
  clear hmk c5 d5
  generalize w3.alloc (.cells cs 24) = w4 at *
  go_loopg [21] (n + 1) (fun gk i wr => ∃ (k : Nat) (ks : List K) (us : List Value), k ≤ n ∧ i = .int .i64 k ∧ gk = n + 1 - k ∧ KI (Ext P w2 w3) w3 wr t g2 n k ks us)
  case atStart => exact ⟨0, [], cs.toList, by omega, rfl, by omega, HK0.out⟩
  case round =>
    obtain ⟨k, ks, us, hk, rfl, hgk, hki⟩ := hrel
    have HKI := Lib.hid hki
    have hsz := hki.size
    have HW0 := Lib.hid (show Below w.heap.size w wr from belowStep (a := w) (b := w3) hki.below HB.out)
    have HINr := Lib.hid (HIN.out.keep (Same.of_below hki.below (fun q hq => by
      rcases hq with hq | hq
      · have := HP.out q hq; have := HBB.out; have := HS3.out; omega
      · exact hq.2)))
    have H1r := Lib.hid (H1.out.of_eq (hki.below.block _ H1.out.lt))
    have HRr := Lib.hid (HR.out.of_eq (hki.below.block _ HR.out.lt))
    have HPIN := Lib.hid (show ∀ q, Ext P w2 w3 q → q < w3.heap.size from fun q hq => by
      rcases hq with hq | hq
      · have := HP.out q hq; have := HBB.out; have := HS3.out; omega
      · exact hq.2)
    by_cases hlt : k < n
    · have q5 : decide ((k : Int) < (n : Int)) = true := decide_eq_true (by omega)
      have hkl : k < t.l.length := by rw [← HN.out]; exact hlt
      obtain ⟨b, off, c', xa, xn, xc, xa2, xn2, xc2, za, zn, zc, e, -, f0, f1, f2, f3, f4, f5, hx⟩ := (HLL.out wr HW0.out).part k hkl
      injection e with e1 e2 e3
      subst e1 e3
      clear e2
      obtain ⟨hbx, hb⟩ := boxN_new wr 28 #[.int .i64 t.l[k].op, .int .i64 t.l[k].n, .string t.l[k].s, .slice xa xn xc, .slice xa2 xn2 xc2, .slice za zn zc]
      have g0 := hbx.cell 0 (.int .i64 t.l[k].op) rfl
      have g1 := hbx.cell 1 (.int .i64 t.l[k].n) rfl
      have g2' := hbx.cell 2 (.string t.l[k].s) rfl
      have g3 := hbx.cell 3 (.slice xa xn xc) rfl
      have g4 := hbx.cell 4 (.slice xa2 xn2 xc2) rfl
      have g5 := hbx.cell 5 (.slice za zn zc) rfl
      obtain ⟨r, hr⟩ : ∃ r, r = kof g2.reverse t.l[k] := ⟨_, rfl⟩
      have HC := Lib.hid (HIH.out k hkl r (Ext P w2 w3) g2 _ (.slice ya yn yc) _ hr (fun q hq => by have := HPIN.out q hq; have := hb.size; omega) (HINr.out.keep (Same.of_below hb (fun q hq => by have := HPIN.out q hq; omega))) ((hx.mono (fun q hq => (show Ext P w2 w3 q from .inl hq))).keep (Same.of_below hb (fun q hq => by have := HPIN.out q hq; omega))) HG2V.out (by have := HDP.out k hkl; have := HGL.out; omega))
      have HBC := Lib.hid hb
      have HKL := Lib.hid hkl
      have HLT := Lib.hid hlt
      have HRK := Lib.hid hr
      generalize t.l[k].op = xop at *
      generalize t.l[k].n = xnum at *
      generalize t.l[k].s = xs' at *
      clear hx hki hbx hb hr
      rcases r with x | ⟨er, p⟩
      · go_wp2_with fail
        clear f0 f1 f2 f3 f4 f5 g0 g1 g2' g3 g4 g5
        generalize wr.alloc (.cells #[.int .i64 xop, .int .i64 xnum, .string xs', .slice xa xn xc, .slice xa2 xn2 xc2, .slice za zn zc] 28) = wc at *
        refine HC.out.mono ?_
        rintro e w5 ⟨⟨qa, qn, qc, pv, rfl, hkid, hpv⟩, hb5⟩
        have HNX := Lib.hid (HKI.out.push (a := qa) (n := qn) (c := qc) HPIN.out HKL.out HLT.out HRK.out.symm (HPV.out k HKL.out g2.reverse x (fun y hy => HG2V.out y (List.mem_reverse.1 hy)) HRK.out.symm) HBC.out hb5 hkid)
        have hrow5 : w5.ownsRow w3.heap.size 24 1 (.slice (some ⟨w3.heap.size, 0, none⟩) n n) n us := by
          have hw := belowStep hb5 HBC.out
          exact HKI.out.row.kept (row := none) ⟨hw.os, hw.tape, hw.output, hw.size, fun i hi _ => hw.block i hi⟩ (.inr (by simp [Value.ownBlock]))
        have hul : us.length = n := by have := hrow5.1; rw [Nat.mul_one] at this; exact this
        have cB : w5.cell? ⟨w3.heap.size, k, none⟩ = some us[k] := by
          rw [hrow5.cellAt k (by omega), List.getElem?_eq_getElem (by omega)]
        have fB := hrow5.frozenAt k
        generalize us[k] = uk at *
        have qe : (KR.er (.ok x) == 0) = true := rfl
        generalize KR.er (.ok x) = er0 at *
        obtain rfl : er0 = 0 := by simpa using qe
        clear hkid hpv hb5 hrow5 hul qe HC HKI
        go_wp2
        go_roundg (gk - 1)
        case measure => omega
        case rel => exact ⟨k + 1, ks ++ [x], _, by omega, by go_num, by omega, HNX.out⟩
      · go_wp2_with fail
        clear f0 f1 f2 f3 f4 f5 g0 g1 g2' g3 g4 g5
        generalize wr.alloc (.cells #[.int .i64 xop, .int .i64 xnum, .string xs', .slice xa xn xc, .slice xa2 xn2 xc2, .slice za zn zc] 28) = wc at *
        refine HC.out.mono ?_
        rintro e w5 ⟨⟨qa, qn, qc, pv, rfl, hkid, hpv⟩, hb5⟩
        have hw := belowStep hb5 HBC.out
        have hrow5 : w5.ownsRow w3.heap.size 24 1 (.slice (some ⟨w3.heap.size, 0, none⟩) n n) n us := HKI.out.row.kept (row := none) ⟨hw.os, hw.tape, hw.output, hw.size, fun i hi _ => hw.block i hi⟩ (.inr (by simp [Value.ownBlock]))
        have hul : us.length = n := by have := hrow5.1; rw [Nat.mul_one] at this; exact this
        have cB : w5.cell? ⟨w3.heap.size, k, none⟩ = some us[k] := by
          rw [hrow5.cellAt k (by omega), List.getElem?_eq_getElem (by omega)]
        have fB := hrow5.frozenAt k
        generalize us[k] = uk at *
        have hne : er ≠ 0 := HPB.out k HKL.out _ er p HRK.out.symm
        have qe : (er == 0) = false := beq_eq_false_iff_ne.2 hne
        have HV := Lib.hid (show R = .bad er (k :: p) from by
          rw [HV0.out, HKI.out.eq, Pl.kofs_step _ _ _ HKL.out, ← HRK.out]
          rfl)
        have hpl : p.length + 1 ≤ 100000 := by
          have h1 := kof_len _ _ _ _ HRK.out.symm
          have h2 := HDP.out k HKL.out
          have h3 := HGL.out
          omega
        obtain ⟨i3, hi3, hy0, hy1, hy2⟩ := info3 infoInt10
        have hs5 := hw.size
        have hs6 := hb5.size
        have hs7 := HBC.out.size
        have hbw : Below w.heap.size w w5 := belowStep hw HW0.out
        have HBW6 := Lib.hid (show Below w.heap.size w (w5.setCell ⟨w3.heap.size, k, none⟩ (.slice qa qn qc)) from hbw.setCell (p := ⟨w3.heap.size, k, none⟩) HB.out.size _)
        have hlit := World.ownsRow_lit (e := 3) (base := w5.heap.size) (size := 1) (w5.setCell ⟨w3.heap.size, k, none⟩ (.slice qa qn qc)) #[.int .i64 (k : Int)] 1 (by rw [size_set]; exact Nat.le_refl _) (by unfold maxLen; omega) rfl
        rw [size_set] at hlit
        have hpv : w5.ownsRow wc.heap.size 3 1 pv p.length (pathV p) := hpv
        have hpv6 : (w5.setCell ⟨w3.heap.size, k, none⟩ (.slice qa qn qc)).ownsRow wc.heap.size 3 1 pv p.length (pathV p) := hpv.kept (row := some w3.heap.size) ⟨rfl, rfl, rfl, by rw [size_set]; exact Nat.le_refl _, fun q hq hn => Below.heap_setCell w5 ⟨w3.heap.size, k, none⟩ _ q (fun e => hn (by rw [e]))⟩ (.inr fun e => by
          have := (hpv.lt w3.heap.size e).1
          omega)
        have HPV7 := Lib.hid (hpv6.alloc (.cells #[.int .i64 (k : Int)] 3))
        have HLIT := Lib.hid hlit
        have hr5 := (HRr.out.of_eq (hw.block _ HRr.out.lt)).other ⟨w3.heap.size, k, none⟩ (.slice qa qn qc) (by have := HRL.out; simp; omega)
        have HR7 := Lib.hid (hr5.alloc (.cells #[.int .i64 (k : Int)] 3))
        have HB7 := Lib.hid (show Below w.heap.size w ((w5.setCell ⟨w3.heap.size, k, none⟩ (.slice qa qn qc)).alloc (.cells #[.int .i64 (k : Int)] 3)) from below_new HBW6.out)
        have HS7 := Lib.hid (show w.heap.size + 1 < w5.heap.size ∧ ((w5.setCell ⟨w3.heap.size, k, none⟩ (.slice qa qn qc)).alloc (.cells #[.int .i64 (k : Int)] 3)).heap.size = w5.heap.size + 1 from ⟨by have := HRL.out; omega, by rw [size_alloc, size_set]⟩)
        generalize hge : KR.er (.bad er p) = er1 at *
        obtain rfl : er1 = er := hge.symm
        clear hkid hpv hpv6 hb5 hrow5 hul HC HKI hw hne hlit hr5 hbw hs5 hs6 hs7 hge HIH HPV HPB HND HSL HLL HIN HINr
        go_wp2_with (at_builtin; refine append_onto rfl _ _ 74 rfl w5.heap.size 3 i3 (.int .i64 0) 1 8 Tryz.underlying74 hi3 hy0 hy1 hy2 rfl (by decide) _ 1 _ rfl HLIT.out pv _ p.length (pathV p) rfl HPV7.out (pathV_one p) ?c1 ?c2 ?c3 ?_)
        case c1 => unfold maxLen; omega
        case c2 => omega
        case c3 => rw [HS7.out.2]; omega
        intro v' w8 hown hgrow
        have hr8 : Blk w8 (w.heap.size + 1) 24 #[.slice none 0 0] := HR7.out.of_eq (hgrow.block _ HR7.out.lt (by have := HS7.out.1; simp [Value.ownBlock]; omega))
        have hb8 : Below w.heap.size w w8 := HB7.out.grown hgrow (by rw [HS7.out.2]; have := HS7.out.1; omega) (fun q hq => by
          have hq : (some w5.heap.size : Option Nat) = some q := hq
          injection hq with hq
          have := HS7.out.1; omega)
        have c9 := hr8.cell 0 (.slice none 0 0) rfl
        have f9 := hr8.thaw 0
        have HE1 := Lib.hid (blk_one (y := .slice none 0 0) hr8)
        have HE0 := Lib.hid (kop_bad (P := P) HV.out hb8 hown rfl (by have := HS7.out.1; omega))
        have HE := Lib.hid (kop_bad (P := P) (W := w8.setCell ⟨w.heap.size + 1, 0, none⟩ (.slice none 0 0)) HV.out (below_set hb8 (Nat.le_succ _) _) (hown.kept (row := some (w.heap.size + 1)) ⟨rfl, rfl, rfl, by rw [size_set]; exact Nat.le_refl _, fun q hq hn => Below.heap_setCell w8 ⟨w.heap.size + 1, 0, none⟩ _ q (fun e => hn (by rw [e]))⟩ (.inr fun e => by
          have := (hown.lt _ e).1
          have := HS7.out.1
          omega)) rfl (by have := HS7.out.1; omega))
        clear hown hgrow hr8 hb8 HPV7 HLIT HR7 HB7 HBW6
        go_wp2
        have d9 := HE1.out.cell 0 (.slice none 0 0) rfl
        refine bodyPost_ret (v := .tuple #[.agg #[.slice none 0 0], v', .int .i64 er1]) (by first | (simp [results, Tryz.results95, go_sem, d9]; done) | (simp [results, Tryz.results95, go_sem, c9]; done)) rfl ?_
        first | exact HE.out | exact HE0.out
    · have q5 : decide ((k : Int) < (n : Int)) = false := decide_eq_false (by omega)
      have hkn : k = n := by omega
      have hks : ks.length = n := by rw [hki.len, hkn]
      have HV := Lib.hid (show R = OK ks from by
        rw [HV0.out, hki.eq, List.drop_of_length_le (by rw [← HN.out]; omega), Pl.kofs_nil]
        show OK (ks ++ []) = _
        rw [List.append_nil])
      have hrow := hki.row_sl hkn
      have HLOW := Lib.hid (show ∀ q, (Ext P w2 w3 q ∨ (w3.heap.size ≤ q ∧ q < wr.heap.size)) → q < wr.heap.size from fun q hq => by
        rcases hq with hq | hq
        · have := HPIN.out q hq; omega
        · exact hq.2)
      have HC := Lib.hid (HND.out (fun q => Ext P w2 w3 q ∨ (w3.heap.size ≤ q ∧ q < wr.heap.size)) ks wr (.slice (some ⟨w3.heap.size, 0, none⟩) n n) HLOW.out ((HSL.out wr HW0.out).2.1.mono (fun q hq => .inl (.inl hq))) ((HSL.out wr HW0.out).1.mono (fun q hq => .inl (.inl hq))) hrow hks hki.val)
      have HPTK := Lib.hid (HPT.out ks)
      generalize OK ks = ok at *
      have c0 := H1r.out.cell 0 (.int .i64 op) rfl
      have c1 := H1r.out.cell 1 (.int .i64 num) rfl
      have c2 := H1r.out.cell 2 (.string s) rfl
      have c3 := H1r.out.cell 3 (.slice ka kn kc) rfl
      have c4 := H1r.out.cell 4 (.slice na nn nc) rfl
      have c5 := H1r.out.cell 5 (.slice la n lc) rfl
      clear hki HKI hrow hks HIH HPV HPB HND HSL HLL HIN HINr HPT HV0 HDP HK0 HG2V
      go_wp2_with fail
      clear c0 c1 c2 c3 c4 c5
      refine HC.out.mono ?_
      rintro e w5 ⟨⟨ra, rn, rc, rfl, hkd⟩, hb5⟩
      have HX := Lib.hid (hkd.mono (fun q hq => (show Ext1 P w w5 (w.heap.size + 1) q from by
        have h2 := HS2.out
        have h3 := HS3.out
        have h4 := hb5.size
        rcases hq with ((hq | hq) | hq) | hq
        · exact ⟨.inl hq, by have := HP.out q hq; omega⟩
        · exact ⟨.inr ⟨by omega, by omega⟩, by omega⟩
        · exact ⟨.inr ⟨by omega, by omega⟩, by omega⟩
        · exact ⟨.inr ⟨by omega, by omega⟩, by omega⟩)))
      have hr9 := HRr.out.of_eq (hb5.block _ HRr.out.lt)
      have HB5 := Lib.hid (belowStep hb5 HW0.out)
      obtain ⟨er, her⟩ : ∃ er, KR.er ok = er := ⟨_, rfl⟩
      rw [her]
      have c9 := hr9.cell 0 (.slice none 0 0) rfl
      have f9 := hr9.thaw 0
      have HE1 := Lib.hid (blk_one (y := .slice ra rn rc) hr9)
      have HE := Lib.hid (kop_fwd (P := P) HV.out her HPTK.out (Nat.le_succ w.heap.size) HB5.out HX.out)
      have HE2 := Lib.hid (kop_fwd2 (P := P) HV.out her HPTK.out (Nat.le_succ w.heap.size) HB5.out HX.out)
      clear hr9 hkd hb5 HC HX her
      go_wp2
      have d9 := HE1.out.cell 0 (.slice ra rn rc) rfl
      refine bodyPost_ret (v := .tuple #[.agg #[.slice ra rn rc], .slice none 0 0, .int .i64 er]) (by simp [results, Tryz.results95, go_sem, d9]) rfl ?_
      first | exact HE2.out | exact HE.out
end Go.Proofs.YtpkgiemdnfbopaaGreat
namespace Go.Proofs.YtpkgiemdnfbopaaGreat
open Go Go.RowKit
open Pl (K Con KR KS kof kofs ownK inK appK)
set_option linter.unusedSimpArgs false
set_option linter.unusedVariables false

/-- whether a scope is valid -/
def scopeB (g : List K) : Bool := decide (g.length ≤ 1000) && g.all K.valid
set_option maxRecDepth 100000 in
set_option maxHeartbeats 1000000 in
theorem isScope_any (P : Nat → Prop) (l : List K) (w : World) (v : Value) (hP : ∀ b, P b → b < w.heap.size) (ht : KSl w P v l) :
    Calls Tryz.prog 131 #[v] w fun e w' => e = .returned (.bool (scopeB l)) ∧ Below w.heap.size w w' := by
  obtain ⟨a, c, rfl, hlc, hcm, hka⟩ := ht.each
  clear ht
  have HP := Lib.hid hP
  have HKA := Lib.hid hka
  obtain ⟨R, hV⟩ : ∃ R, R = scopeB l := ⟨_, rfl⟩
  rw [← hV]
  unfold scopeB at hV
  obtain ⟨n, hn⟩ : ∃ n, n = l.length := ⟨_, rfl⟩
  have HN := Lib.hid hn
  rw [← hn] at hlc hV ⊢
  have hn63 : n ≤ 9223372036854775807 := by unfold maxLen at hcm; omega
  by_cases hbig : 1000 < n
  · have q1 : decide ((1000 : Int) < (n : Int)) = true := decide_eq_true (by omega)
    have HV := Lib.hid (show R = false from by rw [hV, decide_eq_false (by omega : ¬ n ≤ 1000)]; rfl)
    clear hV hka hn hP
    go_enter Tryz.func131, Tryz.ntmps131
    go_wp2
    go_ret
    exact ⟨by rw [HV.out]; rfl, Below.refl _ _⟩
  have q1 : decide ((1000 : Int) < (n : Int)) = false := decide_eq_false (by omega)
  rw [decide_eq_true (by omega : n ≤ 1000), Bool.true_and] at hV
  have HV := Lib.hid hV
  clear hka hn hcm hlc hV hP hbig
  go_enter Tryz.func131, Tryz.ntmps131
  go_wp2_with fail
  go_loopg [10] (n + 1) (fun g i wr => ∃ k : Nat, k ≤ n ∧ i = .int .i64 k ∧ g = n + 1 - k ∧ R = (l.drop k).all K.valid ∧ Below w.heap.size w wr)
  case atStart => exact ⟨0, by omega, rfl, by omega, by rw [List.drop_zero]; exact HV.out, Below.refl _ _⟩
  case round =>
    obtain ⟨k, hk, rfl, hg, hrk, hbw⟩ := hrel
    have HBW := Lib.hid hbw
    have HK := Lib.hid hrk
    by_cases hlt : k < n
    · have q5 : decide ((k : Int) < (n : Int)) = true := decide_eq_true (by omega)
      have hkl : k < l.length := by rw [← HN.out]; exact hlt
      obtain ⟨b, off, x, e, hPb, hx, hkx⟩ := HKA.out k hkl
      subst e
      obtain ⟨a7, c7, rfl⟩ := hkx.form
      have f0 := (HBW.out.cell (p := ⟨b, off + k, none⟩) (HP.out b hPb)).trans hx
      obtain ⟨hbx, hb⟩ := boxN_new wr 24 #[.slice a7 l[k].l.length c7]
      have g0 := hbx.cell 0 (.slice a7 l[k].l.length c7) rfl
      have HC := Lib.hid (valid_any P l[k] (wr.alloc (.cells #[.slice a7 l[k].l.length c7] 24)) (.agg #[.slice a7 l[k].l.length c7]) (fun q hq => Nat.lt_of_lt_of_le (HP.out q hq) (belowStep hb HBW.out).size) ⟨_, rfl, hkx.keep (Same.of_below (belowStep hb HBW.out) HP.out)⟩)
      have HST := Lib.hid (hrk.trans (all_step l k hkl))
      have HBN := Lib.hid (belowStep hb HBW.out)
      clear hrk hbw hx hkx hPb hbx hb HK
      generalize K.valid l[k] = z at *
      generalize l[k].l.length = n7 at *
      go_wp2_with fail
      generalize wr.alloc (.cells #[.slice a7 n7 c7] 24) = w5 at *
      refine HC.out.mono ?_
      rintro e w3 ⟨rfl, hb3⟩
      replace HBN := Lib.hid (belowStep hb3 HBN.out)
      clear hb3 f0 g0 HC
      cases z
      · have HF := Lib.hid (show R = false from HST.out)
        go_wp2
        go_ret
        exact ⟨by rw [HF.out]; rfl, HBN.out⟩
      · have HF := Lib.hid (show R = (l.drop (k + 1)).all K.valid from HST.out)
        go_wp2
        go_roundg (gk - 1)
        case measure => omega
        case rel => exact ⟨k + 1, by omega, by go_num, by omega, HF.out, HBN.out⟩
    · have q5 : decide ((k : Int) < (n : Int)) = false := decide_eq_false (by omega)
      have HF := Lib.hid (show R = true from by rw [HK.out, List.drop_of_length_le (by rw [← HN.out]; omega)]; rfl)
      clear hrk hbw
      go_wp2
      go_ret
      exact ⟨by rw [HF.out]; rfl, HBW.out⟩
def givenB (g : List K) (t : Con) : Bool := scopeB g && Con.validB t
set_option maxRecDepth 100000 in
theorem areValid_any (P : Nat → Prop) (g : List K) (t : Con) (w : World) (gv v : Value) (hP : ∀ b, P b → b < w.heap.size) (hg : KSl w P gv g) (ht : ConV w P t v) :
    Calls Tryz.prog 94 #[gv, v] w fun e w' => e = .returned (.bool (givenB g t)) ∧ Below w.heap.size w w' := by
  have HS := Lib.hid (fun W (hW : Below w.heap.size w W) => isScope_any P g W gv (low_up hP hW) (hg.keep (Same.of_below hW hP)))
  have HT := Lib.hid (fun W (hW : Below w.heap.size w W) => cvalid_any P t W v (low_up hP hW) (ht.keep (Same.of_below hW hP)))
  unfold givenB
  generalize scopeB g = r1 at *
  generalize Con.validB t = r2 at *
  obtain ⟨ka, kn, kc, na, nn, nc, la, ln, lc, rfl, -, -, -⟩ := ht.shape
  obtain ⟨ga, gc, rfl, -⟩ := hg.each
  generalize t.op = op at *
  generalize t.n = num at *
  generalize t.s = s at *
  generalize g.length = gn at *
  obtain ⟨hbx, hb⟩ := boxN_new w 28 #[.int .i64 op, .int .i64 num, .string s, .slice ka kn kc, .slice na nn nc, .slice la ln lc]
  have HB := Lib.hid hb
  have H1 := Lib.hid hbx
  clear hbx hb hg ht hP
  go_enter Tryz.func94, Tryz.ntmps94
  go_wp2_with fail
  generalize w.alloc (.cells #[.int .i64 op, .int .i64 num, .string s, .slice ka kn kc, .slice na nn nc, .slice la ln lc] 28) = w2 at *
  refine (HS.out _ HB.out).mono ?_
  rintro e w3 ⟨rfl, hb3⟩
  replace H1 := Lib.hid (H1.out.of_eq (hb3.block _ H1.out.lt))
  replace HB := Lib.hid (belowStep hb3 HB.out)
  clear hb3
  cases r1
  · go_wp2
    go_ret
    exact ⟨rfl, HB.out⟩
  have c0 := H1.out.cell 0 (.int .i64 op) rfl
  have c1 := H1.out.cell 1 (.int .i64 num) rfl
  have c2 := H1.out.cell 2 (.string s) rfl
  have c3 := H1.out.cell 3 (.slice ka kn kc) rfl
  have c4 := H1.out.cell 4 (.slice na nn nc) rfl
  have c5 := H1.out.cell 5 (.slice la ln lc) rfl
  go_wp2_with fail
  refine (HT.out _ HB.out).mono ?_
  rintro e w4 ⟨rfl, hb4⟩
  replace HB := Lib.hid (belowStep hb4 HB.out)
  clear hb4 c0 c1 c2 c3 c4 c5
  go_wp2
  go_ret
  exact ⟨rfl, HB.out⟩

set_option maxRecDepth 100000 in
theorem kcopied_any (P : Nat → Prop) (k : K) (w : World) (v : Value) (hP : ∀ b, P b → b < w.heap.size) (hk : KV w P k v) (hv : K.valid k = true) :
    Calls Tryz.prog 96 #[v] w fun e w' => (∃ ra rc, e = .returned (.agg #[.slice ra k.l.length rc]) ∧ KidV w' (From w.heap.size w') k (.slice ra k.l.length rc)) ∧ Below w.heap.size w w' := by
  have HA := Lib.hid (fun W (hW : Below w.heap.size w W) => carrow_any P [] k W (.slice none 0 0) v (fun b h => Nat.lt_of_lt_of_le (hP b h) hW.size) (kidV_none W P) (hk.keep (Same.of_below hW hP)))
  have ho : K.arrowOut [] k = (k, 0) := by
    unfold K.arrowOut
    have e : K.arrow [] k = k := rfl
    rw [e, hv]
    rfl
  rw [ho] at HA
  obtain ⟨a, c, rfl⟩ := hk.form
  obtain ⟨hbx, hbx2, hb⟩ := two_new w 24 (.slice a k.l.length c) (.slice none 0 0)
  have c0 := hbx.cell 0 (.slice a k.l.length c) rfl
  have HB := Lib.hid hb
  have HBX2 := Lib.hid hbx2
  generalize hn : k.l.length = n at *
  clear hbx hbx2 hb hk hP ho
  go_enter Tryz.func96, Tryz.ntmps96
  go_wp2_with fail
  clear c0
  generalize ((w.alloc (.cells #[.slice a n c] 24)).alloc (.cells #[.slice none 0 0] 24)) = w2 at *
  refine (HA.out _ HB.out).mono ?_
  rintro e w3 ⟨⟨y, rfl, hy⟩, hb3⟩
  obtain ⟨ra, rc, rfl⟩ := hy.form
  have HY := Lib.hid hy.kid
  have hb4 : Below w.heap.size w (w3.alloc (.cells #[.slice ra k.l.length rc] 24)) := below_new (belowStep hb3 HB.out)
  obtain ⟨hn4, hb5⟩ := boxN_new w3 24 #[.slice ra k.l.length rc]
  rw [hn] at HY hn4 hb5 hb4
  have h2 := (HBX2.out.of_eq (hb3.block _ HBX2.out.lt))
  have h3 := h2.alloc (.cells #[.slice ra n rc] 24)
  have c3 := hn4.cell 0 (.slice ra n rc) rfl
  have f3 := h3.thaw 0
  have c4 := h3.cell 0 (.slice none 0 0) rfl
  have HE1 := Lib.hid (blk_one (y := .slice ra n rc) h3)
  have HE2 := Lib.hid (below_set hb4 (Nat.le_succ w.heap.size) (.slice ra n rc))
  have HE3 := Lib.hid (show KidV ((w3.alloc (.cells #[.slice ra n rc] 24)).setCell ⟨w.heap.size + 1, 0, none⟩ (.slice ra n rc)) (From w.heap.size ((w3.alloc (.cells #[.slice ra n rc] 24)).setCell ⟨w.heap.size + 1, 0, none⟩ (.slice ra n rc))) k (.slice ra n rc) from by
    have h1 := (HY.out.keep (Same.of_below hb5 (fun b h => h.2))).keep (Same.set (w := w3.alloc (.cells #[.slice ra n rc] 24)) ⟨w.heap.size + 1, 0, none⟩ (.slice ra n rc) (fun q h e => by
      have e : q = w.heap.size + 1 := e
      have := h.1
      have := HBX2.out.lt
      omega))
    exact h1.mono (fun b h => ⟨Nat.le_trans HB.out.size h.1, by rw [size_set]; exact Nat.lt_of_lt_of_le h.2 hb5.size⟩))
  rw [hn]
  clear hy hb3 hb4 hb5 h2 h3 hn4 hn
  go_wp2
  generalize (w3.alloc (.cells #[.slice ra n rc] 24)).setCell ⟨w.heap.size + 1, 0, none⟩ (.slice ra n rc) = w5 at *
  have d0 := HE1.out.cell 0 (.slice ra n rc) rfl
  refine bodyPost_ret (v := .agg #[.slice ra n rc]) (by simp [results, Tryz.results96, go_sem, d0]) rfl ?_
  exact ⟨⟨ra, rc, rfl, HE3.out⟩, HE2.out⟩
theorem given_all {g : List K} {t : Con} (h : givenB g t = true) : Con.allB t = true ∧ (∀ k ∈ g, K.valid k = true) ∧ g.length + t.depth ≤ 100000 := by
  unfold givenB scopeB at h
  rw [Bool.and_eq_true, Bool.and_eq_true, decide_eq_true_eq, List.all_eq_true] at h
  have h2 := h.2
  unfold Con.validB Con.small at h2
  simp only [Bool.and_eq_true, decide_eq_true_eq] at h2
  exact ⟨h2.2, h.1.2, by have := h.1.1; omega⟩
theorem ofOut_eq (g : List K) (t : Con) : ofOut g t = if givenB g t then kof g.reverse t else .bad 1 [] := by
  unfold ofOut givenB scopeB
  rw [Bool.and_assoc]

set_option maxRecDepth 100000 in
set_option maxHeartbeats 1000000 in
theorem of_any (P : Nat → Prop) (g : List K) (t : Con) (w : World) (gv v : Value) (hP : ∀ b, P b → b < w.heap.size) (hg : KSl w P gv g) (ht : ConV w P t v) :
    Calls Tryz.prog 38 #[gv, v] w (KrP P (ofOut g t) w) := by
  have HAV := Lib.hid (fun W (hW : Below w.heap.size w W) => areValid_any P g t W gv v (low_up hP hW) (hg.keep (Same.of_below hW hP)) (ht.keep (Same.of_below hW hP)))
  have HKO := Lib.hid (fun (hv : givenB g t = true) W (hW : Below w.heap.size w W) => kindOf_any t P g W gv v (low_up hP hW) (hg.keep (Same.of_below hW hP)) (ht.keep (Same.of_below hW hP)) (given_all hv).1 (given_all hv).2.1 (given_all hv).2.2)
  have HKV := Lib.hid (fun (hv : givenB g t = true) k (hk : kof g.reverse t = .ok k) => kof_valid t g.reverse k (given_all hv).1 (fun x hx => (given_all hv).2.1 x (List.mem_reverse.1 hx)) hk)
  have HKB := Lib.hid (fun e p (hk : kof g.reverse t = .bad e p) => kof_bad t g.reverse e p hk)
  obtain ⟨R, hV⟩ : ∃ R : KR, R = ofOut g t := ⟨_, rfl⟩
  rw [← hV]
  rw [ofOut_eq] at hV
  have HV0 := Lib.hid hV
  clear hV
  have HP := Lib.hid hP
  obtain ⟨ka, kn, kc, na, nn, nc, la, ln, lc, rfl, -, -, -⟩ := ht.shape
  obtain ⟨ga, gc, rfl, -⟩ := hg.each
  generalize kof g.reverse t = r at *
  generalize givenB g t = z at *
  generalize t.op = op at *
  generalize t.n = num at *
  generalize t.s = s at *
  generalize g.length = gn at *
  obtain ⟨hbx, hbx2, hb⟩ := twoN_new w 28 24 #[.int .i64 op, .int .i64 num, .string s, .slice ka kn kc, .slice na nn nc, .slice la ln lc] #[.slice none 0 0]
  have HB := Lib.hid hb
  have H1 := Lib.hid hbx
  have HR := Lib.hid hbx2
  have HG := Lib.hid (Nat.le_succ w.heap.size)
  clear hbx hbx2 hb hg ht hP
  have c0 := H1.out.cell 0 (.int .i64 op) rfl
  have c1 := H1.out.cell 1 (.int .i64 num) rfl
  have c2 := H1.out.cell 2 (.string s) rfl
  have c3 := H1.out.cell 3 (.slice ka kn kc) rfl
  have c4 := H1.out.cell 4 (.slice na nn nc) rfl
  have c5 := H1.out.cell 5 (.slice la ln lc) rfl
  go_enter Tryz.func38, Tryz.ntmps38
  go_wp2_with fail
  clear c0 c1 c2 c3 c4 c5
  generalize (w.alloc (.cells #[.int .i64 op, .int .i64 num, .string s, .slice ka kn kc, .slice na nn nc, .slice la ln lc] 28)).alloc (.cells #[.slice none 0 0] 24) = w2 at *
  refine (HAV.out _ HB.out).mono ?_
  rintro e w3 ⟨rfl, hb3⟩
  replace H1 := Lib.hid (H1.out.of_eq (hb3.block _ H1.out.lt))
  replace HR := Lib.hid (HR.out.of_eq (hb3.block _ HR.out.lt))
  replace HB := Lib.hid (belowStep hb3 HB.out)
  clear hb3 HAV
  cases z
  · have HV := Lib.hid (show R = .bad 1 [] from HV0.out)
    clear HKO HKV
    have hr9 := HR.out
    have c9 := hr9.cell 0 (.slice none 0 0) rfl
    have f9 := hr9.thaw 0
    have HE1 := Lib.hid (blk_one (y := .slice none 0 0) hr9)
    have HE := Lib.hid (krp_bad (P := P) HV.out (below_set HB.out HG.out (.slice none 0 0)))
    have HE0 := Lib.hid (krp_bad (P := P) HV.out HB.out)
    clear hr9
    go_wp2
    have d9 := HE1.out.cell 0 (.slice none 0 0) rfl
    refine bodyPost_ret (v := .tuple #[.agg #[.slice none 0 0], .int .i64 1]) (by first | (simp [results, Tryz.results38, go_sem, d9]; done) | (simp [results, Tryz.results38, go_sem, c9]; done)) rfl ?_
    first | exact HE.out | exact HE0.out
  have c0 := H1.out.cell 0 (.int .i64 op) rfl
  have c1 := H1.out.cell 1 (.int .i64 num) rfl
  have c2 := H1.out.cell 2 (.string s) rfl
  have c3 := H1.out.cell 3 (.slice ka kn kc) rfl
  have c4 := H1.out.cell 4 (.slice na nn nc) rfl
  have c5 := H1.out.cell 5 (.slice la ln lc) rfl
  have HC := Lib.hid (HKO.out (by first | exact rfl | trivial) w3 HB.out)
  have HKV2 := Lib.hid (HKV.out (by first | exact rfl | trivial))
  clear HKO HKV
  go_wp2_with fail
  clear c0 c1 c2 c3 c4 c5
  refine HC.out.mono ?_
  rintro e w4 ⟨⟨ra, rn, rc, pv, rfl, hk, -⟩, hb4⟩
  replace HR := Lib.hid (HR.out.of_eq (hb4.block _ HR.out.lt))
  replace HB := Lib.hid (belowStep hb4 HB.out)
  have HLW := Lib.hid (Ext.lt (P := P) (fun q hq => by have := HP.out q hq; have := H1.out.lt; omega) hb4)
  clear hb4 HC H1
  rcases r with k | ⟨er, p⟩
  · have HV := Lib.hid (show R = .ok k from HV0.out)
    have hkl : rn = k.l.length := by
      obtain ⟨a', c', e⟩ := hk.form
      injection e with _ e _
    obtain ⟨hbx, hb⟩ := boxN_new w4 24 #[.slice ra rn rc]
    have HX1 := Lib.hid (kcopied_any _ k _ (.agg #[.slice ra rn rc]) (fun q hq => Nat.lt_of_lt_of_le (HLW.out q hq) hb.size) ⟨_, rfl, hk.keep (Same.of_below hb HLW.out)⟩ (HKV2.out k rfl))
    replace HR := Lib.hid (HR.out.of_eq (hb.block _ HR.out.lt))
    replace HB := Lib.hid (belowStep hb HB.out)
    have e0 := hbx.cell 0 (.slice ra rn rc) rfl
    have qe : (KR.er (.ok k) == 0) = true := rfl
    generalize KR.er (.ok k) = er0 at *
    obtain rfl : er0 = 0 := by simpa using qe
    clear hk hbx hb qe hkl
    go_wp2_with fail
    clear e0
    generalize w4.alloc (.cells #[.slice ra rn rc] 24) = w5 at *
    refine HX1.out.mono ?_
    rintro e w6 ⟨⟨qa, qc, rfl, hq⟩, hb6⟩
    generalize k.l.length = qn at *
    have HX := Lib.hid (hq.mono (fun q hq => (show Ext1 P w w6 (w.heap.size + 1) q from ⟨.inr ⟨by have := hq.1; have := HR.out.lt; omega, hq.2⟩, by have := hq.1; have := HR.out.lt; omega⟩)))
    replace HR := Lib.hid (HR.out.of_eq (hb6.block _ HR.out.lt))
    replace HB := Lib.hid (belowStep hb6 HB.out)
    clear hq hb6 HX1
    have hr9 := HR.out
    have c9 := hr9.cell 0 (.slice none 0 0) rfl
    have f9 := hr9.thaw 0
    have HE1 := Lib.hid (blk_one (y := .slice qa qn qc) hr9)
    have HE := Lib.hid (krp_end (P := P) HV.out HG.out HB.out ⟨rfl, HX.out⟩)
    clear hr9
    go_wp2
    have d9 := HE1.out.cell 0 (.slice qa qn qc) rfl
    refine bodyPost_ret (v := .tuple #[.agg #[.slice qa qn qc], .int .i64 0]) (by simp [results, Tryz.results38, go_sem, d9]) rfl ?_
    exact HE.out
  · have HV := Lib.hid (show R = .bad er p from HV0.out)
    have qe : (er == 0) = false := beq_eq_false_iff_ne.2 (HKB.out er p rfl)
    obtain ⟨hbx, hb⟩ := boxN_new w4 24 #[.slice ra rn rc]
    replace HR := Lib.hid (HR.out.of_eq (hb.block _ HR.out.lt))
    replace HB := Lib.hid (belowStep hb HB.out)
    generalize hge : KR.er (.bad er p) = er1 at *
    obtain rfl : er1 = er := hge.symm
    clear hk hbx hb hge
    have hr9 := HR.out
    have c9 := hr9.cell 0 (.slice none 0 0) rfl
    have f9 := hr9.thaw 0
    have HE1 := Lib.hid (blk_one (y := .slice none 0 0) hr9)
    have HE := Lib.hid (krp_bad (P := P) HV.out (below_set HB.out HG.out (.slice none 0 0)))
    have HE0 := Lib.hid (krp_bad (P := P) HV.out HB.out)
    clear hr9
    go_wp2
    have d9 := HE1.out.cell 0 (.slice none 0 0) rfl
    refine bodyPost_ret (v := .tuple #[.agg #[.slice none 0 0], .int .i64 er1]) (by first | (simp [results, Tryz.results38, go_sem, d9]; done) | (simp [results, Tryz.results38, go_sem, c9]; done)) rfl ?_
    first | exact HE.out | exact HE0.out
/-- what Where answers -/
def whereOut (g : List K) (t : Con) : List Nat × Int := if givenB g t then (match kof g.reverse t with | .ok _ => ([], 8) | .bad _ p => (p, 0)) else ([], 1)
def WhP (r : List Nat × Int) (w : World) (e : Ending) (w' : World) : Prop := (∃ pv, e = .returned (.tuple #[pv, .int .i64 r.2]) ∧ w'.ownsRow w.heap.size 3 1 pv r.1.length (pathV r.1)) ∧ Below w.heap.size w w'
theorem whp_nil {w W : World} {R : List Nat × Int} {e : Int} (hv : R = ([], e)) (hb : Below w.heap.size w W) : WhP R w (.returned (.tuple #[.slice none 0 0, .int .i64 e])) W := by
  subst hv
  exact ⟨⟨_, rfl, World.ownsRow_nil _ _ _ _⟩, hb⟩
set_option maxRecDepth 100000 in
set_option maxHeartbeats 1000000 in
theorem where_any (P : Nat → Prop) (g : List K) (t : Con) (w : World) (gv v : Value) (hP : ∀ b, P b → b < w.heap.size) (hg : KSl w P gv g) (ht : ConV w P t v) :
    Calls Tryz.prog 88 #[gv, v] w (WhP (whereOut g t) w) := by
  have HAV := Lib.hid (fun W (hW : Below w.heap.size w W) => areValid_any P g t W gv v (low_up hP hW) (hg.keep (Same.of_below hW hP)) (ht.keep (Same.of_below hW hP)))
  have HKO := Lib.hid (fun (hv : givenB g t = true) W (hW : Below w.heap.size w W) => kindOf_any t P g W gv v (low_up hP hW) (hg.keep (Same.of_below hW hP)) (ht.keep (Same.of_below hW hP)) (given_all hv).1 (given_all hv).2.1 (given_all hv).2.2)
  have HKV := Lib.hid (fun (hv : givenB g t = true) k (hk : kof g.reverse t = .ok k) => kof_valid t g.reverse k (given_all hv).1 (fun x hx => (given_all hv).2.1 x (List.mem_reverse.1 hx)) hk)
  have HKB := Lib.hid (fun e p (hk : kof g.reverse t = .bad e p) => kof_bad t g.reverse e p hk)
  obtain ⟨R, hV⟩ : ∃ R, R = whereOut g t := ⟨_, rfl⟩
  rw [← hV]
  unfold whereOut at hV
  have HV0 := Lib.hid hV
  clear hV
  have HP := Lib.hid hP
  obtain ⟨ka, kn, kc, na, nn, nc, la, ln, lc, rfl, -, -, -⟩ := ht.shape
  obtain ⟨ga, gc, rfl, -⟩ := hg.each
  generalize kof g.reverse t = r at *
  generalize givenB g t = z at *
  generalize t.op = op at *
  generalize t.n = num at *
  generalize t.s = s at *
  generalize g.length = gn at *
  obtain ⟨hbx, hb⟩ := boxN_new w 28 #[.int .i64 op, .int .i64 num, .string s, .slice ka kn kc, .slice na nn nc, .slice la ln lc]
  have HB := Lib.hid hb
  have H1 := Lib.hid hbx
  clear hbx hb hg ht hP
  have c0 := H1.out.cell 0 (.int .i64 op) rfl
  have c1 := H1.out.cell 1 (.int .i64 num) rfl
  have c2 := H1.out.cell 2 (.string s) rfl
  have c3 := H1.out.cell 3 (.slice ka kn kc) rfl
  have c4 := H1.out.cell 4 (.slice na nn nc) rfl
  have c5 := H1.out.cell 5 (.slice la ln lc) rfl
  go_enter Tryz.func88, Tryz.ntmps88
  go_wp2_with fail
  clear c0 c1 c2 c3 c4 c5
  generalize w.alloc (.cells #[.int .i64 op, .int .i64 num, .string s, .slice ka kn kc, .slice na nn nc, .slice la ln lc] 28) = w2 at *
  refine (HAV.out _ HB.out).mono ?_
  rintro e w3 ⟨rfl, hb3⟩
  replace H1 := Lib.hid (H1.out.of_eq (hb3.block _ H1.out.lt))
  replace HB := Lib.hid (belowStep hb3 HB.out)
  clear hb3 HAV
  cases z
  · have HE := Lib.hid (whp_nil (show R = ([], 1) from HV0.out) HB.out)
    clear HKO HKV
    go_wp2
    refine bodyPost_ret (v := .tuple #[.slice none 0 0, .int .i64 1]) (by simp [results, Tryz.results88, go_sem]) rfl ?_
    exact HE.out
  have c0 := H1.out.cell 0 (.int .i64 op) rfl
  have c1 := H1.out.cell 1 (.int .i64 num) rfl
  have c2 := H1.out.cell 2 (.string s) rfl
  have c3 := H1.out.cell 3 (.slice ka kn kc) rfl
  have c4 := H1.out.cell 4 (.slice na nn nc) rfl
  have c5 := H1.out.cell 5 (.slice la ln lc) rfl
  have HC := Lib.hid (HKO.out (by first | exact rfl | trivial) w3 HB.out)
  clear HKO HKV
  go_wp2_with fail
  clear c0 c1 c2 c3 c4 c5
  refine HC.out.mono ?_
  rintro e w4 ⟨⟨ra, rn, rc, pv, rfl, -, hp⟩, hb4⟩
  have hb5 := (boxN_new w4 24 #[.slice ra rn rc]).2
  have hbf := belowStep hb5 (belowStep hb4 HB.out)
  have hss := HB.out.size
  rcases r with k | ⟨er, p⟩
  · have HE := Lib.hid (whp_nil (show R = ([], 8) from HV0.out) hbf)
    have qe : (KR.er (.ok k) == 0) = true := rfl
    generalize KR.er (.ok k) = er0 at *
    obtain rfl : er0 = 0 := by simpa using qe
    clear hp hb4 hb5 hbf qe HC H1
    go_wp2
    refine bodyPost_ret (v := .tuple #[.slice none 0 0, .int .i64 8]) (by simp [results, Tryz.results88, go_sem]) rfl ?_
    exact HE.out
  · have hp : w4.ownsRow w3.heap.size 3 1 pv p.length (pathV p) := hp
    have HE := Lib.hid (show WhP R w (.returned (.tuple #[pv, .int .i64 0])) (w4.alloc (.cells #[.slice ra rn rc] 24)) from by
      have hv : R = (p, 0) := HV0.out
      subst hv
      exact ⟨⟨pv, rfl, (hp.alloc _).mono hss⟩, hbf⟩)
    have qe : (er == 0) = false := beq_eq_false_iff_ne.2 (HKB.out er p rfl)
    generalize hge : KR.er (.bad er p) = er1 at *
    obtain rfl : er1 = er := hge.symm
    clear hp hb4 hb5 hbf HC H1 hge
    go_wp2
    refine bodyPost_ret (v := .tuple #[pv, .int .i64 0]) (by simp [results, Tryz.results88, go_sem]) rfl ?_
    exact HE.out

/-- what Check answers -/
def checkOut (g : List K) (t : Con) (k : K) : Int := if givenB g t && K.valid k then (match kof g.reverse t with | .ok x => if K.eqv x k then 0 else 11 | .bad e _ => e) else 1
end Go.Proofs.YtpkgiemdnfbopaaGreat
namespace Go.Proofs.YtpkgiemdnfbopaaGreat
open Go Go.RowKit
open Pl (K Con)
set_option linter.unusedSimpArgs false
set_option linter.unusedVariables false

set_option maxRecDepth 100000 in
theorem csameK_any (t : K) : ∀ (P Q : Nat → Prop) (u : K) (w : World) (v x : Value), (∀ b, P b → b < w.heap.size) → (∀ b, Q b → b < w.heap.size) → KV w P t v → KV w Q u x →
    Calls Tryz.prog 84 #[v, x] w fun e w' => e = .returned (.bool (K.eqv t u)) ∧ Below w.heap.size w w' := by
  induction t using K.ind with
  | h t ih =>
  intro P Q u w v x hP hQ ht hu
  obtain ⟨a, c, rfl⟩ := ht.form
  obtain ⟨a2, c2, rfl⟩ := hu.form
  have hk := ht.kid
  have hk2 := hu.kid
  clear ht hu
  obtain ⟨hbx, hbx2, hb⟩ := two_new w 24 (.slice a t.l.length c) (.slice a2 u.l.length c2)
  have HC := Lib.hid (eqFuncIn_any 84 K.eqv (fun _ _ => rfl) P Q t.l u.l ih _ (.slice a t.l.length c) (.slice a2 u.l.length c2) (fun b h => Nat.lt_of_lt_of_le (hP b h) hb.size) (fun b h => Nat.lt_of_lt_of_le (hQ b h) hb.size) (by
    have := hk.keep (Same.of_below hb hP)
    obtain ⟨l⟩ := t
    exact this) (by
    have := hk2.keep (Same.of_below hb hQ)
    obtain ⟨l⟩ := u
    exact this))
  have HE := Lib.hid (show K.eqv t u = (t.l.length == u.l.length && eqAllB K.eqv t.l u.l) from by
    obtain ⟨l⟩ := t
    obtain ⟨m⟩ := u
    rw [K.eqv]
    show (l.length == m.length && K.eqvs l m) = (l.length == m.length && eqAllB K.eqv l m)
    congr 1
    clear hk hk2 HC hbx hbx2 hb ih
    induction l generalizing m with
    | nil => cases m <;> simp [K.eqvs, eqAllB]
    | cons t r ihr =>
      cases m with
      | nil => simp [K.eqvs, eqAllB]
      | cons u s => rw [K.eqvs, eqAllB, ihr])
  have c0 := hbx.cell 0 (.slice a t.l.length c) rfl
  have d0 := hbx2.cell 0 (.slice a2 u.l.length c2) rfl
  have HB := Lib.hid hb
  rw [← HE.out] at HC
  generalize K.eqv t u = r at *
  generalize t.l.length = n at *
  generalize u.l.length = n2 at *
  clear hk hk2 hbx hbx2 hb ih HE
  go_enter Tryz.func84, Tryz.ntmps84
  go_wp2_with fail
  refine HC.out.mono ?_
  rintro e w3 ⟨rfl, hb3⟩
  have HB3 := Lib.hid (belowStep hb3 HB.out)
  clear hb3 c0 d0
  go_wp2
  go_ret
  exact ⟨rfl, HB3.out⟩
/-- rows of strings compared -/
theorem eqS_any (P Q : Nat → Prop) (zs ys : List ByteArray) (w : World) (v x : Value) (hz : StrSl w P v zs) (hy : StrSl w Q x ys) :
    Calls Tryz.prog 85 #[v, x] w fun e w' => e = .returned (.bool (decide (zs = ys))) ∧ Below w.heap.size w w' := by
  obtain ⟨a, c, rfl, h1, h2, h3, h4, h5⟩ := hz
  obtain ⟨a2, c2, rfl, g1, g2, g3, g4, g5⟩ := hy
  by_cases hl : zs.length = ys.length
  · by_cases h0 : zs.length = 0
    · have e1 : zs = [] := List.eq_nil_of_length_eq_zero h0
      have e2 : ys = [] := List.eq_nil_of_length_eq_zero (by omega)
      subst e1 e2
      refine (Tryz.slices_Equal_string_empty a a2 c 0 c2 w (by omega)).mono ?_
      rintro e w' ⟨rfl, rfl⟩
      exact ⟨rfl, Below.refl _ _⟩
    · rcases h5 with h5 | ⟨b, off, rfl, hb, hs⟩
      · rw [h5] at h0; exact absurd rfl h0
      rcases g5 with g5 | ⟨b2, off2, rfl, hb2, hs2⟩
      · rw [g5] at hl; exact absurd hl h0
      refine (equal_any b off c b2 off2 c2 zs ys w zs.length ys.length rfl rfl (by omega) (by omega) (fun j hj => by rw [hs j hj]; simp [List.getD, hj]) (fun j hj => by rw [hs2 j hj]; simp [List.getD, hj])).mono ?_
      rintro e w' ⟨rfl, q, rfl⟩
      exact ⟨rfl, below_drewN (Below.refl _ _) q⟩
  · have hne : zs ≠ ys := fun h => hl (by rw [h])
    refine (Tryz.slices_Equal_string_lens a a2 zs.length c ys.length c2 w hl).mono ?_
    rintro e w' ⟨rfl, rfl⟩
    exact ⟨by rw [decide_eq_false hne], Below.refl _ _⟩
def eqAllC (f : Con → Con → Bool) : List Con → List Con → Bool
  | t :: r, u :: s => f t u && eqAllC f r s
  | _, _ => true
theorem eqAllC_step (f : Con → Con → Bool) (l m : List Con) (i : Nat) (hl : i < l.length) (hm : i < m.length) : eqAllC f (l.drop i) (m.drop i) = (f l[i] m[i] && eqAllC f (l.drop (i + 1)) (m.drop (i + 1))) := by
  rw [List.drop_eq_getElem_cons hl, List.drop_eq_getElem_cons hm, eqAllC]
theorem eqAllC_end (f : Con → Con → Bool) (l m : List Con) (i : Nat) (hl : l.length ≤ i) : eqAllC f (l.drop i) (m.drop i) = true := by
  rw [List.drop_of_length_le hl]
  cases m.drop i <;> rfl
theorem eqAllC_same (l : List Con) : ∀ m : List Con, (l.length == m.length && eqAllC Con.sameB l m) = true ↔ l = m := by
  induction l with
  | nil =>
    intro m
    cases m with
    | nil => simp [eqAllC]
    | cons _ _ => simp [eqAllC]
  | cons t r ih =>
    intro m
    cases m with
    | nil => simp [eqAllC]
    | cons u s =>
      have := ih s
      rw [Bool.and_eq_true, beq_iff_eq] at this
      rw [eqAllC, Bool.and_eq_true, Bool.and_eq_true, sameB_iff, beq_iff_eq, List.cons.injEq, ← this, List.length_cons, List.length_cons]
      constructor
      · rintro ⟨h1, h2, h3⟩; exact ⟨h2, by omega, h3⟩
      · rintro ⟨h1, h2, h3⟩; exact ⟨by omega, h1, h3⟩
set_option maxRecDepth 100000 in
set_option maxHeartbeats 1000000 in
theorem eqFuncC_any (k : Nat) (f : Con → Con → Bool) (hen : ∀ (W : World) (args : Array Value), Sem.run Tryz.prog (callFunc k args) W = .ok (.enter k args) W)
    (P Q : Nat → Prop) (l m : List Con)
    (hk : ∀ t ∈ l, ∀ (P Q : Nat → Prop) (u : Con) (W : World) (v x : Value), (∀ b, P b → b < W.heap.size) → (∀ b, Q b → b < W.heap.size) → ConV W P t v → ConV W Q u x → Calls Tryz.prog k #[v, x] W fun e w' => e = .returned (.bool (f t u)) ∧ Below W.heap.size W w')
    (w : World) (v x : Value) (hP : ∀ b, P b → b < w.heap.size) (hQ : ∀ b, Q b → b < w.heap.size) (hl : ConSl w P v l) (hm : ConSl w Q x m) :
    Calls Tryz.prog 33 #[v, x, .func (.func k) #[] #[]] w fun e w' => e = .returned (.bool (l.length == m.length && eqAllC f l m)) ∧ Below w.heap.size w w' := by
  have HKK := Lib.hid hk
  clear hk
  have HSL := Lib.hid (fun W (hW : Below w.heap.size w W) => hl.keep (Same.of_below hW hP))
  have HSM := Lib.hid (fun W (hW : Below w.heap.size w W) => hm.keep (Same.of_below hW hQ))
  obtain ⟨a, c, rfl, hlc, hcm, -⟩ := hl.each
  obtain ⟨a2, c2, rfl, hlc2, hcm2, -⟩ := hm.each
  clear hl hm
  have HB : Hid (Below w.heap.size w w) := Below.refl _ _
  obtain ⟨R, hR⟩ : ∃ R, R = (l.length == m.length && eqAllC f l m) := ⟨_, rfl⟩
  rw [← hR]
  have HR := Lib.hid hR
  clear hR
  have HP := Lib.hid hP
  have HQ := Lib.hid hQ
  have hll : l.length ≤ 9223372036854775807 := by unfold maxLen at hcm; omega
  clear hP hQ hcm hcm2
  by_cases h1 : l.length = m.length
  rotate_left
  · have HF := Lib.hid (show R = false from by rw [HR.out, beq_eq_false_iff_ne.2 h1, Bool.false_and])
    clear HR HSL HSM
    generalize l.length = n at *
    generalize m.length = n2 at *
    have q1 : ((n : Int) != (n2 : Int)) = true := by simp; omega
    go_enter Tryz.func33, Tryz.ntmps33
    go_wp2_with fail
    go_ret
    exact ⟨by rw [HF.out]; rfl, HB.out⟩
  have HF := Lib.hid (show R = eqAllC f l m from by rw [HR.out, beq_iff_eq.2 h1, Bool.true_and])
  obtain ⟨n, hn⟩ : ∃ n, n = l.length := ⟨_, rfl⟩
  have hn2 : n = m.length := hn.trans h1
  rw [← hn] at hlc hll HSL
  rw [← hn2] at hlc2 HSM
  rw [← hn, ← hn2]
  have HN := Lib.hid hn
  have HM := Lib.hid hn2
  clear HR h1 hn hn2
  have q1 : ((n : Int) != (n : Int)) = false := by simp
  go_enter Tryz.func33, Tryz.ntmps33
  go_wp2_with fail
  go_loopg [17] (n + 1) (fun g k wr => ∃ i : Nat, i ≤ n ∧ k = .int .i64 i ∧ g = n + 1 - i ∧ R = eqAllC f (l.drop i) (m.drop i) ∧ Below w.heap.size w wr)
  case atStart => exact ⟨0, by omega, rfl, by omega, by rw [List.drop_zero, List.drop_zero]; exact HF.out, HB.out⟩
  case round =>
    obtain ⟨i, hi, rfl, hg, hR, hbw⟩ := hrel
    have HBW := Lib.hid hbw
    have HHR := Lib.hid hR
    by_cases hlt : i < n
    · have q5 : decide ((i : Int) < (n : Int)) = true := decide_eq_true (by omega)
      have hil : i < l.length := by rw [← HN.out]; exact hlt
      have him : i < m.length := by rw [← HM.out]; exact hlt
      obtain ⟨b, off, c', xa, xn, xc, ya, yn, yc, za, zn, zc, e, -, f0, f1, f2, f3, f4, f5, hx⟩ := (HSL.out wr hbw).part i hil
      injection e with e1 e2 e3
      clear e2
      subst e1 e3
      have hb1 : Below w.heap.size w (wr.alloc (.cells #[.int .i64 l[i].op, .int .i64 l[i].n, .string l[i].s, .slice xa xn xc, .slice ya yn yc, .slice za zn zc] 28)) := below_new hbw
      obtain ⟨b2, off2, c2', xa2, xn2, xc2, ya2, yn2, yc2, za2, zn2, zc2, e, -, g0, g1, g2, g3, g4, g5, hy⟩ := (HSM.out _ hb1).part i him
      injection e with e1 e2 e3
      clear e2
      subst e1 e3
      obtain ⟨hbx, hbx2, hb⟩ := twoN_new wr 28 28 #[.int .i64 l[i].op, .int .i64 l[i].n, .string l[i].s, .slice xa xn xc, .slice ya yn yc, .slice za zn zc] #[.int .i64 m[i].op, .int .i64 m[i].n, .string m[i].s, .slice xa2 xn2 xc2, .slice ya2 yn2 yc2, .slice za2 zn2 zc2]
      have hbb := belowStep hb hbw
      have HC := Lib.hid (HKK.out l[i] (List.getElem_mem hil) P Q m[i] _ _ _ (fun b h => Nat.lt_of_lt_of_le (HP.out b h) hbb.size) (fun b h => Nat.lt_of_lt_of_le (HQ.out b h) hbb.size) (hx.keep (Same.of_below hb (fun b h => Nat.lt_of_lt_of_le (HP.out b h) hbw.size))) (hy.keep (Same.of_below (B := (wr.alloc (.cells #[.int .i64 l[i].op, .int .i64 l[i].n, .string l[i].s, .slice xa xn xc, .slice ya yn yc, .slice za zn zc] 28)).heap.size) (boxN_new _ 28 #[.int .i64 m[i].op, .int .i64 m[i].n, .string m[i].s, .slice xa2 xn2 xc2, .slice ya2 yn2 yc2, .slice za2 zn2 zc2]).2 (fun b h => Nat.lt_of_lt_of_le (HQ.out b h) hb1.size))))
      have HB2 := Lib.hid hbb
      have HBX := Lib.hid hbx
      have HBX2 := Lib.hid hbx2
      have HN' := Lib.hid (show R = (f l[i] m[i] && eqAllC f (l.drop (i + 1)) (m.drop (i + 1))) from by rw [HHR.out, eqAllC_step f l m i hil him])
      generalize f l[i] m[i] = r at *
      generalize l[i] = z1 at *
      generalize m[i] = z2 at *
      clear hR hbw hx hy hil him hb hbb hb1 hbx hbx2
      go_wp2_with fail
      generalize (wr.alloc (.cells #[.int .i64 z1.op, .int .i64 z1.n, .string z1.s, .slice xa xn xc, .slice ya yn yc, .slice za zn zc] 28)).alloc (.cells #[.int .i64 z2.op, .int .i64 z2.n, .string z2.s, .slice xa2 xn2 xc2, .slice ya2 yn2 yc2, .slice za2 zn2 zc2] 28) = w4 at *
      refine HC.out.mono ?_
      rintro e w3 ⟨rfl, hb3⟩
      have HB3 := Lib.hid (belowStep hb3 HB2.out)
      clear hb3 f0 f1 f2 f3 f4 f5 g0 g1 g2 g3 g4 g5
      cases r
      · have HF2 := Lib.hid (show R = false from by rw [HN'.out, Bool.false_and])
        go_wp2
        go_ret
        exact ⟨by rw [HF2.out]; rfl, HB3.out⟩
      · have HF2 := Lib.hid (show R = eqAllC f (l.drop (i + 1)) (m.drop (i + 1)) from by rw [HN'.out, Bool.true_and])
        go_wp2
        go_roundg (gk - 1)
        case measure => omega
        case rel => exact ⟨i + 1, by omega, by go_num, by omega, HF2.out, HB3.out⟩
    · have q5 : decide ((i : Int) < (n : Int)) = false := decide_eq_false (by omega)
      have HF2 := Lib.hid (show R = true from by rw [HHR.out, eqAllC_end f l m i (by rw [← HN.out]; omega)])
      clear hR hbw
      go_wp2
      go_ret
      exact ⟨by rw [HF2.out]; rfl, HBW.out⟩
end Go.Proofs.YtpkgiemdnfbopaaGreat
namespace Go.Proofs.YtpkgiemdnfbopaaGreat
open Go Go.RowKit
open Pl (K Con)
set_option linter.unusedSimpArgs false
set_option linter.unusedVariables false

theorem sameB_parts (t u : Con) : Con.sameB t u = ((t.op == u.op) && ((t.n == u.n) && ((t.s.toList == u.s.toList) && (K.eqv t.kind u.kind && (decide (t.names = u.names) && (t.l.length == u.l.length && eqAllC Con.sameB t.l u.l)))))) := by
  rw [Bool.eq_iff_iff, sameB_iff]
  rw [Bool.and_eq_true, Bool.and_eq_true, Bool.and_eq_true, Bool.and_eq_true, Bool.and_eq_true, beq_iff_eq, beq_iff_eq, beq_iff_eq, K.eqv_iff, decide_eq_true_eq, eqAllC_same]
  constructor
  · rintro rfl; exact ⟨rfl, rfl, rfl, rfl, rfl, rfl⟩
  · rintro ⟨h1, h2, h3, h4, h5, h6⟩; exact con_ext h1 h2 (bytes_ext h3) h4 h5 h6
set_option maxRecDepth 100000 in
set_option maxHeartbeats 2000000 in
theorem cequal_any (t : Con) : ∀ (P Q : Nat → Prop) (u : Con) (w : World) (v x : Value), (∀ b, P b → b < w.heap.size) → (∀ b, Q b → b < w.heap.size) → ConV w P t v → ConV w Q u x →
    Calls Tryz.prog 32 #[v, x] w fun e w' => e = .returned (.bool (Con.sameB t u)) ∧ Below w.heap.size w w' := by
  induction t using Con.ind with
  | h t ih =>
  intro P Q u w v x hP hQ ht hu
  have HIH := Lib.hid ih
  clear ih
  have HTU := Lib.hid (fun W (hW : Below w.heap.size w W) => (show ConV W P t v ∧ ConV W Q u x ∧ (∀ b, P b → b < W.heap.size) ∧ (∀ b, Q b → b < W.heap.size) from ⟨ht.keep (Same.of_below hW hP), hu.keep (Same.of_below hW hQ), fun b h => Nat.lt_of_lt_of_le (hP b h) hW.size, fun b h => Nat.lt_of_lt_of_le (hQ b h) hW.size⟩))
  obtain ⟨ka, kn, kc, na, nn, nc, la, ln, lc, rfl, hkn, hnn, hln⟩ := ht.shape
  obtain ⟨ka2, kn2, kc2, na2, nn2, nc2, la2, ln2, lc2, rfl, hkn2, hnn2, hln2⟩ := hu.shape
  have HCELLS := Lib.hid (fun W (hW : Below w.heap.size w W) => (show KidV W P t.kind (.slice ka kn kc) ∧ StrSl W P (.slice na nn nc) t.names ∧ ConSl W P (.slice la ln lc) t.l ∧ KidV W Q u.kind (.slice ka2 kn2 kc2) ∧ StrSl W Q (.slice na2 nn2 nc2) u.names ∧ ConSl W Q (.slice la2 ln2 lc2) u.l from by
    obtain ⟨h1, h2, -, -⟩ := HTU.out W hW
    obtain ⟨-, kv', nv', lv', e, hk, hn, hl⟩ := (conV_iff _ _ _ _).1 h1
    simp only [Value.agg.injEq, Array.mk.injEq, List.cons.injEq, and_true, true_and] at e
    obtain ⟨rfl, rfl, rfl⟩ := e
    obtain ⟨-, kv', nv', lv', e, hk2, hn2, hl2⟩ := (conV_iff _ _ _ _).1 h2
    simp only [Value.agg.injEq, Array.mk.injEq, List.cons.injEq, and_true, true_and] at e
    obtain ⟨rfl, rfl, rfl⟩ := e
    exact ⟨hk, hn, hl, hk2, hn2, hl2⟩))
  have H1 := Lib.hid (fun W (hW : Below w.heap.size w W) => let h := HCELLS.out W hW; csameK_any t.kind P Q u.kind W _ _ (HTU.out W hW).2.2.1 (HTU.out W hW).2.2.2 ⟨_, rfl, h.1⟩ ⟨_, rfl, h.2.2.2.1⟩)
  have H2 := Lib.hid (fun W (hW : Below w.heap.size w W) => let h := HCELLS.out W hW; eqS_any P Q t.names u.names W _ _ h.2.1 h.2.2.2.2.1)
  have H3 := Lib.hid (fun W (hW : Below w.heap.size w W) => let h := HCELLS.out W hW; eqFuncC_any 32 Con.sameB (fun _ _ => rfl) P Q t.l u.l HIH.out W _ _ (HTU.out W hW).2.2.1 (HTU.out W hW).2.2.2 h.2.2.1 h.2.2.2.2.2)
  have HV := Lib.hid (sameB_parts t u)
  obtain ⟨hbx, hbx2, hb⟩ := twoN_new w 28 28 #[.int .i64 t.op, .int .i64 t.n, .string t.s, .slice ka kn kc, .slice na nn nc, .slice la ln lc] #[.int .i64 u.op, .int .i64 u.n, .string u.s, .slice ka2 kn2 kc2, .slice na2 nn2 nc2, .slice la2 ln2 lc2]
  have HB := Lib.hid hb
  have HBX := Lib.hid hbx
  have HBX2 := Lib.hid hbx2
  generalize K.eqv t.kind u.kind = r4 at *
  generalize decide (t.names = u.names) = r5 at *
  generalize (t.l.length == u.l.length && eqAllC Con.sameB t.l u.l) = r6 at *
  generalize Con.sameB t u = R at *
  generalize t.op = op at *
  generalize t.n = num at *
  generalize t.s = s at *
  generalize u.op = op2 at *
  generalize u.n = num2 at *
  generalize u.s = s2 at *
  clear hbx hbx2 hb ht hu HIH HTU HCELLS hP hQ hkn hnn hln hkn2 hnn2 hln2
  go_enter Tryz.func32, Tryz.ntmps32
  have c0 := HBX.out.cell 0 (.int .i64 op) rfl
  have c1 := HBX.out.cell 1 (.int .i64 num) rfl
  have c2 := HBX.out.cell 2 (.string s) rfl
  have c3 := HBX.out.cell 3 (.slice ka kn kc) rfl
  have c4 := HBX.out.cell 4 (.slice na nn nc) rfl
  have c5 := HBX.out.cell 5 (.slice la ln lc) rfl
  have d0 := HBX2.out.cell 0 (.int .i64 op2) rfl
  have d1 := HBX2.out.cell 1 (.int .i64 num2) rfl
  have d2 := HBX2.out.cell 2 (.string s2) rfl
  have d3 := HBX2.out.cell 3 (.slice ka2 kn2 kc2) rfl
  have d4 := HBX2.out.cell 4 (.slice na2 nn2 nc2) rfl
  have d5 := HBX2.out.cell 5 (.slice la2 ln2 lc2) rfl
  cases hr1 : (op == op2)
  · rw [hr1] at HV
    go_wp2_with fail
    go_ret
    exact ⟨by rw [HV.out]; rfl, HB.out⟩
  cases hr2 : (num == num2)
  · rw [hr1, hr2] at HV
    go_wp2_with fail
    go_ret
    exact ⟨by rw [HV.out]; rfl, HB.out⟩
  cases hr3 : (s.toList == s2.toList)
  · rw [hr1, hr2, hr3] at HV
    go_wp2_with fail
    go_ret
    exact ⟨by rw [HV.out]; rfl, HB.out⟩
  rw [hr1, hr2, hr3, Bool.true_and, Bool.true_and, Bool.true_and] at HV
  go_wp2_with fail
  clear c0 c1 c2 c3 c4 c5 d0 d1 d2 d3 d4 d5 hr1 hr2 hr3
  generalize (w.alloc (.cells #[.int .i64 op, .int .i64 num, .string s, .slice ka kn kc, .slice na nn nc, .slice la ln lc] 28)).alloc (.cells #[.int .i64 op2, .int .i64 num2, .string s2, .slice ka2 kn2 kc2, .slice na2 nn2 nc2, .slice la2 ln2 lc2] 28) = w2 at *
  refine (H1.out _ HB.out).mono ?_
  rintro e w3 ⟨rfl, hb3⟩
  replace HB := Lib.hid (belowStep hb3 HB.out)
  replace HBX := Lib.hid (HBX.out.of_eq (hb3.block _ HBX.out.lt))
  replace HBX2 := Lib.hid (HBX2.out.of_eq (hb3.block _ HBX2.out.lt))
  clear hb3
  cases r4
  · go_wp2
    go_ret
    exact ⟨by rw [HV.out]; rfl, HB.out⟩
  have c4 := HBX.out.cell 4 (.slice na nn nc) rfl
  have d4 := HBX2.out.cell 4 (.slice na2 nn2 nc2) rfl
  go_wp2_with fail
  clear c4 d4
  refine (H2.out _ HB.out).mono ?_
  rintro e w4 ⟨rfl, hb3⟩
  replace HB := Lib.hid (belowStep hb3 HB.out)
  replace HBX := Lib.hid (HBX.out.of_eq (hb3.block _ HBX.out.lt))
  replace HBX2 := Lib.hid (HBX2.out.of_eq (hb3.block _ HBX2.out.lt))
  clear hb3
  cases r5
  · go_wp2
    go_ret
    exact ⟨by rw [HV.out]; rfl, HB.out⟩
  have c5 := HBX.out.cell 5 (.slice la ln lc) rfl
  have d5 := HBX2.out.cell 5 (.slice la2 ln2 lc2) rfl
  go_wp2_with fail
  clear c5 d5
  refine (H3.out _ HB.out).mono ?_
  rintro e w5 ⟨rfl, hb3⟩
  replace HB := Lib.hid (belowStep hb3 HB.out)
  clear hb3
  go_wp2
  go_ret
  exact ⟨by rw [HV.out]; rfl, HB.out⟩
end Go.Proofs.YtpkgiemdnfbopaaGreat
namespace Go.Proofs.YtpkgiemdnfbopaaGreat
open Go Go.RowKit
open Pl (K Con)
set_option linter.unusedSimpArgs false

set_option maxRecDepth 100000 in
theorem none9_any (P : Nat → Prop) (t : Con) (w : World) (v : Value) (hP : ∀ b, P b → b < w.heap.size) (ht : ConV w P t v) :
    Calls Tryz.prog 21 #[v] w fun e w' => e = .returned (.bool (Con.sameB t Con.none0)) ∧ Below w.heap.size w w' := by
  have HS := Lib.hid (fun W (hW : Below w.heap.size w W) => rsameB_any P (fun _ => False) t Con.none0 W v (.agg #[.int .i64 0, .int .i64 0, .string ByteArray.empty, .slice none 0 0, .slice none 0 0, .slice none 0 0]) (fun b h => Nat.lt_of_lt_of_le (hP b h) hW.size) (fun b h => h.elim) (ht.below hP hW) (conV_none W _))
  obtain ⟨ka, kn, kc, na, nn, nc, la, ln, lc, rfl, -, -, -, hbx, hb⟩ := con_box ht
  have c0 := hbx.cell 0 (.int .i64 t.op) rfl
  have c1 := hbx.cell 1 (.int .i64 t.n) rfl
  have c2 := hbx.cell 2 (.string t.s) rfl
  have c3 := hbx.cell 3 (.slice ka kn kc) rfl
  have c4 := hbx.cell 4 (.slice na nn nc) rfl
  have c5 := hbx.cell 5 (.slice la ln lc) rfl
  have HB := Lib.hid hb
  have HC := Lib.hid (HS.out _ hb)
  generalize Con.sameB t Con.none0 = r at *
  clear ht hbx hb hP HS
  go_enter Tryz.func21, Tryz.ntmps21
  go_wp2_with fail
  refine HC.out.mono ?_
  rintro e w1 ⟨rfl, hb1⟩
  have HB1 := Lib.hid (belowStep hb1 HB.out)
  clear hb1
  go_wp2
  go_ret
  exact ⟨rfl, HB1.out⟩
/-- what the law's answer says -/
noncomputable def answerB (t : Con) (e : Int) (want : Con) : Bool := if Con.validB want then Con.sameB t want && (e == 0) else Con.sameB t Con.none0 && (e == 6)
theorem answer_out (x : Con) : answerB (outB x).1 (outB x).2 x = true := by
  unfold answerB
  rcases outB_cases x with ⟨h, e⟩ | ⟨h, e⟩
  · rw [h, e, if_pos rfl, sameB_self]; rfl
  · rw [h, e, if_neg (by simp), sameB_self]; rfl
set_option maxRecDepth 100000 in
set_option maxHeartbeats 4000000 in
theorem answer9_any (P Q : Nat → Prop) (t want : Con) (ec : Int) (w : World) (v x : Value) (hP : ∀ b, P b → b < w.heap.size) (hQ : ∀ b, Q b → b < w.heap.size) (ht : ConV w P t v) (hu : ConV w Q want x) :
    Calls Tryz.prog 25 #[v, .int .i64 ec, x] w fun e w' => e = .returned (.bool (answerB t ec want)) ∧ Below w.heap.size w w' := by
  have HV := Lib.hid (fun W (hW : Below w.heap.size w W) => rvalid9_any Q want W x (fun b h => Nat.lt_of_lt_of_le (hQ b h) hW.size) (hu.below hQ hW))
  have HN := Lib.hid (fun W (hW : Below w.heap.size w W) => none9_any P t W v (fun b h => Nat.lt_of_lt_of_le (hP b h) hW.size) (ht.below hP hW))
  have HS := Lib.hid (fun W (hW : Below w.heap.size w W) => rsameB_any P Q t want W v x (fun b h => Nat.lt_of_lt_of_le (hP b h) hW.size) (fun b h => Nat.lt_of_lt_of_le (hQ b h) hW.size) (ht.below hP hW) (hu.below hQ hW))
  have HR := Lib.hid (show answerB t ec want = if Con.validB want then Con.sameB t want && (ec == 0) else Con.sameB t Con.none0 && (ec == 6) from rfl)
  generalize answerB t ec want = R at *
  generalize Con.validB want = r1 at *
  generalize Con.sameB t want = r2 at *
  generalize Con.sameB t Con.none0 = r3 at *
  obtain ⟨ka, kn, kc, na, nn, nc, la, ln, lc, rfl, -, -, -⟩ := ht.shape
  obtain ⟨ka2, kn2, kc2, na2, nn2, nc2, la2, ln2, lc2, rfl, -, -, -⟩ := hu.shape
  obtain ⟨hbx, hbx2, hb⟩ := twoN_new w 28 28 #[.int .i64 t.op, .int .i64 t.n, .string t.s, .slice ka kn kc, .slice na nn nc, .slice la ln lc] #[.int .i64 want.op, .int .i64 want.n, .string want.s, .slice ka2 kn2 kc2, .slice na2 nn2 nc2, .slice la2 ln2 lc2]
  have HB := Lib.hid hb
  have HBX := Lib.hid hbx
  have HBX2 := Lib.hid hbx2
  have d0 := hbx2.cell 0 (.int .i64 want.op) rfl
  have d1 := hbx2.cell 1 (.int .i64 want.n) rfl
  have d2 := hbx2.cell 2 (.string want.s) rfl
  have d3 := hbx2.cell 3 (.slice ka2 kn2 kc2) rfl
  have d4 := hbx2.cell 4 (.slice na2 nn2 nc2) rfl
  have d5 := hbx2.cell 5 (.slice la2 ln2 lc2) rfl
  clear hbx hbx2 hb ht hu hP hQ
  go_enter Tryz.func25, Tryz.ntmps25
  go_wp2_with fail
  clear d0 d1 d2 d3 d4 d5
  generalize (w.alloc (.cells #[.int .i64 t.op, .int .i64 t.n, .string t.s, .slice ka kn kc, .slice na nn nc, .slice la ln lc] 28)).alloc (.cells #[.int .i64 want.op, .int .i64 want.n, .string want.s, .slice ka2 kn2 kc2, .slice na2 nn2 nc2, .slice la2 ln2 lc2] 28) = w2 at *
  refine (HV.out _ HB.out).mono ?_
  rintro e w3 ⟨rfl, hb3⟩
  replace HB := Lib.hid (belowStep hb3 HB.out)
  replace HBX := Lib.hid (HBX.out.of_eq (hb3.block _ HBX.out.lt))
  replace HBX2 := Lib.hid (HBX2.out.of_eq (hb3.block _ HBX2.out.lt))
  clear hb3
  have c0 := HBX.out.cell 0 (.int .i64 t.op) rfl
  have c1 := HBX.out.cell 1 (.int .i64 t.n) rfl
  have c2 := HBX.out.cell 2 (.string t.s) rfl
  have c3 := HBX.out.cell 3 (.slice ka kn kc) rfl
  have c4 := HBX.out.cell 4 (.slice na nn nc) rfl
  have c5 := HBX.out.cell 5 (.slice la ln lc) rfl
  have d0 := HBX2.out.cell 0 (.int .i64 want.op) rfl
  have d1 := HBX2.out.cell 1 (.int .i64 want.n) rfl
  have d2 := HBX2.out.cell 2 (.string want.s) rfl
  have d3 := HBX2.out.cell 3 (.slice ka2 kn2 kc2) rfl
  have d4 := HBX2.out.cell 4 (.slice na2 nn2 nc2) rfl
  have d5 := HBX2.out.cell 5 (.slice la2 ln2 lc2) rfl
  cases r1
  · have HR2 := Lib.hid (show R = (r3 && (ec == 6)) from by rw [HR.out]; rfl)
    go_wp2_with fail
    refine (HN.out _ HB.out).mono ?_
    rintro e w4 ⟨rfl, hb4⟩
    have HB4 := Lib.hid (belowStep hb4 HB.out)
    clear hb4 HR c0 c1 c2 c3 c4 c5 d0 d1 d2 d3 d4 d5
    cases r3
    · go_wp2
      go_ret
      exact ⟨by rw [HR2.out]; rfl, HB4.out⟩
    · go_wp2
      go_ret
      exact ⟨by rw [HR2.out]; rfl, HB4.out⟩
  · have HR2 := Lib.hid (show R = (r2 && (ec == 0)) from by rw [HR.out]; rfl)
    go_wp2_with fail
    refine (HS.out _ HB.out).mono ?_
    rintro e w4 ⟨rfl, hb4⟩
    have HB4 := Lib.hid (belowStep hb4 HB.out)
    clear hb4 HR c0 c1 c2 c3 c4 c5 d0 d1 d2 d3 d4 d5
    cases r2
    · go_wp2
      go_ret
      exact ⟨by rw [HR2.out]; rfl, HB4.out⟩
    · go_wp2
      go_ret
      exact ⟨by rw [HR2.out]; rfl, HB4.out⟩
end Go.Proofs.YtpkgiemdnfbopaaGreat
namespace Go.Proofs.YtpkgiemdnfbopaaGreat
open Go Go.RowKit
open Pl (K Con)
set_option linter.unusedSimpArgs false

set_option maxRecDepth 100000 in
theorem rinside_any (P : Nat → Prop) (t : Con) (l : List Con) (w : World) (v x : Value) (hP : ∀ b, P b → b < w.heap.size) (ht : ConV w P t v) (hl : ConSl w P x l) :
    Calls Tryz.prog 126 #[v, x] w fun e w' => (∃ y, e = .returned y ∧ ConV w' P (Con.inside t l) y) ∧ Below w.heap.size w w' := by
  have hin : ∀ W, Below w.heap.size w W → ∀ ka kn kc na nn nc la ln lc, v = .agg #[.int .i64 t.op, .int .i64 t.n, .string t.s, .slice ka kn kc, .slice na nn nc, .slice la ln lc] → ConV W P (Con.inside t l) (.agg #[.int .i64 t.op, .int .i64 t.n, .string t.s, .slice ka kn kc, .slice na nn nc, x]) := by
    intro W hW ka kn kc na nn nc la ln lc hv
    obtain ⟨h0, kv, nv, lv, hv2, hk, hs, -⟩ := (conV_iff _ _ _ _).1 (ht.below hP hW)
    have e2 := hv.symm.trans hv2
    simp only [Value.agg.injEq, Array.mk.injEq, List.cons.injEq, and_true, true_and] at e2
    obtain ⟨rfl, rfl, -⟩ := e2
    exact (conV_iff _ _ _ _).2 ⟨h0, _, _, _, rfl, hk, hs, hl.below hP hW⟩
  have HIN := Lib.hid hin
  obtain ⟨xa, xc, rfl, -, -, -⟩ := hl.each
  obtain ⟨ka, kn, kc, na, nn, nc, la, ln, lc, rfl, -, -, -⟩ := ht.shape
  have HI2 := Lib.hid (fun W hW => HIN.out W hW ka kn kc na nn nc la ln lc rfl)
  generalize l.length = xn at *
  obtain ⟨hbx, hb⟩ := boxN_new w 28 #[.int .i64 t.op, .int .i64 t.n, .string t.s, .slice ka kn kc, .slice na nn nc, .slice la ln lc]
  have hr := blk_new (w.alloc (.cells #[.int .i64 t.op, .int .i64 t.n, .string t.s, .slice ka kn kc, .slice na nn nc, .slice la ln lc] 28)) #[.int .i64 t.op, .int .i64 t.n, .string t.s, .slice ka kn kc, .slice na nn nc, .slice xa xn xc] 28
  rw [size_alloc] at hr
  have d0 := hr.cell 0 (.int .i64 t.op) rfl
  have d1 := hr.cell 1 (.int .i64 t.n) rfl
  have d2 := hr.cell 2 (.string t.s) rfl
  have d3 := hr.cell 3 (.slice ka kn kc) rfl
  have d4 := hr.cell 4 (.slice na nn nc) rfl
  have d5 := hr.cell 5 (.slice xa xn xc) rfl
  have hbz := hbx.alloc (.cells #[.int .i64 0, .int .i64 0, .string ByteArray.empty, .slice none 0 0, .slice none 0 0, .slice none 0 0] 28)
  have c0 := hbz.cell 0 (.int .i64 t.op) rfl
  have c1 := hbz.cell 1 (.int .i64 t.n) rfl
  have c2 := hbz.cell 2 (.string t.s) rfl
  have c3 := hbz.cell 3 (.slice ka kn kc) rfl
  have c4 := hbz.cell 4 (.slice na nn nc) rfl
  have HB := Lib.hid (below_new (o := .cells #[.int .i64 t.op, .int .i64 t.n, .string t.s, .slice ka kn kc, .slice na nn nc, .slice xa xn xc] 28) hb)
  clear hbx hb hr hbz ht hl hin hP HIN
  go_enter Tryz.func126, Tryz.ntmps126
  go_wp2_with fail
  refine bodyPost_ret (v := .agg #[.int .i64 t.op, .int .i64 t.n, .string t.s, .slice ka kn kc, .slice na nn nc, .slice xa xn xc]) (by first | (simp [results, Tryz.results126, go_sem, d0, d1, d2, d3, d4, d5]; done) | (simp [results, Tryz.results126, go_sem, d0, d1, d2, d3, d4, d5]; rfl)) rfl ?_
  exact ⟨⟨_, rfl, HI2.out _ HB.out⟩, HB.out⟩
end Go.Proofs.YtpkgiemdnfbopaaGreat
namespace Go.Proofs.YtpkgiemdnfbopaaGreat
open Go Go.RowKit
open Pl (K Con)
set_option linter.unusedSimpArgs false

/-- six cells in a row of values -/
def ConIn (cs : Array Value) (o : Nat) (v : Value) : Prop :=
  ∃ x0 x1 x2 x3 x4 x5, v = .agg #[x0, x1, x2, x3, x4, x5] ∧ cs[o]? = some x0 ∧ cs[o + 1]? = some x1 ∧ cs[o + 2]? = some x2 ∧ cs[o + 3]? = some x3 ∧ cs[o + 4]? = some x4 ∧ cs[o + 5]? = some x5
/-- the cells of constructors side by side, their parts in the blocks R -/
def ConRow (w : World) (R : Nat → Prop) (us : List Value) (l : List Con) : Prop :=
  us.length = l.length * 6 ∧ (∀ u ∈ us, u.oneCell' = true) ∧ ∀ j (h : j < l.length), ∃ x, ConIn us.toArray (j * 6) x ∧ ConV w R l[j] x
theorem ConRow.nil (w : World) (R : Nat → Prop) : ConRow w R [] [] := ⟨rfl, fun u hu => (by cases hu), fun j hj => absurd hj (Nat.not_lt_zero _)⟩
theorem ConRow.keep {w w' : World} {R : Nat → Prop} {us : List Value} {l : List Con} (h : ConRow w R us l) (hs : Same R w w') : ConRow w' R us l := ⟨h.1, h.2.1, fun j hj => by obtain ⟨x, hx, hv⟩ := h.2.2 j hj; exact ⟨x, hx, hv.keep hs⟩⟩
theorem ConRow.mono {w : World} {R S : Nat → Prop} {us : List Value} {l : List Con} (h : ConRow w R us l) (hs : ∀ b, R b → S b) : ConRow w S us l := ⟨h.1, h.2.1, fun j hj => by obtain ⟨x, hx, hv⟩ := h.2.2 j hj; exact ⟨x, hx, hv.mono hs⟩⟩
theorem ConIn.left {us vs : List Value} {o : Nat} {v : Value} (h : ConIn us.toArray o v) : ConIn (us ++ vs).toArray o v := by
  obtain ⟨x0, x1, x2, x3, x4, x5, rfl, h0, h1, h2, h3, h4, h5⟩ := h
  have each : ∀ (i : Nat) (x : Value), us.toArray[i]? = some x → (us ++ vs).toArray[i]? = some x := by
    intro i x hx
    simp only [List.getElem?_toArray] at hx ⊢
    have hi : i < us.length := by
      rcases Nat.lt_or_ge i us.length with h | h
      · exact h
      · rw [List.getElem?_eq_none h] at hx; cases hx
    rw [List.getElem?_append_left hi]; exact hx
  exact ⟨x0, x1, x2, x3, x4, x5, rfl, each _ _ h0, each _ _ h1, each _ _ h2, each _ _ h3, each _ _ h4, each _ _ h5⟩
theorem con_one_cell {w : World} {P : Nat → Prop} {t : Con} {x0 x1 x2 x3 x4 x5 : Value} (h : ConV w P t (.agg #[x0, x1, x2, x3, x4, x5])) : ∀ u ∈ [x0, x1, x2, x3, x4, x5], u.oneCell' = true := by
  obtain ⟨ka, kn, kc, na, nn, nc, la, ln, lc, e, -, -, -⟩ := h.shape
  simp only [Value.agg.injEq, Array.mk.injEq, List.cons.injEq, and_true] at e
  obtain ⟨rfl, rfl, rfl, rfl, rfl, rfl⟩ := e
  intro u hu
  simp at hu
  rcases hu with rfl | rfl | rfl | rfl | rfl | rfl <;> rfl
theorem ConRow.push {w : World} {R : Nat → Prop} {us : List Value} {l : List Con} {x0 x1 x2 x3 x4 x5 : Value} {y : Con} (h : ConRow w R us l) (hy : ConV w R y (.agg #[x0, x1, x2, x3, x4, x5])) : ConRow w R (us ++ [x0, x1, x2, x3, x4, x5]) (l ++ [y]) := by
  obtain ⟨h1, h2, h3⟩ := h
  refine ⟨by simp [h1]; omega, fun u hu => ?_, fun j hj => ?_⟩
  · rw [List.mem_append] at hu
    rcases hu with hu | hu
    · exact h2 u hu
    · exact con_one_cell hy u hu
  · by_cases hlt : j < l.length
    · obtain ⟨x, hx, hv⟩ := h3 j hlt
      exact ⟨x, hx.left, by rw [List.getElem_append_left hlt]; exact hv⟩
    · have hjl : j = l.length := by simp at hj; omega
      subst hjl
      refine ⟨.agg #[x0, x1, x2, x3, x4, x5], ⟨x0, x1, x2, x3, x4, x5, rfl, ?_⟩, by rw [List.getElem_append_right (Nat.le_refl _)]; simpa using hy⟩
      rw [← h1]
      simp only [List.getElem?_toArray]
      refine ⟨?_, ?_, ?_, ?_, ?_, ?_⟩
      all_goals (rw [List.getElem?_append_right (by omega)]; simp)
theorem ownsRow6_below {w w' : World} {base n : Nat} {T : TypeId} {v : Value} {xs : List Value} (h : w.ownsRow base T 6 v n xs) (hb : Below w.heap.size w w') : w'.ownsRow base T 6 v n xs :=
  h.kept (row := none) ⟨hb.os, hb.tape, hb.output, hb.size, fun i hi _ => hb.block i hi⟩ (by cases ho : v.ownBlock with | none => exact .inl rfl | some k => exact .inr (by simp))
/-- the row is a slice of constructors -/
theorem ConRow.cons {w : World} {base : Nat} {R S : Nat → Prop} {v : Value} {cur : List Con} {us : List Value} (h1 : w.ownsRow base 28 6 v cur.length us) (h2 : ConRow w R us cur) (hR : ∀ b, R b → S b) (hS : ∀ b, base ≤ b → b < w.heap.size → S b) : ConSl w S v cur := by
  have hc := h1
  rcases h1.2 with ⟨rfl, h0⟩ | ⟨g, cap, cu, rfl, hbg, hg, hnc, hcm, hcs, htake⟩
  · obtain rfl : cur = [] := List.eq_nil_of_length_eq_zero h0
    exact ⟨none, 0, rfl, Nat.le_refl _, Nat.zero_le _, fun _ => rfl, .inl rfl⟩
  · have hgl : g < w.heap.size := (hc.lt g rfl).2
    refine ⟨_, cap, rfl, hnc, hcm, (fun h => by cases h), .inr ⟨g, 0, rfl, hS g hbg hgl, ?_⟩⟩
    rw [consAt_iff]
    intro j hj
    obtain ⟨x, hx, hv⟩ := h2.2.2 j hj
    refine ⟨x, ?_, hv.mono hR⟩
    obtain ⟨x0, x1, x2, x3, x4, x5, rfl, c0, c1, c2, c3, c4, c5⟩ := hx
    simp only [List.getElem?_toArray] at c0 c1 c2 c3 c4 c5
    have each : ∀ d u, d < 6 → us[j * 6 + d]? = some u → w.cell? ⟨g, 0 + j * 6 + d, none⟩ = some u := by
      intro d u hd hu
      rw [Nat.zero_add, hc.cellAt (j * 6 + d) (by omega), hu]
    exact ⟨x0, x1, x2, x3, x4, x5, rfl, each 0 _ (by omega) c0, each 1 _ (by omega) c1, each 2 _ (by omega) c2, each 3 _ (by omega) c3, each 4 _ (by omega) c4, each 5 _ (by omega) c5⟩
end Go.Proofs.YtpkgiemdnfbopaaGreat
namespace Go.Proofs.YtpkgiemdnfbopaaGreat
open Go Go.RowKit
open Pl (K Con)
set_option linter.unusedSimpArgs false
set_option linter.unusedVariables false

set_option maxRecDepth 100000 in
theorem copiedKind_any (P : Nat → Prop) (k : K) (w : World) (v : Value) (hP : ∀ b, P b → b < w.heap.size) (hk : KV w P k v) (hv : K.valid k = true) :
    Calls Tryz.prog 56 #[v] w fun e w' => (∃ ra rc, e = .returned (.agg #[.slice ra k.l.length rc]) ∧ KidV w' (From w.heap.size w') k (.slice ra k.l.length rc)) ∧ Below w.heap.size w w' := by
  have HA := Lib.hid (fun W (hW : Below w.heap.size w W) => carrow_any P [] k W (.slice none 0 0) v (fun b h => Nat.lt_of_lt_of_le (hP b h) hW.size) (kidV_none W P) (hk.keep (Same.of_below hW hP)))
  have ho : K.arrowOut [] k = (k, 0) := by
    unfold K.arrowOut
    have e : K.arrow [] k = k := rfl
    rw [e, hv]
    rfl
  rw [ho] at HA
  obtain ⟨a, c, rfl⟩ := hk.form
  obtain ⟨hbx, hbx2, hb⟩ := two_new w 24 (.slice a k.l.length c) (.slice none 0 0)
  have c0 := hbx.cell 0 (.slice a k.l.length c) rfl
  have HB := Lib.hid hb
  have HBX2 := Lib.hid hbx2
  generalize hn : k.l.length = n at *
  clear hbx hbx2 hb hk hP ho
  go_enter Tryz.func56, Tryz.ntmps56
  go_wp2_with fail
  clear c0
  generalize ((w.alloc (.cells #[.slice a n c] 24)).alloc (.cells #[.slice none 0 0] 24)) = w2 at *
  refine (HA.out _ HB.out).mono ?_
  rintro e w3 ⟨⟨y, rfl, hy⟩, hb3⟩
  obtain ⟨ra, rc, rfl⟩ := hy.form
  have HY := Lib.hid hy.kid
  have hb4 : Below w.heap.size w (w3.alloc (.cells #[.slice ra k.l.length rc] 24)) := below_new (belowStep hb3 HB.out)
  obtain ⟨hn4, hb5⟩ := boxN_new w3 24 #[.slice ra k.l.length rc]
  rw [hn] at HY hn4 hb5 hb4
  have h2 := (HBX2.out.of_eq (hb3.block _ HBX2.out.lt))
  have h3 := h2.alloc (.cells #[.slice ra n rc] 24)
  have c3 := hn4.cell 0 (.slice ra n rc) rfl
  have f3 := h3.thaw 0
  have c4 := h3.cell 0 (.slice none 0 0) rfl
  have HE1 := Lib.hid (blk_one (y := .slice ra n rc) h3)
  have HE2 := Lib.hid (below_set hb4 (Nat.le_succ w.heap.size) (.slice ra n rc))
  have HE3 := Lib.hid (show KidV ((w3.alloc (.cells #[.slice ra n rc] 24)).setCell ⟨w.heap.size + 1, 0, none⟩ (.slice ra n rc)) (From w.heap.size ((w3.alloc (.cells #[.slice ra n rc] 24)).setCell ⟨w.heap.size + 1, 0, none⟩ (.slice ra n rc))) k (.slice ra n rc) from by
    have h1 := (HY.out.keep (Same.of_below hb5 (fun b h => h.2))).keep (Same.set (w := w3.alloc (.cells #[.slice ra n rc] 24)) ⟨w.heap.size + 1, 0, none⟩ (.slice ra n rc) (fun q h e => by
      have e : q = w.heap.size + 1 := e
      have := h.1
      have := HBX2.out.lt
      omega))
    exact h1.mono (fun b h => ⟨Nat.le_trans HB.out.size h.1, by rw [size_set]; exact Nat.lt_of_lt_of_le h.2 hb5.size⟩))
  rw [hn]
  clear hy hb3 hb4 hb5 h2 h3 hn4 hn
  go_wp2
  generalize (w3.alloc (.cells #[.slice ra n rc] 24)).setCell ⟨w.heap.size + 1, 0, none⟩ (.slice ra n rc) = w5 at *
  have d0 := HE1.out.cell 0 (.slice ra n rc) rfl
  refine bodyPost_ret (v := .agg #[.slice ra n rc]) (by simp [results, Tryz.results56, go_sem, d0]) rfl ?_
  exact ⟨⟨ra, rc, rfl, HE3.out⟩, HE2.out⟩
/-- append to nil, whatever the source -/
theorem append_fresh {P : Program} {w : World} {ops : Array Oper} {rest : List Oper} {o : Oper} {a : Act} {Q : Exit → Act → World → Prop} (hgd : o.guard = none) (s x : Operand) (t : TypeId)
    (ho : o.op = .call { callee := .builtin .append, args := #[s, x], argTypes := #[t, t] })
    (base : Nat) (e : TypeId) (i : TypeInfo) (z : Value) (size bytes : Nat) (ht : P.underlying t = some (.slice e)) (hi : P.info? e = some i) (hz : i.zero = some z)
    (hsize : i.size = size) (hby : i.bytes = bytes) (hzs : z.cells.size = size) (hsz : 0 < size)
    (hs : a.eval s = .slice none 0 0) (oa : Option Addr) (m c : Nat) (news : List Value) (hx : a.eval x = .slice oa m c)
    (hnone : oa = none → m = 0 ∧ c = 0) (hl : news.length = m * size) (hnews : ∀ ad, oa = some ad → ∀ j u, news[j]? = some u → w.cell? (ad.add j) = some u) (h1 : ∀ u ∈ news, u.oneCell' = true)
    (h63 : m ≤ maxLen) (hbytes : m * bytes ≤ 140737488355328) (hbase : base ≤ w.heap.size)
    (h : ∀ v' w', w'.ownsRow base e size v' m news → w.grownBy w' none → wpList P ops Q rest (a.put o.dst v') w') : wpList P ops Q (o :: rest) a w := by
  cases oa with
  | none =>
    obtain ⟨rfl, rfl⟩ := hnone rfl
    have hn : news = [] := List.eq_nil_of_length_eq_zero (by omega)
    subst hn
    exact wpList_append_own_none hgd s x t ho base e i size ht hi (.slice none 0 0) 0 [] hs (World.ownsRow_nil w base e size) hx (h _ _ (World.ownsRow_nil w base e size) ⟨rfl, rfl, rfl, Nat.le_refl _, fun _ _ _ => rfl⟩)
  | some ad =>
    refine wpList_append_own w hgd s x t ho base e i z size bytes ht hi hz hsize hby hzs hsz (.slice none 0 0) 0 [] hs (World.ownsRow_nil w base e size) ad m c news hx hl (hnews ad rfl) h1 (by omega) (by rw [Nat.zero_add]; exact hbytes) hbase ?_
    intro v' w' h2 h3 _
    rw [Nat.zero_add, List.nil_append] at h2
    exact h v' w' h2 h3
theorem infoCon : (Tryz.prog.info? 28).map (fun i => (i.zero, i.size, i.bytes)) = some (some (.agg #[.int .i64 0, .int .i64 0, .string ByteArray.empty, .slice none 0 0, .slice none 0 0, .slice none 0 0]), 6, 104) := by kernel_rfl
theorem infoStr : (Tryz.prog.info? 9).map (fun i => (i.zero, i.size, i.bytes)) = some (some (.string ByteArray.empty), 1, 16) := by kernel_rfl
/-- the cells of a row of strings -/
theorem strs_us {w : World} {P : Nat → Prop} {a : Option Addr} {n c : Nat} {zs : List ByteArray} (h : StrSl w P (.slice a n c) zs) :
    n = zs.length ∧ n ≤ c ∧ c ≤ maxLen ∧ (a = none → n = 0 ∧ c = 0) ∧ (zs.map Value.string).length = n * 1 ∧ (∀ ad, a = some ad → ∀ j u, (zs.map Value.string)[j]? = some u → w.cell? (ad.add j) = some u) ∧ (∀ u ∈ zs.map Value.string, u.oneCell' = true) ∧ ∀ z ∈ zs, z.size ≤ maxLen := by
  obtain ⟨a', c', e, h1, h2, h3, h4, h5⟩ := h
  injection e with e1 e2 e3
  subst e1 e2 e3
  refine ⟨rfl, h1, h2, fun h => ⟨by have := h3 h; omega, h3 h⟩, by simp, fun ad had j u hu => ?_, fun u hu => ?_, h4⟩
  · rcases h5 with h5 | ⟨b, off, h5, h6, h7⟩
    · subst h5; simp at hu
    · rw [h5] at had
      injection had with had
      subst had
      rw [List.getElem?_map] at hu
      have hj : j < zs.length := by
        rcases Nat.lt_or_ge j zs.length with h | h
        · exact h
        · rw [List.getElem?_eq_none h] at hu; cases hu
      rw [List.getElem?_eq_getElem hj] at hu
      injection hu with hu
      rw [← hu, Go.WideShapes.add_plain]
      exact h7 j hj
  · obtain ⟨z, -, rfl⟩ := List.mem_map.1 hu
    rfl
/-- strings of a row that a call owns -/
theorem strs_of_row {w : World} {base n : Nat} {v : Value} {zs : List ByteArray} {S : Nat → Prop} (h : w.ownsRow base 9 1 v n (zs.map Value.string)) (hn : n = zs.length) (hz : ∀ z ∈ zs, z.size ≤ maxLen) (hS : ∀ b, base ≤ b → b < w.heap.size → S b) : ∃ a c, v = .slice a n c ∧ StrSl w S (.slice a n c) zs := by
  subst hn
  have hc := h
  rcases h.2 with ⟨rfl, h0⟩ | ⟨g, cap, cu, rfl, hbg, hg, hnc, hcm, hcs, htake⟩
  · obtain rfl : zs = [] := List.eq_nil_of_length_eq_zero h0
    exact ⟨none, 0, rfl, none, 0, rfl, Nat.le_refl _, Nat.zero_le _, fun _ => rfl, (fun z hz => by cases hz), .inl rfl⟩
  · have hgl : g < w.heap.size := (hc.lt g rfl).2
    refine ⟨_, cap, rfl, _, cap, rfl, hnc, hcm, (fun h => by cases h), hz, .inr ⟨g, 0, rfl, hS g hbg hgl, fun j hj => ?_⟩⟩
    rw [Nat.zero_add, hc.cellAt j (by omega), List.getElem?_map, List.getElem?_eq_getElem hj]
    rfl
/-- the cells of a row of constructors -/
theorem cons_us {w : World} {P : Nat → Prop} {a : Option Addr} {n c : Nat} {l : List Con} (h : ConSl w P (.slice a n c) l) :
    n = l.length ∧ n ≤ c ∧ c ≤ maxLen ∧ (a = none → n = 0 ∧ c = 0) ∧ ∃ us : List Value, us.length = n * 6 ∧ (∀ ad, a = some ad → ∀ j u, us[j]? = some u → w.cell? (ad.add j) = some u) ∧ (∀ u ∈ us, u.oneCell' = true) ∧ ConRow w P us l := by
  obtain ⟨a', c', e, h1, h2, h3, h5⟩ := h
  injection e with e1 e2 e3
  subst e1 e2 e3
  refine ⟨rfl, h1, h2, fun h => ⟨by have := h3 h; omega, h3 h⟩, ?_⟩
  rcases h5 with h5 | ⟨b, off, rfl, h6, h7⟩
  · subst h5
    exact ⟨[], rfl, (fun ad _ j u hu => by simp at hu), (fun u hu => by cases hu), ConRow.nil w P⟩
  · have main : ∀ (l : List Con) (off : Nat), ConsAt w P l b off → ∃ us : List Value, us.length = l.length * 6 ∧ (∀ j u, us[j]? = some u → w.cell? ⟨b, off + j, none⟩ = some u) ∧ (∀ u ∈ us, u.oneCell' = true) ∧ ConRow w P us l := by
      intro l
      induction l with
      | nil => intro off _; exact ⟨[], rfl, (fun i u hu => by simp at hu), (fun u hu => by cases hu), ConRow.nil w P⟩
      | cons t r ih =>
        intro off h
        rw [ConsAt] at h
        obtain ⟨⟨v, hv, hs⟩, hr⟩ := h
        obtain ⟨us, g1, g2, g3, g4, g5, g6⟩ := ih _ hr
        obtain ⟨y0, y1, y2, y3, y4, y5, rfl, c0, c1, c2, c3, c4, c5⟩ := hv
        have h1c := con_one_cell hs
        refine ⟨y0 :: y1 :: y2 :: y3 :: y4 :: y5 :: us, by simp [g1]; omega, fun i u hu => ?_, fun u hu => ?_, by simp [g1]; omega, fun u hu => ?_, fun j hj => ?_⟩
        · match i, hu with
          | 0, hu => simp at hu; subst hu; exact c0
          | 1, hu => simp at hu; subst hu; exact c1
          | 2, hu => simp at hu; subst hu; exact c2
          | 3, hu => simp at hu; subst hu; exact c3
          | 4, hu => simp at hu; subst hu; exact c4
          | 5, hu => simp at hu; subst hu; exact c5
          | i + 6, hu =>
            have := g2 i u (by simpa using hu)
            rw [show off + 6 + i = off + (i + 6) from by omega] at this
            exact this
        · rw [show y0 :: y1 :: y2 :: y3 :: y4 :: y5 :: us = [y0, y1, y2, y3, y4, y5] ++ us from rfl, List.mem_append] at hu
          rcases hu with hu | hu
          · exact h1c u hu
          · exact g3 u hu
        · rw [show y0 :: y1 :: y2 :: y3 :: y4 :: y5 :: us = [y0, y1, y2, y3, y4, y5] ++ us from rfl, List.mem_append] at hu
          rcases hu with hu | hu
          · exact h1c u hu
          · exact g3 u hu
        · cases j with
          | zero => exact ⟨_, ⟨y0, y1, y2, y3, y4, y5, rfl, rfl, rfl, rfl, rfl, rfl, rfl⟩, hs⟩
          | succ j =>
            obtain ⟨x, ⟨x0, x1, x2, x3, x4, x5, rfl, k0, k1, k2, k3, k4, k5⟩, hx⟩ := g6 j (by simpa using hj)
            simp only [List.getElem?_toArray] at k0 k1 k2 k3 k4 k5
            have each : ∀ d u, us[j * 6 + d]? = some u → (y0 :: y1 :: y2 :: y3 :: y4 :: y5 :: us).toArray[(j + 1) * 6 + d]? = some u := by
              intro d u hu
              rw [show (j + 1) * 6 + d = j * 6 + d + 6 from by omega]
              simpa using hu
            exact ⟨_, ⟨x0, x1, x2, x3, x4, x5, rfl, each 0 _ k0, each 1 _ k1, each 2 _ k2, each 3 _ k3, each 4 _ k4, each 5 _ k5⟩, hx⟩
    obtain ⟨us, g1, g2, g3, g4⟩ := main l off h7
    refine ⟨us, g1, fun ad had j u hu => ?_, g3, g4⟩
    injection had with had
    subst had
    rw [Go.WideShapes.add_plain]
    exact g2 j u hu
/-- constructors in a row that a call owns, at a block of its own, their parts in the blocks R -/
def FreshC (w : World) (base : Nat) (R : Nat → Prop) (v : Value) (l : List Con) : Prop :=
  ∃ a c, v = .slice a l.length c ∧ l.length ≤ c ∧ c ≤ maxLen ∧ (a = none → c = 0) ∧ (l = [] ∨ ∃ g cur, a = some ⟨g, 0, none⟩ ∧ base ≤ g ∧ Blk w g 28 cur ∧ l.length * 6 ≤ cur.size ∧ ∀ j (h : j < l.length), ∃ x, ConIn cur (j * 6) x ∧ ConV w R l[j] x)
theorem ConIn.at {w : World} {g o : Nat} {cur : Array Value} {v : Value} {T : TypeId} (h : ConIn cur o v) (hb : Blk w g T cur) : Cells6 w g o v := by
  obtain ⟨x0, x1, x2, x3, x4, x5, rfl, h0, h1, h2, h3, h4, h5⟩ := h
  exact ⟨x0, x1, x2, x3, x4, x5, rfl, hb.cell _ _ h0, hb.cell _ _ h1, hb.cell _ _ h2, hb.cell _ _ h3, hb.cell _ _ h4, hb.cell _ _ h5⟩
theorem FreshC.cons {w : World} {base : Nat} {R S : Nat → Prop} {v : Value} {l : List Con} (h : FreshC w base R v l) (hR : ∀ b, R b → S b) (hS : ∀ b, base ≤ b → b < w.heap.size → S b) : ConSl w S v l := by
  obtain ⟨a, c, h1, h2, h3, h4, h5⟩ := h
  refine ⟨a, c, h1, h2, h3, h4, ?_⟩
  rcases h5 with h5 | ⟨g, cur, h5, h6, h7, -, h8⟩
  · exact .inl h5
  · refine .inr ⟨g, 0, h5, hS g h6 h7.lt, ?_⟩
    rw [consAt_iff]
    intro j hj
    obtain ⟨x, hx, hv⟩ := h8 j hj
    exact ⟨x, by rw [Nat.zero_add]; exact hx.at h7, hv.mono hR⟩
theorem FreshC.keep {w w' : World} {base : Nat} {R : Nat → Prop} {v : Value} {l : List Con} (h : FreshC w base R v l) (hs : ∀ q, base ≤ q → q < w.heap.size → w'.heap[q]? = w.heap[q]?) (hR : Same R w w') : FreshC w' base R v l := by
  obtain ⟨a, c, h1, h2, h3, h4, h5⟩ := h
  refine ⟨a, c, h1, h2, h3, h4, ?_⟩
  rcases h5 with h5 | ⟨g, cur, h5, h6, h7, h8, h9⟩
  · exact .inl h5
  · refine .inr ⟨g, cur, h5, h6, h7.of_eq (hs g h6 h7.lt), h8, fun j hj => ?_⟩
    obtain ⟨x, hx, hv⟩ := h9 j hj
    exact ⟨x, hx, hv.keep hR⟩
theorem fresh_of_row {w : World} {base n : Nat} {v : Value} {l : List Con} {us : List Value} {R : Nat → Prop} (h : w.ownsRow base 28 6 v n us) (hn : n = l.length) (hr : ConRow w R us l) : FreshC w base R v l := by
  subst hn
  have hc := h
  rcases h.2 with ⟨rfl, h0⟩ | ⟨g, cap, cu, rfl, hbg, hg, hnc, hcm, hcs, htake⟩
  · obtain rfl : l = [] := List.eq_nil_of_length_eq_zero h0
    exact ⟨none, 0, rfl, Nat.le_refl _, Nat.zero_le _, fun _ => rfl, .inl rfl⟩
  · refine ⟨_, cap, rfl, hnc, hcm, (fun h => by cases h), .inr ⟨g, cu, rfl, hbg, hg, by rw [hcs]; exact Nat.mul_le_mul_right 6 hnc, fun j hj => ?_⟩⟩
    obtain ⟨x, ⟨x0, x1, x2, x3, x4, x5, rfl, k0, k1, k2, k3, k4, k5⟩, hx⟩ := hr.2.2 j hj
    simp only [List.getElem?_toArray] at k0 k1 k2 k3 k4 k5
    have each : ∀ d u, d < 6 → us[j * 6 + d]? = some u → cu[j * 6 + d]? = some u := by
      intro d u hd hu
      rw [← htake, List.getElem?_take_of_lt (by omega)] at hu
      simpa using hu
    exact ⟨_, ⟨x0, x1, x2, x3, x4, x5, rfl, each 0 _ (by omega) k0, each 1 _ (by omega) k1, each 2 _ (by omega) k2, each 3 _ (by omega) k3, each 4 _ (by omega) k4, each 5 _ (by omega) k5⟩, hx⟩
end Go.Proofs.YtpkgiemdnfbopaaGreat
