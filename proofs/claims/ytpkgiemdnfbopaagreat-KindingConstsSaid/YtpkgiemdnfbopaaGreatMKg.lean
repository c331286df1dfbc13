/-
  Several texts in one (Vc Ve Vh Uy Ui Uz Uj Uk Ul Um Un Uq).
-/
import Derived.Test.YtpkgiemdnfbopaaGreatMKf
import Derived.Test.YtpkgiemdnfbopaaGreatMKa
import Derived.Test.YtpkgiemdnfbopaaGreatMKb
import Derived.Test.YtpkgiemdnfbopaaGreatShelf
namespace Go.Proofs.YtpkgiemdnfbopaaGreat
open Go Go.RowKit Go.Sort
open Pl (K Con)
set_option linter.unusedSimpArgs false
set_option linter.unusedVariables false
attribute [local go_sem] Oper.semAt_some

/-- two cells of boxes written -/
theorem twoSet {w : World} {g2 g3 : Nat} {T2 T3 : TypeId} {x2 x3 : Value} (y2 y3 : Value) (h2 : Blk w g2 T2 #[x2]) (h3 : Blk w g3 T3 #[x3]) (hne : g2 ≠ g3) :
    Blk ((w.setCell ⟨g2, 0, none⟩ y2).setCell ⟨g3, 0, none⟩ y3) g2 T2 #[y2] ∧ Blk ((w.setCell ⟨g2, 0, none⟩ y2).setCell ⟨g3, 0, none⟩ y3) g3 T3 #[y3] ∧ Blk (w.setCell ⟨g2, 0, none⟩ y2) g3 T3 #[x3] := by
  have a := blk_one (y := y2) h2
  have b : Blk (w.setCell ⟨g2, 0, none⟩ y2) g3 T3 #[x3] := h3.of_eq (Below.heap_setCell w _ _ g3 (show g3 ≠ g2 from fun e => hne e.symm))
  exact ⟨a.of_eq (Below.heap_setCell _ _ _ g2 (show g2 ≠ g3 from hne)), blk_one b, b⟩
theorem make_kmap (w : World) : (Instr.makeMap 83 none).run Tryz.prog w = .ok (.map (some w.heap.size)) (w.alloc (.map #[] 0)) := by
  first | kernel_rfl | simp [Instr.makeMap, go_sem]
theorem KMap.below {w W : World} {P : Nat → Prop} {b n : Nat} {zs : List (ByteArray × K)} (h : KMap w P b n zs) (hb : Below w.heap.size w W) (hP : ∀ q, P q → q < w.heap.size) : KMap W P b n zs :=
  h.kept (row := none) ⟨hb.os, hb.tape, hb.output, hb.size, fun i hi _ => hb.block i hi⟩ (by simp) (Same.of_below hb hP)
/-- what Consts answers -/
def consOut (t : Con) : List (ByteArray × K) × Int := if Con.validB t = true then (if Con.consB t = true then (Con.consL t, 0) else ([], 11)) else ([], 1)
def CsP (r : List (ByteArray × K) × Int) (w : World) (e : Ending) (w' : World) : Prop := (∃ y, e = .returned (.tuple #[y, .int .i64 r.2]) ∧ CstSl w' (fun q => w.heap.size ≤ q ∧ q < w'.heap.size) y r.1) ∧ Below w.heap.size w w'
/-- the constants among leaves -/
def csts {w0 : World} {n₀ : Nat} (ls : List (LeafC w0 n₀)) : List (ByteArray × K) := ls.filterMap (fun x => cstL x.proj)
theorem csts_proj {w0 : World} {n₀ : Nat} (ls : List (LeafC w0 n₀)) : csts ls = (ls.map LeafC.proj).filterMap cstL := by
  unfold csts
  rw [List.filterMap_map]
  rfl
theorem csts_snoc {w0 : World} {n₀ : Nat} (ls : List (LeafC w0 n₀)) (x : LeafC w0 n₀) : csts (ls ++ [x]) = csts ls ++ (if x.c.op = 2 then [(x.c.s, x.c.kind)] else []) := by
  unfold csts
  rw [List.filterMap_append]
  congr 1
  unfold cstL LeafC.proj
  by_cases h : x.c.op = 2 <;> simp [h]
theorem csts_valid {w0 : World} {n₀ : Nat} (ls : List (LeafC w0 n₀)) (s : ByteArray) (k : K) (h : (s, k) ∈ csts ls) : K.valid k = true := by
  unfold csts at h
  rw [List.mem_filterMap] at h
  obtain ⟨x, -, hx⟩ := h
  unfold cstL LeafC.proj at hx
  dsimp only at hx
  split at hx
  · injection hx with hx
    injection hx with _ hx
    rw [← hx]
    exact (node_facts x.c x.hn).1
  · cases hx
theorem csts_size {w0 : World} {n₀ : Nat} (ls : List (LeafC w0 n₀)) (s : ByteArray) (k : K) (h : (s, k) ∈ csts ls) : s.size ≤ maxLen := by
  unfold csts at h
  rw [List.mem_filterMap] at h
  obtain ⟨x, -, hx⟩ := h
  unfold cstL LeafC.proj at hx
  dsimp only at hx
  split at hx
  · injection hx with hx
    injection hx with hx _
    rw [← hx]
    exact ((conV_iff _ _ _ _).1 (x.hv w0 (Below.refl _ _))).1
  · cases hx
theorem encStr_toList (s : ByteArray) : encStr s.toList = .string s := by
  rw [Lib.toList_data]
/-- what a round over the leaves keeps -/
structure CJ (w w6 : World) (mb : Nat) (pre : List (LeafC w6 w.heap.size)) (W : World) : Prop where
  map : ∃ n, n ≤ pre.length ∧ KMap W (· < w.heap.size) mb n (csts pre)
  func : Func (csts pre)
  box : Blk W (mb + 1) 83 #[.map (some mb)]
  r2 : Blk W (w.heap.size + 1) 29 #[.slice none 0 0]
  r3 : Blk W (w.heap.size + 1 + 1) 39 #[.int .i64 0]
  bel : Below w.heap.size w6 W
structure CX (w w6 : World) (pre : List (LeafC w6 w.heap.size)) (W : World) : Prop where
  nf : ¬ Func (csts pre)
  r2 : Blk W (w.heap.size + 1) 29 #[.slice none 0 0]
  r3 : Blk W (w.heap.size + 1 + 1) 39 #[.int .i64 11]
  bel : Below w.heap.size w6 W
theorem CJ.own {w w6 : World} {mb B : Nat} (hB : mb < B) (hw : w.heap.size ≤ B) (h6 : w.heap.size ≤ w6.heap.size) : OwnFrom B (CJ w w6 mb) := fun s A D row h hg hr => by
  obtain ⟨⟨n, h1, h2⟩, hf, hb, hr2, hr3, hbel⟩ := h
  refine ⟨⟨n, h1, h2.kept hg (fun e => by have := (hr mb e.symm).1; omega) (fun q (hq : q < w.heap.size) => hg.block q (by have := hbel.size; omega) (fun e => by have := (hr q e.symm).1; omega))⟩, hf, blk_own (β := Unit) () A D row hb hg hr, blk_own (β := Unit) () A D row hr2 hg hr, blk_own (β := Unit) () A D row hr3 hg hr, hbel.grown hg (Nat.le_trans h6 hbel.size) (fun k e => Nat.le_trans hw (hr k e).1)⟩
theorem CX.own {w w6 : World} {B : Nat} (hw : w.heap.size ≤ B) (h6 : w.heap.size ≤ w6.heap.size) : OwnFrom B (CX w w6) := fun s A D row h hg hr => by
  obtain ⟨hf, hr2, hr3, hbel⟩ := h
  exact ⟨hf, blk_own (β := Unit) () A D row hr2 hg hr, blk_own (β := Unit) () A D row hr3 hg hr, hbel.grown hg (Nat.le_trans h6 hbel.size) (fun k e => Nat.le_trans hw (hr k e).1)⟩
set_option maxRecDepth 100000 in
set_option maxHeartbeats 4000000 in
theorem cconsts_any (t : Con) (w : World) (v : Value) (ht : ConV w (· < w.heap.size) t v) :
    Calls Tryz.prog 13 #[v] w (CsP (consOut t) w) := by
  refine wide_of (n := 12) (fun F HF => ?_)
  have hd : F.depth = none := by rw [HF.out]; rfl
  have hro : F.round = none := by rw [HF.out]; rfl
  have hf1 : F.fn 13 := by rw [HF.out]; trivial
  have hf2 : F.fn 53 := by rw [HF.out]; trivial
  have hlf : F.fn 107 := by rw [HF.out]; trivial
  have hf4 : F.fn 52 := by rw [HF.out]; trivial
  have hf5 : F.fn 54 := by rw [HF.out]; trivial
  have hf6 : F.fn 55 := by rw [HF.out]; trivial
  have hf7 : F.fn 23 := by rw [HF.out]; trivial
  have hf8 : F.fn 56 := by rw [HF.out]; trivial
  have hdd : ∀ k : Nat, (F.depth.isSome = true → 1 ≤ k) := fun k h => by rw [hd] at h; cases h
  have HV := Lib.hid (fun W (hW : Below w.heap.size w W) => cvalid_any (· < w.heap.size) t W v (fun q hq => Nat.lt_of_lt_of_le hq hW.size) (ht.keep (Same.of_below hW (fun _ h => h))))
  have HT := Lib.hid (fun W (hW : Below w.heap.size w W) => (ht.keep (Same.of_below hW (fun _ h => h))))
  obtain ⟨ka, kn, kc, na, nn, nc, la, ln, lc, rfl, -, -, -⟩ := ht.shape
  have HLV := Lib.hid (fun W => leaves_any W t.op t.n t.s ka na la kn kc nn nc ln lc)
  have HO := Lib.hid (show consOut t = if Con.validB t = true then (if Con.consB t = true then (Con.consL t, 0) else ([], 11)) else ([], 1) from rfl)
  have hb1 := boxN_new w 28 #[.int .i64 t.op, .int .i64 t.n, .string t.s, .slice ka kn kc, .slice na nn nc, .slice la ln lc]
  have hb2 := boxN_new (w.alloc (.cells #[.int .i64 t.op, .int .i64 t.n, .string t.s, .slice ka kn kc, .slice na nn nc, .slice la ln lc] 28)) 29 #[.slice none 0 0]
  have hb3 := boxN_new ((w.alloc (.cells #[.int .i64 t.op, .int .i64 t.n, .string t.s, .slice ka kn kc, .slice na nn nc, .slice la ln lc] 28)).alloc (.cells #[.slice none 0 0] 29)) 39 #[.int .i64 0]
  have k1 := (hb1.1.alloc (.cells #[.slice none 0 0] 29)).alloc (.cells #[.int .i64 0] 39)
  have k2 := hb2.1.alloc (.cells #[.int .i64 0] 39)
  have k3 := hb3.1
  have hbb := belowStep hb3.2 (belowStep hb2.2 hb1.2)
  rw [size_alloc] at k2
  rw [size_alloc, size_alloc] at k3
  have HBX := Lib.hid k1
  have HR2 := Lib.hid k2
  have HR3 := Lib.hid k3
  have HB := Lib.hid hbb
  have c0 := k1.cell 0 (.int .i64 t.op) rfl
  have c1 := k1.cell 1 (.int .i64 t.n) rfl
  have c2 := k1.cell 2 (.string t.s) rfl
  have c3 := k1.cell 3 (.slice ka kn kc) rfl
  have c4 := k1.cell 4 (.slice na nn nc) rfl
  have c5 := k1.cell 5 (.slice la ln lc) rfl
  clear hb1 hb2 hb3 k1 k2 k3 hbb ht
  refine callsIn_of_wp_marks Tryz.func13 rfl hf1 ?_ hro
  simp only [Tryz.ntmps13, List.size_toArray, List.length_cons, List.length_nil, Nat.reduceAdd, Nat.reduceSub, Array.replicate_succ, Array.replicate_zero, List.push_toArray, List.append_toArray, List.nil_append, List.cons_append]
  gi_wp2_with fail
  clear c0 c1 c2 c3 c4 c5
  generalize ((w.alloc (.cells #[.int .i64 t.op, .int .i64 t.n, .string t.s, .slice ka kn kc, .slice na nn nc, .slice la ln lc] 28)).alloc (.cells #[.slice none 0 0] 29)).alloc (.cells #[.int .i64 0] 39) = w1 at *
  refine (toF HF _ (HV.out _ HB.out)).mono ?_
  rintro e w2 ⟨rfl, h2⟩
  replace HB := Lib.hid (belowStep h2 HB.out)
  replace HBX := Lib.hid (HBX.out.of_eq (h2.block _ HBX.out.lt))
  replace HR2 := Lib.hid (HR2.out.of_eq (h2.block _ HR2.out.lt))
  replace HR3 := Lib.hid (HR3.out.of_eq (h2.block _ HR3.out.lt))
  clear h2
  cases hv : Con.validB t
  · have HOV := Lib.hid (show consOut t = ([], 1) from by rw [HO.out, if_neg (by rw [hv]; simp)])
    have hts := twoSet (.slice none 0 0) (.int .i64 1) HR2.out HR3.out (by omega)
    have x2 := HR2.out.cell 0 (.slice none 0 0) rfl
    have f2 := HR2.out.thaw 0
    have x3 := hts.2.2.cell 0 (.int .i64 0) rfl
    have f3 := hts.2.2.thaw 0
    have z2 := hts.1.cell 0 (.slice none 0 0) rfl
    have z3 := hts.2.1.cell 0 (.int .i64 1) rfl
    have HE := Lib.hid (show CsP (consOut t) w (.returned (.tuple #[.slice none 0 0, .int .i64 1])) ((w2.setCell ⟨w.heap.size + 1, 0, none⟩ (.slice none 0 0)).setCell ⟨w.heap.size + 1 + 1, 0, none⟩ (.int .i64 1)) from
      ⟨⟨_, by rw [HOV.out], by rw [HOV.out]; exact CstSl.none9 _ _⟩, (HB.out.setCell (p := ⟨w.heap.size + 1, 0, none⟩) (Nat.le_succ _) _).setCell (p := ⟨w.heap.size + 1 + 1, 0, none⟩) (by show w.heap.size ≤ w.heap.size + 1 + 1; omega) _⟩)
    clear HV HT HLV HBX HB HO HR2 HR3 hts HOV
    gi_wp2
    refine ⟨.tuple #[.slice none 0 0, .int .i64 1], by simp [results, Tryz.results13, Tryz.f13, go_sem, z2, z3], HE.out⟩
  have HVT := Lib.hid hv
  have HOV := Lib.hid (show consOut t = (if Con.consB t = true then (Con.consL t, 0) else ([], 11)) from by rw [HO.out, if_pos HVT.out])
  have HTS := Lib.hid (show t.size ≤ 20000 from by
    have h := HVT.out
    unfold Con.validB Con.small at h
    simp only [Bool.and_eq_true, decide_eq_true_eq] at h
    omega)
  rw [hv] at HV
  clear hv HV HO
  have hmm := make_kmap
  have hg2 := HR2.out.lt
  have hkm := kmap_new w2 (· < w.heap.size)
  have hbm : Below w2.heap.size w2 (w2.alloc (.map #[] 0)) := (Below.refl _ _).alloc (Nat.le_refl _) _
  obtain ⟨hb4, hbb4⟩ := boxN_new (w2.alloc (.map #[] 0)) 83 #[.map (some w2.heap.size)]
  have hbb := belowStep hbb4 hbm
  have HKM := Lib.hid (hkm.kept (World.grownBy_alloc _ (.cells #[.map (some w2.heap.size)] 83) none) (by simp) (Same.of_below hbb4 (fun q (hq : q < w.heap.size) => by rw [size_alloc]; have := HB.out.size; omega)))
  have HB4 := Lib.hid hb4
  replace HBX := Lib.hid (HBX.out.of_eq (hbb.block _ HBX.out.lt))
  have hr2 := HR2.out.of_eq (hbb.block _ HR2.out.lt)
  have hr3 := HR3.out.of_eq (hbb.block _ HR3.out.lt)
  have HGB := Lib.hid (show w.heap.size + 3 ≤ w2.heap.size from by have := HR3.out.lt; omega)
  have HBB := Lib.hid (belowStep hbb HB.out)
  have HS4 := Lib.hid (show ((w2.alloc (.map #[] 0)).alloc (.cells #[.map (some w2.heap.size)] 83)).heap.size = w2.heap.size + 2 from by rw [size_alloc, size_alloc])
  rw [size_alloc] at hb4 HB4
  have c0 := HBX.out.cell 0 (.int .i64 t.op) rfl
  have c1 := HBX.out.cell 1 (.int .i64 t.n) rfl
  have c2 := HBX.out.cell 2 (.string t.s) rfl
  have c3 := HBX.out.cell 3 (.slice ka kn kc) rfl
  have c4 := HBX.out.cell 4 (.slice na nn nc) rfl
  have c5 := HBX.out.cell 5 (.slice la ln lc) rfl
  clear hb4 hbb4 hbm hkm hbb
  gi_wp2_with fail
  clear c0 c1 c2 c3 c4 c5 hmm
  generalize (w2.alloc (.map #[] 0)).alloc (.cells #[.map (some w2.heap.size)] 83) = w4 at *
  obtain ⟨mb, hmb⟩ : ∃ mb, mb = w2.heap.size := ⟨_, rfl⟩
  rw [← hmb] at HKM HB4 HS4 HGB ⊢
  clear hmb hg2
  refine (toF HF _ (HLV.out _)).mono ?_
  rintro e w5 ⟨rfl, rfl⟩
  obtain ⟨hbc, hb5⟩ := boxN_new w4 28 #[.int .i64 t.op, .int .i64 t.n, .string t.s, .slice ka kn kc, .slice na nn nc, .slice la ln lc]
  have hsz5 := size_alloc w4 (.cells #[.int .i64 t.op, .int .i64 t.n, .string t.s, .slice ka kn kc, .slice na nn nc, .slice la ln lc] 28)
  have HKM6 := Lib.hid (HKM.out.below hb5 (fun q (hq : q < w.heap.size) => by have := HBB.out.size; omega))
  have hb4 := HB4.out.of_eq (hb5.block _ HB4.out.lt)
  have hr26 := hr2.of_eq (hb5.block _ hr2.lt)
  have hr36 := hr3.of_eq (hb5.block _ hr3.lt)
  have hb6 := belowStep hb5 HBB.out
  have hht := HT.out _ hb6
  have hs4 := HS4.out
  have hgb := HGB.out
  generalize w4.alloc (.cells #[.int .i64 t.op, .int .i64 t.n, .string t.s, .slice ka kn kc, .slice na nn nc, .slice la ln lc] 28) = w6 at *
  have hwz : w.heap.size ≤ w6.heap.size := hb6.size
  have hmb6 : mb + 1 < w6.heap.size := by omega
  have hg36 : w.heap.size + 1 + 1 < w6.heap.size := by omega
  have hlt6 : w4.heap.size < w6.heap.size := by omega
  clear hr2 hr3 HKM HB4 HS4 HGB HLV hs4 HBX
  gi_wp2_with fail
  refine wpIn_rangeFunc_ownH hro (by omega) (gf := 107) (lb := #[.pointer (some ⟨w4.heap.size, 0, none⟩)]) rfl hlf (enters_of Tryz.func107 (by kernel_rfl) rfl)
    (leavesC_stops F HF (12 - 1) w4.heap.size w.heap.size t ka na la kn kc nn nc ln lc w6 hwz hlt6 (valid_all t HVT.out) (valid_depth t HVT.out) (fun W' hW' => hbc.of_eq (hW'.block _ hbc.lt)) hht) belowK_t (belowK_b hwz) (Below.refl _ _) (fun _ => rfl)
    (CJ w w6 mb) (fun c pre W => c = .ret ∧ CX w w6 pre W) (CJ.own (by omega) hwz hwz) (fun c s A D row hs hg hr => ⟨hs.1, CX.own hwz hwz s A D row hs.2 hg hr⟩)
    ⟨⟨0, Nat.le_refl _, HKM6.out⟩, (fun s k k' h => by cases h), hb4, hr26, hr36, Below.refl _ _⟩
    (fun x a' W' => ∃ Bx, Blk W' Bx 28 #[.int .i64 x.c.op, .int .i64 x.c.n, .string x.c.s, .slice x.ka x.kn x.kc, .slice x.na x.nn x.nc, .slice x.la x.ln x.lc] ∧ a' = { tmps := #[.agg #[.int .i64 t.op, .int .i64 t.n, .string t.s, .slice ka kn kc, .slice na nn nc, .slice la ln lc], .pointer (some ⟨w.heap.size, 0, none⟩), .pointer (some ⟨w.heap.size + 1, 0, none⟩), .pointer (some ⟨w.heap.size + 1 + 1, 0, none⟩), .pointer (some ⟨mb + 1, 0, none⟩), .pointer (some ⟨Bx, 0, none⟩), undef, undef, undef, undef, undef, .agg #[.int .i64 t.op, .int .i64 t.n, .string t.s, .slice ka kn kc, .slice na nn nc, .slice la ln lc], .bool true, .bool false, .map (some mb), .agg #[.int .i64 t.op, .int .i64 t.n, .string t.s, .slice ka kn kc, .slice na nn nc, .slice la ln lc], .func (.func 107) #[] #[.pointer (some ⟨w4.heap.size, 0, none⟩)], .agg #[.int .i64 x.c.op, .int .i64 x.c.n, .string x.c.s, .slice x.ka x.kn x.kc, .slice x.na x.nn x.nc, .slice x.la x.ln x.lc], .int .i64 x.b, undef, undef, undef, undef, undef, undef, undef, undef, undef, undef, undef, undef, undef, undef, undef, undef, undef, undef, undef, undef, undef, undef, undef, undef, undef, undef, undef, undef, undef, undef, undef, undef, undef, undef, undef, undef, undef, undef, undef, undef, undef, undef], defers := [] })
    (fun x a' _ A D row hs hg hr => by obtain ⟨Bx, h1, h2⟩ := hs; exact ⟨Bx, blk_own (β := Unit) () A D row h1 hg hr, h2⟩)
    ?assign ?body ?done ?stop
  case assign =>
    rintro lp pre x W' K h1 hK
    unfold encLC
    gi_wp2
    exact hK _ _ ((KeepsOthers.alloc _ _).from _) ((Below.refl w.heap.size W').alloc (Nat.le_trans hwz h1.bel.size) _) ((CJ.own (B := w6.heap.size) (by omega) hwz hwz).alloc _ h1) ⟨W'.heap.size, blk_new W' _ _, rfl⟩
  case body =>
    rintro lp pre x a' W' hlp ⟨r, hr⟩ hj ⟨Bx, hBx, rfl⟩ hlt
    have e0 := hBx.cell 0 (.int .i64 x.c.op) rfl
    have e2 := hBx.cell 2 (.string x.c.s) rfl
    have e3 := hBx.cell 3 (.slice x.ka x.kn x.kc) rfl
    have y4 := hj.box.cell 0 (.map (some mb)) rfl
    have hWs := Nat.le_trans hwz hj.bel.size
    have hw6W := hj.bel.size
    by_cases hop : x.c.op = 2
    rotate_left
    · have q1 : (x.c.op != 2) = true := by simpa using hop
      have HE := Lib.hid (show KeepsFrom w6.heap.size W' W' ∧ Below w.heap.size W' W' ∧ CJ w w6 mb (pre ++ [x]) W' from
        ⟨KeepsFrom.refl _ _, Below.refl _ _, by
          have e : csts (pre ++ [x]) = csts pre := by rw [csts_snoc, if_neg hop, List.append_nil]
          obtain ⟨⟨n, h1, h2⟩, h3, h4, h5, h6, h7⟩ := hj
          exact ⟨⟨n, by rw [List.length_append]; omega, by rw [e]; exact h2⟩, by rw [e]; exact h3, h4, h5, h6, h7⟩⟩)
      clear hj hop
      gi_wp2
      exact HE.out
    have q1 : (x.c.op != 2) = false := by simpa using hop
    have HCS := Lib.hid (show csts (pre ++ [x]) = csts pre ++ [(x.c.s, x.c.kind)] from by rw [csts_snoc, if_pos hop])
    have hcv := x.hv W' hj.bel
    have HSS := Lib.hid ((conV_iff _ _ _ _).1 hcv).1
    have HKV := Lib.hid (show KidV W' (· < w.heap.size) x.c.kind (.slice x.ka x.kn x.kc) from by
      obtain ⟨-, kv', nv', lv', e, hk, hn, hl⟩ := (conV_iff _ _ _ _).1 hcv
      simp only [Value.agg.injEq, Array.mk.injEq, List.cons.injEq, and_true, true_and] at e
      obtain ⟨rfl, rfl, rfl⟩ := e
      exact hk)
    have HVK := Lib.hid (node_facts x.c x.hn).1
    have HJ := Lib.hid hj
    have HFU := Lib.hid hj.func
    obtain ⟨mn, hmn, hkm⟩ := hj.map
    have HMN := Lib.hid (show mn < maxLen from by unfold maxLen; have := HTS.out; omega)
    have HML := Lib.hid hmn
    have hlk := kmap_look hkm x.c.s HSS.out
    clear hcv hop hmn
    by_cases hfd : ∃ k, (x.c.s, k) ∈ csts pre
    · obtain ⟨k9, hk9⟩ := hfd
      obtain ⟨fa, fn, fc, hl9, hfk⟩ := hlk.1 k9 hk9
      clear hlk
      have HK9 := Lib.hid (csts_valid pre _ _ hk9)
      obtain ⟨hb7, hbb7⟩ := boxN_new W' 24 #[.slice fa fn fc]
      have x6 := hb7.cell 0 (.slice fa fn fc) rfl
      have e3' := (hBx.of_eq (hbb7.block _ hBx.lt)).cell 3 (.slice x.ka x.kn x.kc) rfl
      have HEQ := Lib.hid (equal_any_k8 (· < w.heap.size) (· < w.heap.size) k9 x.c.kind (W'.alloc (.cells #[.slice fa fn fc] 24)) (.agg #[.slice fa fn fc]) (.agg #[.slice x.ka x.kn x.kc]) (fun q hq => Nat.lt_of_lt_of_le hq (Nat.le_trans hWs hbb7.size)) (fun q hq => Nat.lt_of_lt_of_le hq (Nat.le_trans hWs hbb7.size)) ⟨_, rfl, hfk.keep (Same.of_below hbb7 (fun q (hq : q < w.heap.size) => by omega))⟩ ⟨_, rfl, HKV.out.keep (Same.of_below hbb7 (fun q (hq : q < w.heap.size) => by omega))⟩)
      have HBB7 := Lib.hid hbb7
      have HRE := Lib.hid (show (K.valid k9 && K.valid x.c.kind && K.eqv k9 x.c.kind) = K.eqv k9 x.c.kind from by rw [HK9.out, HVK.out]; simp)
      have HEI := Lib.hid (Pl.K.eqv_iff k9 x.c.kind)
      rw [HRE.out] at HEQ
      generalize K.eqv k9 x.c.kind = rr at *
      clear hb7 hbb7 hfk HRE
      gi_wp2_with fail
      refine (toF HF _ HEQ.out).mono ?_
      rintro e W3 ⟨rfl, hb3⟩
      have hb37 := belowStep hb3 HBB7.out
      cases rr
      · have hts := twoSet (.slice none 0 0) (.int .i64 11) (HJ.out.r2.of_eq (hb37.block _ HJ.out.r2.lt)) (HJ.out.r3.of_eq (hb37.block _ HJ.out.r3.lt)) (by omega)
        have x2 := (HJ.out.r2.of_eq (hb37.block _ HJ.out.r2.lt)).cell 0 (.slice none 0 0) rfl
        have f2 := (HJ.out.r2.of_eq (hb37.block _ HJ.out.r2.lt)).thaw 0
        have x3 := hts.2.2.cell 0 (.int .i64 0) rfl
        have f3 := hts.2.2.thaw 0
        have hbl : Below w.heap.size W' ((W3.setCell ⟨w.heap.size + 1, 0, none⟩ (.slice none 0 0)).setCell ⟨w.heap.size + 1 + 1, 0, none⟩ (.int .i64 11)) := ((hb37.mono hWs).setCell (p := ⟨w.heap.size + 1, 0, none⟩) (Nat.le_succ _) _).setCell (p := ⟨w.heap.size + 1 + 1, 0, none⟩) (by show w.heap.size ≤ w.heap.size + 1 + 1; omega) _
        have HE := Lib.hid (show KeepsFrom w6.heap.size W' ((W3.setCell ⟨w.heap.size + 1, 0, none⟩ (.slice none 0 0)).setCell ⟨w.heap.size + 1 + 1, 0, none⟩ (.int .i64 11)) ∧ CX w w6 (pre ++ [x]) ((W3.setCell ⟨w.heap.size + 1, 0, none⟩ (.slice none 0 0)).setCell ⟨w.heap.size + 1 + 1, 0, none⟩ (.int .i64 11)) from
          ⟨⟨hbl.size, fun k o hk ho hc => by
            have hkl : k < W'.heap.size := (Array.getElem?_eq_some_iff.1 ho).1
            rw [Below.heap_setCell _ _ _ k (show k ≠ w.heap.size + 1 + 1 by omega), Below.heap_setCell _ _ _ k (show k ≠ w.heap.size + 1 by omega), hb37.block k hkl, ho]⟩,
           ⟨(fun hf => by
              have h1 := hf x.c.s k9 x.c.kind (by rw [HCS.out]; exact List.mem_append_left _ hk9) (by rw [HCS.out]; exact List.mem_append_right _ (List.mem_singleton.2 rfl))
              have h2 := HEI.out.2 h1
              cases h2), hts.1, hts.2.1, HJ.out.bel.trans hbl⟩⟩)
        clear hts hbl hb37 hb3 hkm hj HKV
        gi_wp2
        exact ⟨HE.out.1, rfl, HE.out.2⟩
      · have HKK := Lib.hid (HEI.out.1 rfl)
        obtain ⟨W4, hrun, hkm4, hgr4⟩ := kmap_put (hkm.below hb37 (fun q (hq : q < w.heap.size) => by omega)) HMN.out x.c.s HSS.out x.c.kind (fun k' hk' => (HFU.out _ _ _ hk' hk9).trans HKK.out) x.ka x.kn x.kc (HKV.out.keep (Same.of_below hb37 (fun q (hq : q < w.heap.size) => by omega))) (by omega) (fun q (hq : q < w.heap.size) => by have := hb37.size; omega)
        have y4' := (HJ.out.box.of_eq (hb37.block _ HJ.out.box.lt)).cell 0 (.map (some mb)) rfl
        have e2' := (hBx.of_eq (hb37.block _ hBx.lt)).cell 2 (.string x.c.s) rfl
        have e3'' := (hBx.of_eq (hb37.block _ hBx.lt)).cell 3 (.slice x.ka x.kn x.kc) rfl
        have HE := Lib.hid (show KeepsFrom w6.heap.size W' W4 ∧ Below w.heap.size W' W4 ∧ CJ w w6 mb (pre ++ [x]) W4 from by
          have hk4 : ∀ k, k < W'.heap.size → k ≠ mb → W4.heap[k]? = W'.heap[k]? := fun k hk hne => (hgr4.block k (Nat.lt_of_lt_of_le hk hb37.size) (fun e => by injection e with e; exact hne e)).trans (hb37.block k hk)
          have hsz4 : W'.heap.size ≤ W4.heap.size := Nat.le_trans hb37.size hgr4.size
          have hbl : Below w.heap.size W' W4 := (hb37.mono hWs).grown hgr4 (Nat.le_trans hWs hb37.size) (fun j hj => by injection hj with hj; omega)
          refine ⟨⟨hsz4, fun k o hk ho hc => (hk4 k (Array.getElem?_eq_some_iff.1 ho).1 (by omega)).trans ho⟩, hbl, ⟨mn + 1, by rw [List.length_append, List.length_singleton]; have := HML.out; omega, by rw [HCS.out]; exact hkm4⟩, ?_, HJ.out.box.of_eq (hk4 _ HJ.out.box.lt (by omega)), HJ.out.r2.of_eq (hk4 _ HJ.out.r2.lt (by omega)), HJ.out.r3.of_eq (hk4 _ HJ.out.r3.lt (by omega)), HJ.out.bel.trans hbl⟩
          rw [HCS.out]
          intro s k k' h1 h2
          rcases List.mem_append.1 h1 with h1 | h1 <;> rcases List.mem_append.1 h2 with h2 | h2
          · exact HFU.out _ _ _ h1 h2
          · rw [List.mem_singleton] at h2
            injection h2 with h2 h3
            subst h2 h3
            exact (HFU.out _ _ _ h1 hk9).trans HKK.out
          · rw [List.mem_singleton] at h1
            injection h1 with h1 h3
            subst h1 h3
            exact ((HFU.out _ _ _ h2 hk9).trans HKK.out).symm
          · rw [List.mem_singleton] at h1 h2
            injection h1 with _ h1
            injection h2 with _ h2
            rw [h1, h2])
        clear hb37 hb3 hkm hj HKV hkm4 hgr4 hBx
        gi_wp2
        exact HE.out
    · have hnf : ∀ k, (x.c.s, k) ∉ csts pre := fun k h => hfd ⟨k, h⟩
      have hl9 := hlk.2 hnf
      clear hlk
      obtain ⟨hb7, hb37⟩ := boxN_new W' 24 #[.slice none 0 0]
      obtain ⟨W4, hrun, hkm4, hgr4⟩ := kmap_put (hkm.below hb37 (fun q (hq : q < w.heap.size) => by omega)) HMN.out x.c.s HSS.out x.c.kind (fun k' hk' => absurd hk' (hnf k')) x.ka x.kn x.kc (HKV.out.keep (Same.of_below hb37 (fun q (hq : q < w.heap.size) => by omega))) (by omega) (fun q (hq : q < w.heap.size) => by have := hb37.size; omega)
      have y4' := (HJ.out.box.of_eq (hb37.block _ HJ.out.box.lt)).cell 0 (.map (some mb)) rfl
      have e2' := (hBx.of_eq (hb37.block _ hBx.lt)).cell 2 (.string x.c.s) rfl
      have e3'' := (hBx.of_eq (hb37.block _ hBx.lt)).cell 3 (.slice x.ka x.kn x.kc) rfl
      have HE := Lib.hid (show KeepsFrom w6.heap.size W' W4 ∧ Below w.heap.size W' W4 ∧ CJ w w6 mb (pre ++ [x]) W4 from by
        have hk4 : ∀ k, k < W'.heap.size → k ≠ mb → W4.heap[k]? = W'.heap[k]? := fun k hk hne => (hgr4.block k (Nat.lt_of_lt_of_le hk hb37.size) (fun e => by injection e with e; exact hne e)).trans (hb37.block k hk)
        have hsz4 : W'.heap.size ≤ W4.heap.size := Nat.le_trans hb37.size hgr4.size
        have hbl : Below w.heap.size W' W4 := (hb37.mono hWs).grown hgr4 (Nat.le_trans hWs hb37.size) (fun j hj => by injection hj with hj; omega)
        refine ⟨⟨hsz4, fun k o hk ho hc => (hk4 k (Array.getElem?_eq_some_iff.1 ho).1 (by omega)).trans ho⟩, hbl, ⟨mn + 1, by rw [List.length_append, List.length_singleton]; have := HML.out; omega, by rw [HCS.out]; exact hkm4⟩, ?_, HJ.out.box.of_eq (hk4 _ HJ.out.box.lt (by omega)), HJ.out.r2.of_eq (hk4 _ HJ.out.r2.lt (by omega)), HJ.out.r3.of_eq (hk4 _ HJ.out.r3.lt (by omega)), HJ.out.bel.trans hbl⟩
        rw [HCS.out]
        intro s k k' h1 h2
        rcases List.mem_append.1 h1 with h1 | h1 <;> rcases List.mem_append.1 h2 with h2 | h2
        · exact HFU.out _ _ _ h1 h2
        · rw [List.mem_singleton] at h2
          injection h2 with h2 h3
          subst h2 h3
          exact absurd h1 (hnf _)
        · rw [List.mem_singleton] at h1
          injection h1 with h1 h3
          subst h1 h3
          exact absurd h2 (hnf _)
        · rw [List.mem_singleton] at h1 h2
          injection h1 with _ h1
          injection h2 with _ h2
          rw [h1, h2])
      clear hb37 hkm hj HKV hkm4 hgr4 hBx hnf hfd hb7
      gi_wp2
      exact HE.out
  case done =>
    rintro D xs W hD hS hj hK
    have hL : csts xs = Con.cstsOf t := by unfold Con.cstsOf; rw [csts_proj, hS]
    have hfun := hj.func
    have hval := csts_valid xs
    have hszs := csts_size xs
    obtain ⟨mn, hmn, hkm⟩ := hj.map
    rw [hL] at hfun hkm hval hszs
    have hxl : xs.length ≤ 20000 := by
      have h1 := congrArg List.length hS
      rw [List.length_map] at h1
      have h2 := leafCs_size t 0
      have := HTS.out
      omega
    have hcb : distB (Con.putC t []) = true := by rw [putC_cput t (valid_all t HVT.out), distB_func]; exact hfun
    have HOW := Lib.hid (show consOut t = (cput (Con.cstsOf t), 0) from by
      rw [HOV.out, if_pos (show Con.consB t = true from hcb)]
      unfold Con.consL
      rw [if_pos hcb, putC_cput t (valid_all t HVT.out)])
    have hLlen : (cput (Con.cstsOf t)).length ≤ 20000 := by
      have h1 := putC_len t []
      rw [putC_cput t (valid_all t HVT.out)] at h1
      have := HTS.out
      simp at h1
      omega
    generalize Con.cstsOf t = L at *
    obtain ⟨D0, hD0, hsz0, hkeys⟩ := kmap_keys hkm
    have HSO := Lib.hid (sortedZ_any mb mn D0 keep9 W hD0 (by unfold maxLen; omega) (by omega))
    have HKY := Lib.hid (keysZ_any (some mb) W)
    have HKEY := Lib.hid hkeys
    have HFU := Lib.hid hfun
    have HVAL := Lib.hid hval
    have HSZS := Lib.hid hszs
    have HKMP := Lib.hid hkm
    have HBOX := Lib.hid hj.box
    have HBW := Lib.hid (hb6.trans hj.bel)
    have HDK := Lib.hid hK
    have HDD := Lib.hid (show w.heap.size + 1 + 1 < D ∧ D < W.heap.size from ⟨Nat.lt_of_lt_of_le hg36 hD, (Array.getElem?_eq_some_iff.1 hK).1⟩)
    have HR2W := Lib.hid hj.r2
    have HR3W := Lib.hid hj.r3
    have y4 := hj.box.cell 0 (.map (some mb)) rfl
    clear hj hL hfun hval hszs hkm hD0 hkeys hcb HOV hS hmn hsz0 hxl hK hD hht hb6 hbc hb5 hb4 hr26 hr36 HKM6 HBB hgb hlt6 hg36 HT
    gi_wp2_with fail
    refine (toF HF _ HKY.out).mono ?_
    rintro e W5 ⟨rfl, rfl⟩
    gi_wp2_with fail
    refine (toF HF _ HSO.out).mono ?_
    rintro e W6 ⟨y, ss, rfl, hperm, hrow, -, hb⟩
    obtain ⟨k1, k2, k3⟩ := HKEY.out ss hperm
    have hns := names_sorted HFU.out k1 k2 k3
    have hsl : ss.length = (cput L).length := by have h := congrArg List.length hns; rw [List.length_mergeSort, List.length_map] at h; exact h
    rw [hns, hsl] at hrow
    have HB6 := Lib.hid (show Below W.heap.size W W6 from ((Below.refl _ _).alloc (Nat.le_refl _) _).trans (hb.mono (by simp)))
    have hrow2 : W6.ownsRow (W.alloc (.cells #[.map (some mb)] 83)).heap.size 9 1 y ((cput L).map (fun c => c.1)).length (((cput L).map (fun c => c.1)).map Value.string) := by
      rw [List.length_map]
      rw [show ((cput L).map (fun c => c.1)).map Value.string = ((cput L).map (fun c => c.1.toList)).map encStr from by rw [List.map_map, List.map_map]; exact List.map_congr_left (fun c _ => (encStr_toList c.1).symm)]
      exact hrow
    have HCM := Lib.hid (fun (c : ByteArray × K) (hc : c ∈ cput L) => (cput_mem L c).1 hc)
    have hstr := strSl_row hrow2 (fun z hz => by
      obtain ⟨c, hc, rfl⟩ := List.mem_map.1 hz
      exact HSZS.out c.1 c.2 (HCM.out c hc))
    have HSTR := Lib.hid (fun W' (hW : Below W6.heap.size W6 W') => hstr.keep (Same.of_below hW (fun q hq => hq.2)))
    obtain ⟨m, hm⟩ : ∃ m, m = (cput L).length := ⟨_, rfl⟩
    have HM := Lib.hid hm
    obtain ⟨ya, yc, hyv⟩ := row_form6 hrow
    rw [← hm] at hyv hLlen
    subst hyv
    obtain ⟨iC, ci0, ci1, ci2, ci3⟩ := info_parts infoCst
    clear hperm k1 k2 k3 hns hsl hrow hrow2 hstr hb hm HSO HKY HKEY y4
    gi_wp2_with fail
    gi_loopw [8, 46] (fun ov i wr => ∃ (k : Nat) (us : List Value), k ≤ m ∧ i = .int .i64 k ∧ CD W6.heap.size wr ((cput L).take k) us ov ∧ Below W6.heap.size W6 wr) (fun _ i _ => m - (intOf i).toNat)
    case atStart => exact ⟨0, [], Nat.zero_le _, rfl, by rw [List.take_zero]; exact CD.nil _ _, Below.refl _ _⟩
    case round =>
      obtain ⟨k, us, hk, rfl, hcd, hbw⟩ := hrel
      have HCD := Lib.hid hcd
      have HBZ := Lib.hid hbw
      have hw6r := hbw.size
      have hbWr : Below W.heap.size W wr := HB6.out.trans (hbw.mono HB6.out.size)
      have hwW : w.heap.size ≤ W.heap.size := HBW.out.size
      have hW6 : W.heap.size ≤ W6.heap.size := HB6.out.size
      by_cases hlt : k < m
      · have q5 : decide ((k : Int) < (m : Int)) = true := decide_eq_true (by omega)
        have hkl : k < (cput L).length := by rw [← HM.out]; exact hlt
        have hkn : k < ((cput L).map (fun c => c.1)).length := by rw [List.length_map]; exact hkl
        have hcell : ∃ b off, ya = some ⟨b, off, none⟩ ∧ wr.cell? ⟨b, off + k, none⟩ = some (.string (cput L)[k].1) := by
          obtain ⟨a', c', e, -, -, -, -, h8⟩ := HSTR.out wr hbw
          injection e with e1 e2 e3
          subst e1
          rcases h8 with h8 | ⟨b, off, rfl, -, h9⟩
          · rw [h8] at hkn; exact absurd hkn (Nat.not_lt_zero _)
          · have h := h9 k hkn
            rw [List.getElem_map] at h
            exact ⟨b, off, rfl, h⟩
        obtain ⟨b, off, ea, f0⟩ := hcell
        subst ea
        have HTK := Lib.hid (show (cput L).take (k + 1) = (cput L).take k ++ [(cput L)[k]] from List.take_succ_eq_append_getElem hkl)
        have hmem : ((cput L)[k].1, (cput L)[k].2) ∈ L := HCM.out (cput L)[k] (List.getElem_mem hkl)
        have hsz9 := HSZS.out _ _ hmem
        have hvl9 := HVAL.out _ _ hmem
        obtain ⟨fa, fn, fc, hget, hfk⟩ := kmap_get (HKMP.out.below hbWr (fun q (hq : q < w.heap.size) => by omega)) _ hsz9 _ hmem
        have HCO := Lib.hid (copiedKind_any (· < w.heap.size) _ wr (.agg #[.slice fa fn fc]) (fun q (hq : q < w.heap.size) => by omega) ⟨_, rfl, hfk⟩ hvl9)
        have y5 := (HBOX.out.of_eq (hbWr.block _ HBOX.out.lt)).cell 0 (.map (some mb)) rfl
        have HSZ9 := Lib.hid hsz9
        generalize hck : (cput L)[k] = ck at *
        obtain ⟨s9, k9⟩ := ck
        dsimp only at *
        have hkl2 : ((cput L).take k).length = k := by rw [List.length_take]; omega
        have HKL := Lib.hid hkl2.symm
        obtain ⟨ca, cc, hov⟩ := row_form6 HCD.out.row
        rw [hkl2] at hov
        subst hov
        clear hcd hbw hkl hkn hmem hsz9 hvl9 hfk hck hkl2 hbWr
        gi_wp2_with fail
        refine (toF HF _ HCO.out).mono ?_
        rintro e W7 ⟨⟨ra, rc, rfl, hrk⟩, hb7⟩
        have HRK := Lib.hid hrk
        have HB7 := Lib.hid hb7
        have HCD7 := Lib.hid (HCD.out.below hb7)
        have hs7 := hb7.size
        generalize k9.l.length = rn at *
        have hrow7 : (W7.alloc (.cells #[.string s9, .slice ra rn rc] 36)).ownsRow W6.heap.size 36 2 (.slice ca k cc) k us := by
          have h := HCD7.out.row
          rw [← HKL.out] at h
          exact h.alloc _
        have hsz7 : (W7.alloc (.cells #[.string s9, .slice ra rn rc] 36)).heap.size = W7.heap.size + 1 := size_alloc _ _
        clear hrk hb7 HCO
        gi_wp2_with (first
          | (gi_at_builtin; refine wpListIn_append_lies9 rfl _ _ 29 rfl W6.heap.size 36 iC (.agg #[.string ByteArray.empty, .slice none 0 0]) 2 40 Tryz.underlying29 ci0 ci1 ci2 ci3 rfl (by decide) _ _ _ rfl hrow7 ⟨W7.heap.size, 0, none⟩ 1 1 [.string s9, .slice ra rn rc] rfl rfl ?c1 ?c2 (by decide) ?c3 ?c4 ?c5 (W7.heap.size + 1) hsz7 ?_)
          | gi_in)
        case c1 =>
          intro j u hj
          match j, hj with
          | 0, hj => simp at hj; subst hj; simp [Addr.add]
          | 1, hj => simp at hj; subst hj; simp [Addr.add]
          | j + 2, hj => simp at hj
        case c2 => first | rfl | (intro u hu; simp at hu; rcases hu with rfl | rfl <;> rfl)
        case c3 => unfold maxLen; omega
        case c4 => omega
        case c5 => rw [hsz7]; omega
        intro gg cap w8 hown hgrow hat hlt8
        have HCD8 := Lib.hid (HCD7.out.push (c := (s9, k9)) HKL.out HSZ9.out HRK.out (fun q (hq : From wr.heap.size W7 q) => ⟨⟨Nat.le_trans hw6r hq.1, hq.2⟩, fun e => by have := (HCD.out.row.lt q e).2; have := hq.1; omega⟩) hown hgrow hat)
        have HB8 := Lib.hid (((belowStep HB7.out HBZ.out).alloc (Nat.le_trans hw6r hs7) (.cells #[.string s9, .slice ra rn rc] 36)).grown hgrow (by rw [hsz7]; omega) (fun j hj => (HCD.out.row.lt j hj).1))
        rw [← HTK.out] at HCD8
        clear hown hgrow hat hlt8 hrow7 hsz7 f0 y5 hget
        gi_wp2
        go_roundw
        case rel => exact ⟨k + 1, _, by omega, by go_num, HCD8.out, HB8.out⟩
        case measure => first | (simp [intOf]; done) | (simp [intOf]; omega)
      · have q5 : decide ((k : Int) < (m : Int)) = false := decide_eq_false (by omega)
        have hta : (cput L).take k = cput L := List.take_of_length_le (by rw [← HM.out]; omega)
        rw [hta] at hcd
        obtain ⟨oa, oc, hov⟩ := row_form6 hcd.row
        rw [← HM.out] at hov
        subst hov
        have hd1 := HDD.out
        have r2 := HR2W.out.of_eq (hbWr.block _ HR2W.out.lt)
        have r3 := HR3W.out.of_eq (hbWr.block _ HR3W.out.lt)
        have hts := twoSet (.slice oa m oc) (.int .i64 0) r2 r3 (by omega)
        have x2 := r2.cell 0 (.slice none 0 0) rfl
        have f2 := r2.thaw 0
        have x3 := hts.2.2.cell 0 (.int .i64 0) rfl
        have f3 := hts.2.2.thaw 0
        obtain ⟨WZ, hWZ⟩ : ∃ WZ, WZ = (wr.setCell ⟨w.heap.size + 1, 0, none⟩ (.slice oa m oc)).setCell ⟨w.heap.size + 1 + 1, 0, none⟩ (.int .i64 0) := ⟨_, rfl⟩
        have hother : ∀ q, q ≠ w.heap.size + 1 → q ≠ w.heap.size + 1 + 1 → WZ.heap[q]? = wr.heap[q]? := fun q h1 h2 => by
          rw [hWZ, Below.heap_setCell _ _ _ q (show q ≠ w.heap.size + 1 + 1 from h2), Below.heap_setCell _ _ _ q (show q ≠ w.heap.size + 1 from h1)]
        have hzs : WZ.heap.size = wr.heap.size := by rw [hWZ]; simp
        have hKZ : WZ.heap[D]? = some (.deferred (some [])) := by
          rw [hother D (by omega) (by omega), hbWr.block D hd1.2]
          exact HDK.out
        have hblZ : Below w.heap.size w WZ := by
          rw [hWZ]
          exact ((HBW.out.trans (hbWr.mono hwW)).setCell (p := ⟨w.heap.size + 1, 0, none⟩) (Nat.le_succ _) _).setCell (p := ⟨w.heap.size + 1 + 1, 0, none⟩) (by show w.heap.size ≤ w.heap.size + 1 + 1; omega) _
        have hpo : ∀ q, q ≠ D → (WZ.putObj D (.deferred none)).heap[q]? = WZ.heap[q]? := fun q h => World.putObj_heap_other h
        have hps : (WZ.putObj D (.deferred none)).heap.size = WZ.heap.size := by simp
        rw [← hWZ] at hts
        have z2 := (hts.1.of_eq (hpo _ (by omega))).cell 0 (.slice oa m oc) rfl
        have z3 := (hts.2.1.of_eq (hpo _ (by omega))).cell 0 (.int .i64 0) rfl
        have HE := Lib.hid (show CsP (consOut t) w (.returned (.tuple #[.slice oa m oc, .int .i64 0])) (WZ.putObj D (.deferred none)) from
          ⟨⟨_, by rw [HOW.out], by
            rw [HOW.out]
            refine (hcd.slice.keep (w' := WZ.putObj D (.deferred none)) (fun q hq => (hpo q (by have := hq.1; omega)).trans (hother q (by have := hq.1; omega) (by have := hq.1; omega)))).mono (fun q hq => ⟨by have := hq.1; omega, by rw [hps, hzs]; exact hq.2⟩)⟩,
           hblZ.trans (belowK_b (w := w) (Nat.le_refl _) _ D _ (.deferred none) (by omega) hKZ rfl rfl)⟩)
        have HKZ := Lib.hid hKZ
        have HWZ := Lib.hid hWZ
        clear hts hother hzs hKZ hblZ hpo hps hcd hbWr hbw hd1 r2 r3 hta HR2W HR3W HSTR HCM HKMP HVAL HSZS HFU HBOX HCD HBZ
        gi_wp2
        rw [← HWZ.out]
        refine ⟨by simp, .inl ⟨_, _, rfl, run_takeDeferred HKZ.out, ?_⟩⟩
        refine ⟨.tuple #[.slice oa m oc, .int .i64 0], by simp [results, Tryz.results13, Tryz.f13, go_sem, z2, z3], ?_⟩
        exact HE.out
  case stop =>
    rintro D c pre W hD hpf ⟨rfl, hx⟩ hK
    have hnf : Con.consB t = false := by
      cases h : Con.consB t
      · rfl
      · exfalso
        unfold Con.consB at h
        rw [putC_cput t (valid_all t HVT.out), distB_func] at h
        refine hx.nf (fun s k k' h1 h2 => h s k k' ?_ ?_)
        · unfold Con.cstsOf
          rw [csts_proj] at h1
          exact (hpf.filterMap _).subset h1
        · unfold Con.cstsOf
          rw [csts_proj] at h2
          exact (hpf.filterMap _).subset h2
    have e2 : (W.putObj D (.deferred none)).heap[w.heap.size + 1]? = W.heap[w.heap.size + 1]? := World.putObj_heap_other (by omega)
    have e3 : (W.putObj D (.deferred none)).heap[w.heap.size + 1 + 1]? = W.heap[w.heap.size + 1 + 1]? := World.putObj_heap_other (by omega)
    have z2 := (hx.r2.of_eq e2).cell 0 (.slice none 0 0) rfl
    have z3 := (hx.r3.of_eq e3).cell 0 (.int .i64 11) rfl
    have HE := Lib.hid (show CsP (consOut t) w (.returned (.tuple #[.slice none 0 0, .int .i64 11])) (W.putObj D (.deferred none)) from
      ⟨⟨_, by rw [HOV.out, hnf]; rfl, by rw [HOV.out, hnf]; exact CstSl.none9 _ _⟩, (hb6.trans (hx.bel)).trans (belowK_b (w := w) (Nat.le_refl _) _ D _ (.deferred none) (Nat.le_trans hwz hD) hK rfl rfl)⟩)
    clear hx hnf e2 e3
    gi_wp2
    refine ⟨by simp, .inl ⟨_, _, rfl, run_takeDeferred hK, ?_⟩⟩
    refine ⟨.tuple #[.slice none 0 0, .int .i64 11], by simp [results, Tryz.results13, Tryz.f13, go_sem, z2, z3], HE.out⟩
end Go.Proofs.YtpkgiemdnfbopaaGreat
namespace Go.Proofs.YtpkgiemdnfbopaaGreat
open Go Go.RowKit
open Pl (K Con)
set_option linter.unusedSimpArgs false
set_option linter.unusedVariables false

theorem sizes_map9 (f : Con → Con) : ∀ l : List Con, (∀ x ∈ l, (f x).size = x.size) → Con.sizes (l.map f) = Con.sizes l := by
  intro l
  induction l with
  | nil => intro _; rfl
  | cons x r ih =>
    intro h
    rw [List.map_cons, Con.sizes_cons, Con.sizes_cons, h x List.mem_cons_self, ih (fun y hy => h y (List.mem_cons_of_mem _ hy))]
theorem depths_map9 (f : Con → Con) : ∀ l : List Con, (∀ x ∈ l, (f x).depth = x.depth) → Con.depths (l.map f) = Con.depths l := by
  intro l
  induction l with
  | nil => intro _; rfl
  | cons x r ih =>
    intro h
    rw [List.map_cons, Con.depths_cons, Con.depths_cons, h x List.mem_cons_self, ih (fun y hy => h y (List.mem_cons_of_mem _ hy))]
theorem reb_same9 (F : Con → Int → Con) (hF : ∀ t d, Con.leafy t d → Con.nodeB t = true → (F t d).l = [] ∧ (F t d).n ≤ 20000) (t : Con) : ∀ d, Con.allB t = true → (Con.reb F t d).size = t.size ∧ (Con.reb F t d).depth = t.depth ∧ Con.nOk (Con.reb F t d) = true := by
  induction t using Con.ind with
  | h t ih =>
  intro d ha
  rw [allB_eq, Bool.and_eq_true, List.all_eq_true] at ha
  by_cases hl : Con.leafy t d
  · obtain ⟨h1, h2⟩ := hF t d hl ha.1
    have h3 := leaf_none t ha.1 (by rcases hl with h | h; exact .inr h; exact .inl h.1)
    rw [reb_leaf F t d hl, Con.size_eq, Con.depth_eq, nOk_eq, h1, Con.size_eq t, Con.depth_eq t, h3]
    exact ⟨rfl, rfl, by simp [h2]⟩
  · rw [reb_node F t d hl, Con.size_eq, Con.depth_eq, nOk_eq, Con.size_eq t, Con.depth_eq t]
    have hi : ∀ l, (Con.inside t l).l = l := fun l => rfl
    have hn : (Con.inside t (t.l.map (fun x => Con.reb F x (Con.deep t.op d)))).n = t.n := rfl
    rw [hi, hn]
    refine ⟨by rw [sizes_map9 _ _ (fun x hx => (ih x hx _ (ha.2 x hx)).1)], by rw [depths_map9 _ _ (fun x hx => (ih x hx _ (ha.2 x hx)).2.1)], ?_⟩
    rw [Bool.and_eq_true, List.all_eq_true]
    refine ⟨by have := (nodeB_n t ha.1).2; simpa using this, fun y hy => ?_⟩
    obtain ⟨x, hx, rfl⟩ := List.mem_map.1 hy
    exact (ih x hx _ (ha.2 x hx)).2.2
theorem unb_leaf9 (cs : List (ByteArray × K)) (t : Con) (d : Int) (hl : Con.leafy t d) (hn : Con.nodeB t = true) : (suF (unb cs) t d).l = [] ∧ (suF (unb cs) t d).n ≤ 20000 := by
  have h3 := leaf_none t hn (by rcases hl with h | h; exact .inr h; exact .inl h.1)
  have h4 := (nodeB_n t hn).2
  by_cases h1 : t.op = 1
  · have hd : d ≤ t.n := by rcases hl with h | h; omega; exact h.2
    obtain ⟨i, hi⟩ : ∃ i : Nat, t.n - d = (i : Int) := ⟨(t.n - d).toNat, by omega⟩
    by_cases h : i < cs.length
    · rw [suF_const cs t d h1 i hi h]
      exact ⟨rfl, by show (0 : Int) ≤ 20000; omega⟩
    · unfold suF
      rw [if_pos h1, unb_len, if_neg (by omega)]
      exact ⟨h3, by show t.n - (cs.length : Int) ≤ 20000; omega⟩
  · unfold suF
    rw [if_neg h1]
    exact ⟨h3, h4⟩
/-- Unbind's answer where all is well -/
theorem unbindOut_ok (t : Con) (cs : List (ByteArray × K)) (ht : Con.validB t = true) (hc : cs.all cstB = true) (h9 : idxCode (cs.map (·.1)) = 0) : unbindOut t cs = (Con.subst (unb cs) t 0, 0) := by
  unfold unbindOut
  rw [if_pos (by rw [ht, hc]; rfl), if_pos h9, ← reb_subst (unb cs) (unb_all cs hc) t 0 (valid_all t ht)]
  unfold fitOut
  rw [if_pos]
  obtain ⟨h1, h2, h3⟩ := reb_same9 (suF (unb cs)) (fun t d hl hn => unb_leaf9 cs t d hl hn) t 0 (valid_all t ht)
  unfold fitB
  rw [h1, h2, h3]
  unfold Con.validB Con.small at ht
  simp only [Bool.and_eq_true, decide_eq_true_eq] at ht ⊢
  exact ⟨by omega, by omega, trivial⟩
end Go.Proofs.YtpkgiemdnfbopaaGreat
namespace Go.Proofs.YtpkgiemdnfbopaaGreat
open Go Go.RowKit
open Pl (K Con)
set_option linter.unusedSimpArgs false
set_option linter.unusedVariables false

/-- a node that is a constant has nothing but its name and its kind -/
theorem const_node9 (t : Con) (h : Con.nodeB t = true) (h2 : t.op = 2) : t = cst (t.s, t.kind) ∧ cstB (t.s, t.kind) = true := by
  have hl := leaf_none t h (.inr h2)
  unfold Con.nodeB at h
  simp only [Bool.and_eq_true] at h
  obtain ⟨-, hs, hn, hst, hk⟩ := h
  unfold Con.shapeB at hs
  unfold Con.strB at hst
  unfold Con.kindB at hk
  unfold Con.numB at hn
  rw [h2] at hs hst hk hn
  rw [if_pos (by decide), Bool.and_eq_true, decide_eq_true_eq, decide_eq_true_eq] at hs
  rw [if_pos rfl] at hst
  rw [if_pos (.inl rfl)] at hk
  rw [if_neg (by decide), decide_eq_true_eq] at hn
  have hm := List.eq_nil_of_length_eq_zero hs.2
  obtain ⟨op, n, s, k, names, l⟩ := t
  have h2 : op = 2 := h2
  have hn : n = 0 := hn
  have hm : names = [] := hm
  have hl : l = [] := hl
  subst h2; subst hn; subst hm; subst hl
  exact ⟨rfl, by show (Pl.cname s.toList && K.valid k) = true; rw [Bool.and_eq_true]; exact ⟨hst, hk⟩⟩
theorem csts_node9 (t x : Con) (e : Int) (hx : x ∈ t.l) (y : ByteArray × K) (hy : y ∈ (Con.leafCs x (Con.deep t.op e)).filterMap cstL) : y ∈ (Con.leafCs t e).filterMap cstL := by
  have hl : t.l.length ≠ 0 := by
    intro h
    rw [List.eq_nil_of_length_eq_zero h] at hx
    cases hx
  rw [leafCs_node t e hl, List.filterMap_flatMap, List.mem_flatMap]
  exact ⟨x, hx, hy⟩
theorem csts_leaf9 (t : Con) (e : Int) (hl : t.l = []) (h2 : t.op = 2) : (t.s, t.kind) ∈ (Con.leafCs t e).filterMap cstL := by
  rw [leafCs_none t e (by rw [hl]; rfl)]
  simp [cstL, h2]
theorem csts_ok9 (t : Con) : ∀ e, Con.allB t = true → ∀ y ∈ (Con.leafCs t e).filterMap cstL, cstB y = true := by
  induction t using Con.ind with
  | h t ih =>
  intro e ha y hy
  rw [allB_eq, Bool.and_eq_true, List.all_eq_true] at ha
  by_cases hl : t.l.length = 0
  · rw [leafCs_none t e hl] at hy
    by_cases h2 : t.op = 2
    · have : y = (t.s, t.kind) := by simpa [cstL, h2] using hy
      rw [this]
      exact (const_node9 t ha.1 h2).2
    · simp [cstL, h2] at hy
  · rw [leafCs_node t e hl, List.filterMap_flatMap, List.mem_flatMap] at hy
    obtain ⟨x, hx, hy⟩ := hy
    exact ih x hx _ (ha.2 x hx) y hy
/-- binding takes all constants away, and unbinding brings them back -/
theorem unb_bind9 (cs : List (ByteArray × K)) (hf : Func cs) (t : Con) : ∀ d e : Int, 0 ≤ d → Con.allB t = true → (∀ y ∈ (Con.leafCs t e).filterMap cstL, y ∈ cs) →
    Con.subst (unb cs) (Con.bindC (cs.map (·.1)) t d) d = t ∧ ∀ l, Con.putC (Con.bindC (cs.map (·.1)) t d) l = l := by
  induction t using Con.ind with
  | h t ih =>
  intro d e hd ha hy
  rw [allB_eq, Bool.and_eq_true, List.all_eq_true] at ha
  have hln : ((cs.map (·.1)).length : Int) = (cs.length : Int) := by rw [List.length_map]
  by_cases h2 : t.op = 2
  · have hl := leaf_none t ha.1 (.inr h2)
    have hm := hy _ (csts_leaf9 t e hl h2)
    rw [bindC_const _ d t h2]
    cases hp : posB t.s (cs.map (·.1)) with
    | none => exact absurd (show t.s ∈ cs.map (·.1) from List.mem_map.2 ⟨(t.s, t.kind), hm, rfl⟩) (posB_none _ _ hp)
    | some i =>
      obtain ⟨hi, he⟩ := posB_some _ _ _ hp
      rw [List.length_map] at hi
      rw [List.getElem_map] at he
      dsimp only
      rw [hln]
      refine ⟨?_, fun l => by rw [putC_node _ l (by show (1 : Int) ≠ 2; omega)]; rfl⟩
      rw [Con.subst_var _ _ _ rfl]
      show (if d + ((cs.length : Int) - 1 - (i : Nat)) < d then _ else if d + ((cs.length : Int) - 1 - (i : Nat)) - d < ((unb cs).length : Int) then Con.shift d ((unb cs).getD (d + ((cs.length : Int) - 1 - (i : Nat)) - d).toNat Con.none0) 0 else _) = t
      rw [if_neg (by omega), unb_len, if_pos (by omega)]
      have hk : (d + ((cs.length : Int) - 1 - (i : Nat)) - d).toNat = cs.length - 1 - i := by omega
      rw [hk, unb_at cs (cs.length - 1 - i) (by omega), Con.shift_node _ _ _ (by show (2 : Int) ≠ 1; omega)]
      have hj : cs.length - 1 - (cs.length - 1 - i) = i := by omega
      have hc : cs[cs.length - 1 - (cs.length - 1 - i)]'(by omega) = cs[i] := by congr 1
      rw [hc]
      have hkk : cs[i].2 = t.kind := hf t.s _ _ (by rw [← he]; exact List.getElem_mem hi) hm
      conv => rhs; rw [(const_node9 t ha.1 h2).1]
      show (⟨2, 0, cs[i].1, cs[i].2, [], []⟩ : Con) = ⟨2, 0, t.s, t.kind, [], []⟩
      rw [he, hkk]
  by_cases h1 : t.op = 1
  · have hl := leaf_none t ha.1 (.inl h1)
    rw [bindC_var _ d t h1, hln]
    by_cases hn : d ≤ t.n
    · rw [if_pos hn]
      refine ⟨?_, fun l => by rw [putC_node _ l (by show (1 : Int) ≠ 2; omega)]; rfl⟩
      rw [Con.subst_var _ _ _ rfl]
      show (if t.n + (cs.length : Int) < d then _ else if t.n + (cs.length : Int) - d < ((unb cs).length : Int) then _ else Con.var (t.n + (cs.length : Int) - ((unb cs).length : Int))) = t
      rw [if_neg (by omega), unb_len, if_neg (by omega), Int.add_sub_cancel]
      exact (clean_node t ha.1 h1).symm
    · rw [if_neg hn]
      refine ⟨?_, fun l => by rw [putC_node _ l h2, hl]; rfl⟩
      rw [Con.subst_var _ _ _ h1, if_pos (by omega)]
  · rw [bindC_node _ d t h1 h2]
    have hi : ∀ m, (Con.inside t m).l = m := fun _ => rfl
    have ho : ∀ m, (Con.inside t m).op = t.op := fun _ => rfl
    refine ⟨?_, fun l => ?_⟩
    · rw [Con.subst_node _ _ _ (by rw [ho]; exact h1), hi, ho, List.map_map]
      have hmap : t.l.map ((fun x => Con.subst (unb cs) x (Con.deep t.op d)) ∘ (fun x => Con.bindC (cs.map (·.1)) x (Con.deep t.op d))) = t.l := by
        conv => rhs; rw [← List.map_id t.l]
        exact List.map_congr_left (fun x hx => (ih x hx _ (Con.deep t.op e) (by have := (Con.deep_le t.op d).1; omega) (ha.2 x hx) (fun y hyy => hy y (csts_node9 t x e hx y hyy))).1)
      rw [hmap]
      exact Con.inside_self t
    · rw [putC_node _ l (by rw [ho]; exact h2), hi, List.foldl_map]
      have : ∀ (m : List Con) (l : List (ByteArray × K)), (∀ x ∈ m, ∀ l, Con.putC (Con.bindC (cs.map (·.1)) x (Con.deep t.op d)) l = l) → m.foldl (fun a x => Con.putC (Con.bindC (cs.map (·.1)) x (Con.deep t.op d)) a) l = l := by
        intro m
        induction m with
        | nil => intro l _; rfl
        | cons x r ihr =>
          intro l h
          rw [List.foldl_cons, h x List.mem_cons_self l]
          exact ihr _ (fun y hy => h y (List.mem_cons_of_mem _ hy))
      exact this t.l l (fun x hx l => (ih x hx _ (Con.deep t.op e) (by have := (Con.deep_le t.op d).1; omega) (ha.2 x hx) (fun y hyy => hy y (csts_node9 t x e hx y hyy))).2 l)
/-- what Bind and Unbind make of the constants that Consts finds -/
theorem binds_plain (t : Con) (hv : Con.validB t = true) (hc : Con.consB t = true) :
    Con.consL t = Con.putC t [] ∧ (Con.consL t).length ≤ t.size ∧ ((Con.consL t).map (·.1)).all (fun s => Pl.cname s.toList) = true ∧ (Con.consL t).all cstB = true ∧ ((Con.consL t).map (·.1)).Nodup ∧ Func (Con.consL t) ∧ (∀ y ∈ Con.cstsOf t, y ∈ Con.consL t) ∧
    Con.subst (unb (Con.consL t)) (Con.bindC ((Con.consL t).map (·.1)) t 0) 0 = t ∧ Con.putC (Con.bindC ((Con.consL t).map (·.1)) t 0) [] = [] := by
  have ha := valid_all t hv
  have hd : distB (Con.putC t []) = true := hc
  have e0 : Con.consL t = Con.putC t [] := by unfold Con.consL; rw [if_pos hd]
  have e1 := putC_cput t ha
  have hF : Func (Con.cstsOf t) := by rw [e1] at hd; exact (distB_func _).1 hd
  have hm : ∀ y, y ∈ Con.consL t ↔ y ∈ Con.cstsOf t := fun y => by rw [e0, e1]; exact cput_mem _ y
  have hok : (Con.consL t).all cstB = true := List.all_eq_true.2 (fun y hy => csts_ok9 t 0 ha y ((hm y).1 hy))
  have hfc : Func (Con.consL t) := fun s k k' h h' => hF s k k' ((hm _).1 h) ((hm _).1 h')
  have hu := unb_bind9 (Con.consL t) hfc t 0 0 (Int.le_refl _) ha (fun y hy => (hm y).2 hy)
  refine ⟨e0, ?_, ?_, hok, ?_, hfc, fun y hy => (hm y).2 hy, hu.1, hu.2 []⟩
  · rw [e0]; have := putC_len t []; simpa using this
  · rw [List.all_map, List.all_eq_true]
    intro y hy
    have := List.all_eq_true.1 hok y hy
    unfold cstB at this
    rw [Bool.and_eq_true] at this
    exact this.1
  · rw [e0, e1]
    unfold List.Nodup
    rw [List.pairwise_map]
    exact (cput_strict hF).imp (fun {a b} h e => by rw [e] at h; exact List.lt_irrefl _ h)
end Go.Proofs.YtpkgiemdnfbopaaGreat
namespace Go.Proofs.YtpkgiemdnfbopaaGreat
open Go Go.RowKit
open Pl (K Con KR KS kof kofs ownK inK appK)
set_option linter.unusedSimpArgs false
set_option linter.unusedVariables false

theorem kof_bindC (cs : List (ByteArray × K)) (hf : Func cs) (t : Con) : ∀ (r1 r2 : List K) (e : Int), Con.allB t = true → (∀ y ∈ (Con.leafCs t e).filterMap cstL, y ∈ cs) →
    kof (r1 ++ (cs.map (·.2)).reverse ++ r2) (Con.bindC (cs.map (·.1)) t r1.length) = kof (r1 ++ r2) t := by
  induction t using Con.ind with
  | h t ih =>
  intro r1 r2 e ha hy
  obtain ⟨hn, hp⟩ := allB_parts t ha
  have hln : ((cs.map (·.1)).length : Int) = (cs.length : Int) := by rw [List.length_map]
  have hlr : (cs.map (·.2)).reverse.length = cs.length := by simp
  by_cases h2 : t.op = 2
  · have hl := leaf_none t hn (.inr h2)
    have hm := hy _ (csts_leaf9 t e hl h2)
    rw [bindC_const _ _ t h2]
    have hk : kof (r1 ++ r2) t = .ok t.kind := by
      rw [Pl.kof_eq, hl, Pl.kofs_nil]
      show ownK _ _ _ _ [] = _
      unfold Pl.ownK
      rw [if_neg (by omega), if_pos h2]
    rw [hk]
    cases hpp : posB t.s (cs.map (·.1)) with
    | none => exact absurd (show t.s ∈ cs.map (·.1) from List.mem_map.2 ⟨(t.s, t.kind), hm, rfl⟩) (posB_none _ _ hpp)
    | some i =>
      obtain ⟨hi, he⟩ := posB_some _ _ _ hpp
      rw [List.length_map] at hi
      rw [List.getElem_map] at he
      dsimp only
      rw [hln, kof_var]
      have hx : ((r1.length : Int) + ((cs.length : Int) - 1 - (i : Nat))).toNat = r1.length + (cs.length - 1 - i) := by omega
      rw [hx, List.append_assoc, List.getElem?_append_right (by omega), Nat.add_sub_cancel_left, List.getElem?_append_left (by omega), List.getElem?_reverse (by simp; omega)]
      have hj : (cs.map (·.2)).length - 1 - (cs.length - 1 - i) = i := by rw [List.length_map]; omega
      rw [hj, List.getElem?_map, List.getElem?_eq_getElem hi]
      have hkk : cs[i].2 = t.kind := hf t.s _ _ (by rw [← he]; exact List.getElem_mem hi) hm
      show KR.ok cs[i].2 = _
      rw [hkk]
  by_cases h1 : t.op = 1
  · have hl := leaf_none t hn (.inl h1)
    have h0 := nodeB_pos t hn
    have hv := clean_node t hn h1
    rw [bindC_var _ _ t h1, hln]
    by_cases hd : (r1.length : Int) ≤ t.n
    · rw [if_pos hd, kof_var]
      conv => rhs; rw [hv, kof_var]
      have hx : (t.n + (cs.length : Int)).toNat = r1.length + (cs.length + (t.n.toNat - r1.length)) := by omega
      rw [hx, List.append_assoc, List.getElem?_append_right (by omega), Nat.add_sub_cancel_left, List.getElem?_append_right (by omega), hlr, Nat.add_sub_cancel_left, List.getElem?_append_right (by omega)]
    · rw [if_neg hd]
      rw [hv, kof_var, kof_var]
      show (match (r1 ++ (cs.map (·.2)).reverse ++ r2)[t.n.toNat]? with | some k => KR.ok k | none => .bad 10 []) = (match (r1 ++ r2)[t.n.toNat]? with | some k => KR.ok k | none => .bad 10 [])
      rw [List.append_assoc, List.getElem?_append_left (by omega), List.getElem?_append_left (by omega)]
  · rw [bindC_node _ _ t h1 h2, Pl.kof_eq, Pl.kof_eq]
    have hi : ∀ m, (Con.inside t m).l = m := fun _ => rfl
    show (kofs (inK _ t.op t.kind) (t.l.map _) 0).next (ownK _ t.op t.n t.kind) = _
    have e1 : kofs (inK (r1 ++ (cs.map (·.2)).reverse ++ r2) t.op t.kind) (t.l.map (fun x => Con.bindC (cs.map (·.1)) x (Con.deep t.op r1.length))) 0 = kofs (inK (r1 ++ r2) t.op t.kind) t.l 0 := by
      refine kofs_map _ _ _ t.l 0 (fun x hx => ?_)
      have := ih x hx (inK r1 t.op t.kind) r2 (Con.deep t.op e) (hp x hx) (fun y hyy => hy y (csts_node9 t x e hx y hyy))
      rw [inK_len] at this
      rw [List.append_assoc r1, inK_app, inK_app, ← List.append_assoc]
      exact this
    rw [e1]
    congr 1
    funext ks
    exact Pl.ownK_scope _ _ _ _ _ _ h1
/-- CONSTANTS ARE VARIABLES WITH NAMES -/
theorem consts_keep {g : List K} {t : Con} {u : Con} {uc : Int} (hv : Con.validB t = true) (hc : Con.consB t = true) (hsz : t.size ≤ 400) (hg : g.length ≤ 40) (hb : (u, uc) = bindOut t ((Con.consL t).map (·.1))) (h6 : uc ≠ 6) :
    uc = 0 ∧ ofOut (g ++ (Con.consL t).map (·.2)) u = ofOut g t ∧ unbindOut u (Con.consL t) = (t, 0) := by
  obtain ⟨e0, hlen, hcn, hcb, hnd, hfc, hin, hun, -⟩ := binds_plain t hv hc
  have hix : idxCode ((Con.consL t).map (·.1)) = 0 := by
    unfold idxCode
    rw [if_neg (by rw [List.length_map]; omega), if_pos hnd]
  rw [bindOut_eq, if_pos (by rw [hv, hcn]; rfl), if_pos hix] at hb
  rcases outB_cases (Con.bindC ((Con.consL t).map (·.1)) t 0) with ⟨h1, h2⟩ | ⟨h1, h2⟩
  all_goals rw [h2] at hb; injection hb with hu huc; subst hu; subst huc
  · refine ⟨rfl, ?_, ?_⟩
    · have hks : ((Con.consL t).map (·.2)).all K.valid = true := by
        rw [List.all_map, List.all_eq_true]
        intro y hy
        have := List.all_eq_true.1 hcb y hy
        unfold cstB at this
        rw [Bool.and_eq_true] at this
        exact this.2
      have hsc : scopeB (g ++ (Con.consL t).map (·.2)) = scopeB g := by
        unfold scopeB
        rw [List.all_append, hks, Bool.and_true, List.length_append, List.length_map, decide_eq_true (show g.length + (Con.consL t).length ≤ 1000 by omega), decide_eq_true (show g.length ≤ 1000 by omega)]
      rw [ofOut_eq, ofOut_eq]
      unfold givenB
      rw [hsc, h1, hv, List.reverse_append]
      have hk := kof_bindC (Con.consL t) hfc t [] g.reverse 0 (valid_all t hv) (fun y hy => hin y hy)
      rw [List.nil_append, List.nil_append] at hk
      rw [← hk]
      rfl
    · rw [unbindOut_ok _ _ h1 hcb hix, hun]
  · exact absurd rfl h6
end Go.Proofs.YtpkgiemdnfbopaaGreat
namespace Go.Proofs.YtpkgiemdnfbopaaGreat
open Go Go.RowKit
open Pl (K Con KR KS kof kofs ownK inK appK)
set_option linter.unusedSimpArgs false
set_option linter.unusedVariables false

/-- a number within bounds -/
def Within (most : Int) (w : World) (e : Ending) (w' : World) : Prop := (∃ r : Int, e = .returned (.int .i64 r) ∧ 0 ≤ r ∧ r ≤ most) ∧ Below w.heap.size w w'
def AnyB (w : World) (e : Ending) (w' : World) : Prop := (∃ b : Bool, e = .returned (.bool b)) ∧ Below w.heap.size w w'
set_option maxRecDepth 100000 in
set_option maxHeartbeats 2000000 in
theorem kindNodes_any (P : Nat → Prop) (t : K) : ∀ (d : Nat) (w : World) (v : Value), (∀ b, P b → b < w.heap.size) → KV w P t v → d ≤ 1000 →
    Calls Tryz.prog 91 #[v, .int .i64 (d : Int), .int .i64 40] w (Within (41 * ((d : Int) + 2)) w) := by
  induction t using K.ind with
  | h t ih =>
  intro d w v hP ht hd
  have HIH := Lib.hid ih
  have HP := Lib.hid hP
  clear ih
  obtain ⟨l⟩ := t
  obtain ⟨a, c, rfl, hlc, hcm, hka⟩ := ht.open
  clear ht
  replace hka : ∀ (j : Nat) (hj : j < l.length), ∃ b off x, a = some ⟨b, off, none⟩ ∧ P b ∧ w.cell? ⟨b, off + j, none⟩ = some x ∧ KidV w P l[j] x := hka
  replace hlc : l.length ≤ c := hlc
  change Calls _ _ #[.agg #[.slice a l.length c], _, _] _ _
  have HKA := Lib.hid hka
  obtain ⟨n, hn⟩ : ∃ n, n = l.length := ⟨_, rfl⟩
  have HN := Lib.hid hn
  rw [← hn] at hlc ⊢
  have hn63 : n ≤ 9223372036854775807 := by unfold maxLen at hcm; omega
  obtain ⟨hbx, hb⟩ := boxN_new w 24 #[.slice a n c]
  have c0 := hbx.cell 0 (.slice a n c) rfl
  have HB := Lib.hid hb
  have HBX := Lib.hid hbx
  clear hbx hb hka hn hcm hP
  go_enter Tryz.func91, Tryz.ntmps91
  go_wp2_with fail
  clear c0
  generalize w.alloc (.cells #[.slice a n c] 24) = w2 at *
  go_loopg [7, 13] (n + 1) (fun g m i wr => ∃ (k : Nat) (y : Int), k ≤ n ∧ i = .int .i64 k ∧ m = .int .i64 y ∧ 0 ≤ y ∧ y ≤ 41 * ((d : Int) + 2) ∧ g = n + 1 - k ∧ Below w2.heap.size w2 wr)
  case atStart => exact ⟨0, 1, by omega, rfl, rfl, by omega, by omega, by omega, Below.refl _ _⟩
  case round =>
    obtain ⟨k, y, hk, rfl, rfl, hy0, hy1, hg, hbw⟩ := hrel
    have HBW := Lib.hid hbw
    have HW0 := Lib.hid (show Below w.heap.size w wr from belowStep hbw HB.out)
    by_cases hlt : k < n
    · have q5 : decide ((k : Int) < (n : Int)) = true := decide_eq_true (by omega)
      have hkl : k < l.length := by rw [← HN.out]; exact hlt
      obtain ⟨b, off, x, e, hPb, hx, hkx⟩ := HKA.out k hkl
      subst e
      obtain ⟨a7, c7, rfl⟩ := hkx.form
      have f0 := (HW0.out.cell (p := ⟨b, off + k, none⟩) (HP.out b hPb)).trans hx
      obtain ⟨hbx, hb⟩ := boxN_new wr 24 #[.slice a7 l[k].l.length c7]
      have g0 := hbx.cell 0 (.slice a7 l[k].l.length c7) rfl
      have HW1 := Lib.hid (belowStep hb HW0.out)
      by_cases hyy : 40 < y
      · have q6 : decide ((40 : Int) < y) = true := decide_eq_true hyy
        generalize l[k].l.length = n7 at *
        clear hbw hx hkx hPb hb hbx
        go_wp2_with fail
        go_ret
        exact ⟨⟨41, rfl, by omega, by omega⟩, HW1.out⟩
      have q6 : decide ((40 : Int) < y) = false := decide_eq_false hyy
      by_cases hd0 : d = 0
      · subst hd0
        generalize l[k].l.length = n7 at *
        clear hbw hx hkx hPb hb hbx
        go_wp2_with fail
        go_ret
        exact ⟨⟨41, rfl, by omega, by omega⟩, HW1.out⟩
      have q7 : ((d : Int) == 0) = false := beq_eq_false_iff_ne.2 (by omega)
      obtain ⟨m, rfl⟩ : ∃ m, d = m + 1 := ⟨d - 1, by omega⟩
      have w1 : wrap64 (((m + 1 : Nat) : Int) - 1) = (m : Int) := by rw [wrap64]; omega
      have w1' : wrap64 ((m : Int) + 1 - 1) = (m : Int) := by rw [wrap64]; omega
      have q8 : (((m : Int) + 1) == 0) = false := beq_eq_false_iff_ne.2 (by omega)
      have HC := Lib.hid (HIH.out l[k] (List.getElem_mem hkl) m _ (.agg #[.slice a7 l[k].l.length c7]) (fun b hb' => Nat.lt_of_lt_of_le (HP.out b hb') HW1.out.size) ⟨_, rfl, hkx.keep (Same.of_below HW1.out HP.out)⟩ (by omega))
      have HBN := Lib.hid (belowStep hb HBW.out)
      generalize l[k].l.length = n7 at *
      clear hbw hx hkx hPb hbx hb
      go_wp2_with fail
      generalize wr.alloc (.cells #[.slice a7 n7 c7] 24) = w5 at *
      refine HC.out.mono ?_
      rintro e w3 ⟨⟨r, rfl, hr0, hr1⟩, hb3⟩
      have HB3 := Lib.hid (belowStep hb3 HBN.out)
      clear hb3 f0 g0
      go_wp2
      go_roundg (gk - 1)
      case measure => omega
      case rel => exact ⟨k + 1, y + r, by omega, by go_num, by go_num, by omega, by omega, by omega, HB3.out⟩
    · have q5 : decide ((k : Int) < (n : Int)) = false := decide_eq_false (by omega)
      clear hbw
      go_wp2
      go_ret
      exact ⟨⟨y, rfl, by omega, by omega⟩, HW0.out⟩
set_option maxRecDepth 100000 in
set_option maxHeartbeats 2000000 in
theorem nodes_any (P : Nat → Prop) (t : Con) : ∀ (d : Nat) (w : World) (v : Value), (∀ b, P b → b < w.heap.size) → ConV w P t v → d ≤ 1000 →
    Calls Tryz.prog 93 #[v, .int .i64 (d : Int)] w (Within (1400 + 400 * (d : Int)) w) := by
  induction t using Con.ind with
  | h t ih =>
  intro d w v hP ht hd
  have HIH := Lib.hid ih
  have HP := Lib.hid hP
  clear ih
  obtain ⟨hsz, kv, nv, lv, rfl, hk, hs, hl⟩ := (conV_iff _ _ _ _).1 ht
  have HSL := Lib.hid (fun W (hW : Below w.heap.size w W) => hl.keep (Same.of_below hW hP))
  have HKK := Lib.hid (fun W (hW : Below w.heap.size w W) => kindNodes_any P t.kind 30 W (.agg #[kv]) (low_up hP hW) ⟨_, rfl, hk.keep (Same.of_below hW hP)⟩ (by omega))
  obtain ⟨la, lc, rfl, hlc, hcm, -⟩ := hl.each
  obtain ⟨ka, kc, rfl⟩ := hk.form
  obtain ⟨na, nc, rfl, -, hnm⟩ := strs_len hs
  obtain ⟨n, hn⟩ : ∃ n, n = t.l.length := ⟨_, rfl⟩
  have HN := Lib.hid hn
  rw [← hn] at HSL hlc ⊢
  have hn63 : n ≤ 9223372036854775807 := by unfold maxLen at hcm; omega
  obtain ⟨hbx, hb⟩ := boxN_new w 28 #[.int .i64 t.op, .int .i64 t.n, .string t.s, .slice ka t.kind.l.length kc, .slice na t.names.length nc, .slice la n lc]
  generalize t.kind.l.length = kn at *
  generalize t.names.length = nn at *
  generalize t.op = op at *
  generalize t.n = num at *
  generalize t.s = s at *
  have c3 := hbx.cell 3 (.slice ka kn kc) rfl
  have HB := Lib.hid hb
  have HBX := Lib.hid hbx
  clear hbx hb hl ht hk hs hn hcm hP hnm hsz hlc
  go_enter Tryz.func93, Tryz.ntmps93
  go_wp2_with fail
  clear c3
  generalize w.alloc (.cells #[.int .i64 op, .int .i64 num, .string s, .slice ka kn kc, .slice na nn nc, .slice la n lc] 28) = w1 at *
  refine (HKK.out _ HB.out).mono ?_
  rintro e w2 ⟨⟨r0, rfl, hr00, hr01⟩, hb2⟩
  have c5 := (HBX.out.of_eq (hb2.block _ HBX.out.lt)).cell 5 (.slice la n lc) rfl
  replace HB := Lib.hid (belowStep hb2 HB.out)
  have hr02 : r0 ≤ 1400 := by omega
  clear hb2 HKK hr01
  go_wp2_with fail
  clear c5
  go_loopg [5, 14] (n + 1) (fun g m i wr => ∃ (k : Nat) (y : Int), k ≤ n ∧ i = .int .i64 k ∧ m = .int .i64 y ∧ 0 ≤ y ∧ y ≤ 1400 + 400 * (d : Int) ∧ g = n + 1 - k ∧ Below w2.heap.size w2 wr)
  case atStart => exact ⟨0, r0, by omega, rfl, rfl, by omega, by omega, by omega, Below.refl _ _⟩
  case round =>
    obtain ⟨k, y, hk, rfl, rfl, hy0, hy1, hg, hbw⟩ := hrel
    have HBW := Lib.hid hbw
    have HW0 := Lib.hid (show Below w.heap.size w wr from belowStep hbw HB.out)
    by_cases hlt : k < n
    · have q5 : decide ((k : Int) < (n : Int)) = true := decide_eq_true (by omega)
      have hkl : k < t.l.length := by rw [← HN.out]; exact hlt
      obtain ⟨b, off, c', xa, xn, xc, ya, yn, yc, za, zn, zc, e, -, f0, f1, f2, f3, f4, f5, hx⟩ := (HSL.out wr HW0.out).part k hkl
      injection e with e1 e2 e3
      subst e1 e3
      clear e2
      obtain ⟨hbx, hb⟩ := boxN_new wr 28 #[.int .i64 t.l[k].op, .int .i64 t.l[k].n, .string t.l[k].s, .slice xa xn xc, .slice ya yn yc, .slice za zn zc]
      have HW1 := Lib.hid (belowStep hb HW0.out)
      by_cases hyy : 400 < y
      · have q6 : decide ((400 : Int) < y) = true := decide_eq_true hyy
        generalize t.l[k] = x at *
        clear hbw hx hb hbx
        go_wp2_with fail
        go_ret
        exact ⟨⟨401, rfl, by omega, by omega⟩, HW1.out⟩
      have q6 : decide ((400 : Int) < y) = false := decide_eq_false hyy
      by_cases hd0 : d = 0
      · subst hd0
        generalize t.l[k] = x at *
        clear hbw hx hb hbx
        go_wp2_with fail
        go_ret
        exact ⟨⟨401, rfl, by omega, by omega⟩, HW1.out⟩
      have q7 : ((d : Int) == 0) = false := beq_eq_false_iff_ne.2 (by omega)
      obtain ⟨m, rfl⟩ : ∃ m, d = m + 1 := ⟨d - 1, by omega⟩
      have w1 : wrap64 (((m + 1 : Nat) : Int) - 1) = (m : Int) := by rw [wrap64]; omega
      have w1' : wrap64 ((m : Int) + 1 - 1) = (m : Int) := by rw [wrap64]; omega
      have q8 : (((m : Int) + 1) == 0) = false := beq_eq_false_iff_ne.2 (by omega)
      have g0 := hbx.cell 0 (.int .i64 t.l[k].op) rfl
      have g1 := hbx.cell 1 (.int .i64 t.l[k].n) rfl
      have g2 := hbx.cell 2 (.string t.l[k].s) rfl
      have g3 := hbx.cell 3 (.slice xa xn xc) rfl
      have g4 := hbx.cell 4 (.slice ya yn yc) rfl
      have g5 := hbx.cell 5 (.slice za zn zc) rfl
      have HC := Lib.hid (HIH.out t.l[k] (List.getElem_mem hkl) m _ _ (fun b hb' => Nat.lt_of_lt_of_le (HP.out b hb') HW1.out.size) (hx.keep (Same.of_below hb (fun b hb' => Nat.lt_of_lt_of_le (HP.out b hb') HW0.out.size))) (by omega))
      have HBN := Lib.hid (belowStep hb HBW.out)
      generalize t.l[k] = x at *
      clear hbw hx hbx hb
      go_wp2_with fail
      generalize wr.alloc (.cells #[.int .i64 x.op, .int .i64 x.n, .string x.s, .slice xa xn xc, .slice ya yn yc, .slice za zn zc] 28) = w5 at *
      refine HC.out.mono ?_
      rintro e w3 ⟨⟨r, rfl, hr0, hr1⟩, hb3⟩
      have HB3 := Lib.hid (belowStep hb3 HBN.out)
      clear hb3 f0 f1 f2 f3 f4 f5 g0 g1 g2 g3 g4 g5
      go_wp2
      go_roundg (gk - 1)
      case measure => omega
      case rel => exact ⟨k + 1, y + r, by omega, by go_num, by go_num, by omega, by omega, by omega, HB3.out⟩
    · have q5 : decide ((k : Int) < (n : Int)) = false := decide_eq_false (by omega)
      clear hbw
      go_wp2
      go_ret
      exact ⟨⟨y, rfl, by omega, by omega⟩, HW0.out⟩
theorem great1_any (P : Nat → Prop) (t : K) (w : World) (v : Value) (hP : ∀ b, P b → b < w.heap.size) (ht : KV w P t v) :
    Calls Tryz.prog 90 #[v] w (AnyB w) := by
  obtain ⟨a, c, rfl⟩ := ht.form
  generalize hn : t.l.length = n at *
  obtain ⟨hbx, hb⟩ := boxN_new w 24 #[.slice a n c]
  have c0 := hbx.cell 0 (.slice a n c) rfl
  have HB := Lib.hid hb
  have HC := Lib.hid (kindNodes_any P t 30 _ (.agg #[.slice a n c]) (low_up hP hb) (ht.keep (Same.of_below hb hP)) (by omega))
  clear hbx hb ht hP hn
  go_enter Tryz.func90, Tryz.ntmps90
  go_wp2_with fail
  generalize w.alloc (.cells #[.slice a n c] 24) = w1 at *
  refine HC.out.mono ?_
  rintro e w2 ⟨⟨r, rfl, hr0, hr1⟩, hb2⟩
  replace HB := Lib.hid (belowStep hb2 HB.out)
  clear hb2 c0
  go_wp2
  go_ret
  exact ⟨⟨_, rfl⟩, HB.out⟩
theorem great2_any (P : Nat → Prop) (t : Con) (w : World) (v : Value) (hP : ∀ b, P b → b < w.heap.size) (ht : ConV w P t v) :
    Calls Tryz.prog 92 #[v] w (Denies True w) := by
  have HC := Lib.hid (fun W (hW : Below w.heap.size w W) => nodes_any P t 60 W v (low_up hP hW) (ht.keep (Same.of_below hW hP)) (by omega))
  obtain ⟨ka, kn, kc, na, nn, nc, la, ln, lc, rfl, -, -, -⟩ := ht.shape
  generalize t.op = op at *
  generalize t.n = num at *
  generalize t.s = s at *
  obtain ⟨hbx, hb⟩ := boxN_new w 28 #[.int .i64 op, .int .i64 num, .string s, .slice ka kn kc, .slice na nn nc, .slice la ln lc]
  have c0 := hbx.cell 0 (.int .i64 op) rfl
  have c1 := hbx.cell 1 (.int .i64 num) rfl
  have c2 := hbx.cell 2 (.string s) rfl
  have c3 := hbx.cell 3 (.slice ka kn kc) rfl
  have c4 := hbx.cell 4 (.slice na nn nc) rfl
  have c5 := hbx.cell 5 (.slice la ln lc) rfl
  have HB := Lib.hid hb
  clear hbx hb ht hP
  go_enter Tryz.func92, Tryz.ntmps92
  go_wp2_with fail
  generalize w.alloc (.cells #[.int .i64 op, .int .i64 num, .string s, .slice ka kn kc, .slice na nn nc, .slice la ln lc] 28) = w1 at *
  refine (HC.out _ HB.out).mono ?_
  rintro e w2 ⟨⟨r, rfl, hr0, hr1⟩, hb2⟩
  replace HB := Lib.hid (belowStep hb2 HB.out)
  clear hb2 c0 c1 c2 c3 c4 c5
  go_wp2
  go_ret
  exact ⟨⟨_, rfl, fun _ => trivial⟩, HB.out⟩
theorem greatIndex_any (P : Nat → Prop) (l : List K) (w : World) (v : Value) (hP : ∀ b, P b → b < w.heap.size) (ht : KSl w P v l) :
    Calls Tryz.prog 130 #[v, .func (.func 90) #[] #[]] w fun e w' => (∃ r : Int, e = .returned (.int .i64 r)) ∧ Below w.heap.size w w' := by
  obtain ⟨a, c, rfl, hlc, hcm, hka⟩ := ht.each
  clear ht
  have HB : Hid (Below w.heap.size w w) := Below.refl _ _
  have HP := Lib.hid hP
  obtain ⟨n, hn⟩ : ∃ n, n = l.length := ⟨_, rfl⟩
  rw [← hn] at hlc ⊢
  have HN := Lib.hid hn
  have HKA := Lib.hid hka
  have hll : n ≤ 9223372036854775807 := by unfold maxLen at hcm; omega
  clear hka hcm hP hn
  go_enter Tryz.func130, Tryz.ntmps130
  go_wp2_with fail
  go_loopg [8] (n + 1) (fun g k wr => ∃ i : Nat, i ≤ n ∧ k = .int .i64 i ∧ g = n + 1 - i ∧ Below w.heap.size w wr)
  case atStart => exact ⟨0, by omega, rfl, by omega, HB.out⟩
  case round =>
    obtain ⟨i, hi, rfl, hg, hbw⟩ := hrel
    have HBW := Lib.hid hbw
    by_cases hlt : i < n
    · have q5 : decide ((i : Int) < (n : Int)) = true := decide_eq_true (by omega)
      have hil : i < l.length := by rw [← HN.out]; exact hlt
      obtain ⟨b, off, x, rfl, hPb, hx, hkx⟩ := HKA.out i hil
      obtain ⟨a7, c7, rfl⟩ := hkx.form
      have f0 := (hbw.cell (p := ⟨b, off + i, none⟩) (HP.out b hPb)).trans hx
      have HC := Lib.hid (great1_any P l[i] wr (.agg #[.slice a7 l[i].l.length c7]) (fun b hb => Nat.lt_of_lt_of_le (HP.out b hb) hbw.size) ⟨_, rfl, hkx.keep (Same.of_below hbw HP.out)⟩)
      generalize l[i].l.length = n7 at *
      clear hbw hx hkx hPb
      go_wp2_with fail
      refine HC.out.mono ?_
      rintro e w3 ⟨⟨z, rfl⟩, hb3⟩
      have HB3 := Lib.hid (belowStep hb3 HBW.out)
      clear hb3 f0
      cases z
      · go_wp2
        go_roundg (gk - 1)
        case measure => omega
        case rel => exact ⟨i + 1, by omega, by go_num, by omega, HB3.out⟩
      · go_wp2
        go_ret
        exact ⟨⟨i, rfl⟩, HB3.out⟩
    · have q5 : decide ((i : Int) < (n : Int)) = false := decide_eq_false (by omega)
      clear hbw
      go_wp2
      go_ret
      exact ⟨⟨-1, rfl⟩, HBW.out⟩
theorem greatContains_any (P : Nat → Prop) (l : List K) (w : World) (v : Value) (hP : ∀ b, P b → b < w.heap.size) (ht : KSl w P v l) :
    Calls Tryz.prog 89 #[v, .func (.func 90) #[] #[]] w (AnyB w) := by
  have HC := Lib.hid (greatIndex_any P l w v hP ht)
  obtain ⟨a, c, rfl, -⟩ := ht.each
  clear ht hP
  generalize l.length = n at *
  go_enter Tryz.func89, Tryz.ntmps89
  go_wp2_with fail
  refine HC.out.mono ?_
  rintro e w2 ⟨⟨r, rfl⟩, hb2⟩
  have HB := Lib.hid hb2
  clear hb2
  by_cases h0 : (0 : Int) ≤ r
  · have q1 : decide ((0 : Int) ≤ r) = true := decide_eq_true h0
    go_wp2
    go_ret
    exact ⟨⟨_, rfl⟩, HB.out⟩
  · have q1 : decide ((0 : Int) ≤ r) = false := decide_eq_false h0
    go_wp2
    go_ret
    exact ⟨⟨_, rfl⟩, HB.out⟩
set_option maxRecDepth 100000 in
set_option maxHeartbeats 1000000 in
theorem great_any (P : Nat → Prop) (g : List K) (ts : List Con) (w : World) (gv v : Value) (hP : ∀ b, P b → b < w.heap.size) (hg : KSl w P gv g) (ht : ConSl w P v ts) :
    Calls Tryz.prog 36 #[gv, v] w (AnyB w) := by
  have HK := Lib.hid (greatContains_any P g w gv hP hg)
  have HT := Lib.hid (fun W (hW : Below w.heap.size w W) => containsC_any 92 (fun _ _ => rfl) (fun _ => True) P ts (fun t _ W' v' h1 h2 => great2_any P t W' v' h1 h2) W v (low_up hP hW) (ht.keep (Same.of_below hW hP)))
  obtain ⟨ga, gc, rfl, -, hcm, -⟩ := hg.each
  obtain ⟨ta, tc, rfl, -⟩ := ht.each
  have hn63 : g.length ≤ 9223372036854775807 := by
    obtain ⟨a', c', e, h1, h2, -⟩ := hg.each
    injection e with e1 e2 e3
    unfold maxLen at h2; omega
  generalize g.length = n at *
  generalize ts.length = m at *
  clear hg ht hP hcm
  by_cases h1 : 40 < n ∧ n ≤ 1000
  · have q1 : decide ((40 : Int) < (n : Int)) = true := decide_eq_true (by omega)
    have q2 : decide ((n : Int) ≤ 1000) = true := decide_eq_true (by omega)
    go_enter Tryz.func36, Tryz.ntmps36
    go_wp2
    go_ret
    exact ⟨⟨true, rfl⟩, Below.refl _ _⟩
  by_cases h2 : 1100 < n
  · have q1 : decide ((40 : Int) < (n : Int)) = true := decide_eq_true (by omega)
    have q2 : decide ((n : Int) ≤ 1000) = false := decide_eq_false (by omega)
    have q3 : decide ((1100 : Int) < (n : Int)) = true := decide_eq_true (by omega)
    go_enter Tryz.func36, Tryz.ntmps36
    go_wp2
    go_ret
    exact ⟨⟨true, rfl⟩, Below.refl _ _⟩
  have q3 : decide ((1100 : Int) < (n : Int)) = false := decide_eq_false (by omega)
  have q12 : decide ((40 : Int) < (n : Int)) = false ∨ (decide ((40 : Int) < (n : Int)) = true ∧ decide ((n : Int) ≤ 1000) = false) := by
    by_cases h : 40 < n
    · exact .inr ⟨decide_eq_true (by omega), decide_eq_false (by omega)⟩
    · exact .inl (decide_eq_false (by omega))
  rcases q12 with q1 | ⟨q1, q2⟩
  all_goals
    go_enter Tryz.func36, Tryz.ntmps36
    go_wp2_with fail
    refine HK.out.mono ?_
    rintro e w2 ⟨⟨z, rfl⟩, hb2⟩
    have HB := Lib.hid hb2
    clear hb2
    cases z
    · go_wp2_with fail
      refine (HT.out _ HB.out).mono ?_
      rintro e w3 ⟨⟨z, rfl, -⟩, hb3⟩
      replace HB := Lib.hid (belowStep hb3 HB.out)
      clear hb3
      go_wp2
      go_ret
      exact ⟨⟨_, rfl⟩, HB.out⟩
    · go_wp2
      go_ret
      exact ⟨⟨_, rfl⟩, HB.out⟩
end Go.Proofs.YtpkgiemdnfbopaaGreat
namespace Go.Proofs.YtpkgiemdnfbopaaGreat
open Go Go.RowKit
open Pl (K Con KR KS kof kofs ownK inK appK)
set_option linter.unusedSimpArgs false
set_option linter.unusedVariables false

/-- a number within bounds -/
def Within1 (most : Int) (w : World) (e : Ending) (w' : World) : Prop := (∃ r : Int, e = .returned (.int .i64 r) ∧ 1 ≤ r ∧ r ≤ most) ∧ Below w.heap.size w w'
def WithinS (most : Int) (sz : Nat) (w : World) (e : Ending) (w' : World) : Prop := (∃ r : Int, e = .returned (.int .i64 r) ∧ 1 ≤ r ∧ r ≤ most ∧ (r ≤ 400 → (sz : Int) ≤ r)) ∧ Below w.heap.size w w'
set_option maxRecDepth 100000 in
set_option maxHeartbeats 2000000 in
theorem kindNodes2_any (P : Nat → Prop) (t : K) : ∀ (d : Nat) (w : World) (v : Value), (∀ b, P b → b < w.heap.size) → KV w P t v → d ≤ 1000 →
    Calls Tryz.prog 91 #[v, .int .i64 (d : Int), .int .i64 40] w (Within1 (41 * ((d : Int) + 2)) w) := by
  induction t using K.ind with
  | h t ih =>
  intro d w v hP ht hd
  have HIH := Lib.hid ih
  have HP := Lib.hid hP
  clear ih
  obtain ⟨l⟩ := t
  obtain ⟨a, c, rfl, hlc, hcm, hka⟩ := ht.open
  clear ht
  replace hka : ∀ (j : Nat) (hj : j < l.length), ∃ b off x, a = some ⟨b, off, none⟩ ∧ P b ∧ w.cell? ⟨b, off + j, none⟩ = some x ∧ KidV w P l[j] x := hka
  replace hlc : l.length ≤ c := hlc
  change Calls _ _ #[.agg #[.slice a l.length c], _, _] _ _
  have HKA := Lib.hid hka
  obtain ⟨n, hn⟩ : ∃ n, n = l.length := ⟨_, rfl⟩
  have HN := Lib.hid hn
  rw [← hn] at hlc ⊢
  have hn63 : n ≤ 9223372036854775807 := by unfold maxLen at hcm; omega
  obtain ⟨hbx, hb⟩ := boxN_new w 24 #[.slice a n c]
  have c0 := hbx.cell 0 (.slice a n c) rfl
  have HB := Lib.hid hb
  have HBX := Lib.hid hbx
  clear hbx hb hka hn hcm hP
  go_enter Tryz.func91, Tryz.ntmps91
  go_wp2_with fail
  clear c0
  generalize w.alloc (.cells #[.slice a n c] 24) = w2 at *
  go_loopg [7, 13] (n + 1) (fun g m i wr => ∃ (k : Nat) (y : Int), k ≤ n ∧ i = .int .i64 k ∧ m = .int .i64 y ∧ 1 ≤ y ∧ y ≤ 41 * ((d : Int) + 2) ∧ g = n + 1 - k ∧ Below w2.heap.size w2 wr)
  case atStart => exact ⟨0, 1, by omega, rfl, rfl, by omega, by omega, by omega, Below.refl _ _⟩
  case round =>
    obtain ⟨k, y, hk, rfl, rfl, hy0, hy1, hg, hbw⟩ := hrel
    have HBW := Lib.hid hbw
    have HW0 := Lib.hid (show Below w.heap.size w wr from belowStep hbw HB.out)
    by_cases hlt : k < n
    · have q5 : decide ((k : Int) < (n : Int)) = true := decide_eq_true (by omega)
      have hkl : k < l.length := by rw [← HN.out]; exact hlt
      obtain ⟨b, off, x, e, hPb, hx, hkx⟩ := HKA.out k hkl
      subst e
      obtain ⟨a7, c7, rfl⟩ := hkx.form
      have f0 := (HW0.out.cell (p := ⟨b, off + k, none⟩) (HP.out b hPb)).trans hx
      obtain ⟨hbx, hb⟩ := boxN_new wr 24 #[.slice a7 l[k].l.length c7]
      have g0 := hbx.cell 0 (.slice a7 l[k].l.length c7) rfl
      have HW1 := Lib.hid (belowStep hb HW0.out)
      by_cases hyy : 40 < y
      · have q6 : decide ((40 : Int) < y) = true := decide_eq_true hyy
        generalize l[k].l.length = n7 at *
        clear hbw hx hkx hPb hb hbx
        go_wp2_with fail
        go_ret
        exact ⟨⟨41, rfl, by omega, by omega⟩, HW1.out⟩
      have q6 : decide ((40 : Int) < y) = false := decide_eq_false hyy
      by_cases hd0 : d = 0
      · subst hd0
        generalize l[k].l.length = n7 at *
        clear hbw hx hkx hPb hb hbx
        go_wp2_with fail
        go_ret
        exact ⟨⟨41, rfl, by omega, by omega⟩, HW1.out⟩
      have q7 : ((d : Int) == 0) = false := beq_eq_false_iff_ne.2 (by omega)
      obtain ⟨m, rfl⟩ : ∃ m, d = m + 1 := ⟨d - 1, by omega⟩
      have w1 : wrap64 (((m + 1 : Nat) : Int) - 1) = (m : Int) := by rw [wrap64]; omega
      have w1' : wrap64 ((m : Int) + 1 - 1) = (m : Int) := by rw [wrap64]; omega
      have q8 : (((m : Int) + 1) == 0) = false := beq_eq_false_iff_ne.2 (by omega)
      have HC := Lib.hid (HIH.out l[k] (List.getElem_mem hkl) m _ (.agg #[.slice a7 l[k].l.length c7]) (fun b hb' => Nat.lt_of_lt_of_le (HP.out b hb') HW1.out.size) ⟨_, rfl, hkx.keep (Same.of_below HW1.out HP.out)⟩ (by omega))
      have HBN := Lib.hid (belowStep hb HBW.out)
      generalize l[k].l.length = n7 at *
      clear hbw hx hkx hPb hbx hb
      go_wp2_with fail
      generalize wr.alloc (.cells #[.slice a7 n7 c7] 24) = w5 at *
      refine HC.out.mono ?_
      rintro e w3 ⟨⟨r, rfl, hr0, hr1⟩, hb3⟩
      have HB3 := Lib.hid (belowStep hb3 HBN.out)
      clear hb3 f0 g0
      go_wp2
      go_roundg (gk - 1)
      case measure => omega
      case rel => exact ⟨k + 1, y + r, by omega, by go_num, by go_num, by omega, by omega, by omega, HB3.out⟩
    · have q5 : decide ((k : Int) < (n : Int)) = false := decide_eq_false (by omega)
      clear hbw
      go_wp2
      go_ret
      exact ⟨⟨y, rfl, by omega, by omega⟩, HW0.out⟩
set_option maxRecDepth 100000 in
set_option maxHeartbeats 2000000 in
theorem nodes2_any (P : Nat → Prop) (t : Con) : ∀ (d : Nat) (w : World) (v : Value), (∀ b, P b → b < w.heap.size) → ConV w P t v → d ≤ 1000 →
    Calls Tryz.prog 93 #[v, .int .i64 (d : Int)] w (WithinS (1400 + 400 * (d : Int)) t.size w) := by
  induction t using Con.ind with
  | h t ih =>
  intro d w v hP ht hd
  have HIH := Lib.hid ih
  have HP := Lib.hid hP
  clear ih
  obtain ⟨hsz, kv, nv, lv, rfl, hk, hs, hl⟩ := (conV_iff _ _ _ _).1 ht
  have HSL := Lib.hid (fun W (hW : Below w.heap.size w W) => hl.keep (Same.of_below hW hP))
  have HKK := Lib.hid (fun W (hW : Below w.heap.size w W) => kindNodes2_any P t.kind 30 W (.agg #[kv]) (low_up hP hW) ⟨_, rfl, hk.keep (Same.of_below hW hP)⟩ (by omega))
  obtain ⟨la, lc, rfl, hlc, hcm, -⟩ := hl.each
  obtain ⟨ka, kc, rfl⟩ := hk.form
  obtain ⟨na, nc, rfl, -, hnm⟩ := strs_len hs
  obtain ⟨n, hn⟩ : ∃ n, n = t.l.length := ⟨_, rfl⟩
  have HN := Lib.hid hn
  have HSE := Lib.hid (Con.size_eq t)
  have HST := Lib.hid (fun k (h : k < t.l.length) => Con.sizes_take t.l k h)
  have HSF := Lib.hid (fun k (h : k = t.l.length) => (show Con.sizes (t.l.take k) = Con.sizes t.l from by rw [h, List.take_length]))
  obtain ⟨S, hS⟩ : ∃ S : Nat → Nat, S = fun k => Con.sizes (t.l.take k) := ⟨_, rfl⟩
  have HS0 := Lib.hid (show S 0 = 0 from by rw [hS]; simp [Con.sizes_nil])
  have HSK := Lib.hid hS
  clear hS
  rw [← hn] at HSL hlc ⊢
  have hn63 : n ≤ 9223372036854775807 := by unfold maxLen at hcm; omega
  obtain ⟨hbx, hb⟩ := boxN_new w 28 #[.int .i64 t.op, .int .i64 t.n, .string t.s, .slice ka t.kind.l.length kc, .slice na t.names.length nc, .slice la n lc]
  generalize t.kind.l.length = kn at *
  generalize t.names.length = nn at *
  generalize t.op = op at *
  generalize t.n = num at *
  generalize t.s = s at *
  have c3 := hbx.cell 3 (.slice ka kn kc) rfl
  have HB := Lib.hid hb
  have HBX := Lib.hid hbx
  clear hbx hb hl ht hk hs hn hcm hP hnm hsz hlc
  go_enter Tryz.func93, Tryz.ntmps93
  go_wp2_with fail
  clear c3
  generalize w.alloc (.cells #[.int .i64 op, .int .i64 num, .string s, .slice ka kn kc, .slice na nn nc, .slice la n lc] 28) = w1 at *
  refine (HKK.out _ HB.out).mono ?_
  rintro e w2 ⟨⟨r0, rfl, hr00, hr01⟩, hb2⟩
  have c5 := (HBX.out.of_eq (hb2.block _ HBX.out.lt)).cell 5 (.slice la n lc) rfl
  replace HB := Lib.hid (belowStep hb2 HB.out)
  have hr02 : r0 ≤ 1400 := by omega
  clear hb2 HKK hr01
  go_wp2_with fail
  clear c5
  go_loopg [5, 14] (n + 1) (fun g m i wr => ∃ (k : Nat) (y : Int), k ≤ n ∧ i = .int .i64 k ∧ m = .int .i64 y ∧ 1 ≤ y ∧ (y ≤ 400 → 1 + (S k : Int) ≤ y) ∧ y ≤ 1400 + 400 * (d : Int) ∧ g = n + 1 - k ∧ Below w2.heap.size w2 wr)
  case atStart => exact ⟨0, r0, by omega, rfl, rfl, by omega, (fun _ => by rw [HS0.out]; simp only [Int.natCast_zero, Int.ofNat_zero]; omega), by omega, by omega, Below.refl _ _⟩
  case round =>
    obtain ⟨k, y, hk, rfl, rfl, hy0, hys, hy1, hg, hbw⟩ := hrel
    have HYS := Lib.hid hys
    clear hys
    have HBW := Lib.hid hbw
    have HW0 := Lib.hid (show Below w.heap.size w wr from belowStep hbw HB.out)
    by_cases hlt : k < n
    · have q5 : decide ((k : Int) < (n : Int)) = true := decide_eq_true (by omega)
      have hkl : k < t.l.length := by rw [← HN.out]; exact hlt
      obtain ⟨b, off, c', xa, xn, xc, ya, yn, yc, za, zn, zc, e, -, f0, f1, f2, f3, f4, f5, hx⟩ := (HSL.out wr HW0.out).part k hkl
      injection e with e1 e2 e3
      subst e1 e3
      clear e2
      obtain ⟨hbx, hb⟩ := boxN_new wr 28 #[.int .i64 t.l[k].op, .int .i64 t.l[k].n, .string t.l[k].s, .slice xa xn xc, .slice ya yn yc, .slice za zn zc]
      have HW1 := Lib.hid (belowStep hb HW0.out)
      by_cases hyy : 400 < y
      · have q6 : decide ((400 : Int) < y) = true := decide_eq_true hyy
        generalize t.l[k] = x at *
        clear hbw hx hb hbx
        go_wp2_with fail
        go_ret
        exact ⟨⟨401, rfl, by omega, by omega, fun h => by omega⟩, HW1.out⟩
      have q6 : decide ((400 : Int) < y) = false := decide_eq_false hyy
      by_cases hd0 : d = 0
      · subst hd0
        generalize t.l[k] = x at *
        clear hbw hx hb hbx
        go_wp2_with fail
        go_ret
        exact ⟨⟨401, rfl, by omega, by omega, fun h => by omega⟩, HW1.out⟩
      have q7 : ((d : Int) == 0) = false := beq_eq_false_iff_ne.2 (by omega)
      obtain ⟨m, rfl⟩ : ∃ m, d = m + 1 := ⟨d - 1, by omega⟩
      have w1 : wrap64 (((m + 1 : Nat) : Int) - 1) = (m : Int) := by rw [wrap64]; omega
      have w1' : wrap64 ((m : Int) + 1 - 1) = (m : Int) := by rw [wrap64]; omega
      have q8 : (((m : Int) + 1) == 0) = false := beq_eq_false_iff_ne.2 (by omega)
      have g0 := hbx.cell 0 (.int .i64 t.l[k].op) rfl
      have g1 := hbx.cell 1 (.int .i64 t.l[k].n) rfl
      have g2 := hbx.cell 2 (.string t.l[k].s) rfl
      have g3 := hbx.cell 3 (.slice xa xn xc) rfl
      have g4 := hbx.cell 4 (.slice ya yn yc) rfl
      have g5 := hbx.cell 5 (.slice za zn zc) rfl
      have HC := Lib.hid (HIH.out t.l[k] (List.getElem_mem hkl) m _ _ (fun b hb' => Nat.lt_of_lt_of_le (HP.out b hb') HW1.out.size) (hx.keep (Same.of_below hb (fun b hb' => Nat.lt_of_lt_of_le (HP.out b hb') HW0.out.size))) (by omega))
      have HBN := Lib.hid (belowStep hb HBW.out)
      have HSX := Lib.hid (show S (k + 1) = S k + t.l[k].size from by rw [HSK.out]; exact HST.out k hkl)
      generalize t.l[k] = x at *
      clear hbw hx hbx hb
      go_wp2_with fail
      generalize wr.alloc (.cells #[.int .i64 x.op, .int .i64 x.n, .string x.s, .slice xa xn xc, .slice ya yn yc, .slice za zn zc] 28) = w5 at *
      refine HC.out.mono ?_
      rintro e w3 ⟨⟨r, rfl, hr0, hr1, hrs⟩, hb3⟩
      have HRS := Lib.hid hrs
      clear hrs
      have HB3 := Lib.hid (belowStep hb3 HBN.out)
      clear hb3 f0 f1 f2 f3 f4 f5 g0 g1 g2 g3 g4 g5
      go_wp2
      go_roundg (gk - 1)
      case measure => omega
      case rel => exact ⟨k + 1, y + r, by omega, by go_num, by go_num, by omega, (fun h => by have h1 := HYS.out (by omega); have h2 := HRS.out (by omega); have h3 := HSX.out; omega), by omega, by omega, HB3.out⟩
    · have q5 : decide ((k : Int) < (n : Int)) = false := decide_eq_false (by omega)
      clear hbw
      go_wp2
      go_ret
      exact ⟨⟨y, rfl, by omega, by omega, fun h => by
        have h1 := HYS.out h
        have h2 := HSF.out k (by rw [← HN.out]; omega)
        have h3 := HSE.out
        rw [HSK.out] at h1
        dsimp only at h1
        omega⟩, HW0.out⟩
theorem great4_any (P : Nat → Prop) (t : Con) (w : World) (v : Value) (hP : ∀ b, P b → b < w.heap.size) (ht : ConV w P t v) :
    Calls Tryz.prog 92 #[v] w (Denies (t.size ≤ 400) w) := by
  obtain ⟨sz, hsz⟩ : ∃ z, z = t.size := ⟨_, rfl⟩
  have HC := Lib.hid (fun W (hW : Below w.heap.size w W) => nodes2_any P t 60 W v (low_up hP hW) (ht.keep (Same.of_below hW hP)) (by omega))
  rw [← hsz] at HC ⊢
  clear hsz
  obtain ⟨ka, kn, kc, na, nn, nc, la, ln, lc, rfl, -, -, -⟩ := ht.shape
  generalize t.op = op at *
  generalize t.n = num at *
  generalize t.s = s at *
  obtain ⟨hbx, hb⟩ := boxN_new w 28 #[.int .i64 op, .int .i64 num, .string s, .slice ka kn kc, .slice na nn nc, .slice la ln lc]
  have c0 := hbx.cell 0 (.int .i64 op) rfl
  have c1 := hbx.cell 1 (.int .i64 num) rfl
  have c2 := hbx.cell 2 (.string s) rfl
  have c3 := hbx.cell 3 (.slice ka kn kc) rfl
  have c4 := hbx.cell 4 (.slice na nn nc) rfl
  have c5 := hbx.cell 5 (.slice la ln lc) rfl
  have HB := Lib.hid hb
  clear hbx hb ht hP
  go_enter Tryz.func92, Tryz.ntmps92
  go_wp2_with fail
  generalize w.alloc (.cells #[.int .i64 op, .int .i64 num, .string s, .slice ka kn kc, .slice na nn nc, .slice la ln lc] 28) = w1 at *
  refine (HC.out _ HB.out).mono ?_
  rintro e w2 ⟨⟨r, rfl, hr0, hr1, hrs⟩, hb2⟩
  have HRS := Lib.hid hrs
  clear hrs
  replace HB := Lib.hid (belowStep hb2 HB.out)
  clear hb2 c0 c1 c2 c3 c4 c5
  go_wp2
  go_ret
  exact ⟨⟨_, rfl, fun h => by have h1 := of_decide_eq_false h; have h2 := HRS.out (by omega); omega⟩, HB.out⟩
set_option maxRecDepth 100000 in
set_option maxHeartbeats 1000000 in
theorem great5_any (P : Nat → Prop) (g : List K) (ts : List Con) (w : World) (gv v : Value) (hP : ∀ b, P b → b < w.heap.size) (hg : KSl w P gv g) (ht : ConSl w P v ts) :
    Calls Tryz.prog 36 #[gv, v] w (Denies (∀ t ∈ ts, t.size ≤ 400) w) := by
  have HK := Lib.hid (greatContains_any P g w gv hP hg)
  have HT := Lib.hid (fun W (hW : Below w.heap.size w W) => containsC_any 92 (fun _ _ => rfl) (fun t => t.size ≤ 400) P ts (fun t _ W' v' h1 h2 => great4_any P t W' v' h1 h2) W v (low_up hP hW) (ht.keep (Same.of_below hW hP)))
  obtain ⟨ga, gc, rfl, -, hcm, -⟩ := hg.each
  obtain ⟨ta, tc, rfl, -⟩ := ht.each
  have hn63 : g.length ≤ 9223372036854775807 := by
    obtain ⟨a', c', e, h1, h2, -⟩ := hg.each
    injection e with e1 e2 e3
    unfold maxLen at h2; omega
  generalize g.length = n at *
  obtain ⟨pp, hpp⟩ : ∃ q : Prop, q = ∀ t ∈ ts, t.size ≤ 400 := ⟨_, rfl⟩
  rw [← hpp] at HT ⊢
  clear hpp
  generalize ts.length = m at *
  clear hg ht hP hcm
  by_cases h1 : 40 < n ∧ n ≤ 1000
  · have q1 : decide ((40 : Int) < (n : Int)) = true := decide_eq_true (by omega)
    have q2 : decide ((n : Int) ≤ 1000) = true := decide_eq_true (by omega)
    go_enter Tryz.func36, Tryz.ntmps36
    go_wp2
    go_ret
    exact ⟨⟨true, rfl, fun h => (by cases h)⟩, Below.refl _ _⟩
  by_cases h2 : 1100 < n
  · have q1 : decide ((40 : Int) < (n : Int)) = true := decide_eq_true (by omega)
    have q2 : decide ((n : Int) ≤ 1000) = false := decide_eq_false (by omega)
    have q3 : decide ((1100 : Int) < (n : Int)) = true := decide_eq_true (by omega)
    go_enter Tryz.func36, Tryz.ntmps36
    go_wp2
    go_ret
    exact ⟨⟨true, rfl, fun h => (by cases h)⟩, Below.refl _ _⟩
  have q3 : decide ((1100 : Int) < (n : Int)) = false := decide_eq_false (by omega)
  have q12 : decide ((40 : Int) < (n : Int)) = false ∨ (decide ((40 : Int) < (n : Int)) = true ∧ decide ((n : Int) ≤ 1000) = false) := by
    by_cases h : 40 < n
    · exact .inr ⟨decide_eq_true (by omega), decide_eq_false (by omega)⟩
    · exact .inl (decide_eq_false (by omega))
  rcases q12 with q1 | ⟨q1, q2⟩
  all_goals
    go_enter Tryz.func36, Tryz.ntmps36
    go_wp2_with fail
    refine HK.out.mono ?_
    rintro e w2 ⟨⟨z, rfl⟩, hb2⟩
    have HB := Lib.hid hb2
    clear hb2
    cases z
    · go_wp2_with fail
      refine (HT.out _ HB.out).mono ?_
      rintro e w3 ⟨⟨z, rfl, hz⟩, hb3⟩
      have HZ := Lib.hid hz
      clear hz
      replace HB := Lib.hid (belowStep hb3 HB.out)
      clear hb3
      go_wp2
      go_ret
      exact ⟨⟨_, rfl, HZ.out⟩, HB.out⟩
    · go_wp2
      go_ret
      exact ⟨⟨_, rfl, fun h => (by cases h)⟩, HB.out⟩
end Go.Proofs.YtpkgiemdnfbopaaGreat
namespace Go.Proofs.YtpkgiemdnfbopaaGreat
open Go Go.RowKit
open Pl (K Con KR KS kof kofs ownK inK appK)
set_option linter.unusedSimpArgs false
set_option linter.unusedVariables false

theorem step_append_own {P : Program} {w : World} {ops : Array Oper} {o : Oper} {a : Act} {K : Act → World → Prop} {Q : Exit → Act → World → Prop} {E : Prop} (hgd : o.guard = none) (s x : Operand) (t : TypeId)
    (ho : o.op = .call { callee := .builtin .append, args := #[s, x], argTypes := #[t, t] })
    (base : Nat) (e : TypeId) (i : TypeInfo) (z : Value) (size bytes : Nat) (ht : P.underlying t = some (.slice e)) (hi : P.info? e = some i) (hz : i.zero = some z)
    (hsize : i.size = size) (hby : i.bytes = bytes) (hzs : z.cells.size = size) (hsz : 0 < size)
    (v : Value) (n : Nat) (xs : List Value) (hs : a.eval s = v) (hown : w.ownsRow base e size v n xs) (oa : Option Addr) (m c : Nat) (news : List Value) (hx : a.eval x = .slice oa m c) (hnone : oa = none → m = 0 ∧ c = 0) (hl : news.length = m * size) (hnews : ∀ ad, oa = some ad → ∀ j u, news[j]? = some u → w.cell? (ad.add j) = some u) (h1 : ∀ u ∈ news, u.oneCell' = true)
    (h63 : n + m ≤ maxLen) (hbytes : (n + m) * bytes ≤ 140737488355328) (hbase : base ≤ w.heap.size)
    (h : ∀ v' w', w'.ownsRow base e size v' (n + m) (xs ++ news) → w.grownBy w' v.ownBlock → K (a.put o.dst v') w') :
    if Region.wanted o (yielded ops a.tmps) = true then Oper.wp P o a w K Q else E := by
  have hw : Region.wanted o (yielded ops a.tmps) = true := by simp [Region.wanted, hgd]
  rw [if_pos hw]
  cases oa with
  | none =>
    obtain ⟨rfl, rfl⟩ := hnone rfl
    have hn : news = [] := List.eq_nil_of_length_eq_zero (by omega)
    subst hn
    have hh := h v w (by rw [Nat.add_zero, List.append_nil]; exact hown) ⟨rfl, rfl, rfl, Nat.le_refl _, fun _ _ _ => rfl⟩
    have hrun := run_append_owned_none (P := P) (w := w) base t o.type e i size ht hi v n xs hown
    unfold Oper.wp
    simp [execOp, ho, resolve, invoke, builtin, hs, hx, hrun, Result.andThen]
    exact hh
  | some ad => exact wp_append_own w s x t ho base e i z size bytes ht hi hz hsize hby hzs hsz v n xs hs hown ad m c news hx hl (hnews ad rfl) h1 h63 hbytes hbase fun v' w' h2 h3 _ => h v' w' h2 h3
/-- an empty row, at a block of its own -/
theorem own_empty {W : World} {base B : Nat} (h : Blk W B 24 #[]) (hB : base ≤ B) : W.ownsRow base 24 1 (.slice (some ⟨B, 0, none⟩) 0 0) 0 [] :=
  ⟨rfl, .inr ⟨B, 0, #[], rfl, hB, h, Nat.le_refl _, Nat.zero_le _, rfl, rfl⟩⟩
theorem cells_keep {w W : World} {ga : Option Addr} {us : List Value} (hb : Below w.heap.size w W) (h : ∀ ad, ga = some ad → ∀ j u, us[j]? = some u → w.cell? (ad.add j) = some u) : ∀ ad, ga = some ad → ∀ j u, us[j]? = some u → W.cell? (ad.add j) = some u := fun ad had j u hu => by
  have h := h ad had j u hu
  have hlt := World.block_lt_of_cell? _ _ h
  have := hb.block (ad.add j).block hlt
  simp only [World.cell?] at h ⊢
  rw [this]
  exact h
/-- one cell, in a block of its own -/
theorem lit_keep {W W' : World} {B : Nat} {x : Value} {row : Option Nat} (h : Blk W B 24 #[x]) (hg : W.grownBy W' row) (hn : row ≠ some B) : Blk W' B 24 #[x] := h.of_eq (hg.block _ h.lt (fun e => hn e.symm))
theorem lit_news {W : World} {B : Nat} {x : Value} (h : Blk W B 24 #[x]) : ∀ ad, (some (⟨B, 0, none⟩ : Addr)) = some ad → ∀ j u, [x][j]? = some u → W.cell? (ad.add j) = some u := fun ad had => by
  injection had with had
  subst had
  exact World.news_of_block (cs := #[x]) (t := 24) (fr := (0, 0)) h
theorem below_own10 {B : Nat} {a w w' W : World} {e : TypeId} {size n : Nat} {v : Value} {xs : List Value} (h : Below B a w') (ho : W.ownsRow B e size v n xs) (hg : w'.grownBy w v.ownBlock) (hs : B ≤ w'.heap.size) : Below B a w := h.grown hg hs (fun k hk => (ho.lt k hk).1)
end Go.Proofs.YtpkgiemdnfbopaaGreat
namespace Go.Proofs.YtpkgiemdnfbopaaGreat
open Go Go.RowKit
open Pl (K Con KR KS kof kofs ownK inK appK)
set_option linter.unusedSimpArgs false
set_option linter.unusedVariables false

theorem eqv_comm (a b : K) : K.eqv a b = K.eqv b a := by
  rw [Bool.eq_iff_iff, K.eqv_iff, K.eqv_iff]
  exact ⟨Eq.symm, Eq.symm⟩
theorem pair_form {w : World} {P : Nat → Prop} {t u : K} {y : Value} (h : KV w P (.mk [t, u]) y) : ∃ a c, y = .agg #[.slice a 2 c] := by
  obtain ⟨a, c, rfl⟩ := h.form
  exact ⟨a, c, rfl⟩
/-- a pair in a box of its own, made ahead of it or behind -/
def PairAt (P : Nat → Prop) (k : K) (w2 W : World) (s : Value) : Prop := ∃ b ya yc, s = .pointer (some ⟨b, 0, none⟩) ∧ Blk W b 24 #[.slice ya 2 yc] ∧ KidV W (fun q => (P q ∨ (w2.heap.size ≤ q ∧ q < W.heap.size)) ∧ q ≠ b) k (.slice ya 2 yc) ∧ Below w2.heap.size w2 W ∧ w2.heap.size ≤ b
theorem pair1 {P : Nat → Prop} {k : K} {w2 w3 : World} {ya : Option Addr} {yc : Nat} (hP : ∀ b, P b → b < w2.heap.size) (hb : Below w2.drew.heap.size w2.drew w3) (hy : KV w3 (Ext P w2.drew w3) k (.agg #[.slice ya 2 yc])) : PairAt P k w2 (w3.alloc (.cells #[.slice ya 2 yc] 24)) (.pointer (some ⟨w3.heap.size, 0, none⟩)) := by
  have hb' : Below w2.heap.size w2 w3 := (Below.refl w2.heap.size w2).drew.trans hb
  have hs := hb'.size
  obtain ⟨h1, h2⟩ := boxN_new w3 24 #[.slice ya 2 yc]
  have hss := h2.size
  refine ⟨_, ya, yc, rfl, h1, (hy.kid.keep (Same.of_below h2 (fun q hq => ?_))).mono (fun q hq => ?_), belowStep h2 hb', hs⟩
  · rcases hq with hq | hq
    · have := hP q hq; omega
    · exact hq.2
  · rcases hq with hq | hq
    · exact ⟨.inl hq, by have := hP q hq; omega⟩
    · have h5 : w2.heap.size ≤ q := hq.1
      have h6 := hq.2
      exact ⟨.inr ⟨h5, by omega⟩, by omega⟩
theorem pair2 {P : Nat → Prop} {k : K} {w2 w3 : World} {ya : Option Addr} {yc : Nat} (hP : ∀ b, P b → b < w2.heap.size) (hb : Below (w2.alloc (.cells #[.slice none 0 0] 24)).drew.heap.size (w2.alloc (.cells #[.slice none 0 0] 24)).drew w3) (hy : KV w3 (Ext P (w2.alloc (.cells #[.slice none 0 0] 24)).drew w3) k (.agg #[.slice ya 2 yc])) : PairAt P k w2 (w3.setCell ⟨w2.heap.size, 0, none⟩ (.slice ya 2 yc)) (.pointer (some ⟨w2.heap.size, 0, none⟩)) := by
  obtain ⟨h1, h2⟩ := boxN_new w2 24 #[.slice none 0 0]
  have hb' : Below w2.heap.size w2 w3 := belowStep hb h2.drew
  have hz : Blk w3 w2.heap.size 24 #[.slice none 0 0] := (h1.drew).of_eq (hb.block _ h1.drew.lt)
  have hs := hb'.size
  refine ⟨_, ya, yc, rfl, blk_one hz, (hy.kid.keep (Same.set (w := w3) ⟨w2.heap.size, 0, none⟩ (.slice ya 2 yc) (fun q hq e => ?_))).mono (fun q hq => ?_), below_set hb' (Nat.le_refl _) _, Nat.le_refl _⟩
  · have e : q = w2.heap.size := e
    rcases hq with hq | hq
    · have := hP q hq; omega
    · have h5 : (w2.alloc (.cells #[.slice none 0 0] 24)).heap.size ≤ q := hq.1
      rw [size_alloc] at h5
      omega
  · rcases hq with hq | hq
    · exact ⟨.inl hq, by have := hP q hq; omega⟩
    · have h5 : (w2.alloc (.cells #[.slice none 0 0] 24)).heap.size ≤ q := hq.1
      rw [size_alloc] at h5
      exact ⟨.inr ⟨by omega, by rw [size_set]; exact hq.2⟩, by omega⟩
theorem none_len (t : Con) (h : Con.nodeB t = true) (ho : t.op = 3 ∨ t.op = 4 ∨ t.op = 5) : t.l.length = 0 := by
  unfold Con.nodeB at h
  simp only [Bool.and_eq_true] at h
  obtain ⟨-, hs, -⟩ := h
  unfold Con.shapeB at hs
  have hp : Con.partsOf t.op = 0 := by rcases ho with ho | ho | ho <;> rw [ho] <;> rfl
  rw [hp, if_pos (by decide), Bool.and_eq_true, decide_eq_true_eq] at hs
  omega
theorem below_drewN10 {B : Nat} {a w : World} (h : Below B a w) (n : Nat) : Below B a (w.drewN n) := ⟨h.os, h.tape, h.output, h.size, h.block⟩
theorem KidV.drew {w : World} {P : Nat → Prop} {t : K} {v : Value} (h : KidV w P t v) : KidV w.drew P t v := h.keep (show Same P w w.drew from fun _ _ => rfl)
theorem op_range (t : Con) (h : Con.nodeB t = true) : 1 ≤ t.op ∧ t.op ≤ 13 := by
  unfold Con.nodeB at h
  simp only [Bool.and_eq_true, decide_eq_true_eq] at h
  exact h.1

end Go.Proofs.YtpkgiemdnfbopaaGreat
namespace Go.Proofs.YtpkgiemdnfbopaaGreat
open Go Go.RowKit
open Pl (K Con KR KS kof kofs ownK inK appK)
set_option linter.unusedSimpArgs false
set_option linter.unusedVariables false

/-- what the reference's of answers: the place lies backwards -/
def RoP (P : Nat → Prop) (r : KR) (w : World) (e : Ending) (w' : World) : Prop :=
  (∃ a n c pv, e = .returned (.tuple #[.agg #[.slice a n c], .int .i64 r.er, pv]) ∧ KidV w' (Ext P w w') r.kd (.slice a n c) ∧ w'.ownsRow w.heap.size 3 1 pv r.pt.length (pathV r.pt.reverse)) ∧ Below w.heap.size w w'
theorem rop_bad {P : Nat → Prop} {w W : World} {R : KR} {e : Int} {k m : Nat} {p : List Nat} {pv : Value} {base : Nat} (hv : R = .bad e (k :: p)) (hb : Below w.heap.size w W) (hp : W.ownsRow base 3 1 pv (m + 1) (pathV p.reverse ++ [.int .i64 (k : Int)])) (hm : m = p.length) (hbs : w.heap.size ≤ base) :
    RoP P R w (.returned (.tuple #[.agg #[.slice none 0 0], .int .i64 e, pv])) W := by
  subst hv hm
  refine ⟨⟨none, 0, 0, pv, rfl, kidV_none _ _, ?_⟩, hb⟩
  have h := hp.mono hbs
  have e1 : pathV (k :: p).reverse = pathV p.reverse ++ [.int .i64 (k : Int)] := by
    rw [List.reverse_cons]
    unfold pathV
    rw [List.map_append]
    rfl
  show W.ownsRow w.heap.size 3 1 pv (k :: p).length (pathV (k :: p).reverse)
  rw [e1]
  exact h
theorem rop_fwd {P : Nat → Prop} {w W : World} {R r : KR} {er : Int} {g : Nat} {a : Option Addr} {n c : Nat} (hv : R = r) (her : r.er = er) (hpt : r.pt = []) (hg : w.heap.size ≤ g) (hb : Below w.heap.size w W) (hx : KidV W (Ext1 P w W g) r.kd (.slice a n c)) :
    RoP P R w (.returned (.tuple #[.agg #[.slice a n c], .int .i64 er, .slice none 0 0])) (W.setCell ⟨g, 0, none⟩ (.slice a n c)) := by
  subst hv her
  refine ⟨⟨a, n, c, _, rfl, (hx.keep (Same.set (w := W) ⟨g, 0, none⟩ (.slice a n c) (fun q hq => hq.2))).mono (fun q hq => ?_), ?_⟩, below_set hb hg _⟩
  · rcases hq.1 with hq | hq
    · exact .inl hq
    · exact .inr ⟨hq.1, by rw [size_set]; exact hq.2⟩
  · rw [hpt]; exact World.ownsRow_nil _ _ _ _
/-- what the loop holds -/
structure RI (Pin : Nat → Prop) (w3 wr : World) (t : Con) (g2 : List K) (k : Nat) (ks : List K) (us : List Value) (pv : Value) : Prop where
  len : ks.length = k
  eq : kofs g2.reverse t.l 0 = (kofs g2.reverse (t.l.drop k) k).pre ks
  val : ∀ x ∈ ks, K.valid x = true
  row : wr.ownsRow w3.heap.size 24 1 pv k us
  kids : KindRow wr (fun q => (Pin q ∨ (w3.heap.size ≤ q ∧ q < wr.heap.size)) ∧ pv.ownBlock ≠ some q) us ks
  below : Below w3.heap.size w3 wr
theorem RI.push {Pin : Nat → Prop} {w3 wr w5 w7 w8 : World} {t : Con} {g2 : List K} {k gg cap : Nat} {ks : List K} {us : List Value} {pv : Value} {x : K} {a : Option Addr} {n c : Nat} (h : RI Pin w3 wr t g2 k ks us pv) (hPin : ∀ q, Pin q → q < w3.heap.size) (hk : k < t.l.length) (hx : kof g2.reverse t.l[k] = .ok x) (hv : K.valid x = true)
    (h1 : Below wr.heap.size wr w5) (hkid : KidV w5 (Ext Pin wr w5) x (.slice a n c)) (h2 : Below w5.heap.size w5 w7) (hown : w8.ownsRow w3.heap.size 24 1 (.slice (some ⟨gg, 0, none⟩) (k + 1) cap) (k + 1) (us ++ [.slice a n c])) (hgrow : w7.grownBy w8 pv.ownBlock) (hat : pv.ownBlock = some gg ∨ gg = w7.heap.size) :
    RI Pin w3 w8 t g2 (k + 1) (ks ++ [x]) (us ++ [.slice a n c]) (.slice (some ⟨gg, 0, none⟩) (k + 1) cap) := by
  have hs0 := h.below.size
  have hs1 := h1.size
  have hs2 := h2.size
  have hs3 := World.grownBy.size hgrow
  have hold : ∀ q, pv.ownBlock = some q → w3.heap.size ≤ q ∧ q < wr.heap.size := h.row.lt
  have hsame : ∀ q, q < w7.heap.size → pv.ownBlock ≠ some q → w8.heap[q]? = w7.heap[q]? := fun q ha hb => hgrow.block q ha (fun e => hb e.symm)
  have hmono : ∀ q, ((Pin q ∨ (w3.heap.size ≤ q ∧ q < w7.heap.size)) ∧ pv.ownBlock ≠ some q) → ((Pin q ∨ (w3.heap.size ≤ q ∧ q < w8.heap.size)) ∧ (Value.slice (some ⟨gg, 0, none⟩) (k + 1) cap).ownBlock ≠ some q) := fun q hq => by
    refine ⟨?_, fun e => ?_⟩
    · rcases hq.1 with h | h
      · exact .inl h
      · exact .inr ⟨h.1, by omega⟩
    · have e : (some gg : Option Nat) = some q := e
      injection e with e
      subst e
      rcases hat with h5 | h5
      · exact hq.2 h5
      · rcases hq.1 with h | h
        · have := hPin _ h; omega
        · omega
  have hlow : ∀ q, ((Pin q ∨ (w3.heap.size ≤ q ∧ q < w7.heap.size)) ∧ pv.ownBlock ≠ some q) → q < w7.heap.size := fun q hq => by
    rcases hq.1 with h | h
    · have := hPin q h; omega
    · exact h.2
  refine ⟨by rw [List.length_append, h.len]; rfl, ?_, ?_, hown, ?_, ?_⟩
  · rw [h.eq, Pl.kofs_step _ _ _ hk, hx]
    exact Pl.KS.pre_pre ks [x] _
  · intro y hy
    rcases List.mem_append.1 hy with hy | hy
    · exact h.val y hy
    · simp at hy
      rw [hy]; exact hv
  · have k1 : KindRow w7 (fun q => (Pin q ∨ (w3.heap.size ≤ q ∧ q < w7.heap.size)) ∧ pv.ownBlock ≠ some q) us ks := by
      refine (h.kids.keep (w' := w7) (fun q hq => ?_)).mono (fun q hq => ⟨?_, hq.2⟩)
      · have hq' : q < wr.heap.size := by
          rcases hq.1 with h | h
          · have := hPin q h; omega
          · exact h.2
        exact (h2.block q (by omega)).trans (h1.block q hq')
      · rcases hq.1 with h | h
        · exact .inl h
        · exact .inr ⟨h.1, by omega⟩
    have k2 : KidV w7 (fun q => (Pin q ∨ (w3.heap.size ≤ q ∧ q < w7.heap.size)) ∧ pv.ownBlock ≠ some q) x (.slice a n c) := by
      refine (hkid.keep (w' := w7) (fun q hq => h2.block q ?_)).mono (fun q hq => ⟨?_, fun e => ?_⟩)
      · rcases hq with h | h
        · have := hPin q h; omega
        · exact h.2
      · rcases hq with h | h
        · exact .inl h
        · exact .inr ⟨by have := h.1; omega, by have := h.2; omega⟩
      · have := hold q e
        rcases hq with h | h
        · have := hPin q h; omega
        · have := h.1; omega
    exact ((k1.push k2).keep (fun q hq => hsame q (hlow q hq) hq.2)).mono hmono
  · exact (((h.below.trans (h1.mono (by omega))).trans (h2.mono (by omega))).grown hgrow (by omega) (fun q hq => (hold q hq).1))
theorem RI.row_sl {Pin : Nat → Prop} {w3 wr : World} {t : Con} {g2 : List K} {k : Nat} {ks : List K} {us : List Value} {pv : Value} (h : RI Pin w3 wr t g2 k ks us pv) : KSl wr (fun q => Pin q ∨ (w3.heap.size ≤ q ∧ q < wr.heap.size)) pv ks :=
  row_ksl h.row h.len.symm h.kids (fun b hb => hb.1) (fun b h1 h2 => .inr ⟨h1, h2⟩)

end Go.Proofs.YtpkgiemdnfbopaaGreat
namespace Go.Proofs.YtpkgiemdnfbopaaGreat
open Go Go.RowKit
open Pl (K Con KR KS kof kofs ownK inK appK)
set_option linter.unusedSimpArgs false
set_option linter.unusedVariables false

/-- a row of its own, as a slice -/
theorem row_form {w : World} {base n : Nat} {e : TypeId} {v : Value} {xs : List Value} (h : w.ownsRow base e 1 v n xs) : ∃ a c, v = .slice a n c ∧ n ≤ c ∧ c ≤ maxLen ∧ (a = none → n = 0 ∧ c = 0) ∧ ∀ (j : Nat), j < n → ∃ g, a = some ⟨g, 0, none⟩ ∧ g < w.heap.size ∧ w.cell? ⟨g, j, none⟩ = xs[j]? := by
  have hc := h
  rcases h.2 with ⟨rfl, rfl⟩ | ⟨g, cap, cu, rfl, hbg, hg, hnc, hcm, hcs, htake⟩
  · exact ⟨none, 0, rfl, Nat.le_refl _, Nat.zero_le _, fun _ => ⟨rfl, rfl⟩, fun j hj => absurd hj (Nat.not_lt_zero _)⟩
  · exact ⟨_, cap, rfl, hnc, hcm, (fun h => by cases h), fun j hj => ⟨g, rfl, (hc.lt g rfl).2, hc.cellAt j (by omega)⟩⟩
theorem pathV_at (p : List Nat) (j : Nat) (h : j < p.length) : (pathV p)[j]? = some (.int .i64 (p[j] : Int)) := by
  unfold pathV
  rw [List.getElem?_map, List.getElem?_eq_getElem h]
  rfl
set_option maxRecDepth 100000 in
theorem pathEq_any (p : List Nat) (b1 b2 n m : Nat) (w : World) (v x : Value) (h1 : w.ownsRow b1 3 1 v n (pathV p)) (h2 : w.ownsRow b2 3 1 x m (pathV p)) (hn : n = p.length) (hm : m = p.length) :
    Calls Tryz.prog 46 #[v, x] w fun e w' => e = .returned (.bool true) ∧ Below w.heap.size w w' := by
  subst hn hm
  obtain ⟨a1, c1, rfl, hc1, hm1, -, e1⟩ := row_form h1
  obtain ⟨a2, c2, rfl, hc2, hm2, -, e2⟩ := row_form h2
  by_cases h0 : p.length = 0
  · have hp : p = [] := List.eq_nil_of_length_eq_zero h0
    subst hp
    refine (Tryz.slices_Equal_int_empty a1 a2 c1 0 c2 w (by omega)).mono ?_
    rintro e w' ⟨rfl, rfl⟩
    exact ⟨rfl, Below.refl _ _⟩
  · obtain ⟨g1, rfl, -, -⟩ := e1 0 (by omega)
    obtain ⟨g2, rfl, -, -⟩ := e2 0 (by omega)
    have hx : ∀ (j : Nat) (hj : j < p.length), (p.map (fun i : Nat => (i : Int))).getD j 0 = (p[j] : Int) := by
      intro j hj
      rw [List.getD_eq_getElem?_getD, List.getElem?_map, List.getElem?_eq_getElem hj]
      rfl
    have hl : (p.map (fun i : Nat => (i : Int))).length = p.length := by simp
    have key := Tryz.slices_Equal_int g1 0 p.length c1 g2 0 p.length c2 (p.map (fun i : Nat => (i : Int))) (p.map (fun i : Nat => (i : Int))) w (by rw [hl]; exact Nat.le_refl _) (by rw [hl]; exact Nat.le_refl _) (by unfold maxLen at hm1; omega) (by unfold maxLen at hm2; omega) (fun j hj => by
      rw [hl] at hj
      obtain ⟨g, e, -, hc⟩ := e1 j hj
      injection e with e
      injection e with e
      subst e
      rw [Nat.zero_add, hc, hx j hj, pathV_at p j hj]) (fun j hj => by
      rw [hl] at hj
      obtain ⟨g, e, -, hc⟩ := e2 j hj
      injection e with e
      injection e with e
      subst e
      rw [Nat.zero_add, hc, hx j hj, pathV_at p j hj])
    refine key.mono ?_
    rintro e w' ⟨rfl, q, rfl⟩
    refine ⟨?_, below_drewN10 (Below.refl _ _) q⟩
    have : ((p.map (fun i : Nat => (i : Int))).take p.length == (p.map (fun i : Nat => (i : Int))).take p.length) = true := by simp
    rw [this]
theorem pathV_take (p : List Nat) (j : Nat) (h : j < p.length) : pathV (p.take (j + 1)) = pathV (p.take j) ++ [.int .i64 (p[j] : Int)] := by
  rw [List.take_succ_eq_append_getElem h]
  unfold pathV
  rw [List.map_append]
  rfl
end Go.Proofs.YtpkgiemdnfbopaaGreat
namespace Go.Proofs.YtpkgiemdnfbopaaGreat
open Go Go.RowKit
open Pl (K Con KR KS kof kofs ownK inK appK)
set_option linter.unusedSimpArgs false
set_option linter.unusedVariables false

def k10 (op n : Int) (l : List Con) : Con := ⟨op, n, ByteArray.empty, .mk [], [], l⟩
def exLam : Con := k10 11 0 [k10 6 0 [k10 1 0 [], k10 1 0 []]]
def exApp : Con := k10 12 0 [k10 4 0 [], k10 4 0 []]
def exArr : Con := k10 6 0 [k10 4 0 [], k10 1 0 []]
theorem ex_lam : ofOut [] exLam = .ok (K.arity 1) := by kernel_rfl
theorem ex_app : ofOut [] exApp = .bad 11 [] := by kernel_rfl
theorem ex_arr : whereOut [] exArr = ([1], 0) := by kernel_rfl
theorem conV_k10 {w : World} {P : Nat → Prop} {op n : Int} {l : List Con} {lv : Value} (h : ConSl w P lv l) : ConV w P (k10 op n l) (.agg #[.int .i64 op, .int .i64 n, .string ⟨#[]⟩, .slice none 0 0, .slice none 0 0, lv]) := by
  rw [conV_iff]
  exact ⟨Nat.zero_le _, _, _, _, rfl, kidV_none _ _, ⟨none, 0, rfl, Nat.le_refl _, Nat.zero_le _, fun _ => rfl, (fun z hz => by cases hz), .inl rfl⟩, h⟩
theorem conSl_none (w : World) (P : Nat → Prop) : ConSl w P (.slice none 0 0) [] := ⟨none, 0, rfl, Nat.le_refl _, Nat.zero_le _, fun _ => rfl, .inl rfl⟩
theorem cons_one10 {w : World} {P : Nat → Prop} {g : Nat} {t : Con} {x0 x1 x2 x3 x4 x5 : Value} (hb : Blk w g 28 #[x0, x1, x2, x3, x4, x5]) (hg : P g) (ht : ConV w P t (.agg #[x0, x1, x2, x3, x4, x5])) : ConSl w P (.slice (some ⟨g, 0, none⟩) 1 1) [t] := by
  refine ⟨_, 1, rfl, Nat.le_refl _, by unfold maxLen; omega, (fun h => by cases h), .inr ⟨g, 0, rfl, hg, ?_⟩⟩
  rw [ConsAt, ConsAt]
  exact ⟨⟨_, ⟨x0, x1, x2, x3, x4, x5, rfl, hb.cell 0 _ rfl, hb.cell 1 _ rfl, hb.cell 2 _ rfl, hb.cell 3 _ rfl, hb.cell 4 _ rfl, hb.cell 5 _ rfl⟩, ht⟩, trivial⟩
/-- two leaves side by side, newly made -/
theorem two_leaves (w : World) (o1 n1 o2 n2 : Int) : ConSl (w.alloc (.cells #[.int .i64 o1, .int .i64 n1, .string ⟨#[]⟩, .slice none 0 0, .slice none 0 0, .slice none 0 0, .int .i64 o2, .int .i64 n2, .string ⟨#[]⟩, .slice none 0 0, .slice none 0 0, .slice none 0 0] 28)) (fun q => q = w.heap.size) (.slice (some ⟨w.heap.size, 0, none⟩) 2 2) [k10 o1 n1 [], k10 o2 n2 []] :=
  cons_two (blk_new w _ _) rfl (conV_k10 (conSl_none _ _)) (conV_k10 (conSl_none _ _))
theorem lam_world (w : World) : ConV (((w.alloc (.cells #[.int .i64 1, .int .i64 0, .string ⟨#[]⟩, .slice none 0 0, .slice none 0 0, .slice none 0 0, .int .i64 1, .int .i64 0, .string ⟨#[]⟩, .slice none 0 0, .slice none 0 0, .slice none 0 0] 28)).alloc (.cells #[.int .i64 6, .int .i64 0, .string ⟨#[]⟩, .slice none 0 0, .slice none 0 0, .slice (some ⟨w.heap.size, 0, none⟩) 2 2] 28)).alloc (.cells #[.int .i64 11, .int .i64 0, .string ⟨#[]⟩, .slice none 0 0, .slice none 0 0, .slice (some ⟨w.heap.size + 1, 0, none⟩) 1 1] 28)) (fun q => q = w.heap.size ∨ q = w.heap.size + 1) exLam (.agg #[.int .i64 11, .int .i64 0, .string ⟨#[]⟩, .slice none 0 0, .slice none 0 0, .slice (some ⟨w.heap.size + 1, 0, none⟩) 1 1]) ∧ Blk (((w.alloc (.cells #[.int .i64 1, .int .i64 0, .string ⟨#[]⟩, .slice none 0 0, .slice none 0 0, .slice none 0 0, .int .i64 1, .int .i64 0, .string ⟨#[]⟩, .slice none 0 0, .slice none 0 0, .slice none 0 0] 28)).alloc (.cells #[.int .i64 6, .int .i64 0, .string ⟨#[]⟩, .slice none 0 0, .slice none 0 0, .slice (some ⟨w.heap.size, 0, none⟩) 2 2] 28)).alloc (.cells #[.int .i64 11, .int .i64 0, .string ⟨#[]⟩, .slice none 0 0, .slice none 0 0, .slice (some ⟨w.heap.size + 1, 0, none⟩) 1 1] 28)) (w.heap.size + 1 + 1) 28 #[.int .i64 11, .int .i64 0, .string ⟨#[]⟩, .slice none 0 0, .slice none 0 0, .slice (some ⟨w.heap.size + 1, 0, none⟩) 1 1] ∧ Below w.heap.size w (((w.alloc (.cells #[.int .i64 1, .int .i64 0, .string ⟨#[]⟩, .slice none 0 0, .slice none 0 0, .slice none 0 0, .int .i64 1, .int .i64 0, .string ⟨#[]⟩, .slice none 0 0, .slice none 0 0, .slice none 0 0] 28)).alloc (.cells #[.int .i64 6, .int .i64 0, .string ⟨#[]⟩, .slice none 0 0, .slice none 0 0, .slice (some ⟨w.heap.size, 0, none⟩) 2 2] 28)).alloc (.cells #[.int .i64 11, .int .i64 0, .string ⟨#[]⟩, .slice none 0 0, .slice none 0 0, .slice (some ⟨w.heap.size + 1, 0, none⟩) 1 1] 28)) := by
  have h1 := boxN_new w 28 #[.int .i64 1, .int .i64 0, .string ⟨#[]⟩, .slice none 0 0, .slice none 0 0, .slice none 0 0, .int .i64 1, .int .i64 0, .string ⟨#[]⟩, .slice none 0 0, .slice none 0 0, .slice none 0 0]
  have h2 := boxN_new (w.alloc (.cells #[.int .i64 1, .int .i64 0, .string ⟨#[]⟩, .slice none 0 0, .slice none 0 0, .slice none 0 0, .int .i64 1, .int .i64 0, .string ⟨#[]⟩, .slice none 0 0, .slice none 0 0, .slice none 0 0] 28)) 28 #[.int .i64 6, .int .i64 0, .string ⟨#[]⟩, .slice none 0 0, .slice none 0 0, .slice (some ⟨w.heap.size, 0, none⟩) 2 2]
  have h3 := boxN_new ((w.alloc (.cells #[.int .i64 1, .int .i64 0, .string ⟨#[]⟩, .slice none 0 0, .slice none 0 0, .slice none 0 0, .int .i64 1, .int .i64 0, .string ⟨#[]⟩, .slice none 0 0, .slice none 0 0, .slice none 0 0] 28)).alloc (.cells #[.int .i64 6, .int .i64 0, .string ⟨#[]⟩, .slice none 0 0, .slice none 0 0, .slice (some ⟨w.heap.size, 0, none⟩) 2 2] 28)) 28 #[.int .i64 11, .int .i64 0, .string ⟨#[]⟩, .slice none 0 0, .slice none 0 0, .slice (some ⟨w.heap.size + 1, 0, none⟩) 1 1]
  have e1 := h2.1
  have e2 := h3.1
  rw [size_alloc] at e1
  rw [size_alloc, size_alloc] at e2
  have hl := two_leaves w 1 0 1 0
  have hl3 : ConSl (((w.alloc (.cells #[.int .i64 1, .int .i64 0, .string ⟨#[]⟩, .slice none 0 0, .slice none 0 0, .slice none 0 0, .int .i64 1, .int .i64 0, .string ⟨#[]⟩, .slice none 0 0, .slice none 0 0, .slice none 0 0] 28)).alloc (.cells #[.int .i64 6, .int .i64 0, .string ⟨#[]⟩, .slice none 0 0, .slice none 0 0, .slice (some ⟨w.heap.size, 0, none⟩) 2 2] 28)).alloc (.cells #[.int .i64 11, .int .i64 0, .string ⟨#[]⟩, .slice none 0 0, .slice none 0 0, .slice (some ⟨w.heap.size + 1, 0, none⟩) 1 1] 28)) (fun q => q = w.heap.size ∨ q = w.heap.size + 1) (.slice (some ⟨w.heap.size, 0, none⟩) 2 2) [k10 1 0 [], k10 1 0 []] := ((hl.keep (Same.of_below h2.2 (fun q hq => by rw [hq, size_alloc]; omega))).keep (Same.of_below h3.2 (fun q hq => by rw [hq, size_alloc, size_alloc]; omega))).mono (fun q hq => .inl hq)
  have hb := belowStep h3.2 (belowStep h2.2 h1.2)
  exact ⟨conV_k10 (cons_one10 (e1.of_eq (h3.2.block _ e1.lt)) (.inr rfl) (conV_k10 hl3)), e2, hb⟩

set_option maxRecDepth 100000 in
set_option maxHeartbeats 2000000 in
theorem awake10 (w : World) : Calls Tryz.prog 35 #[] w fun e w' => e = .returned (.bool true) ∧ Below w.heap.size w w' := by
  obtain ⟨hc, hbx, hb⟩ := lam_world w
  have hsz : (((w.alloc (.cells #[.int .i64 1, .int .i64 0, .string ⟨#[]⟩, .slice none 0 0, .slice none 0 0, .slice none 0 0, .int .i64 1, .int .i64 0, .string ⟨#[]⟩, .slice none 0 0, .slice none 0 0, .slice none 0 0] 28)).alloc (.cells #[.int .i64 6, .int .i64 0, .string ⟨#[]⟩, .slice none 0 0, .slice none 0 0, .slice (some ⟨w.heap.size, 0, none⟩) 2 2] 28)).alloc (.cells #[.int .i64 11, .int .i64 0, .string ⟨#[]⟩, .slice none 0 0, .slice none 0 0, .slice (some ⟨w.heap.size + 1, 0, none⟩) 1 1] 28)).heap.size = w.heap.size + 3 := by rw [size_alloc, size_alloc, size_alloc]
  have HO := Lib.hid (of_any _ [] exLam (((w.alloc (.cells #[.int .i64 1, .int .i64 0, .string ⟨#[]⟩, .slice none 0 0, .slice none 0 0, .slice none 0 0, .int .i64 1, .int .i64 0, .string ⟨#[]⟩, .slice none 0 0, .slice none 0 0, .slice none 0 0] 28)).alloc (.cells #[.int .i64 6, .int .i64 0, .string ⟨#[]⟩, .slice none 0 0, .slice none 0 0, .slice (some ⟨w.heap.size, 0, none⟩) 2 2] 28)).alloc (.cells #[.int .i64 11, .int .i64 0, .string ⟨#[]⟩, .slice none 0 0, .slice none 0 0, .slice (some ⟨w.heap.size + 1, 0, none⟩) 1 1] 28)) (.slice none 0 0) _ (fun q hq => by rw [hsz]; rcases hq with hq | hq <;> omega) (kidV_none _ _) hc)
  rw [ex_lam] at HO
  have HB := Lib.hid hb
  have HSZ := Lib.hid hsz
  have c0 := hbx.cell 0 _ rfl
  have c1 := hbx.cell 1 _ rfl
  have c2 := hbx.cell 2 _ rfl
  have c3 := hbx.cell 3 _ rfl
  have c4 := hbx.cell 4 _ rfl
  have c5 := hbx.cell 5 _ rfl
  clear hc hbx hb hsz
  go_enter Tryz.func35, Tryz.ntmps35
  go_wp2_with fail
  clear c0 c1 c2 c3 c4 c5
  generalize (((w.alloc (.cells #[.int .i64 1, .int .i64 0, .string ⟨#[]⟩, .slice none 0 0, .slice none 0 0, .slice none 0 0, .int .i64 1, .int .i64 0, .string ⟨#[]⟩, .slice none 0 0, .slice none 0 0, .slice none 0 0] 28)).alloc (.cells #[.int .i64 6, .int .i64 0, .string ⟨#[]⟩, .slice none 0 0, .slice none 0 0, .slice (some ⟨w.heap.size, 0, none⟩) 2 2] 28)).alloc (.cells #[.int .i64 11, .int .i64 0, .string ⟨#[]⟩, .slice none 0 0, .slice none 0 0, .slice (some ⟨w.heap.size + 1, 0, none⟩) 1 1] 28)) = w1 at *
  refine HO.out.mono ?_
  rintro e w2 ⟨⟨ka, kn, kc, rfl, hk⟩, hb2⟩
  have qe : (KR.er (.ok (K.arity 1)) == 0) = true := rfl
  generalize KR.er (.ok (K.arity 1)) = er0 at *
  obtain rfl : er0 = 0 := by simpa using qe
  obtain ⟨hkb, hbk⟩ := boxN_new w2 24 #[.slice ka kn kc]
  have hlow : ∀ q, Ext (fun q => q = w.heap.size ∨ q = w.heap.size + 1) w1 w2 q → q < w2.heap.size := fun q hq => by
    have h1 := hb2.size
    have h2 := HSZ.out
    rcases hq with (hq | hq) | hq
    · omega
    · omega
    · exact hq.2
  have HK := Lib.hid ((hk.keep (Same.of_below hbk hlow)).mono (fun q hq => (show q < w2.heap.size from hlow q hq)))
  have HKB := Lib.hid hkb
  replace HB := Lib.hid (belowStep hbk (belowStep hb2 HB.out))
  have HLT := Lib.hid hbk.size
  clear hk hb2 HO qe hkb hbk hlow HSZ
  go_upto_region 3 with fail
  generalize w2.alloc (.cells #[.slice ka kn kc] 24) = w3 at *
  have HA := Lib.hid (show Calls Tryz.prog 87 #[.int .i64 1] w3 (ArityP 1 w3.heap.size w3) from arity_in 1 _ (by omega))
  go_wp2_with fail
  refine HA.out.mono ?_
  rintro e w4 ⟨⟨aa, an, ac, rfl, ha⟩, hb4⟩
  obtain ⟨hab, hba⟩ := boxN_new w4 24 #[.slice aa an ac]
  have hlow : ∀ q, q < w2.heap.size → q < w4.heap.size := fun q hq => by have := HLT.out; have := hb4.size; omega
  replace HK := Lib.hid (((HK.out.keep (Same.of_below hb4 (fun q hq => by have := HLT.out; omega))).keep (Same.of_below hba hlow)).mono (fun q hq => (show q < w4.heap.size from hlow q hq)))
  have HAA := Lib.hid ((ha.keep (Same.of_below hba (fun q hq => hq.2))).mono (fun q hq => (show q < w4.heap.size from hq.2)))
  replace HKB := Lib.hid ((HKB.out.of_eq (hb4.block _ HKB.out.lt)).alloc (.cells #[.slice aa an ac] 24))
  have HAB := Lib.hid hab
  replace HB := Lib.hid (belowStep hba (belowStep hb4 HB.out))
  replace HLT := Lib.hid hba.size
  clear ha hab hba hb4 HA hlow
  go_upto_region 4 with fail
  generalize w4.alloc (.cells #[.slice aa an ac] 24) = w5 at *
  have hbl := boxN_new w5 28 #[.int .i64 4, .int .i64 0, .string ⟨#[]⟩, .slice none 0 0, .slice none 0 0, .slice none 0 0, .int .i64 4, .int .i64 0, .string ⟨#[]⟩, .slice none 0 0, .slice none 0 0, .slice none 0 0]
  have HO2 := Lib.hid (of_any (fun q => q = w5.heap.size) [] exApp (w5.alloc (.cells #[.int .i64 4, .int .i64 0, .string ⟨#[]⟩, .slice none 0 0, .slice none 0 0, .slice none 0 0, .int .i64 4, .int .i64 0, .string ⟨#[]⟩, .slice none 0 0, .slice none 0 0, .slice none 0 0] 28)) (.slice none 0 0) _ (fun q hq => by rw [hq, size_alloc]; omega) (kidV_none _ _) (conV_k10 (two_leaves w5 4 0 4 0)))
  rw [ex_app] at HO2
  have HBL := Lib.hid hbl.2
  clear hbl
  go_wp2_with fail
  generalize w5.alloc (.cells #[.int .i64 4, .int .i64 0, .string ⟨#[]⟩, .slice none 0 0, .slice none 0 0, .slice none 0 0, .int .i64 4, .int .i64 0, .string ⟨#[]⟩, .slice none 0 0, .slice none 0 0, .slice none 0 0] 28) = w6 at *
  refine HO2.out.mono ?_
  rintro e w7 ⟨⟨ra, rn, rc, rfl, -⟩, hb7⟩
  have qe : (KR.er (.bad 11 []) == 11) = true := rfl
  generalize KR.er (.bad 11 []) = er1 at *
  obtain rfl : er1 = 11 := by simpa using qe
  have h8 := (boxN_new w7 24 #[.slice ra rn rc]).2
  have hbb : Below w5.heap.size w5 (w7.alloc (.cells #[.slice ra rn rc] 24)) := belowStep h8 (belowStep hb7 HBL.out)
  replace HK := Lib.hid (HK.out.keep (Same.of_below hbb (fun q hq => Nat.lt_of_lt_of_le hq HLT.out)))
  replace HAA := Lib.hid (HAA.out.keep (Same.of_below hbb (fun q hq => Nat.lt_of_lt_of_le hq HLT.out)))
  replace HKB := Lib.hid (HKB.out.of_eq (hbb.block _ HKB.out.lt))
  replace HAB := Lib.hid (HAB.out.of_eq (hbb.block _ HAB.out.lt))
  replace HB := Lib.hid (belowStep hbb HB.out)
  replace HLT := Lib.hid (Nat.le_trans HLT.out hbb.size)
  clear hb7 qe h8 hbb HO2 HBL
  go_upto_region 5 with fail
  generalize w7.alloc (.cells #[.slice ra rn rc] 24) = w8 at *
  have hbl := boxN_new w8 28 #[.int .i64 4, .int .i64 0, .string ⟨#[]⟩, .slice none 0 0, .slice none 0 0, .slice none 0 0, .int .i64 1, .int .i64 0, .string ⟨#[]⟩, .slice none 0 0, .slice none 0 0, .slice none 0 0]
  have HO3 := Lib.hid (where_any (fun q => q = w8.heap.size) [] exArr (w8.alloc (.cells #[.int .i64 4, .int .i64 0, .string ⟨#[]⟩, .slice none 0 0, .slice none 0 0, .slice none 0 0, .int .i64 1, .int .i64 0, .string ⟨#[]⟩, .slice none 0 0, .slice none 0 0, .slice none 0 0] 28)) (.slice none 0 0) _ (fun q hq => by rw [hq, size_alloc]; omega) (kidV_none _ _) (conV_k10 (two_leaves w8 4 0 1 0)))
  rw [ex_arr] at HO3
  have HBL := Lib.hid hbl.2
  clear hbl
  go_wp2_with fail
  generalize w8.alloc (.cells #[.int .i64 4, .int .i64 0, .string ⟨#[]⟩, .slice none 0 0, .slice none 0 0, .slice none 0 0, .int .i64 1, .int .i64 0, .string ⟨#[]⟩, .slice none 0 0, .slice none 0 0, .slice none 0 0] 28) = w9 at *
  refine HO3.out.mono ?_
  rintro e wa ⟨⟨pv, rfl, hp⟩, hba⟩
  have hbb := belowStep hba HBL.out
  replace HK := Lib.hid (HK.out.keep (Same.of_below hbb (fun q hq => Nat.lt_of_lt_of_le hq HLT.out)))
  replace HAA := Lib.hid (HAA.out.keep (Same.of_below hbb (fun q hq => Nat.lt_of_lt_of_le hq HLT.out)))
  replace HKB := Lib.hid (HKB.out.of_eq (hbb.block _ HKB.out.lt))
  replace HAB := Lib.hid (HAB.out.of_eq (hbb.block _ HAB.out.lt))
  replace HB := Lib.hid (belowStep hbb HB.out)
  have hlt : w4.heap.size ≤ wa.heap.size := Nat.le_trans HLT.out hbb.size
  have HSK := Lib.hid (rsameK_any (· < w4.heap.size) (· < w4.heap.size) (K.arity 1) (K.arity 1) wa (.agg #[.slice ka kn kc]) (.agg #[.slice aa an ac]) (fun q hq => Nat.lt_of_lt_of_le hq hlt) (fun q hq => Nat.lt_of_lt_of_le hq hlt) ⟨_, rfl, HK.out⟩ ⟨_, rfl, HAA.out⟩)
  have hp : wa.ownsRow w9.heap.size 3 1 pv 1 (pathV [1]) := hp
  have HP := Lib.hid hp
  have e1 := HKB.out.cell 0 (.slice ka kn kc) rfl
  have e2 := HAB.out.cell 0 (.slice aa an ac) rfl
  clear hba hbb hp hlt HO3 HBL HK HAA
  go_wp2_with fail
  clear e1 e2
  refine HSK.out.mono ?_
  rintro e wb ⟨rfl, hbb⟩
  have qk : K.eqv (K.arity 1) (K.arity 1) = true := (K.eqv_iff _ _).2 rfl
  rw [qk]
  have hp := HP.out.kept (row := none) ⟨hbb.os, hbb.tape, hbb.output, hbb.size, fun i hi _ => hbb.block i hi⟩ (by cases ho : pv.ownBlock with | none => exact .inl rfl | some k => exact .inr (by simp))
  have hlit := boxN_new wb 3 #[.int .i64 1]
  have HQ := Lib.hid (pathEq_any [1] w9.heap.size wb.heap.size 1 1 _ pv (.slice (some ⟨wb.heap.size, 0, none⟩) 1 1) (hp.alloc (.cells #[.int .i64 1] 3)) (World.ownsRow_lit (e := 3) (base := wb.heap.size) (size := 1) wb #[.int .i64 1] 1 (Nat.le_refl _) (by unfold maxLen; omega) rfl) rfl rfl)
  replace HB := Lib.hid (belowStep hlit.2 (belowStep hbb HB.out))
  clear hp hlit hbb HP HKB HAB HLT qk HSK
  go_wp2_with fail
  refine HQ.out.mono ?_
  rintro e wc ⟨rfl, hbc⟩
  replace HB := Lib.hid (belowStep hbc HB.out)
  clear hbc
  go_wp2
  go_ret
  exact ⟨rfl, HB.out⟩
end Go.Proofs.YtpkgiemdnfbopaaGreat
namespace Go.Proofs.YtpkgiemdnfbopaaGreat
open Go Go.RowKit
open Pl (K Con KR KS kof kofs ownK inK appK)
set_option linter.unusedSimpArgs false
set_option linter.unusedVariables false

/-- six cells are written -/
def put6x (cur : Array Value) (o : Nat) (x0 x1 x2 x3 x4 x5 : Value) : Array Value := (((((cur.setIfInBounds o x0).setIfInBounds (o + 1) x1).setIfInBounds (o + 2) x2).setIfInBounds (o + 3) x3).setIfInBounds (o + 4) x4).setIfInBounds (o + 5) x5
def store6x (w : World) (g o : Nat) (x0 x1 x2 x3 x4 x5 : Value) : World := (((((w.setCell ⟨g, o, none⟩ x0).setCell ⟨g, o + 1, none⟩ x1).setCell ⟨g, o + 2, none⟩ x2).setCell ⟨g, o + 3, none⟩ x3).setCell ⟨g, o + 4, none⟩ x4).setCell ⟨g, o + 5, none⟩ x5
theorem store6x_blk {w : World} {g : Nat} {T : TypeId} {cur : Array Value} (h : Blk w g T cur) (o : Nat) (x0 x1 x2 x3 x4 x5 : Value) : Blk (store6x w g o x0 x1 x2 x3 x4 x5) g T (put6x cur o x0 x1 x2 x3 x4 x5) :=
  (((((h.set o x0).set (o + 1) x1).set (o + 2) x2).set (o + 3) x3).set (o + 4) x4).set (o + 5) x5
theorem store6x_size (w : World) (g o : Nat) (x0 x1 x2 x3 x4 x5 : Value) : (store6x w g o x0 x1 x2 x3 x4 x5).heap.size = w.heap.size := by
  unfold store6x
  rw [size_set, size_set, size_set, size_set, size_set, size_set]
theorem store6x_other (w : World) (g o : Nat) (x0 x1 x2 x3 x4 x5 : Value) (b : Nat) (h : b ≠ g) : (store6x w g o x0 x1 x2 x3 x4 x5).heap[b]? = w.heap[b]? := by
  unfold store6x
  rw [Below.heap_setCell _ _ _ _ h, Below.heap_setCell _ _ _ _ h, Below.heap_setCell _ _ _ _ h, Below.heap_setCell _ _ _ _ h, Below.heap_setCell _ _ _ _ h, Below.heap_setCell _ _ _ _ h]
theorem store6x_only {G : Nat} {a w : World} (h : Only G a w) (g o : Nat) (x0 x1 x2 x3 x4 x5 : Value) (hg : g = G ∨ a.heap.size ≤ g) : Only G a (store6x w g o x0 x1 x2 x3 x4 x5) :=
  (((((h.setCell (p := ⟨g, o, none⟩) hg x0).setCell (p := ⟨g, o + 1, none⟩) hg x1).setCell (p := ⟨g, o + 2, none⟩) hg x2).setCell (p := ⟨g, o + 3, none⟩) hg x3).setCell (p := ⟨g, o + 4, none⟩) hg x4).setCell (p := ⟨g, o + 5, none⟩) hg x5
theorem store6x_below {B : Nat} {a w : World} (h : Below B a w) (g o : Nat) (x0 x1 x2 x3 x4 x5 : Value) (hB : B ≤ g) : Below B a (store6x w g o x0 x1 x2 x3 x4 x5) :=
  (((((h.setCell (p := ⟨g, o, none⟩) hB x0).setCell (p := ⟨g, o + 1, none⟩) hB x1).setCell (p := ⟨g, o + 2, none⟩) hB x2).setCell (p := ⟨g, o + 3, none⟩) hB x3).setCell (p := ⟨g, o + 4, none⟩) hB x4).setCell (p := ⟨g, o + 5, none⟩) hB x5
theorem put6x_all (y0 y1 y2 y3 y4 y5 x0 x1 x2 x3 x4 x5 : Value) : put6x #[y0, y1, y2, y3, y4, y5] 0 x0 x1 x2 x3 x4 x5 = #[x0, x1, x2, x3, x4, x5] := by simp [put6x]
theorem idxF_any (f : Nat) (cap : Array Value) (hen : ∀ (W : World) (args : Array Value), Sem.run Tryz.prog (callFunc f args) W = .ok (.enter f args) W) (w : World)
    (P : Nat → Prop) (l : List Con) (hk : ∀ t ∈ l, ∀ (W : World) (v : Value), Below w.heap.size w W → ConV W P t v → Calls Tryz.prog f (#[v] ++ cap) W fun e w' => e = .returned (.bool false) ∧ Below W.heap.size W w')
    (v : Value) (hP : ∀ b, P b → b < w.heap.size) (hl : ConSl w P v l) :
    Calls Tryz.prog 104 #[v, .func (.func f) #[] cap] w fun e w' => e = .returned (.int .i64 (-1)) ∧ Below w.heap.size w w' := by
  have HKK := Lib.hid hk
  have HP := Lib.hid hP
  have HSL := Lib.hid (fun W (hW : Below w.heap.size w W) => hl.keep (Same.of_below hW hP))
  obtain ⟨la, lc, rfl, hlc, hcm, -⟩ := hl.each
  obtain ⟨n, hn⟩ : ∃ n, n = l.length := ⟨_, rfl⟩
  have HN := Lib.hid hn
  rw [← hn] at HSL ⊢
  have hn63 : n ≤ 9223372036854775807 := by unfold maxLen at hcm; omega
  clear hl hn hcm hlc hP hk
  go_enter Tryz.func104, Tryz.ntmps104
  go_wp2_with fail
  go_loopg [8] (n + 1) (fun g i wr => ∃ k : Nat, k ≤ n ∧ i = .int .i64 k ∧ g = n + 1 - k ∧ Below w.heap.size w wr)
  case atStart => exact ⟨0, by omega, rfl, by omega, Below.refl _ _⟩
  case round =>
    obtain ⟨k, hk, rfl, hg, hbw⟩ := hrel
    have HBW := Lib.hid hbw
    by_cases hlt : k < n
    · have q5 : decide ((k : Int) < (n : Int)) = true := decide_eq_true (by omega)
      have hkl : k < l.length := by rw [← HN.out]; exact hlt
      obtain ⟨b, off, c', xa, xn, xc, ya, yn, yc, za, zn, zc, e, -, f0, f1, f2, f3, f4, f5, hx⟩ := (HSL.out wr hbw).part k hkl
      injection e with e1 e2 e3
      subst e1 e3
      clear e2
      have HC := Lib.hid (HKK.out _ (List.getElem_mem hkl) wr _ hbw hx)
      generalize l[k] = x at *
      clear hbw hx
      go_wp2_with fail
      refine HC.out.mono ?_
      rintro e w3 ⟨rfl, hb3⟩
      have HB3 := Lib.hid (belowStep hb3 HBW.out)
      clear hb3 f0 f1 f2 f3 f4 f5
      go_wp2
      go_roundg (gk - 1)
      case measure => omega
      case rel => exact ⟨k + 1, by omega, by go_num, by omega, HB3.out⟩
    · have q5 : decide ((k : Int) < (n : Int)) = false := decide_eq_false (by omega)
      clear hbw
      go_wp2
      go_ret
      exact ⟨rfl, HBW.out⟩
theorem containsF_any (f : Nat) (cap : Array Value) (hen : ∀ (W : World) (args : Array Value), Sem.run Tryz.prog (callFunc f args) W = .ok (.enter f args) W) (w : World)
    (P : Nat → Prop) (l : List Con) (hk : ∀ t ∈ l, ∀ (W : World) (v : Value), Below w.heap.size w W → ConV W P t v → Calls Tryz.prog f (#[v] ++ cap) W fun e w' => e = .returned (.bool false) ∧ Below W.heap.size W w')
    (v : Value) (hP : ∀ b, P b → b < w.heap.size) (hl : ConSl w P v l) :
    Calls Tryz.prog 47 #[v, .func (.func f) #[] cap] w fun e w' => e = .returned (.bool false) ∧ Below w.heap.size w w' := by
  have HC := Lib.hid (idxF_any f cap hen w P l hk v hP hl)
  obtain ⟨a, c, rfl, -⟩ := hl.each
  clear hl hP hk hen
  generalize l.length = n at *
  go_enter Tryz.func47, Tryz.ntmps47
  go_wp2_with fail
  refine HC.out.mono ?_
  rintro e w2 ⟨rfl, hb2⟩
  have HB := Lib.hid hb2
  clear hb2
  go_wp2
  go_ret
  exact ⟨rfl, HB.out⟩
/-- a row of its own that holds these kinds -/
def ClP (P : Nat → Prop) (l : List K) (n : Nat) (w : World) (e : Ending) (w' : World) : Prop := (∃ v' us, e = .returned v' ∧ w'.ownsRow w.heap.size 24 1 v' n us ∧ KindRow w' P us l) ∧ Below w.heap.size w w'
set_option maxRecDepth 100000 in
set_option maxHeartbeats 1000000 in
theorem kclone_any (P : Nat → Prop) (l : List K) (w : World) (v : Value) (hP : ∀ b, P b → b < w.heap.size) (h : KSl w P v l) (hbig : l.length ≤ 100000) :
    Calls Tryz.prog 37 #[v] w (ClP P l l.length w) := by
  obtain ⟨i28, hi0, hz0, hz1, hz2⟩ := info3 infoKind
  have HB := Lib.hid (show Below w.heap.size w (w.alloc (.cells #[] 24)) from (Below.refl _ _).alloc (Nat.le_refl _) _)
  have HO := Lib.hid (own_empty (base := w.heap.size) (blk_new w #[] 24) (Nat.le_refl _))
  obtain ⟨a, c, rfl, -⟩ := h.each
  obtain ⟨n, hn⟩ : ∃ n, n = l.length := ⟨_, rfl⟩
  rw [← hn] at h hbig ⊢
  obtain ⟨-, hnc, hcm, hnone, us, hul, hcells, hone, hrow⟩ := kinds_us h
  have HROW := Lib.hid hrow
  have HP := Lib.hid hP
  have HN := Lib.hid hn
  have HONE := Lib.hid hone
  cases a with
  | none =>
    obtain ⟨rfl, rfl⟩ := hnone rfl
    obtain rfl : us = [] := List.eq_nil_of_length_eq_zero hul
    have he : ∀ W : World, (binOp .eql 22 (.slice none 0 0) (.slice none 0 0)).run Tryz.prog W = .ok (.bool true) W := fun _ => rfl
    clear h hP hn hrow hcells hone
    go_enter Tryz.func37, Tryz.ntmps37
    go_wp2
    go_ret
    exact ⟨⟨_, [], rfl, World.ownsRow_nil _ _ _ _, HROW.out⟩, Below.refl _ _⟩
  | some ad =>
    have he : ∀ W : World, (binOp .eql 22 (.slice (some ad) n c) (.slice none 0 0)).run Tryz.prog W = .ok (.bool false) W := fun _ => rfl
    have HCL := Lib.hid (cells_keep HB.out hcells)
    clear h hP hn hrow hcells hone hnone
    go_enter Tryz.func37, Tryz.ntmps37
    go_wp2_with (at_builtin; refine wpList_append_own _ rfl _ _ 22 rfl w.heap.size 24 i28 (.agg #[.slice none 0 0]) 1 24 Tryz.underlying22 hi0 hz0 hz1 hz2 rfl (by decide) _ 0 [] rfl HO.out ad n c us rfl ?c0 ?c1 ?c2 ?c3 ?c4 ?c5 ?_)
    case c0 => rw [hul, Nat.mul_one]
    case c1 => exact HCL.out ad rfl
    case c2 => exact HONE.out
    case c3 => unfold maxLen; omega
    case c4 => omega
    case c5 => exact HB.out.size
    intro v' w1 hown hgrow _
    have HB1 := Lib.hid (HB.out.grown hgrow HB.out.size (fun j hj => (HO.out.lt j hj).1))
    have HO1 := Lib.hid (show w1.ownsRow w.heap.size 24 1 v' n us from by simpa using hown)
    clear hown hgrow
    go_wp2
    go_ret
    exact ⟨⟨v', us, rfl, HO1.out, HROW.out.keep (Same.of_below HB1.out HP.out)⟩, HB1.out⟩
end Go.Proofs.YtpkgiemdnfbopaaGreat
