/-
  Several texts in one (Rv Rw Rx Ya Yb Ta Tb Yd Ye Sc Vo).
-/
import Derived.Test.YtmjiocpcenbndaaGreatDoorMGc
import Derived.Test.YtmjiocpcenbndaaGreatDoorShelf
import Derived.Sort.OwnSortedInts
import Derived.Lib.OwnBridge
import Derived.Lib.RowBridge
import Derived.OwnWalkIn
import Derived.Test.YtmjiocpcenbndaaGreatDoorMGa
import Derived.Test.YtmjiocpcenbndaaGreatDoorMGb
import Derived.Laws.BytesString
import Derived.Laws.IdiomStrings
import Derived.Deep.RegionHeld3
import Derived.Deep.AppendLies
namespace Go.Proofs.YtmjiocpcenbndaaGreatDoor
open Go Go.RowKit
open Pl (K Con)
set_option linter.unusedSimpArgs false
set_option linter.unusedVariables false

/-- a substitution is a change -/
theorem sub_change (N G g1 g2 : Nat) (l : List Con) (xv : Value) (w : World) (hN : N ≤ G) (hgl : G < w.heap.size) (hs : SubBoxes w g1 g2 G xv) (h1 : g1 ≠ G) (h2 : g2 ≠ G) (hl : ConSl w (· < N) xv l) (hla : ∀ y ∈ l, Con.allB y = true) (hln : l.length ≤ 1000) :
    ChangeOk N G 49 #[.pointer (some ⟨g1, 0, none⟩), .pointer (some ⟨g2, 0, none⟩)] (suF l) w :=
  ⟨fun _ _ => by kernel_rfl, fun W t v b2 d L hW hg h0 h1' hb0 hbd hd0 hd1 hlf ha ht => subF_any N G g1 g2 l xv t b2 d L W v hN ⟨hW.blk hs.lst h1, hW.blk hs.bld h2⟩ h1 h2 (hl.keep (Same.of_only hW (fun q (hq : q < N) => ⟨by omega, by omega⟩))) hla hln hg ht ha hlf h0 h1' hb0 hbd hd0 hd1⟩
set_option maxRecDepth 100000 in
set_option maxHeartbeats 4000000 in
theorem csubst_own (t : Con) (l : List Con) (w : World) (v xv : Value) (ht : ConV w (· < w.heap.size) t v) (hl : ConSl w (· < w.heap.size) xv l) :
    Calls Tryz.prog 27 #[v, xv] w (OutO (substOut t l) w) := by
  have HV := Lib.hid (fun W (hW : Below w.heap.size w W) => cvalid_any (· < w.heap.size) t W v (fun q hq => Nat.lt_of_lt_of_le hq hW.size) (ht.keep (Same.of_below hW (fun _ h => h))))
  have HALL := Lib.hid (fun W (hW : Below w.heap.size w W) => allC_any 32 (fun _ _ => by kernel_rfl) Con.validB (· < w.heap.size) l (fun t _ W v h1 h2 => cvalid_any (· < w.heap.size) t W v h1 h2) W xv (fun q hq => Nat.lt_of_lt_of_le hq hW.size) (hl.keep (Same.of_below hW (fun _ h => h))))
  have HO := Lib.hid (substOut_eq t l)
  have HR := Lib.hid (fun (wb : World) (G g1 g2 : Nat) (hG : w.heap.size ≤ G) (hv : Con.validB t = true) (hlv : l.all Con.validB = true) (hln : l.length ≤ 1000) (hw : Below w.heap.size w wb) (hbl : Blk wb G 94 #[.int .i64 20000]) (hs : SubBoxes wb g1 g2 G xv) (h1 : g1 ≠ G) (h2 : g2 ≠ G) =>
    result_any w.heap.size G _ _ (suF l) wb (sub_change w.heap.size G g1 g2 l xv wb hG hbl.lt hs h1 h2 (hl.keep (Same.of_below hw (fun _ h => h))) (fun y hy => valid_all y (List.all_eq_true.1 hlv y hy)) hln) hG t v (valid_all t hv) hbl (ht.keep (Same.of_below hw (fun _ h => h))))
  obtain ⟨ka, kn, kc, na, nn, nc, la, ln, lc, rfl, -, -, -⟩ := ht.shape
  obtain ⟨sa, lc9, rfl, hmn, hmx, -⟩ := hl.each
  obtain ⟨n, hn⟩ : ∃ n, n = l.length := ⟨_, rfl⟩
  have HN := Lib.hid hn
  rw [← hn] at HALL HR HO hmn ⊢
  have hn63 : n ≤ 9223372036854775807 := by unfold maxLen at hmx; omega
  have hb1 := boxN_new w 28 #[.int .i64 t.op, .int .i64 t.n, .string t.s, .slice ka kn kc, .slice na nn nc, .slice la ln lc]
  have hb2 := boxN_new (w.alloc (.cells #[.int .i64 t.op, .int .i64 t.n, .string t.s, .slice ka kn kc, .slice na nn nc, .slice la ln lc] 28)) 26 #[.slice sa n lc9]
  have hb3 := boxN_new ((w.alloc (.cells #[.int .i64 t.op, .int .i64 t.n, .string t.s, .slice ka kn kc, .slice na nn nc, .slice la ln lc] 28)).alloc (.cells #[.slice sa n lc9] 26)) 28 #[.int .i64 0, .int .i64 0, .string ⟨#[]⟩, .slice none 0 0, .slice none 0 0, .slice none 0 0]
  have k1 := (hb1.1.alloc (.cells #[.slice sa n lc9] 26)).alloc (.cells #[.int .i64 0, .int .i64 0, .string ⟨#[]⟩, .slice none 0 0, .slice none 0 0, .slice none 0 0] 28)
  have k2 := hb2.1.alloc (.cells #[.int .i64 0, .int .i64 0, .string ⟨#[]⟩, .slice none 0 0, .slice none 0 0, .slice none 0 0] 28)
  have k3 := hb3.1
  have hbb := belowStep hb3.2 (belowStep hb2.2 hb1.2)
  rw [size_alloc] at k2
  rw [size_alloc, size_alloc] at k3
  have HBX := Lib.hid k1
  have HBL := Lib.hid k2
  have HZ := Lib.hid k3
  have HB := Lib.hid hbb
  have c0 := k1.cell 0 (.int .i64 t.op) rfl
  have c1 := k1.cell 1 (.int .i64 t.n) rfl
  have c2 := k1.cell 2 (.string t.s) rfl
  have c3 := k1.cell 3 (.slice ka kn kc) rfl
  have c4 := k1.cell 4 (.slice na nn nc) rfl
  have c5 := k1.cell 5 (.slice la ln lc) rfl
  clear hb1 hb2 hb3 k1 k2 k3 hbb ht hl hmx hmn hn
  go_enter Tryz.func27, Tryz.ntmps27
  go_wp2_with fail
  clear c0 c1 c2 c3 c4 c5
  generalize (((w.alloc (.cells #[.int .i64 t.op, .int .i64 t.n, .string t.s, .slice ka kn kc, .slice na nn nc, .slice la ln lc] 28)).alloc (.cells #[.slice sa n lc9] 26)).alloc (.cells #[.int .i64 0, .int .i64 0, .string ⟨#[]⟩, .slice none 0 0, .slice none 0 0, .slice none 0 0] 28)) = w1 at *
  refine (HV.out _ HB.out).mono ?_
  rintro e w2 ⟨rfl, h2⟩
  replace HB := Lib.hid (belowStep h2 HB.out)
  replace HBX := Lib.hid (HBX.out.of_eq (h2.block _ HBX.out.lt))
  replace HBL := Lib.hid (HBL.out.of_eq (h2.block _ HBL.out.lt))
  replace HZ := Lib.hid (HZ.out.of_eq (h2.block _ HZ.out.lt))
  clear h2
  cases hv : Con.validB t
  · clear HR
    have HO2 := Lib.hid (show substOut t l = (Con.none0, 1) from by rw [HO.out, if_neg (by rw [hv]; simp)])
    have hzz := HZ.out
    have hz := store6_blk hzz 0 (.int .i64 0) (.int .i64 0) (.string ⟨#[]⟩) (.slice none 0 0) (.slice none 0 0) (.slice none 0 0)
    rw [put6_all] at hz
    have HE := Lib.hid (show OutO (substOut t l) w (.returned (.tuple #[.agg #[.int .i64 0, .int .i64 0, .string ⟨#[]⟩, .slice none 0 0, .slice none 0 0, .slice none 0 0], .int .i64 1])) (store6 w2 (w.heap.size + 1 + 1) 0 (.int .i64 0) (.int .i64 0) (.string ⟨#[]⟩) (.slice none 0 0) (.slice none 0 0) (.slice none 0 0)) from ⟨⟨_, by rw [HO2.out], by rw [HO2.out]; exact ownC_none _ _⟩, store6_below HB.out _ _ _ _ _ _ _ _ (by omega)⟩)
    unfold store6 at hz HE
    simp only [Nat.zero_add] at hz HE
    have z0 := hz.cell 0 (.int .i64 0) rfl
    have z1 := hz.cell 1 (.int .i64 0) rfl
    have z2 := hz.cell 2 (.string ⟨#[]⟩) rfl
    have z3 := hz.cell 3 (.slice none 0 0) rfl
    have z4 := hz.cell 4 (.slice none 0 0) rfl
    have z5 := hz.cell 5 (.slice none 0 0) rfl
    have r0 := hzz.cell 0 (.int .i64 0) rfl
    have r1 := hzz.cell 1 (.int .i64 0) rfl
    have r2 := hzz.cell 2 (.string ⟨#[]⟩) rfl
    have r3 := hzz.cell 3 (.slice none 0 0) rfl
    have r4 := hzz.cell 4 (.slice none 0 0) rfl
    have r5 := hzz.cell 5 (.slice none 0 0) rfl
    have t0 := hzz.thaw 0
    have t1 := hzz.thaw 1
    have t2 := hzz.thaw 2
    have t3 := hzz.thaw 3
    have t4 := hzz.thaw 4
    have t5 := hzz.thaw 5
    clear hz hzz HV HALL HO HBX HZ HO2
    go_wp2
    refine bodyPost_ret (v := .tuple #[.agg #[.int .i64 0, .int .i64 0, .string ⟨#[]⟩, .slice none 0 0, .slice none 0 0, .slice none 0 0], .int .i64 1]) (by simp [results, Tryz.results27, go_sem, z0, z1, z2, z3, z4, z5]) rfl ?_
    exact HE.out
  have HVT := Lib.hid hv
  rw [hv] at HV
  clear hv
  have x0 := HBL.out.cell 0 (.slice sa n lc9) rfl
  go_wp2_with fail
  clear x0
  refine (HALL.out _ HB.out).mono ?_
  rintro e w3 ⟨rfl, h3⟩
  replace HB := Lib.hid (belowStep h3 HB.out)
  replace HBX := Lib.hid (HBX.out.of_eq (h3.block _ HBX.out.lt))
  replace HBL := Lib.hid (HBL.out.of_eq (h3.block _ HBL.out.lt))
  replace HZ := Lib.hid (HZ.out.of_eq (h3.block _ HZ.out.lt))
  clear h3
  cases hlv : l.all Con.validB
  · clear HR
    have HO2 := Lib.hid (show substOut t l = (Con.none0, 1) from by rw [HO.out, if_neg (by rw [hlv]; simp)])
    have hzz := HZ.out
    have hz := store6_blk hzz 0 (.int .i64 0) (.int .i64 0) (.string ⟨#[]⟩) (.slice none 0 0) (.slice none 0 0) (.slice none 0 0)
    rw [put6_all] at hz
    have HE := Lib.hid (show OutO (substOut t l) w (.returned (.tuple #[.agg #[.int .i64 0, .int .i64 0, .string ⟨#[]⟩, .slice none 0 0, .slice none 0 0, .slice none 0 0], .int .i64 1])) (store6 w3 (w.heap.size + 1 + 1) 0 (.int .i64 0) (.int .i64 0) (.string ⟨#[]⟩) (.slice none 0 0) (.slice none 0 0) (.slice none 0 0)) from ⟨⟨_, by rw [HO2.out], by rw [HO2.out]; exact ownC_none _ _⟩, store6_below HB.out _ _ _ _ _ _ _ _ (by omega)⟩)
    unfold store6 at hz HE
    simp only [Nat.zero_add] at hz HE
    have z0 := hz.cell 0 (.int .i64 0) rfl
    have z1 := hz.cell 1 (.int .i64 0) rfl
    have z2 := hz.cell 2 (.string ⟨#[]⟩) rfl
    have z3 := hz.cell 3 (.slice none 0 0) rfl
    have z4 := hz.cell 4 (.slice none 0 0) rfl
    have z5 := hz.cell 5 (.slice none 0 0) rfl
    have r0 := hzz.cell 0 (.int .i64 0) rfl
    have r1 := hzz.cell 1 (.int .i64 0) rfl
    have r2 := hzz.cell 2 (.string ⟨#[]⟩) rfl
    have r3 := hzz.cell 3 (.slice none 0 0) rfl
    have r4 := hzz.cell 4 (.slice none 0 0) rfl
    have r5 := hzz.cell 5 (.slice none 0 0) rfl
    have t0 := hzz.thaw 0
    have t1 := hzz.thaw 1
    have t2 := hzz.thaw 2
    have t3 := hzz.thaw 3
    have t4 := hzz.thaw 4
    have t5 := hzz.thaw 5
    clear hz hzz HV HALL HO HBX HZ HO2
    go_wp2
    refine bodyPost_ret (v := .tuple #[.agg #[.int .i64 0, .int .i64 0, .string ⟨#[]⟩, .slice none 0 0, .slice none 0 0, .slice none 0 0], .int .i64 1]) (by simp [results, Tryz.results27, go_sem, z0, z1, z2, z3, z4, z5]) rfl ?_
    exact HE.out
  have HLV := Lib.hid hlv
  rw [hlv] at HALL
  have x0 := HBL.out.cell 0 (.slice sa n lc9) rfl
  cases q1 : decide ((1000 : Int) < (n : Int))
  rotate_left
  · clear HR
    have HLN := Lib.hid (show 1000 < n from by have := of_decide_eq_true q1; omega)
    have HO2 := Lib.hid (show substOut t l = (Con.none0, 5) from by rw [HO.out, if_pos (by rw [HVT.out, HLV.out]; rfl), if_pos HLN.out])
    have hzz := HZ.out
    have hz := store6_blk hzz 0 (.int .i64 0) (.int .i64 0) (.string ⟨#[]⟩) (.slice none 0 0) (.slice none 0 0) (.slice none 0 0)
    rw [put6_all] at hz
    have HE := Lib.hid (show OutO (substOut t l) w (.returned (.tuple #[.agg #[.int .i64 0, .int .i64 0, .string ⟨#[]⟩, .slice none 0 0, .slice none 0 0, .slice none 0 0], .int .i64 5])) (store6 w3 (w.heap.size + 1 + 1) 0 (.int .i64 0) (.int .i64 0) (.string ⟨#[]⟩) (.slice none 0 0) (.slice none 0 0) (.slice none 0 0)) from ⟨⟨_, by rw [HO2.out], by rw [HO2.out]; exact ownC_none _ _⟩, store6_below HB.out _ _ _ _ _ _ _ _ (by omega)⟩)
    unfold store6 at hz HE
    simp only [Nat.zero_add] at hz HE
    have z0 := hz.cell 0 (.int .i64 0) rfl
    have z1 := hz.cell 1 (.int .i64 0) rfl
    have z2 := hz.cell 2 (.string ⟨#[]⟩) rfl
    have z3 := hz.cell 3 (.slice none 0 0) rfl
    have z4 := hz.cell 4 (.slice none 0 0) rfl
    have z5 := hz.cell 5 (.slice none 0 0) rfl
    have r0 := hzz.cell 0 (.int .i64 0) rfl
    have r1 := hzz.cell 1 (.int .i64 0) rfl
    have r2 := hzz.cell 2 (.string ⟨#[]⟩) rfl
    have r3 := hzz.cell 3 (.slice none 0 0) rfl
    have r4 := hzz.cell 4 (.slice none 0 0) rfl
    have r5 := hzz.cell 5 (.slice none 0 0) rfl
    have t0 := hzz.thaw 0
    have t1 := hzz.thaw 1
    have t2 := hzz.thaw 2
    have t3 := hzz.thaw 3
    have t4 := hzz.thaw 4
    have t5 := hzz.thaw 5
    clear hz hzz HV HALL HO HBX HZ HO2
    go_wp2
    refine bodyPost_ret (v := .tuple #[.agg #[.int .i64 0, .int .i64 0, .string ⟨#[]⟩, .slice none 0 0, .slice none 0 0, .slice none 0 0], .int .i64 5]) (by simp [results, Tryz.results27, go_sem, z0, z1, z2, z3, z4, z5]) rfl ?_
    exact HE.out
  have HLN := Lib.hid (show n ≤ 1000 from by have := of_decide_eq_false q1; omega)
  have HOUT := Lib.hid (show substOut t l = fitOut (Con.reb (suF l) t 0) from by
    rw [HO.out, if_pos (by rw [HVT.out, HLV.out]; rfl), if_neg (by have := HLN.out; omega)]
    rfl)
  clear hlv HV HO HALL
  go_wp2_with fail
  refine (newBuilder_any _).mono ?_
  rintro e wb ⟨rfl, rfl⟩
  have hnb := boxN_new w3 94 #[.int .i64 20000]
  have hnc := boxN_new (w3.alloc (.cells #[.int .i64 20000] 94)) 69 #[.pointer (some ⟨w3.heap.size, 0, none⟩)]
  have hnd := hnb.1.alloc (.cells #[.pointer (some ⟨w3.heap.size, 0, none⟩)] 69)
  have hne := hnc.1
  rw [size_alloc] at hne
  have h4 := belowStep hnc.2 hnb.2
  have HGS := Lib.hid (show w.heap.size + 1 + 1 < w3.heap.size from HZ.out.lt)
  replace HB := Lib.hid (belowStep h4 HB.out)
  replace HBX := Lib.hid (HBX.out.of_eq (h4.block _ HBX.out.lt))
  replace HBL := Lib.hid (HBL.out.of_eq (h4.block _ HBL.out.lt))
  replace HZ := Lib.hid (HZ.out.of_eq (h4.block _ HZ.out.lt))
  have hfin : ∃ u c, fitOut (Con.reb (suF l) t 0) = (u, c) := ⟨_, _, rfl⟩
  obtain ⟨u, c, hfo⟩ := hfin
  have HFO := Lib.hid (show substOut t l = (u, c) from HOUT.out.trans hfo)
  have HRR := Lib.hid ((HR.out (((w3.alloc (.cells #[.int .i64 20000] 94)).alloc (.cells #[.pointer (some ⟨w3.heap.size, 0, none⟩)] 69))) w3.heap.size (w.heap.size + 1) (w3.heap.size + 1) (by have := HGS.out; omega) HVT.out HLV.out HLN.out HB.out hnd ⟨HBL.out, hne⟩ (by have := HGS.out; omega) (by omega)).mono (R' := fun e w' => Only w3.heap.size (((w3.alloc (.cells #[.int .i64 20000] 94)).alloc (.cells #[.pointer (some ⟨w3.heap.size, 0, none⟩)] 69))) w' ∧ ∃ y, e = .returned (.tuple #[y, .int .i64 c]) ∧ OwnC w' u (fun q => (((w3.alloc (.cells #[.int .i64 20000] 94)).alloc (.cells #[.pointer (some ⟨w3.heap.size, 0, none⟩)] 69))).heap.size ≤ q ∧ q < w'.heap.size) y) (by
    rintro e w' ⟨h1, y, h2, h3⟩
    rw [hfo] at h2 h3
    exact ⟨h1, y, h2, h3⟩))
  have HGL := Lib.hid hnd.lt
  have c0 := HBX.out.cell 0 (.int .i64 t.op) rfl
  have c1 := HBX.out.cell 1 (.int .i64 t.n) rfl
  have c2 := HBX.out.cell 2 (.string t.s) rfl
  have c3 := HBX.out.cell 3 (.slice ka kn kc) rfl
  have c4 := HBX.out.cell 4 (.slice na nn nc) rfl
  have c5 := HBX.out.cell 5 (.slice la ln lc) rfl
  have x1 := hne.cell 0 (.pointer (some ⟨w3.heap.size, 0, none⟩)) rfl
  have x9 := hne.thaw 0
  clear hfo HOUT hnb hnc hnd hne h4 HR
  go_wp2_with fail
  clear c0 c1 c2 c3 c4 c5 x0 x1 x9 q1
  generalize (((w3.alloc (.cells #[.int .i64 20000] 94)).alloc (.cells #[.pointer (some ⟨w3.heap.size, 0, none⟩)] 69))) = wb at *
  generalize w3.heap.size = G at *
  refine HRR.out.mono ?_
  rintro e wr ⟨hor, y, rfl, hy⟩
  obtain ⟨ua, un, uc, va, vn, vc, xa, xn, xc, rfl, -, -, -⟩ := hy.shape
  have hzr := hor.blk HZ.out (by have := HGS.out; omega)
  have t0 := hzr.thaw 0
  have t1 := hzr.thaw 1
  have t2 := hzr.thaw 2
  have t3 := hzr.thaw 3
  have t4 := hzr.thaw 4
  have t5 := hzr.thaw 5
  have r0 := hzr.cell 0 (.int .i64 0) rfl
  have r1 := hzr.cell 1 (.int .i64 0) rfl
  have r2 := hzr.cell 2 (.string ⟨#[]⟩) rfl
  have r3 := hzr.cell 3 (.slice none 0 0) rfl
  have r4 := hzr.cell 4 (.slice none 0 0) rfl
  have r5 := hzr.cell 5 (.slice none 0 0) rfl
  have hz := store6_blk hzr 0 (.int .i64 u.op) (.int .i64 u.n) (.string u.s) (.slice ua un uc) (.slice va vn vc) (.slice xa xn xc)
  rw [put6_all] at hz
  have HE := Lib.hid (show OutO (substOut t l) w (.returned (.tuple #[.agg #[.int .i64 u.op, .int .i64 u.n, .string u.s, .slice ua un uc, .slice va vn vc, .slice xa xn xc], .int .i64 c])) (store6 wr (w.heap.size + 1 + 1) 0 (.int .i64 u.op) (.int .i64 u.n) (.string u.s) (.slice ua un uc) (.slice va vn vc) (.slice xa xn xc)) from by
    rw [HFO.out]
    refine ⟨⟨_, rfl, (hy.keep (fun q hq => store6_other _ _ _ _ _ _ _ _ _ q (by
      have := HGS.out
      have := HGL.out
      have := hq.1
      omega))).mono (fun q hq => ?_)⟩, store6_below (HB.out.trans (hor.to (by have := HGS.out; omega) HB.out.size)) _ _ _ _ _ _ _ _ (by omega)⟩
    rw [store6_size]
    have := HGS.out
    have := HGL.out
    exact ⟨by have := hq.1; omega, hq.2⟩)
  unfold store6 at hz HE
  simp only [Nat.zero_add] at hz HE
  have z0 := hz.cell 0 (.int .i64 u.op) rfl
  have z1 := hz.cell 1 (.int .i64 u.n) rfl
  have z2 := hz.cell 2 (.string u.s) rfl
  have z3 := hz.cell 3 (.slice ua un uc) rfl
  have z4 := hz.cell 4 (.slice va vn vc) rfl
  have z5 := hz.cell 5 (.slice xa xn xc) rfl
  clear hy hzr hz HRR HBX HBL HZ HB
  go_wp2
  refine bodyPost_ret (v := .tuple #[.agg #[.int .i64 u.op, .int .i64 u.n, .string u.s, .slice ua un uc, .slice va vn vc, .slice xa xn xc], .int .i64 c]) (by simp [results, Tryz.results27, go_sem, z0, z1, z2, z3, z4, z5]) rfl ?_
  exact HE.out
theorem csubst_new (t : Con) (l : List Con) (w : World) (v xv : Value) (ht : ConV w (· < w.heap.size) t v) (hl : ConSl w (· < w.heap.size) xv l) :
    Calls Tryz.prog 27 #[v, xv] w (OutF (substOut t l) w) := (csubst_own t l w v xv ht hl).mono fun _ _ h => h.fresh
theorem csubst_any (t : Con) (l : List Con) (w : World) (v xv : Value) (ht : ConV w (· < w.heap.size) t v) (hl : ConSl w (· < w.heap.size) xv l) :
    Calls Tryz.prog 27 #[v, xv] w (OutP (substOut t l) w) := (csubst_new t l w v xv ht hl).mono fun _ _ h => h.out
/-- what the program's Shift and Subst answer -/
theorem codeS9 : CodeS9 := ⟨fun t b f W v ht h1 h2 h3 h4 => cshift_any t b f W v ht h1 h2 h3 h4, fun t l W v x ht hl => csubst_any t l W v x ht hl⟩
end Go.Proofs.YtmjiocpcenbndaaGreatDoor
namespace Go.Proofs.YtmjiocpcenbndaaGreatDoor
open Go Go.RowKit Go.Sort
open Pl (K Con)
set_option linter.unusedSimpArgs false
set_option linter.unusedVariables false
attribute [local go_sem] Oper.semAt_some

theorem infoInt : (Tryz.prog.info? 3).map (fun i => (i.zero, i.size, i.bytes)) = some (some (.int .i64 0), 1, 8) := by kernel_rfl
/-- the free indices, each once, in their order -/
def freeList (t : Con) : List Int := Lib.compact ((Con.frees t 0).mergeSort fun x y => decide (x ≤ y))
def freeOut (t : Con) : List Int × Int := if Con.validB t = true then (freeList t, 0) else ([], 1)
/-- an append to a row of its own, and its store, leave what is of another kind -/
theorem own_same {W w1 : World} {B4 k base : Nat} {v v' : Value} {xs : List Value} (x : Int) (h1 : Blk W B4 51 #[v]) (hown : W.ownsRow base 3 1 v k xs) (hgrow : (W.alloc (.cells #[.int .i64 x] 3)).grownBy w1 v.ownBlock) :
    ∀ (j : Nat) (o : Obj), W.heap[j]? = some o → (o.isCells = false ∨ ∃ cs, o = .cells cs 86 (0, 0)) → (w1.setCell ⟨B4, 0, none⟩ v').heap[j]? = some o := by
  intro j o ho hc
  have hjl : j < W.heap.size := (Array.getElem?_eq_some_iff.1 ho).1
  have hj4 : j ≠ B4 := by
    rintro rfl
    have h1 : W.heap[j]? = some (.cells #[v] 51 (0, 0)) := h1
    rw [h1] at ho
    injection ho with ho
    subst ho
    rcases hc with hc | ⟨cs, hc⟩
    · cases hc
    · cases hc
  have hjr : some j ≠ v.ownBlock := by
    intro e
    rcases hown.2 with ⟨rfl, _⟩ | ⟨g, cap, cur, rfl, _, hg, _⟩
    · cases e
    · have e : some j = some g := e
      injection e with e
      subst e
      rw [hg] at ho
      injection ho with ho
      subst ho
      rcases hc with hc | ⟨cs, hc⟩
      · cases hc
      · cases hc
  rw [Below.heap_setCell w1 _ _ j (show j ≠ B4 from hj4), hgrow.block j (by rw [size_alloc]; omega) hjr, Below.heap_alloc W _ j hjl, ho]
theorem ownsRow_own {β : Type} (s : β) {B base k : Nat} {v : Value} {xs : List Value} (A D : World) (row : Option Nat) (h : A.ownsRow base 3 1 v k xs) (hg : A.grownBy D row) (hr : ∀ r, row = some r → B ≤ r ∧ ∃ o : Obj, A.heap[r]? = some o ∧ o.isCells = false) : D.ownsRow base 3 1 v k xs := by
  refine h.kept hg ?_
  rcases h.2 with ⟨rfl, _⟩ | ⟨g, cap, cur, rfl, _, hgg, _⟩
  · exact .inl rfl
  · refine .inr (fun e => ?_)
    obtain ⟨-, o, ho, hoc⟩ := hr g e.symm
    rw [hgg] at ho
    injection ho with ho
    subst ho
    cases hoc
theorem ownsRow_base {w : World} {b1 b2 n : Nat} {e : TypeId} {v : Value} {xs : List Value} (h : w.ownsRow b1 e 1 v n xs) (hb : b2 ≤ b1) : w.ownsRow b2 e 1 v n xs :=
  ⟨h.1, h.2.imp id fun ⟨g, cap, cur, h1, h2, h3⟩ => ⟨g, cap, cur, h1, Nat.le_trans hb h2, h3⟩⟩
theorem heap_put (w : World) (g q : Nat) (d : Array Int) (k : Nat) (h : k ≠ g) : (putRow (Value.int .i64) (Sort.ahead w q) g 0 d).heap[k]? = w.heap[k]? := by
  have h : g ≠ k := fun e => h e.symm
  simp [putRow, mapBlock, Sort.ahead, Array.getElem?_modify, h]
theorem own_other {W : World} {B4 base k : Nat} {v v' : Value} {xs : List Value} (h : W.ownsRow base 3 1 v k xs) (hne : some B4 ≠ v.ownBlock) : (W.setCell ⟨B4, 0, none⟩ v').ownsRow base 3 1 v k xs := by
  refine ⟨h.1, ?_⟩
  rcases h.2 with hn | ⟨g, cap, cur, rfl, hb, hgg, rest⟩
  · exact .inl hn
  · exact .inr ⟨g, cap, cur, rfl, hb, (Below.heap_setCell W _ _ g (show g ≠ B4 from fun e => hne (by rw [e]; rfl))).trans hgg, rest⟩
def FreeP (r : List Int × Int) (w : World) (e : Ending) (w' : World) : Prop := (∃ y, e = .returned (.tuple #[y, .int .i64 r.2]) ∧ w'.ownsRow w.heap.size 3 1 y r.1.length (r.1.map (Value.int .i64))) ∧ Below w.heap.size w w'
set_option maxRecDepth 100000 in
set_option maxHeartbeats 4000000 in
theorem cfree_any (t : Con) (w : World) (v : Value) (ht : ConV w (· < w.heap.size) t v) :
    Calls Tryz.prog 25 #[v] w (FreeP (freeOut t) w) := by
  refine wide_of (n := 12) (fun F HF => ?_)
  have hd : F.depth = none := by rw [HF.out]; rfl
  have hro : F.round = none := by rw [HF.out]; rfl
  have hf1 : F.fn 25 := by rw [HF.out]; trivial
  have hf2 : F.fn 42 := by rw [HF.out]; trivial
  have hf3 : F.fn 60 := by rw [HF.out]; trivial
  have hf4 : F.fn 32 := by rw [HF.out]; trivial
  have hf5 : F.fn 43 := by rw [HF.out]; trivial
  have hf6 : F.fn 44 := by rw [HF.out]; trivial
  have hdd : ∀ k : Nat, (F.depth.isSome = true → 1 ≤ k) := fun k h => by rw [hd] at h; cases h
  have HV := Lib.hid (fun W (hW : Below w.heap.size w W) => cvalid_any (· < w.heap.size) t W v (fun q hq => Nat.lt_of_lt_of_le hq hW.size) (ht.keep (Same.of_below hW (fun _ h => h))))
  have HT := Lib.hid (fun W (hW : Below w.heap.size w W) => (ht.keep (Same.of_below hW (fun _ h => h))))
  obtain ⟨ka, kn, kc, na, nn, nc, la, ln, lc, rfl, -, -, -⟩ := ht.shape
  have HFI := Lib.hid (fun W => freeIndices_any W t.op t.n t.s ka na la kn kc nn nc ln lc)
  obtain ⟨hbx, hb⟩ := boxN_new w 28 #[.int .i64 t.op, .int .i64 t.n, .string t.s, .slice ka kn kc, .slice na nn nc, .slice la ln lc]
  have HBX := Lib.hid hbx
  have HB := Lib.hid hb
  have HO := Lib.hid (show freeOut t = if Con.validB t = true then (freeList t, 0) else ([], 1) from rfl)
  have c0 := hbx.cell 0 (.int .i64 t.op) rfl
  have c1 := hbx.cell 1 (.int .i64 t.n) rfl
  have c2 := hbx.cell 2 (.string t.s) rfl
  have c3 := hbx.cell 3 (.slice ka kn kc) rfl
  have c4 := hbx.cell 4 (.slice na nn nc) rfl
  have c5 := hbx.cell 5 (.slice la ln lc) rfl
  clear hbx hb ht
  refine callsIn_of_wp_marks Tryz.func25 rfl hf1 ?_ hro
  simp only [Tryz.ntmps25, List.size_toArray, List.length_cons, List.length_nil, Nat.reduceAdd, Nat.reduceSub, Array.replicate_succ, Array.replicate_zero, List.push_toArray, List.append_toArray, List.nil_append, List.cons_append]
  gi_wp2_with fail
  clear c0 c1 c2 c3 c4 c5
  generalize (w.alloc (.cells #[.int .i64 t.op, .int .i64 t.n, .string t.s, .slice ka kn kc, .slice na nn nc, .slice la ln lc] 28)) = w1 at *
  refine (toF HF _ (HV.out _ HB.out)).mono ?_
  rintro e w2 ⟨rfl, h2⟩
  replace HB := Lib.hid (belowStep h2 HB.out)
  replace HBX := Lib.hid (HBX.out.of_eq (h2.block _ HBX.out.lt))
  clear h2
  cases hv : Con.validB t
  · rw [hv] at HO
    have HE := Lib.hid (show FreeP (freeOut t) w (.returned (.tuple #[.slice none 0 0, .int .i64 1])) w2 from ⟨⟨_, by rw [HO.out]; rfl, by rw [HO.out]; exact World.ownsRow_nil _ _ _ _⟩, HB.out⟩)
    clear HV HT HFI HBX HB HO
    gi_wp2
    refine ⟨_, by simp [results, Tryz.results25, Tryz.f25, go_sem], HE.out⟩
  have HVT := Lib.hid hv
  have HOV := Lib.hid (show freeOut t = (freeList t, 0) from by rw [HO.out, if_pos HVT.out])
  have HTS := Lib.hid (show t.size ≤ 20000 from by
    have h := HVT.out
    unfold Con.validB Con.small at h
    simp only [Bool.and_eq_true, decide_eq_true_eq] at h
    omega)
  rw [hv] at HV
  clear hv HV HO
  obtain ⟨hb4, hbb4⟩ := boxN_new w2 51 #[.slice none 0 0]
  have HB4 := Lib.hid hb4
  have HBX2 := Lib.hid (HBX.out.of_eq (hbb4.block _ HBX.out.lt))
  have HBB := Lib.hid (belowStep hbb4 HB.out)
  have HSZ := Lib.hid (size_alloc w2 (.cells #[.slice none 0 0] 51))
  have c0 := HBX2.out.cell 0 (.int .i64 t.op) rfl
  have c1 := HBX2.out.cell 1 (.int .i64 t.n) rfl
  have c2 := HBX2.out.cell 2 (.string t.s) rfl
  have c3 := HBX2.out.cell 3 (.slice ka kn kc) rfl
  have c4 := HBX2.out.cell 4 (.slice na nn nc) rfl
  have c5 := HBX2.out.cell 5 (.slice la ln lc) rfl
  clear hb4 hbb4
  gi_wp2_with fail
  clear c0 c1 c2 c3 c4 c5
  have hsz0 := HSZ.out
  have hwb2 := HB.out.size
  have hb4s := HB4.out
  generalize w2.alloc (.cells #[.slice none 0 0] 51) = w4 at *
  generalize w2.heap.size = B4 at *
  refine (toF HF _ (HFI.out _)).mono ?_
  rintro e w5 ⟨rfl, rfl⟩
  obtain ⟨hbc, hb5⟩ := boxN_new w4 28 #[.int .i64 t.op, .int .i64 t.n, .string t.s, .slice ka kn kc, .slice na nn nc, .slice la ln lc]
  have hsz5 := size_alloc w4 (.cells #[.int .i64 t.op, .int .i64 t.n, .string t.s, .slice ka kn kc, .slice na nn nc, .slice la ln lc] 28)
  have h4 := HB4.out.of_eq (hb5.block _ HB4.out.lt)
  have hb6 := belowStep hb5 HBB.out
  have hht := HT.out _ hb6
  generalize w4.alloc (.cells #[.int .i64 t.op, .int .i64 t.n, .string t.s, .slice ka kn kc, .slice na nn nc, .slice la ln lc] 28) = w6 at *
  have hlt6 : w4.heap.size < w6.heap.size := by omega
  have hlt7 : w.heap.size ≤ w6.heap.size := by omega
  have hlt8 : B4 + 2 ≤ w6.heap.size := by omega
  clear hsz0 hsz5 HB HBX HSZ hb4s
  obtain ⟨ii, hii, hiz, his, hib⟩ := info_parts infoInt
  gi_wp2_with fail
  refine rangeO (a := _) hro (by omega) (gf := 60) (lb := #[.pointer (some ⟨w4.heap.size, 0, none⟩)]) rfl hf3 (enters_of Tryz.func60 (by kernel_rfl) rfl)
    (freeIdx_seq F HF (12 - 1) w4.heap.size w.heap.size w6.heap.size t ka na la kn kc nn nc ln lc w6 (by omega) hlt7 hlt7 hlt6 (valid_all t HVT.out) (valid_depth t HVT.out) hbc hht) (Nat.le_refl _) (fun h k => KpF.trans h k) (fun W o o' h1 h2 h3 => KpF.put hlt7 W o o' h1 h2 h3) (Below.refl _ _) (fun _ => rfl)
    (fun pre W => ∃ v, Blk W B4 51 #[v] ∧ W.ownsRow (B4 + 1) 3 1 v pre.length (pre.map fun x => Value.int .i64 x.1) ∧ Below w.heap.size w W)
    (fun pre W => False)
    (fun s A D row hs hg hr => by
      obtain ⟨v, h1, h2, h3⟩ := hs
      exact ⟨v, blk_own (β := Unit) () A D row h1 hg hr, ownsRow_own () A D row h2 hg hr, below_own (β := Unit) hlt7 () A D row h3 hg hr⟩)
    (fun s A D row hs hg hr => hs)
    ⟨_, h4, World.ownsRow_nil _ _ _ _, hb6⟩ (fun x => { tmps := #[.agg #[.int .i64 t.op, .int .i64 t.n, .string t.s, .slice ka kn kc, .slice na nn nc, .slice la ln lc], .pointer (some ⟨w.heap.size, 0, none⟩), .slice none 0 0, .int .i64 0, .pointer (some ⟨B4, 0, none⟩), .int .i64 x.1, .agg #[.int .i64 t.op, .int .i64 t.n, .string t.s, .slice ka kn kc, .slice na nn nc, .slice la ln lc], .bool true, .bool false, .agg #[.int .i64 t.op, .int .i64 t.n, .string t.s, .slice ka kn kc, .slice na nn nc, .slice la ln lc], .func (.func 60) #[] #[.pointer (some ⟨w4.heap.size, 0, none⟩)], .int .i64 x.1, undef, undef, undef, undef, undef, undef, undef, undef], defers := [] }) ?assign ?body ?done ?stop
  case assign =>
    intro lp x W K hK
    unfold encI
    gi_wp2
    exact hK
  case stop =>
    rintro D pre W hD hpf hF hK
    exact hF.elim
  case body =>
    rintro lp pre x W ⟨v, h1, h2, h3⟩ hlen
    have x4 := h1.cell 0 v rfl
    have f4 := h1.thaw 0
    have hlt4 := h1.lt
    have H1 := Lib.hid h1
    have H3 := Lib.hid h3
    have HLEN := Lib.hid (show pre.length < 20000 from by
      have := HTS.out
      omega)
    clear h1 h3 hlen HFI HBX2 HBB HB4 hbc hb5 h4 hb6 hht HT HOV
    gi_wp2_with (first
      | (gi_at_builtin; refine wpListIn_append_own _ rfl _ _ 51 rfl (B4 + 1) 3 ii (.int .i64 0) 1 8 Tryz.underlying51 hii hiz his hib rfl (by decide) _ _ _ rfl (h2.alloc _) ⟨W.heap.size, 0, none⟩ 1 1 [.int .i64 x.1] rfl rfl ?c1 ?c2 ?c3 ?c4 ?c5 ?_)
      | gi_in)
    case c1 =>
      intro j u hj
      match j, hj with
      | 0, hj => simp at hj; subst hj; simp [Addr.add]
    case c2 => intro u hu; simp at hu; subst hu; rfl
    case c3 => have := HLEN.out; unfold maxLen; omega
    case c4 => have := HLEN.out; omega
    case c5 => simp; omega
    · intro v9 W1 hown9 hgrow _
      obtain ⟨g9, cap9, rfl⟩ : ∃ g cap, v9 = .slice (some ⟨g, 0, none⟩) (pre.length + 1) cap := by
        rcases hown9.2 with ⟨_, h⟩ | ⟨g, cap, _, h, _⟩
        · omega
        · exact ⟨g, cap, h⟩
      have hne4 : some B4 ≠ v.ownBlock := fun e => by have := (h2.lt B4 e.symm).1; omega
      have h1a := H1.out.alloc (.cells #[.int .i64 x.1] 3)
      have h1b : Blk W1 B4 51 #[v] := (hgrow.block B4 h1a.lt hne4).trans h1a
      have x5 := h1b.cell 0 v rfl
      have f5 := h1b.thaw 0
      have hsame := own_same (v' := (.slice (some ⟨g9, 0, none⟩) (pre.length + 1) cap9)) x.1 H1.out h2 hgrow
      have hbel : Below w.heap.size W (W1.setCell ⟨B4, 0, none⟩ (.slice (some ⟨g9, 0, none⟩) (pre.length + 1) cap9)) := (((Below.refl w.heap.size W).alloc H3.out.size (.cells #[.int .i64 x.1] 3)).grown hgrow (Nat.le_trans H3.out.size (by rw [size_alloc]; omega)) (fun k e => by have := (h2.lt k e).1; omega)).setCell (p := ⟨B4, 0, none⟩) hwb2 (.slice (some ⟨g9, 0, none⟩) (pre.length + 1) cap9)
      have hgb : some B4 ≠ (.slice (some ⟨g9, 0, none⟩) (pre.length + 1) cap9 : Value).ownBlock := fun e => by have := (hown9.lt B4 e.symm).1; omega
      have HE := Lib.hid (show KeepsFrom w6.heap.size W (W1.setCell ⟨B4, 0, none⟩ (.slice (some ⟨g9, 0, none⟩) (pre.length + 1) cap9)) ∧ KpF w.heap.size w6.heap.size W (W1.setCell ⟨B4, 0, none⟩ (.slice (some ⟨g9, 0, none⟩) (pre.length + 1) cap9)) ∧ ∃ v, Blk (W1.setCell ⟨B4, 0, none⟩ (.slice (some ⟨g9, 0, none⟩) (pre.length + 1) cap9)) B4 51 #[v] ∧ (W1.setCell ⟨B4, 0, none⟩ (.slice (some ⟨g9, 0, none⟩) (pre.length + 1) cap9)).ownsRow (B4 + 1) 3 1 v (pre ++ [x]).length ((pre ++ [x]).map fun x => Value.int .i64 x.1) ∧ Below w.heap.size w (W1.setCell ⟨B4, 0, none⟩ (.slice (some ⟨g9, 0, none⟩) (pre.length + 1) cap9)) from
        ⟨⟨hbel.size, fun k o _ ho hc => hsame k o ho (.inl hc)⟩, ⟨hbel, fun k o _ ho hc => hsame k o ho hc⟩, (.slice (some ⟨g9, 0, none⟩) (pre.length + 1) cap9), blk_one h1b, by
          have h := own_other (v' := (.slice (some ⟨g9, 0, none⟩) (pre.length + 1) cap9)) hown9 hgb
          simpa using h, H3.out.trans hbel⟩)
      clear h2 hown9 hgrow h1a h1b hsame hbel hgb hne4
      gi_wp2
      exact HE.out
  case done =>
    rintro D xs W hD hS ⟨v, h1, h2, h3⟩ hK
    obtain ⟨zs, hzs⟩ : ∃ zs, zs = Con.frees t 0 := ⟨_, rfl⟩
    have hll : xs.length = zs.length := by rw [hzs, ← hS, List.length_map]
    have hmm : (xs.map fun x => Value.int .i64 x.1) = zs.map (Value.int .i64) := by rw [hzs, ← hS, List.map_map]; rfl
    rw [hll, hmm] at h2
    have HFL := Lib.hid (show freeOut t = (Lib.compact (zs.mergeSort fun x y => decide (x ≤ y)), 0) from by rw [HOV.out, hzs]; rfl)
    have hfr : (Con.frees t 0).length ≤ 20000 := by
      have h1 := leavesOf_size t 0
      have h2 := List.length_filterMap_le freeL (Con.leavesOf t 0)
      rw [← frees_leaves t 0 (valid_all t HVT.out)] at h2
      have := HTS.out
      omega
    rw [← hzs] at hfr
    clear hll hmm hS hzs HOV HFI HBX2 HBB HB4 hbc hb5 h4 hb6 hht HT
    rcases h2.2 with ⟨rfl, hz⟩ | ⟨g, cap, cur, rfl, hb, hgg, hn, hm, hs, htk⟩
    · have hz : zs = [] := List.eq_nil_of_length_eq_zero hz
      subst hz
      have x4 := h1.cell 0 (.slice none 0 0) rfl
      have HB7 := Lib.hid (h3.trans (belowK_b (w := w) (Nat.le_refl _) _ D _ (.deferred none) (Nat.le_trans hlt7 hD) hK rfl rfl))
      have HFE := Lib.hid (show freeOut t = ([], 0) from by rw [HFL.out, List.mergeSort_nil]; rfl)
      clear h1 h2 h3 hfr HFL
      gi_wp2_with fail
      refine (toF HF _ (Tryz.slices_Sort_int_none none 0 _)).mono ?_
      rintro e w5 ⟨rfl, rfl⟩
      gi_wp2_with fail
      refine (toF HF _ (Tryz.slices_Compact_int_empty none 0 _)).mono ?_
      rintro e w5 ⟨rfl, rfl⟩
      gi_wp2
      refine ⟨by simp, .inl ⟨_, _, rfl, run_takeDeferred hK, ?_⟩⟩
      refine ⟨.tuple #[.slice none 0 0, .int .i64 0], by simp [results, Tryz.results25, Tryz.f25, go_sem], ?_⟩
      exact ⟨⟨_, by rw [HFE.out], by rw [HFE.out]; exact World.ownsRow_nil _ _ _ _⟩, HB7.out⟩
    · have x4 := h1.cell 0 (.slice (some ⟨g, 0, none⟩) zs.length cap) rfl
      have hglt : g < W.heap.size := (Array.getElem?_eq_some_iff.1 hgg).1
      have hgD : D ≠ g := by
        rintro rfl
        rw [hgg] at hK
        cases hK
      have HSO := Lib.hid (Tryz.slices_Sort_int g 0 cap zs W (holds_of_blockI hgg (by simpa using htk)) hglt (by omega))
      have HNX := Lib.hid (fun nq os => (show (grow (putRow (Value.int .i64) (Sort.ahead W nq) g 0 (zs.mergeSort fun x y => decide (x ≤ y)).toArray) os).ownsRow (B4 + 1) 3 1 (.slice (some ⟨g, 0, none⟩) zs.length cap) zs.length ((zs.mergeSort fun x y => decide (x ≤ y)).map (Value.int .i64)) ∧ Blk (grow (putRow (Value.int .i64) (Sort.ahead W nq) g 0 (zs.mergeSort fun x y => decide (x ≤ y)).toArray) os) B4 51 #[.slice (some ⟨g, 0, none⟩) zs.length cap] ∧ (grow (putRow (Value.int .i64) (Sort.ahead W nq) g 0 (zs.mergeSort fun x y => decide (x ≤ y)).toArray) os).heap[D]? = some (.deferred (some [])) ∧ Below w.heap.size w (grow (putRow (Value.int .i64) (Sort.ahead W nq) g 0 (zs.mergeSort fun x y => decide (x ≤ y)).toArray) os) from by
        have hg5 := grownBy_sortedI (w := W) (g := g) (n := nq) (os := os) (zs.mergeSort fun x y => decide (x ≤ y)).toArray
        refine ⟨ownsRow_sortedI (List.length_mergeSort _) hb hgg hn hm hs, (hg5.block B4 h1.lt (fun e => by injection e with e; omega)).trans h1, (hg5.block D (Array.getElem?_eq_some_iff.1 hK).1 (fun e => by injection e with e; exact hgD e)).trans hK, h3.grown hg5 h3.size (fun k e => by injection e with e; omega)⟩))
      have htl : (zs.mergeSort fun x y => decide (x ≤ y)).length = zs.length := List.length_mergeSort _
      clear h1 h2 h3 hK hgg hglt hs htk
      gi_wp2_with fail
      refine (toF HF _ HSO.out).mono ?_
      rintro e w5 ⟨rfl, nq, os, rfl⟩
      obtain ⟨hown5, h15, hK5, hb5⟩ := HNX.out nq os
      clear HNX HSO x4
      generalize grow (putRow (Value.int .i64) (Sort.ahead W nq) g 0 (zs.mergeSort fun x y => decide (x ≤ y)).toArray) os = w5 at *
      generalize (zs.mergeSort fun x y => decide (x ≤ y)) = ts at *
      obtain ⟨g', cap', e', _, _, _, _, _, hH⟩ := Go.Lib.holds_of_ownsRow (α := Int) hown5 (by simp)
      injection e' with e1 _ e3
      injection e1 with e1
      injection e1 with e1
      subst e1 e3
      have HC := Tryz.slices_Compact_int g 0 cap ts w5 hH (by omega) (by omega)
      rw [htl] at HC
      have HCO := Lib.hid HC
      have hcl := Go.Lib.compact_length_le ts
      have HNX := Lib.hid (fun q => (show (putRow (Value.int .i64) (Sort.ahead w5 q) g 0 (Lib.compact ts ++ List.replicate (zs.length - (Lib.compact ts).length) 0).toArray).ownsRow (B4 + 1) 3 1 (.slice (some ⟨g, 0, none⟩) (Lib.compact ts).length cap) (Lib.compact ts).length ((Lib.compact ts).map (Value.int .i64)) ∧ (putRow (Value.int .i64) (Sort.ahead w5 q) g 0 (Lib.compact ts ++ List.replicate (zs.length - (Lib.compact ts).length) 0).toArray).heap[D]? = some (.deferred (some [])) ∧ Below w.heap.size w (putRow (Value.int .i64) (Sort.ahead w5 q) g 0 (Lib.compact ts ++ List.replicate (zs.length - (Lib.compact ts).length) 0).toArray) from by
        have h := Go.Lib.ownsRow_putRow (q := q) (k := (Lib.compact ts).length) (ys := Lib.compact ts ++ List.replicate (zs.length - (Lib.compact ts).length) 0) hown5 (by simp; omega) (by omega)
        rw [List.take_left] at h
        exact ⟨h, (heap_put _ _ _ _ _ hgD).trans hK5, Go.Lib.below_putRow hb5 (by omega)⟩))
      have x5 := h15.cell 0 (.slice (some ⟨g, 0, none⟩) zs.length cap) rfl
      clear HC hown5 h15 hb5 hH hK5 htl
      generalize Lib.compact ts = cs at *
      gi_wp2_with fail
      refine (toF HF _ HCO.out).mono ?_
      rintro e w7 ⟨rfl, q, rfl⟩
      obtain ⟨hown7, hK7, hb7⟩ := HNX.out q
      clear HNX HCO x5
      generalize putRow (Value.int .i64) (Sort.ahead w5 q) g 0 (cs ++ List.replicate (zs.length - cs.length) 0).toArray = w7 at *
      have HB7 := Lib.hid (hb7.trans (belowK_b (w := w) (Nat.le_refl _) _ D _ (.deferred none) (Nat.le_trans hlt7 hD) hK7 rfl rfl))
      have HOW7 := Lib.hid (ownsRow_base (b2 := w.heap.size) (ownsRow_own (B := D) () _ _ _ hown7 (grownBy_putObj' w7 D (.deferred none)) (fun r e => by cases e; exact ⟨Nat.le_refl _, _, hK7, rfl⟩)) (by omega))
      clear hown7 hb7
      gi_wp2
      refine ⟨by simp, .inl ⟨_, _, rfl, run_takeDeferred hK7, ?_⟩⟩
      refine ⟨.tuple #[.slice (some ⟨g, 0, none⟩) cs.length cap, .int .i64 0], by simp [results, Tryz.results25, Tryz.f25, go_sem], ?_⟩
      exact ⟨⟨_, by rw [HFL.out], by rw [HFL.out]; exact HOW7.out⟩, HB7.out⟩
end Go.Proofs.YtmjiocpcenbndaaGreatDoor
namespace Go.Proofs.YtmjiocpcenbndaaGreatDoor
open Go Go.RowKit
open Pl (K Con)
set_option linter.unusedSimpArgs false
set_option linter.unusedVariables false

def vr (n : Int) : Con := ⟨1, n, ByteArray.empty, .mk [], [], []⟩
def ap (t u : Con) : Con := ⟨12, 0, ByteArray.empty, .mk [], [], [t, u]⟩
def cint : Con := ⟨4, 0, ByteArray.empty, .mk [], [], []⟩
def exC : Con := lam (ap (vr 0) (vr 1))
def exS : Con := lam (ap (vr 0) (vr 3))
def exX : Con := lam (ap (vr 0) cint)
theorem ex_valid : Con.validB exC = true := by kernel_rfl
theorem ex_frees : Con.frees exC 0 = [0] := by kernel_rfl
theorem ex_free : freeOut exC = ([0], 0) := by
  unfold freeOut freeList
  rw [if_pos ex_valid, ex_frees, List.mergeSort_singleton]
  rfl
theorem ex_shift : shiftOut exC 2 0 = (exS, 0) := by kernel_rfl
theorem ex_subst : substOut exC [cint] = (exX, 0) := by kernel_rfl
theorem conV_leaf (op n : Int) (w : World) (P : Nat → Prop) : ConV w P ⟨op, n, ByteArray.empty, .mk [], [], []⟩ (.agg #[.int .i64 op, .int .i64 n, .string ByteArray.empty, .slice none 0 0, .slice none 0 0, .slice none 0 0]) := by
  rw [conV_iff]
  exact ⟨Nat.zero_le _, _, _, _, rfl, kidV_none _ _, ⟨none, 0, rfl, Nat.le_refl _, Nat.zero_le _, fun _ => rfl, (fun z hz => by cases hz), .inl rfl⟩, ⟨none, 0, rfl, Nat.le_refl _, Nat.zero_le _, fun _ => rfl, .inl rfl⟩⟩
set_option maxRecDepth 100000 in
theorem rvar_any (n : Int) (w : World) :
    Calls Tryz.prog 24 #[.int .i64 n] w fun e w' => e = .returned (.agg #[.int .i64 1, .int .i64 n, .string ByteArray.empty, .slice none 0 0, .slice none 0 0, .slice none 0 0]) ∧ Below w.heap.size w w' := by
  obtain ⟨hbx, hb⟩ := boxN_new w 28 #[.int .i64 1, .int .i64 n, .string ByteArray.empty, .slice none 0 0, .slice none 0 0, .slice none 0 0]
  have d0 := hbx.cell 0 (.int .i64 1) rfl
  have d1 := hbx.cell 1 (.int .i64 n) rfl
  have d2 := hbx.cell 2 (.string ByteArray.empty) rfl
  have d3 := hbx.cell 3 (.slice none 0 0) rfl
  have d4 := hbx.cell 4 (.slice none 0 0) rfl
  have d5 := hbx.cell 5 (.slice none 0 0) rfl
  have HB := Lib.hid hb
  clear hbx hb
  go_enter Tryz.func24, Tryz.ntmps24
  go_wp2_with fail
  refine bodyPost_ret (v := .agg #[.int .i64 1, .int .i64 n, .string ByteArray.empty, .slice none 0 0, .slice none 0 0, .slice none 0 0]) (by first | (simp [results, Tryz.results24, go_sem, d0, d1, d2, d3, d4, d5]; done) | (simp [results, Tryz.results24, go_sem, d0, d1, d2, d3, d4, d5]; rfl)) rfl ?_
  exact ⟨rfl, HB.out⟩
set_option maxRecDepth 100000 in
set_option maxHeartbeats 1000000 in
theorem rapp_any (t u : Con) (w : World) (v x : Value) (ht : ConV w (· < w.heap.size) t v) (hu : ConV w (· < w.heap.size) u x) :
    Calls Tryz.prog 23 #[v, x] w fun e w' => (∃ g, e = .returned (.agg #[.int .i64 12, .int .i64 0, .string ByteArray.empty, .slice none 0 0, .slice none 0 0, .slice (some ⟨g, 0, none⟩) 2 2]) ∧ ConV w' (· < w'.heap.size) (ap t u) (.agg #[.int .i64 12, .int .i64 0, .string ByteArray.empty, .slice none 0 0, .slice none 0 0, .slice (some ⟨g, 0, none⟩) 2 2])) ∧ Below w.heap.size w w' := by
  have HT := Lib.hid (fun W (hW : Below w.heap.size w W) => ht.grow hW)
  have HU := Lib.hid (fun W (hW : Below w.heap.size w W) => hu.grow hW)
  obtain ⟨ka, kn, kc, na, nn, nc, la, ln, lc, rfl, -, -, -⟩ := ht.shape
  obtain ⟨ka2, kn2, kc2, na2, nn2, nc2, la2, ln2, lc2, rfl, -, -, -⟩ := hu.shape
  clear ht hu
  go_enter Tryz.func23, Tryz.ntmps23
  have hX : Below w.heap.size w (((w.alloc (.cells #[.int .i64 t.op, .int .i64 t.n, .string t.s, .slice ka kn kc, .slice na nn nc, .slice la ln lc] 28)).alloc (.cells #[.int .i64 u.op, .int .i64 u.n, .string u.s, .slice ka2 kn2 kc2, .slice na2 nn2 nc2, .slice la2 ln2 lc2] 28)).alloc (.cells #[.int .i64 12, .int .i64 0, .string ByteArray.empty, .slice none 0 0, .slice none 0 0, .slice (some ⟨w.heap.size + 1 + 1 + 1, 0, none⟩) 2 2] 28)) := below_new (below_new (below_new (Below.refl _ _)))
  have hs : (((w.alloc (.cells #[.int .i64 t.op, .int .i64 t.n, .string t.s, .slice ka kn kc, .slice na nn nc, .slice la ln lc] 28)).alloc (.cells #[.int .i64 u.op, .int .i64 u.n, .string u.s, .slice ka2 kn2 kc2, .slice na2 nn2 nc2, .slice la2 ln2 lc2] 28)).alloc (.cells #[.int .i64 12, .int .i64 0, .string ByteArray.empty, .slice none 0 0, .slice none 0 0, .slice (some ⟨w.heap.size + 1 + 1 + 1, 0, none⟩) 2 2] 28)).heap.size = w.heap.size + 1 + 1 + 1 := by rw [size_alloc, size_alloc, size_alloc]
  obtain ⟨hbx, hb⟩ := boxN_new (((w.alloc (.cells #[.int .i64 t.op, .int .i64 t.n, .string t.s, .slice ka kn kc, .slice na nn nc, .slice la ln lc] 28)).alloc (.cells #[.int .i64 u.op, .int .i64 u.n, .string u.s, .slice ka2 kn2 kc2, .slice na2 nn2 nc2, .slice la2 ln2 lc2] 28)).alloc (.cells #[.int .i64 12, .int .i64 0, .string ByteArray.empty, .slice none 0 0, .slice none 0 0, .slice (some ⟨w.heap.size + 1 + 1 + 1, 0, none⟩) 2 2] 28)) 28 (#[.int .i64 t.op, .int .i64 t.n, .string t.s, .slice ka kn kc, .slice na nn nc, .slice la ln lc, .int .i64 u.op, .int .i64 u.n, .string u.s, .slice ka2 kn2 kc2, .slice na2 nn2 nc2, .slice la2 ln2 lc2])
  have hr := (blk_new ((w.alloc (.cells #[.int .i64 t.op, .int .i64 t.n, .string t.s, .slice ka kn kc, .slice na nn nc, .slice la ln lc] 28)).alloc (.cells #[.int .i64 u.op, .int .i64 u.n, .string u.s, .slice ka2 kn2 kc2, .slice na2 nn2 nc2, .slice la2 ln2 lc2] 28)) #[.int .i64 12, .int .i64 0, .string ByteArray.empty, .slice none 0 0, .slice none 0 0, .slice (some ⟨w.heap.size + 1 + 1 + 1, 0, none⟩) 2 2] 28).alloc (.cells (#[.int .i64 t.op, .int .i64 t.n, .string t.s, .slice ka kn kc, .slice na nn nc, .slice la ln lc, .int .i64 u.op, .int .i64 u.n, .string u.s, .slice ka2 kn2 kc2, .slice na2 nn2 nc2, .slice la2 ln2 lc2]) 28)
  rw [size_alloc, size_alloc] at hr
  have d0 := hr.cell 0 (.int .i64 12) rfl
  have d1 := hr.cell 1 (.int .i64 0) rfl
  have d2 := hr.cell 2 (.string ByteArray.empty) rfl
  have d3 := hr.cell 3 (.slice none 0 0) rfl
  have d4 := hr.cell 4 (.slice none 0 0) rfl
  have d5 := hr.cell 5 (.slice (some ⟨w.heap.size + 1 + 1 + 1, 0, none⟩) 2 2) rfl
  have HB := Lib.hid (belowStep hb hX)
  rw [hs] at hbx
  have HBX := Lib.hid hbx
  clear hbx hb hX hs hr
  go_wp2_with fail
  refine bodyPost_ret (v := .agg #[.int .i64 12, .int .i64 0, .string ByteArray.empty, .slice none 0 0, .slice none 0 0, .slice (some ⟨w.heap.size + 1 + 1 + 1, 0, none⟩) 2 2]) (by first | (simp [results, Tryz.results23, go_sem, d0, d1, d2, d3, d4, d5]; done) | (simp [results, Tryz.results23, go_sem, d0, d1, d2, d3, d4, d5]; rfl)) rfl ?_
  refine ⟨⟨w.heap.size + 1 + 1 + 1, rfl, ?_⟩, HB.out⟩
  rw [conV_iff]
  refine ⟨Nat.zero_le _, _, _, _, rfl, kidV_none _ _, ⟨none, 0, rfl, Nat.le_refl _, Nat.zero_le _, fun _ => rfl, (fun z hz => by cases hz), .inl rfl⟩, ?_⟩
  exact cons_two HBX.out HBX.out.lt (HT.out _ HB.out) (HU.out _ HB.out)
end Go.Proofs.YtmjiocpcenbndaaGreatDoor
namespace Go.Proofs.YtmjiocpcenbndaaGreatDoor
open Go Go.RowKit
open Pl (K Con)
set_option linter.unusedSimpArgs false
set_option linter.unusedVariables false

/-- the record without fields -/
def unitC : Con := ⟨7, 0, ByteArray.empty, .mk [], [], []⟩
/-- the sum of False and True -/
def sumC : Con := ⟨8, 0, ByteArray.empty, .mk [], [⟨#[70, 97, 108, 115, 101]⟩, ⟨#[84, 114, 117, 101]⟩], [unitC, unitC]⟩
def boolC : Con := ⟨13, 0, ByteArray.empty, .mk [], [], [sumC]⟩
def UnitP (w : World) (e : Ending) (w' : World) : Prop := e = .returned (.agg #[.int .i64 7, .int .i64 0, .string ByteArray.empty, .slice none 0 0, .slice none 0 0, .slice none 0 0]) ∧ Below w.heap.size w w'
set_option maxRecDepth 100000 in
theorem cunit_any (w : World) : Calls Tryz.prog 10 #[] w (UnitP w) := by
  obtain ⟨hbx, hb⟩ := boxN_new w 28 #[.int .i64 7, .int .i64 0, .string ByteArray.empty, .slice none 0 0, .slice none 0 0, .slice none 0 0]
  have d0 := hbx.cell 0 (.int .i64 7) rfl
  have d1 := hbx.cell 1 (.int .i64 0) rfl
  have d2 := hbx.cell 2 (.string ByteArray.empty) rfl
  have d3 := hbx.cell 3 (.slice none 0 0) rfl
  have d4 := hbx.cell 4 (.slice none 0 0) rfl
  have d5 := hbx.cell 5 (.slice none 0 0) rfl
  have HB := Lib.hid hb
  clear hbx hb
  go_enter Tryz.func10, Tryz.ntmps10
  go_wp2_with fail
  refine bodyPost_ret (v := .agg #[.int .i64 7, .int .i64 0, .string ByteArray.empty, .slice none 0 0, .slice none 0 0, .slice none 0 0]) (by first | (simp [results, Tryz.results10, go_sem, d0, d1, d2, d3, d4, d5]; done) | (simp [results, Tryz.results10, go_sem, d0, d1, d2, d3, d4, d5]; rfl)) rfl ?_
  exact ⟨rfl, HB.out⟩
set_option maxRecDepth 100000 in
theorem runit_any (w : World) : Calls Tryz.prog 11 #[] w (UnitP w) := by
  obtain ⟨hbx, hb⟩ := boxN_new w 28 #[.int .i64 7, .int .i64 0, .string ByteArray.empty, .slice none 0 0, .slice none 0 0, .slice none 0 0]
  have d0 := hbx.cell 0 (.int .i64 7) rfl
  have d1 := hbx.cell 1 (.int .i64 0) rfl
  have d2 := hbx.cell 2 (.string ByteArray.empty) rfl
  have d3 := hbx.cell 3 (.slice none 0 0) rfl
  have d4 := hbx.cell 4 (.slice none 0 0) rfl
  have d5 := hbx.cell 5 (.slice none 0 0) rfl
  have HB := Lib.hid hb
  clear hbx hb
  go_enter Tryz.func11, Tryz.ntmps11
  go_wp2_with fail
  refine bodyPost_ret (v := .agg #[.int .i64 7, .int .i64 0, .string ByteArray.empty, .slice none 0 0, .slice none 0 0, .slice none 0 0]) (by first | (simp [results, Tryz.results11, go_sem, d0, d1, d2, d3, d4, d5]; done) | (simp [results, Tryz.results11, go_sem, d0, d1, d2, d3, d4, d5]; rfl)) rfl ?_
  exact ⟨rfl, HB.out⟩
/-- the strings of two -/
theorem strs_two {w : World} {P : Nat → Prop} {g : Nat} {s z : ByteArray} (hb : Blk w g 9 #[.string s, .string z]) (hg : P g) (hs : s.size ≤ maxLen) (hz : z.size ≤ maxLen) : StrSl w P (.slice (some ⟨g, 0, none⟩) 2 2) [s, z] := by
  refine ⟨_, 2, rfl, Nat.le_refl _, by decide, (fun h => by cases h), (fun x hx => ?_), .inr ⟨g, 0, rfl, hg, fun j hj => ?_⟩⟩
  · simp at hx
    rcases hx with rfl | rfl
    · exact hs
    · exact hz
  · match j, hj with
    | 0, _ => exact hb.cell 0 _ rfl
    | 1, _ => exact hb.cell 1 _ rfl
def BoolP (w : World) (e : Ending) (w' : World) : Prop := (∃ g, e = .returned (.agg #[.int .i64 13, .int .i64 0, .string ByteArray.empty, .slice none 0 0, .slice none 0 0, .slice (some ⟨g, 0, none⟩) 1 1]) ∧ ConV w' (· < w'.heap.size) boolC (.agg #[.int .i64 13, .int .i64 0, .string ByteArray.empty, .slice none 0 0, .slice none 0 0, .slice (some ⟨g, 0, none⟩) 1 1])) ∧ Below w.heap.size w w'
/-- the memory of Bool's answer -/
theorem bool_mem {w : World} {g1 g2 g3 : Nat} (h1 : Blk w g1 9 #[.string ⟨#[70, 97, 108, 115, 101]⟩, .string ⟨#[84, 114, 117, 101]⟩]) (h2 : Blk w g2 28 #[.int .i64 7, .int .i64 0, .string ByteArray.empty, .slice none 0 0, .slice none 0 0, .slice none 0 0, .int .i64 7, .int .i64 0, .string ByteArray.empty, .slice none 0 0, .slice none 0 0, .slice none 0 0]) (h3 : Blk w g3 28 #[.int .i64 8, .int .i64 0, .string ByteArray.empty, .slice none 0 0, .slice (some ⟨g1, 0, none⟩) 2 2, .slice (some ⟨g2, 0, none⟩) 2 2]) :
    ConV w (· < w.heap.size) boolC (.agg #[.int .i64 13, .int .i64 0, .string ByteArray.empty, .slice none 0 0, .slice none 0 0, .slice (some ⟨g3, 0, none⟩) 1 1]) := by
  have hu : ConV w (· < w.heap.size) unitC (.agg #[.int .i64 7, .int .i64 0, .string ByteArray.empty, .slice none 0 0, .slice none 0 0, .slice none 0 0]) := conV_leaf 7 0 w _
  have hs : ConV w (· < w.heap.size) sumC (.agg #[.int .i64 8, .int .i64 0, .string ByteArray.empty, .slice none 0 0, .slice (some ⟨g1, 0, none⟩) 2 2, .slice (some ⟨g2, 0, none⟩) 2 2]) := by
    rw [conV_iff]
    exact ⟨Nat.zero_le _, _, _, _, rfl, kidV_none _ _, strs_two h1 h1.lt (by decide) (by decide), cons_two h2 h2.lt hu hu⟩
  rw [conV_iff]
  exact ⟨Nat.zero_le _, _, _, _, rfl, kidV_none _ _, ⟨none, 0, rfl, Nat.le_refl _, Nat.zero_le _, fun _ => rfl, (fun z hz => by cases hz), .inl rfl⟩, cons_one h3 h3.lt hs⟩
end Go.Proofs.YtmjiocpcenbndaaGreatDoor
namespace Go.Proofs.YtmjiocpcenbndaaGreatDoor
open Go Go.RowKit
open Pl (K Con)
set_option linter.unusedSimpArgs false
set_option linter.unusedVariables false

set_option maxRecDepth 100000 in
set_option maxHeartbeats 1000000 in
theorem cbool_any (w : World) : Calls Tryz.prog 12 #[] w (BoolP w) := by
  obtain ⟨hz, hs, hb⟩ := twoN_new w 28 9 #[.int .i64 0, .int .i64 0, .string ⟨#[]⟩, .slice none 0 0, .slice none 0 0, .slice none 0 0] #[.string ⟨#[70, 97, 108, 115, 101]⟩, .string ⟨#[84, 114, 117, 101]⟩]
  have HZ := Lib.hid hz
  have HS := Lib.hid hs
  have HB := Lib.hid hb
  clear hz hs hb
  go_enter Tryz.func12, Tryz.ntmps12
  go_wp2_with fail
  generalize (w.alloc (.cells #[.int .i64 0, .int .i64 0, .string ⟨#[]⟩, .slice none 0 0, .slice none 0 0, .slice none 0 0] 28)).alloc (.cells #[.string ⟨#[70, 97, 108, 115, 101]⟩, .string ⟨#[84, 114, 117, 101]⟩] 9) = w1 at *
  refine (cunit_any w1).mono ?_
  rintro e w2 ⟨rfl, h2⟩
  replace HZ := Lib.hid (HZ.out.of_eq (h2.block _ HZ.out.lt))
  replace HS := Lib.hid (HS.out.of_eq (h2.block _ HS.out.lt))
  replace HB := Lib.hid (belowStep h2 HB.out)
  clear h2
  go_wp2_with fail
  refine (cunit_any w2).mono ?_
  rintro e w3 ⟨rfl, h2⟩
  replace HZ := Lib.hid (HZ.out.of_eq (h2.block _ HZ.out.lt))
  replace HS := Lib.hid (HS.out.of_eq (h2.block _ HS.out.lt))
  replace HB := Lib.hid (belowStep h2 HB.out)
  clear h2
  obtain ⟨hc, hd, hb2⟩ := twoN_new w3 28 28 #[.int .i64 7, .int .i64 0, .string ByteArray.empty, .slice none 0 0, .slice none 0 0, .slice none 0 0, .int .i64 7, .int .i64 0, .string ByteArray.empty, .slice none 0 0, .slice none 0 0, .slice none 0 0] #[.int .i64 8, .int .i64 0, .string ⟨#[]⟩, .slice none 0 0, .slice (some ⟨w.heap.size + 1, 0, none⟩) 2 2, .slice (some ⟨w3.heap.size, 0, none⟩) 2 2]
  have HC := Lib.hid hc
  have HD := Lib.hid hd
  have HB2 := Lib.hid hb2
  go_upto_region 2 with fail
  generalize hw5 : (w3.alloc (.cells #[.int .i64 7, .int .i64 0, .string ByteArray.empty, .slice none 0 0, .slice none 0 0, .slice none 0 0, .int .i64 7, .int .i64 0, .string ByteArray.empty, .slice none 0 0, .slice none 0 0, .slice none 0 0] 28)).alloc (.cells #[.int .i64 8, .int .i64 0, .string ⟨#[]⟩, .slice none 0 0, .slice (some ⟨w.heap.size + 1, 0, none⟩) 2 2, .slice (some ⟨w3.heap.size, 0, none⟩) 2 2] 28) = w5 at *
  clear hc hd hb2
  have d0 := HD.out.cell 0 (.int .i64 8) rfl
  have d1 := HD.out.cell 1 (.int .i64 0) rfl
  have d2 := HD.out.cell 2 (.string ⟨#[]⟩) rfl
  have d3 := HD.out.cell 3 (.slice none 0 0) rfl
  have d4 := HD.out.cell 4 (.slice (some ⟨w.heap.size + 1, 0, none⟩) 2 2) rfl
  have d5 := HD.out.cell 5 (.slice (some ⟨w3.heap.size, 0, none⟩) 2 2) rfl
  obtain ⟨he, hb3⟩ := boxN_new w5 28 #[.int .i64 8, .int .i64 0, .string ⟨#[]⟩, .slice none 0 0, .slice (some ⟨w.heap.size + 1, 0, none⟩) 2 2, .slice (some ⟨w3.heap.size, 0, none⟩) 2 2]
  have HE3 := Lib.hid he
  have HB3 := Lib.hid hb3
  have hz6 := (HZ.out.of_eq (HB2.out.block _ HZ.out.lt)).of_eq (hb3.block _ (HZ.out.of_eq (HB2.out.block _ HZ.out.lt)).lt)
  have hs6 := (HS.out.of_eq (HB2.out.block _ HS.out.lt)).of_eq (hb3.block _ (HS.out.of_eq (HB2.out.block _ HS.out.lt)).lt)
  have hc6 := HC.out.of_eq (hb3.block _ HC.out.lt)
  have hbl := belowStep hb3 (belowStep HB2.out HB.out)
  clear he hb3
  have hlt := hz6.lt
  have hq := store6_blk hz6 0 (.int .i64 13) (.int .i64 0) (.string ⟨#[]⟩) (.slice none 0 0) (.slice none 0 0) (.slice (some ⟨w5.heap.size, 0, none⟩) 1 1)
  rw [put6_all] at hq
  have ho : ∀ q, q ≠ w.heap.size → (store6 (w5.alloc (.cells #[.int .i64 8, .int .i64 0, .string ⟨#[]⟩, .slice none 0 0, .slice (some ⟨w.heap.size + 1, 0, none⟩) 2 2, .slice (some ⟨w3.heap.size, 0, none⟩) 2 2] 28)) w.heap.size 0 (.int .i64 13) (.int .i64 0) (.string ⟨#[]⟩) (.slice none 0 0) (.slice none 0 0) (.slice (some ⟨w5.heap.size, 0, none⟩) 1 1)).heap[q]? = (w5.alloc (.cells #[.int .i64 8, .int .i64 0, .string ⟨#[]⟩, .slice none 0 0, .slice (some ⟨w.heap.size + 1, 0, none⟩) 2 2, .slice (some ⟨w3.heap.size, 0, none⟩) 2 2] 28)).heap[q]? := fun q hq => store6_other _ _ _ _ _ _ _ _ _ q hq
  have hE := Lib.hid (show BoolP w (.returned (.agg #[.int .i64 13, .int .i64 0, .string ⟨#[]⟩, .slice none 0 0, .slice none 0 0, .slice (some ⟨w5.heap.size, 0, none⟩) 1 1])) (store6 (w5.alloc (.cells #[.int .i64 8, .int .i64 0, .string ⟨#[]⟩, .slice none 0 0, .slice (some ⟨w.heap.size + 1, 0, none⟩) 2 2, .slice (some ⟨w3.heap.size, 0, none⟩) 2 2] 28)) w.heap.size 0 (.int .i64 13) (.int .i64 0) (.string ⟨#[]⟩) (.slice none 0 0) (.slice none 0 0) (.slice (some ⟨w5.heap.size, 0, none⟩) 1 1)) from by
    refine ⟨⟨_, rfl, bool_mem (g1 := w.heap.size + 1) (g2 := w3.heap.size) (hs6.of_eq (ho _ (by omega))) (hc6.of_eq (ho _ ?_)) (HE3.out.of_eq (ho _ ?_))⟩, store6_below hbl _ _ _ _ _ _ _ _ (Nat.le_refl _)⟩
    · have := HZ.out.lt
      omega
    · have := HZ.out.lt
      have := HB2.out.size
      omega)
  unfold store6 at hq hE
  simp only [Nat.zero_add] at hq hE
  have z0 := hq.cell 0 (.int .i64 13) rfl
  have z1 := hq.cell 1 (.int .i64 0) rfl
  have z2 := hq.cell 2 (.string ⟨#[]⟩) rfl
  have z3 := hq.cell 3 (.slice none 0 0) rfl
  have z4 := hq.cell 4 (.slice none 0 0) rfl
  have z5 := hq.cell 5 (.slice (some ⟨w5.heap.size, 0, none⟩) 1 1) rfl
  have r0 := hz6.cell 0 (.int .i64 0) rfl
  have r1 := hz6.cell 1 (.int .i64 0) rfl
  have r2 := hz6.cell 2 (.string ⟨#[]⟩) rfl
  have r3 := hz6.cell 3 (.slice none 0 0) rfl
  have r4 := hz6.cell 4 (.slice none 0 0) rfl
  have r5 := hz6.cell 5 (.slice none 0 0) rfl
  have t0 := hz6.thaw 0
  have t1 := hz6.thaw 1
  have t2 := hz6.thaw 2
  have t3 := hz6.thaw 3
  have t4 := hz6.thaw 4
  have t5 := hz6.thaw 5
  clear hq ho hz6 hs6 hc6 hbl
  go_wp2
  refine bodyPost_ret (v := .agg #[.int .i64 13, .int .i64 0, .string ⟨#[]⟩, .slice none 0 0, .slice none 0 0, .slice (some ⟨w5.heap.size, 0, none⟩) 1 1]) (by first | (simp [results, Tryz.results12, go_sem, z0, z1, z2, z3, z4, z5]; done) | (simp [results, Tryz.results12, go_sem, z0, z1, z2, z3, z4, z5]; rfl)) rfl ?_
  exact hE.out
set_option maxRecDepth 100000 in
set_option maxHeartbeats 1000000 in
theorem rbool_any (w : World) : Calls Tryz.prog 13 #[] w (BoolP w) := by
  obtain ⟨hz, hs, hb⟩ := twoN_new w 28 9 #[.int .i64 0, .int .i64 0, .string ⟨#[]⟩, .slice none 0 0, .slice none 0 0, .slice none 0 0] #[.string ⟨#[70, 97, 108, 115, 101]⟩, .string ⟨#[84, 114, 117, 101]⟩]
  have HZ := Lib.hid hz
  have HS := Lib.hid hs
  have HB := Lib.hid hb
  clear hz hs hb
  go_enter Tryz.func13, Tryz.ntmps13
  go_wp2_with fail
  generalize (w.alloc (.cells #[.int .i64 0, .int .i64 0, .string ⟨#[]⟩, .slice none 0 0, .slice none 0 0, .slice none 0 0] 28)).alloc (.cells #[.string ⟨#[70, 97, 108, 115, 101]⟩, .string ⟨#[84, 114, 117, 101]⟩] 9) = w1 at *
  refine (runit_any w1).mono ?_
  rintro e w2 ⟨rfl, h2⟩
  replace HZ := Lib.hid (HZ.out.of_eq (h2.block _ HZ.out.lt))
  replace HS := Lib.hid (HS.out.of_eq (h2.block _ HS.out.lt))
  replace HB := Lib.hid (belowStep h2 HB.out)
  clear h2
  go_wp2_with fail
  refine (runit_any w2).mono ?_
  rintro e w3 ⟨rfl, h2⟩
  replace HZ := Lib.hid (HZ.out.of_eq (h2.block _ HZ.out.lt))
  replace HS := Lib.hid (HS.out.of_eq (h2.block _ HS.out.lt))
  replace HB := Lib.hid (belowStep h2 HB.out)
  clear h2
  obtain ⟨hc, hd, hb2⟩ := twoN_new w3 28 28 #[.int .i64 7, .int .i64 0, .string ByteArray.empty, .slice none 0 0, .slice none 0 0, .slice none 0 0, .int .i64 7, .int .i64 0, .string ByteArray.empty, .slice none 0 0, .slice none 0 0, .slice none 0 0] #[.int .i64 8, .int .i64 0, .string ⟨#[]⟩, .slice none 0 0, .slice (some ⟨w.heap.size + 1, 0, none⟩) 2 2, .slice (some ⟨w3.heap.size, 0, none⟩) 2 2]
  have HE3 := Lib.hid hd
  have hz6 := HZ.out.of_eq (hb2.block _ HZ.out.lt)
  have hs6 := HS.out.of_eq (hb2.block _ HS.out.lt)
  have hc6 := hc
  have hbl := belowStep hb2 HB.out
  clear hd hc hb2
  have hlt := hz6.lt
  have hq := store6_blk hz6 0 (.int .i64 13) (.int .i64 0) (.string ⟨#[]⟩) (.slice none 0 0) (.slice none 0 0) (.slice (some ⟨(w3.heap.size + 1), 0, none⟩) 1 1)
  rw [put6_all] at hq
  have ho : ∀ q, q ≠ w.heap.size → (store6 ((w3.alloc (.cells #[.int .i64 7, .int .i64 0, .string ByteArray.empty, .slice none 0 0, .slice none 0 0, .slice none 0 0, .int .i64 7, .int .i64 0, .string ByteArray.empty, .slice none 0 0, .slice none 0 0, .slice none 0 0] 28)).alloc (.cells #[.int .i64 8, .int .i64 0, .string ⟨#[]⟩, .slice none 0 0, .slice (some ⟨w.heap.size + 1, 0, none⟩) 2 2, .slice (some ⟨w3.heap.size, 0, none⟩) 2 2] 28)) w.heap.size 0 (.int .i64 13) (.int .i64 0) (.string ⟨#[]⟩) (.slice none 0 0) (.slice none 0 0) (.slice (some ⟨(w3.heap.size + 1), 0, none⟩) 1 1)).heap[q]? = ((w3.alloc (.cells #[.int .i64 7, .int .i64 0, .string ByteArray.empty, .slice none 0 0, .slice none 0 0, .slice none 0 0, .int .i64 7, .int .i64 0, .string ByteArray.empty, .slice none 0 0, .slice none 0 0, .slice none 0 0] 28)).alloc (.cells #[.int .i64 8, .int .i64 0, .string ⟨#[]⟩, .slice none 0 0, .slice (some ⟨w.heap.size + 1, 0, none⟩) 2 2, .slice (some ⟨w3.heap.size, 0, none⟩) 2 2] 28)).heap[q]? := fun q hq => store6_other _ _ _ _ _ _ _ _ _ q hq
  have hE := Lib.hid (show BoolP w (.returned (.agg #[.int .i64 13, .int .i64 0, .string ⟨#[]⟩, .slice none 0 0, .slice none 0 0, .slice (some ⟨(w3.heap.size + 1), 0, none⟩) 1 1])) (store6 ((w3.alloc (.cells #[.int .i64 7, .int .i64 0, .string ByteArray.empty, .slice none 0 0, .slice none 0 0, .slice none 0 0, .int .i64 7, .int .i64 0, .string ByteArray.empty, .slice none 0 0, .slice none 0 0, .slice none 0 0] 28)).alloc (.cells #[.int .i64 8, .int .i64 0, .string ⟨#[]⟩, .slice none 0 0, .slice (some ⟨w.heap.size + 1, 0, none⟩) 2 2, .slice (some ⟨w3.heap.size, 0, none⟩) 2 2] 28)) w.heap.size 0 (.int .i64 13) (.int .i64 0) (.string ⟨#[]⟩) (.slice none 0 0) (.slice none 0 0) (.slice (some ⟨(w3.heap.size + 1), 0, none⟩) 1 1)) from by
    refine ⟨⟨_, rfl, bool_mem (g1 := w.heap.size + 1) (g2 := w3.heap.size) (hs6.of_eq (ho _ (by omega))) (hc6.of_eq (ho _ ?_)) (HE3.out.of_eq (ho _ ?_))⟩, store6_below hbl _ _ _ _ _ _ _ _ (Nat.le_refl _)⟩
    · have := HZ.out.lt
      omega
    · have := HZ.out.lt
      omega)
  unfold store6 at hq hE
  simp only [Nat.zero_add] at hq hE
  have z0 := hq.cell 0 (.int .i64 13) rfl
  have z1 := hq.cell 1 (.int .i64 0) rfl
  have z2 := hq.cell 2 (.string ⟨#[]⟩) rfl
  have z3 := hq.cell 3 (.slice none 0 0) rfl
  have z4 := hq.cell 4 (.slice none 0 0) rfl
  have z5 := hq.cell 5 (.slice (some ⟨(w3.heap.size + 1), 0, none⟩) 1 1) rfl
  have r0 := hz6.cell 0 (.int .i64 0) rfl
  have r1 := hz6.cell 1 (.int .i64 0) rfl
  have r2 := hz6.cell 2 (.string ⟨#[]⟩) rfl
  have r3 := hz6.cell 3 (.slice none 0 0) rfl
  have r4 := hz6.cell 4 (.slice none 0 0) rfl
  have r5 := hz6.cell 5 (.slice none 0 0) rfl
  have t0 := hz6.thaw 0
  have t1 := hz6.thaw 1
  have t2 := hz6.thaw 2
  have t3 := hz6.thaw 3
  have t4 := hz6.thaw 4
  have t5 := hz6.thaw 5
  clear hq ho hz6 hs6 hc6 hbl
  go_wp2
  refine bodyPost_ret (v := .agg #[.int .i64 13, .int .i64 0, .string ⟨#[]⟩, .slice none 0 0, .slice none 0 0, .slice (some ⟨(w3.heap.size + 1), 0, none⟩) 1 1]) (by first | (simp [results, Tryz.results13, go_sem, z0, z1, z2, z3, z4, z5]; done) | (simp [results, Tryz.results13, go_sem, z0, z1, z2, z3, z4, z5]; rfl)) rfl ?_
  exact hE.out
end Go.Proofs.YtmjiocpcenbndaaGreatDoor
namespace Go.Proofs.YtmjiocpcenbndaaGreatDoor
open Go Go.RowKit
open Pl (K Con)
set_option linter.unusedSimpArgs false
set_option linter.unusedVariables false

theorem copy_out (t : Con) (h : Con.allB t = true) : fitOut (Con.reb (shF 0 0) t 0) = outB t := by
  have e := reb_shift 0 0 (Int.le_refl _) t 0 h
  rw [show (0 : Int) + 0 = 0 from rfl, Con.shift_zero t 0 (clean_all t h)] at e
  rw [e]
  unfold fitOut outB
  rw [half_valid t (half_of_all t h)]
set_option maxRecDepth 100000 in
set_option maxHeartbeats 4000000 in
theorem ccopy_own (t : Con) (w : World) (v : Value) (ht : ConV w (· < w.heap.size) t v) (ha : Con.allB t = true) :
    Calls Tryz.prog 34 #[v] w (OutO (outB t) w) := by
  have HOUT := Lib.hid (copy_out t ha).symm
  have HR := Lib.hid (fun (G : Nat) (hG : w.heap.size ≤ G) (wb W : World) (hw : Below w.heap.size w wb) (hgl : G < wb.heap.size) (hbl : Blk wb G 94 #[.int .i64 20000]) (g1 g2 g3 : Nat) (hW : Below wb.heap.size wb W) (hs : ShiftBoxes W g1 g2 g3 G 0 0) (h1 : wb.heap.size ≤ g1) (h2 : wb.heap.size ≤ g2) (h3 : wb.heap.size ≤ g3) =>
    result_any w.heap.size G _ _ (shF 0 0) W (shift_change w.heap.size G g1 g2 g3 0 0 W hG hs (by omega) (by omega) (by omega) (by omega) (by omega)) hG t v ha (hbl.of_eq (hW.block _ hgl)) ((ht.keep (Same.of_below (belowStep hW hw) (fun _ h => h)))))
  obtain ⟨ka, kn, kc, na, nn, nc, la, ln, lc, rfl, -, -, -⟩ := ht.shape
  obtain ⟨hbx, hbx2, hb⟩ := twoN_new w 28 28 #[.int .i64 t.op, .int .i64 t.n, .string t.s, .slice ka kn kc, .slice na nn nc, .slice la ln lc] #[.int .i64 0, .int .i64 0, .string ⟨#[]⟩, .slice none 0 0, .slice none 0 0, .slice none 0 0]
  have HBX := Lib.hid hbx
  have HZ := Lib.hid hbx2
  have HB := Lib.hid hb
  clear hbx hbx2 hb ht ha
  go_enter Tryz.func34, Tryz.ntmps34
  go_upto_region 1 with fail
  generalize ((w.alloc (.cells #[.int .i64 t.op, .int .i64 t.n, .string t.s, .slice ka kn kc, .slice na nn nc, .slice la ln lc] 28)).alloc (.cells #[.int .i64 0, .int .i64 0, .string ⟨#[]⟩, .slice none 0 0, .slice none 0 0, .slice none 0 0] 28)) = w1 at *
  go_wp2_with fail
  refine (newBuilder_any _).mono ?_
  rintro e wb ⟨rfl, hwb⟩
  have hnb := boxN_new w1 94 #[.int .i64 20000]
  rw [← hwb] at hnb
  have HGB := Lib.hid hnb.1
  have HGL := Lib.hid hnb.1.lt
  have HGS := Lib.hid (show w.heap.size + 1 < w1.heap.size from HZ.out.lt)
  have h4 := hnb.2
  replace HB := Lib.hid (belowStep h4 HB.out)
  replace HBX := Lib.hid (HBX.out.of_eq (h4.block _ HBX.out.lt))
  replace HZ := Lib.hid (HZ.out.of_eq (h4.block _ HZ.out.lt))
  clear hnb h4 hwb
  generalize w1.heap.size = G at *
  replace HR := Lib.hid (fun (W : World) => HR.out G (by have := HGS.out; omega) wb W HB.out HGL.out HGB.out)
  obtain ⟨u, c, hfo⟩ : ∃ u c, fitOut (Con.reb (shF 0 0) t 0) = (u, c) := ⟨_, _, rfl⟩
  have HFO := Lib.hid (show outB t = (u, c) from HOUT.out.trans hfo)
  replace HR := Lib.hid (fun (W : World) g1 g2 g3 (hW : Below wb.heap.size wb W) (hs : ShiftBoxes W g1 g2 g3 G 0 0) (h1 : wb.heap.size ≤ g1) (h2 : wb.heap.size ≤ g2) (h3 : wb.heap.size ≤ g3) => (HR.out W g1 g2 g3 hW hs h1 h2 h3).mono (R' := fun e w' => Only G W w' ∧ ∃ y, e = .returned (.tuple #[y, .int .i64 c]) ∧ OwnC w' u (fun q => W.heap.size ≤ q ∧ q < w'.heap.size) y) (by
    rintro e w' ⟨h1, y, h2, h3⟩
    rw [hfo] at h2 h3
    exact ⟨h1, y, h2, h3⟩))
  clear hfo HOUT
  have HSS := Lib.hid (fun W (hW : Only G wb W) => (show Below w.heap.size w W ∧ W.cell? ⟨w.heap.size, 0, none⟩ = some (.int .i64 t.op) ∧ W.cell? ⟨w.heap.size, 1, none⟩ = some (.int .i64 t.n) ∧ W.cell? ⟨w.heap.size, 2, none⟩ = some (.string t.s) ∧ W.cell? ⟨w.heap.size, 3, none⟩ = some (.slice ka kn kc) ∧ W.cell? ⟨w.heap.size, 4, none⟩ = some (.slice na nn nc) ∧ W.cell? ⟨w.heap.size, 5, none⟩ = some (.slice la ln lc) from by
    have h := hW.blk HBX.out (by have := HGS.out; omega)
    exact ⟨HB.out.trans (hW.to (by have := HGS.out; omega) HB.out.size), h.cell 0 _ rfl, h.cell 1 _ rfl, h.cell 2 _ rfl, h.cell 3 _ rfl, h.cell 4 _ rfl, h.cell 5 _ rfl⟩))
  have HST := Lib.hid (fun W (hW : Only G wb W) (x0 x1 x2 x3 x4 x5 : Value) => (show (fun W => Below w.heap.size w W ∧ W.cell? ⟨w.heap.size, 0, none⟩ = some (.int .i64 t.op) ∧ W.cell? ⟨w.heap.size, 1, none⟩ = some (.int .i64 t.n) ∧ W.cell? ⟨w.heap.size, 2, none⟩ = some (.string t.s) ∧ W.cell? ⟨w.heap.size, 3, none⟩ = some (.slice ka kn kc) ∧ W.cell? ⟨w.heap.size, 4, none⟩ = some (.slice na nn nc) ∧ W.cell? ⟨w.heap.size, 5, none⟩ = some (.slice la ln lc)) (((((((W).setCell ⟨w.heap.size + 1, 0, none⟩ x0).setCell ⟨w.heap.size + 1, 1, none⟩ x1).setCell ⟨w.heap.size + 1, 2, none⟩ x2).setCell ⟨w.heap.size + 1, 3, none⟩ x3).setCell ⟨w.heap.size + 1, 4, none⟩ x4).setCell ⟨w.heap.size + 1, 5, none⟩ x5) from by
    have h := (hW.blk HBX.out (by have := HGS.out; omega)).of_eq (store6_other W (w.heap.size + 1) 0 x0 x1 x2 x3 x4 x5 w.heap.size (by omega))
    have h2 := store6_below (HB.out.trans (hW.to (by have := HGS.out; omega) HB.out.size)) (w.heap.size + 1) 0 x0 x1 x2 x3 x4 x5 (Nat.le_succ _)
    unfold store6 at h h2
    simp only [Nat.zero_add] at h h2
    exact ⟨h2, h.cell 0 _ rfl, h.cell 1 _ rfl, h.cell 2 _ rfl, h.cell 3 _ rfl, h.cell 4 _ rfl, h.cell 5 _ rfl⟩))
  simp only at HST
  have HD0 := Lib.hid (Only.refl G wb).drew
  have HD1 := Lib.hid (Below.refl wb.heap.size wb).drew
  have HTH := Lib.hid (fun W (hW : Only G wb W) => hW.blk HZ.out (by have := HGS.out; omega))
  go_wp2_with fail
  go_region_held3 (fun W => Below w.heap.size w W ∧ W.cell? ⟨w.heap.size, 0, none⟩ = some (.int .i64 t.op) ∧ W.cell? ⟨w.heap.size, 1, none⟩ = some (.int .i64 t.n) ∧ W.cell? ⟨w.heap.size, 2, none⟩ = some (.string t.s) ∧ W.cell? ⟨w.heap.size, 3, none⟩ = some (.slice ka kn kc) ∧ W.cell? ⟨w.heap.size, 4, none⟩ = some (.slice na nn nc) ∧ W.cell? ⟨w.heap.size, 5, none⟩ = some (.slice la ln lc))
    (first | (with_reducible exact HSS.out _ HD0.out) | (with_reducible exact HSS.out _ (by assumption)) | (with_reducible exact HST.out _ (by assumption) _ _ _ _ _ _))
    (first
    | (go_at_call 48; (with_reducible refine (shifting_any G 0 0 _).mono ?_); rintro e wn ⟨⟨g1, g2, g3, rfl, hsb, l1, l2, l3⟩, hbn⟩; have hbn2 := belowStep (a := wb) hbn (by first | assumption | exact HD1.out); have hon := only_below (N := G) hbn2; have k1 := Nat.le_trans HD1.out.size l1; have k2 := Nat.le_trans HD1.out.size l2; have k3 := Nat.le_trans HD1.out.size l3)
    | (go_at_call 47; (with_reducible refine (HR.out _ _ _ _ (by assumption) (by assumption) (by assumption) (by assumption) (by assumption)).mono ?_); rintro e wr ⟨hor, y, rfl, hy⟩; have hor2 := Only.trans hon hor; obtain ⟨ua, un, uc, va, vn, vc, xa, xn, xc, rfl, -, -, -⟩ := hy.shape; have hzr := HTH.out _ hor2; have t0 := hzr.thaw 0; have t1 := hzr.thaw 1; have t2 := hzr.thaw 2; have t3 := hzr.thaw 3; have t4 := hzr.thaw 4; have t5 := hzr.thaw 5; have r0 := hzr.cell 0 (.int .i64 0) rfl; have r1 := hzr.cell 1 (.int .i64 0) rfl; have r2 := hzr.cell 2 (.string ⟨#[]⟩) rfl; have r3 := hzr.cell 3 (.slice none 0 0) rfl; have r4 := hzr.cell 4 (.slice none 0 0) rfl; have r5 := hzr.cell 5 (.slice none 0 0) rfl))
  have hz := store6_blk hzr 0 (.int .i64 u.op) (.int .i64 u.n) (.string u.s) (.slice ua un uc) (.slice va vn vc) (.slice xa xn xc)
  rw [put6_all] at hz
  have HE := Lib.hid (show OutO (outB t) w (.returned (.tuple #[.agg #[.int .i64 u.op, .int .i64 u.n, .string u.s, .slice ua un uc, .slice va vn vc, .slice xa xn xc], .int .i64 c])) (store6 wr (w.heap.size + 1) 0 (.int .i64 u.op) (.int .i64 u.n) (.string u.s) (.slice ua un uc) (.slice va vn vc) (.slice xa xn xc)) from by
    rw [HFO.out]
    refine ⟨⟨_, rfl, (hy.keep (fun q hq => store6_other _ _ _ _ _ _ _ _ _ q (by
      have := HGS.out
      have := hon.size
      have := HGL.out
      have := hq.1
      omega))).mono (fun q hq => ?_)⟩, store6_below (HB.out.trans (hor2.to (by have := HGS.out; omega) HB.out.size)) _ _ _ _ _ _ _ _ (Nat.le_succ _)⟩
    rw [store6_size]
    have := HGS.out
    have := hon.size
    have := HGL.out
    exact ⟨by have := hq.1; omega, hq.2⟩)
  unfold store6 at hz HE
  simp only [Nat.zero_add] at hz HE
  have z0 := hz.cell 0 (.int .i64 u.op) rfl
  have z1 := hz.cell 1 (.int .i64 u.n) rfl
  have z2 := hz.cell 2 (.string u.s) rfl
  have z3 := hz.cell 3 (.slice ua un uc) rfl
  have z4 := hz.cell 4 (.slice va vn vc) rfl
  have z5 := hz.cell 5 (.slice xa xn xc) rfl
  clear hy hzr hz HR HSS HST HTH HBX HZ HB hsb
  go_wp2
  refine bodyPost_ret (v := .tuple #[.agg #[.int .i64 u.op, .int .i64 u.n, .string u.s, .slice ua un uc, .slice va vn vc, .slice xa xn xc], .int .i64 c]) (by simp [results, Tryz.results34, go_sem, z0, z1, z2, z3, z4, z5]) rfl ?_
  exact HE.out
theorem ccopy_any (t : Con) (w : World) (v : Value) (ht : ConV w (· < w.heap.size) t v) (ha : Con.allB t = true) :
    Calls Tryz.prog 34 #[v] w (OutF (outB t) w) := (ccopy_own t w v ht ha).mono fun _ _ h => h.fresh
end Go.Proofs.YtmjiocpcenbndaaGreatDoor
namespace Go.Proofs.YtmjiocpcenbndaaGreatDoor
open Go Go.RowKit
open Pl (K Con)
set_option linter.unusedSimpArgs false
set_option linter.unusedVariables false

/-- a constructor applied to others -/
def appsC (t : Con) (l : List Con) : Con := l.foldl ap t
theorem appsC_snoc (t x : Con) (l : List Con) : appsC t (l ++ [x]) = ap (appsC t l) x := by unfold appsC; rw [List.foldl_append]; rfl
theorem ap_all (t x : Con) (ht : Con.allB t = true) (hx : Con.allB x = true) : Con.allB (ap t x) = true := by
  rw [allB_eq, Bool.and_eq_true]
  have he : ByteArray.empty.toList = [] := by rw [ByteArray.toList_eq]; rfl
  have e1 : Con.shapeB (ap t x) = true := by simp [Con.shapeB, ap, Con.partsOf]
  have e2 : Con.numB (ap t x) = true := by simp [Con.numB, ap]
  have e3 : Con.strB (ap t x) = true := by simp [Con.strB, ap, he]
  have e4 : Con.kindB (ap t x) = true := by simp [Con.kindB, ap, Con.binder]; rfl
  have e5 : (decide (1 ≤ (ap t x).op) && decide ((ap t x).op ≤ 13)) = true := by simp [ap]
  refine ⟨?_, ?_⟩
  · unfold Con.nodeB
    rw [e1, e2, e3, e4, e5]
    rfl
  · show [t, x].all Con.allB = true
    rw [List.all_cons, List.all_cons, ht, hx]; rfl
theorem appsC_all (t : Con) (l : List Con) (ht : Con.allB t = true) (hl : ∀ x ∈ l, Con.allB x = true) : Con.allB (appsC t l) = true := by
  unfold appsC
  induction l generalizing t with
  | nil => exact ht
  | cons x r ih => exact ih (ap t x) (ap_all t x ht (hl x List.mem_cons_self)) (fun y hy => hl y (List.mem_cons_of_mem _ hy))
/-- what Apps answers -/
def appsOut (t : Con) (l : List Con) : Con × Int := if (Con.validB t && l.all Con.validB) = true then (if 1000 < l.length then (Con.none0, 5) else outB (appsC t l)) else (Con.none0, 1)
set_option maxRecDepth 100000 in
set_option maxHeartbeats 4000000 in
theorem capps_own (t : Con) (l : List Con) (w : World) (v xv : Value) (ht : ConV w (· < w.heap.size) t v) (hl : ConSl w (· < w.heap.size) xv l) :
    Calls Tryz.prog 6 #[v, xv] w (OutO (appsOut t l) w) := by
  have HV := Lib.hid (fun W (hW : Below w.heap.size w W) => cvalid_any (· < w.heap.size) t W v (fun q hq => Nat.lt_of_lt_of_le hq hW.size) (ht.keep (Same.of_below hW (fun _ h => h))))
  have HALL := Lib.hid (fun W (hW : Below w.heap.size w W) => allC_any 32 (fun _ _ => by kernel_rfl) Con.validB (· < w.heap.size) l (fun t _ W v h1 h2 => cvalid_any (· < w.heap.size) t W v h1 h2) W xv (fun q hq => Nat.lt_of_lt_of_le hq hW.size) (hl.keep (Same.of_below hW (fun _ h => h))))
  have HO := Lib.hid (show appsOut t l = if (Con.validB t && l.all Con.validB) = true then (if 1000 < l.length then (Con.none0, 5) else outB (appsC t l)) else (Con.none0, 1) from rfl)
  have HT := Lib.hid (fun W (hW : Below w.heap.size w W) => (ht.keep (Same.of_below hW (fun _ h => h))))
  have HSL := Lib.hid (fun W (hW : Below w.heap.size w W) => hl.keep (Same.of_below hW (fun _ h => h)))
  obtain ⟨ka, kn, kc, na, nn, nc, la, ln, lc, rfl, -, -, -⟩ := ht.shape
  obtain ⟨sa, lc9, rfl, hmn, hmx, -⟩ := hl.each
  obtain ⟨n, hn⟩ : ∃ n, n = l.length := ⟨_, rfl⟩
  have HN := Lib.hid hn
  have hn63 : n ≤ 9223372036854775807 := by unfold maxLen at hmx; omega
  rw [← hn] at HALL HSL ⊢
  obtain ⟨hbx, hbx2, hb⟩ := twoN_new w 28 28 #[.int .i64 t.op, .int .i64 t.n, .string t.s, .slice ka kn kc, .slice na nn nc, .slice la ln lc] #[.int .i64 0, .int .i64 0, .string ⟨#[]⟩, .slice none 0 0, .slice none 0 0, .slice none 0 0]
  have HBX := Lib.hid hbx
  have HZ := Lib.hid hbx2
  have HB := Lib.hid hb
  clear hbx hbx2 hb ht hl hmx hmn hn
  go_enter Tryz.func6, Tryz.ntmps6
  go_upto_region 1 with fail
  generalize (w.alloc (.cells #[.int .i64 t.op, .int .i64 t.n, .string t.s, .slice ka kn kc, .slice na nn nc, .slice la ln lc] 28)).alloc (.cells #[.int .i64 0, .int .i64 0, .string ⟨#[]⟩, .slice none 0 0, .slice none 0 0, .slice none 0 0] 28) = w1 at *
  have c0 := HBX.out.cell 0 (.int .i64 t.op) rfl
  have c1 := HBX.out.cell 1 (.int .i64 t.n) rfl
  have c2 := HBX.out.cell 2 (.string t.s) rfl
  have c3 := HBX.out.cell 3 (.slice ka kn kc) rfl
  have c4 := HBX.out.cell 4 (.slice na nn nc) rfl
  have c5 := HBX.out.cell 5 (.slice la ln lc) rfl
  go_wp2_with fail
  clear c0 c1 c2 c3 c4 c5
  refine (HV.out _ HB.out).mono ?_
  rintro e w2 ⟨rfl, h2⟩
  replace HBX := Lib.hid (HBX.out.of_eq (h2.block _ HBX.out.lt))
  replace HZ := Lib.hid (HZ.out.of_eq (h2.block _ HZ.out.lt))
  replace HB := Lib.hid (belowStep h2 HB.out)
  clear h2
  cases hv : Con.validB t
  · have HO2 := Lib.hid (show appsOut t l = (Con.none0, 1) from by rw [HO.out, if_neg (by rw [hv]; simp)])
    have hzz := HZ.out
    have hz := store6_blk hzz 0 (.int .i64 0) (.int .i64 0) (.string ⟨#[]⟩) (.slice none 0 0) (.slice none 0 0) (.slice none 0 0)
    rw [put6_all] at hz
    have HE := Lib.hid (show OutO (appsOut t l) w (.returned (.tuple #[.agg #[.int .i64 0, .int .i64 0, .string ⟨#[]⟩, .slice none 0 0, .slice none 0 0, .slice none 0 0], .int .i64 1])) (store6 w2 (w.heap.size + 1) 0 (.int .i64 0) (.int .i64 0) (.string ⟨#[]⟩) (.slice none 0 0) (.slice none 0 0) (.slice none 0 0)) from ⟨⟨_, by rw [HO2.out], by rw [HO2.out]; exact ownC_none _ _⟩, store6_below HB.out _ _ _ _ _ _ _ _ (by omega)⟩)
    unfold store6 at hz HE
    simp only [Nat.zero_add] at hz HE
    have z0 := hz.cell 0 (.int .i64 0) rfl
    have z1 := hz.cell 1 (.int .i64 0) rfl
    have z2 := hz.cell 2 (.string ⟨#[]⟩) rfl
    have z3 := hz.cell 3 (.slice none 0 0) rfl
    have z4 := hz.cell 4 (.slice none 0 0) rfl
    have z5 := hz.cell 5 (.slice none 0 0) rfl
    have r0 := hzz.cell 0 (.int .i64 0) rfl
    have r1 := hzz.cell 1 (.int .i64 0) rfl
    have r2 := hzz.cell 2 (.string ⟨#[]⟩) rfl
    have r3 := hzz.cell 3 (.slice none 0 0) rfl
    have r4 := hzz.cell 4 (.slice none 0 0) rfl
    have r5 := hzz.cell 5 (.slice none 0 0) rfl
    have t0 := hzz.thaw 0
    have t1 := hzz.thaw 1
    have t2 := hzz.thaw 2
    have t3 := hzz.thaw 3
    have t4 := hzz.thaw 4
    have t5 := hzz.thaw 5
    clear hz hzz HV HALL HO HBX HZ HO2
    go_wp2
    refine bodyPost_ret (v := .tuple #[.agg #[.int .i64 0, .int .i64 0, .string ⟨#[]⟩, .slice none 0 0, .slice none 0 0, .slice none 0 0], .int .i64 1]) (by simp [results, Tryz.results6, go_sem, z0, z1, z2, z3, z4, z5]) rfl ?_
    exact HE.out
  have HVT := Lib.hid hv
  rw [hv] at HV
  clear hv
  go_wp2_with fail
  refine (HALL.out _ HB.out).mono ?_
  rintro e w3 ⟨rfl, h3⟩
  replace HBX := Lib.hid (HBX.out.of_eq (h3.block _ HBX.out.lt))
  replace HZ := Lib.hid (HZ.out.of_eq (h3.block _ HZ.out.lt))
  replace HB := Lib.hid (belowStep h3 HB.out)
  clear h3
  cases hlv : l.all Con.validB
  · have HO2 := Lib.hid (show appsOut t l = (Con.none0, 1) from by rw [HO.out, if_neg (by rw [hlv]; simp)])
    have hzz := HZ.out
    have hz := store6_blk hzz 0 (.int .i64 0) (.int .i64 0) (.string ⟨#[]⟩) (.slice none 0 0) (.slice none 0 0) (.slice none 0 0)
    rw [put6_all] at hz
    have HE := Lib.hid (show OutO (appsOut t l) w (.returned (.tuple #[.agg #[.int .i64 0, .int .i64 0, .string ⟨#[]⟩, .slice none 0 0, .slice none 0 0, .slice none 0 0], .int .i64 1])) (store6 w3 (w.heap.size + 1) 0 (.int .i64 0) (.int .i64 0) (.string ⟨#[]⟩) (.slice none 0 0) (.slice none 0 0) (.slice none 0 0)) from ⟨⟨_, by rw [HO2.out], by rw [HO2.out]; exact ownC_none _ _⟩, store6_below HB.out _ _ _ _ _ _ _ _ (by omega)⟩)
    unfold store6 at hz HE
    simp only [Nat.zero_add] at hz HE
    have z0 := hz.cell 0 (.int .i64 0) rfl
    have z1 := hz.cell 1 (.int .i64 0) rfl
    have z2 := hz.cell 2 (.string ⟨#[]⟩) rfl
    have z3 := hz.cell 3 (.slice none 0 0) rfl
    have z4 := hz.cell 4 (.slice none 0 0) rfl
    have z5 := hz.cell 5 (.slice none 0 0) rfl
    have r0 := hzz.cell 0 (.int .i64 0) rfl
    have r1 := hzz.cell 1 (.int .i64 0) rfl
    have r2 := hzz.cell 2 (.string ⟨#[]⟩) rfl
    have r3 := hzz.cell 3 (.slice none 0 0) rfl
    have r4 := hzz.cell 4 (.slice none 0 0) rfl
    have r5 := hzz.cell 5 (.slice none 0 0) rfl
    have t0 := hzz.thaw 0
    have t1 := hzz.thaw 1
    have t2 := hzz.thaw 2
    have t3 := hzz.thaw 3
    have t4 := hzz.thaw 4
    have t5 := hzz.thaw 5
    clear hz hzz HV HALL HO HBX HZ HO2
    go_wp2
    refine bodyPost_ret (v := .tuple #[.agg #[.int .i64 0, .int .i64 0, .string ⟨#[]⟩, .slice none 0 0, .slice none 0 0, .slice none 0 0], .int .i64 1]) (by simp [results, Tryz.results6, go_sem, z0, z1, z2, z3, z4, z5]) rfl ?_
    exact HE.out
  have HLV := Lib.hid hlv
  clear hlv HALL HV
  cases q1 : decide ((1000 : Int) < (n : Int))
  rotate_left
  · have HLN := Lib.hid (show 1000 < n from by have := of_decide_eq_true q1; omega)
    have HO2 := Lib.hid (show appsOut t l = (Con.none0, 5) from by rw [HO.out, if_pos (by rw [HVT.out, HLV.out]; rfl), if_pos (by rw [← HN.out]; exact HLN.out)])
    have hzz := HZ.out
    have hz := store6_blk hzz 0 (.int .i64 0) (.int .i64 0) (.string ⟨#[]⟩) (.slice none 0 0) (.slice none 0 0) (.slice none 0 0)
    rw [put6_all] at hz
    have HE := Lib.hid (show OutO (appsOut t l) w (.returned (.tuple #[.agg #[.int .i64 0, .int .i64 0, .string ⟨#[]⟩, .slice none 0 0, .slice none 0 0, .slice none 0 0], .int .i64 5])) (store6 w3 (w.heap.size + 1) 0 (.int .i64 0) (.int .i64 0) (.string ⟨#[]⟩) (.slice none 0 0) (.slice none 0 0) (.slice none 0 0)) from ⟨⟨_, by rw [HO2.out], by rw [HO2.out]; exact ownC_none _ _⟩, store6_below HB.out _ _ _ _ _ _ _ _ (by omega)⟩)
    unfold store6 at hz HE
    simp only [Nat.zero_add] at hz HE
    have z0 := hz.cell 0 (.int .i64 0) rfl
    have z1 := hz.cell 1 (.int .i64 0) rfl
    have z2 := hz.cell 2 (.string ⟨#[]⟩) rfl
    have z3 := hz.cell 3 (.slice none 0 0) rfl
    have z4 := hz.cell 4 (.slice none 0 0) rfl
    have z5 := hz.cell 5 (.slice none 0 0) rfl
    have r0 := hzz.cell 0 (.int .i64 0) rfl
    have r1 := hzz.cell 1 (.int .i64 0) rfl
    have r2 := hzz.cell 2 (.string ⟨#[]⟩) rfl
    have r3 := hzz.cell 3 (.slice none 0 0) rfl
    have r4 := hzz.cell 4 (.slice none 0 0) rfl
    have r5 := hzz.cell 5 (.slice none 0 0) rfl
    have t0 := hzz.thaw 0
    have t1 := hzz.thaw 1
    have t2 := hzz.thaw 2
    have t3 := hzz.thaw 3
    have t4 := hzz.thaw 4
    have t5 := hzz.thaw 5
    clear hz hzz HO HBX HZ HO2
    go_wp2
    refine bodyPost_ret (v := .tuple #[.agg #[.int .i64 0, .int .i64 0, .string ⟨#[]⟩, .slice none 0 0, .slice none 0 0, .slice none 0 0], .int .i64 5]) (by simp [results, Tryz.results6, go_sem, z0, z1, z2, z3, z4, z5]) rfl ?_
    exact HE.out
  have HLN := Lib.hid (show n ≤ 1000 from by have := of_decide_eq_false q1; omega)
  have HOUT := Lib.hid (show appsOut t l = outB (appsC t l) from by rw [HO.out, if_pos (by rw [HVT.out, HLV.out]; rfl), if_neg (by rw [← HN.out]; have := HLN.out; omega)])
  have HALLB := Lib.hid (appsC_all t l (valid_all t HVT.out) (fun x hx => valid_all x (List.all_eq_true.1 HLV.out x hx)))
  clear HO
  have c0 := HBX.out.cell 0 (.int .i64 t.op) rfl
  have c1 := HBX.out.cell 1 (.int .i64 t.n) rfl
  have c2 := HBX.out.cell 2 (.string t.s) rfl
  have c3 := HBX.out.cell 3 (.slice ka kn kc) rfl
  have c4 := HBX.out.cell 4 (.slice na nn nc) rfl
  have c5 := HBX.out.cell 5 (.slice la ln lc) rfl
  obtain ⟨hb6, hbb⟩ := boxN_new w3 28 #[.int .i64 t.op, .int .i64 t.n, .string t.s, .slice ka kn kc, .slice na nn nc, .slice la ln lc]
  go_upto_region 7 with fail
  clear c0 c1 c2 c3 c4 c5
  have hsz4 := size_alloc w3 (.cells #[.int .i64 t.op, .int .i64 t.n, .string t.s, .slice ka kn kc, .slice na nn nc, .slice la ln lc] 28)
  obtain ⟨B6, hB6⟩ : ∃ b, b = w3.heap.size := ⟨_, rfl⟩
  rw [← hB6] at hb6 ⊢
  have hT4 := HT.out _ (belowStep hbb HB.out)
  have HGE := Lib.hid (show w.heap.size + 2 ≤ B6 from by have := HZ.out.lt; omega)
  replace HBX := Lib.hid (HBX.out.of_eq (hbb.block _ HBX.out.lt))
  replace HZ := Lib.hid (HZ.out.of_eq (hbb.block _ HZ.out.lt))
  replace HB := Lib.hid (belowStep hbb HB.out)
  generalize w3.alloc (.cells #[.int .i64 t.op, .int .i64 t.n, .string t.s, .slice ka kn kc, .slice na nn nc, .slice la ln lc] 28) = w4 at *
  have HS4 := Lib.hid (show B6 + 1 = w4.heap.size from by omega)
  clear hbb hsz4 hB6 q1
  go_loopg [25] (n + 1) (fun gk i wr => ∃ (k : Nat) (ka : Option Addr) (kn kc : Nat) (na : Option Addr) (nn nc : Nat) (la : Option Addr) (ln lc : Nat), k ≤ n ∧ i = .int .i64 k ∧ gk = n + 1 - k ∧ Blk wr B6 28 #[.int .i64 (appsC t (l.take k)).op, .int .i64 (appsC t (l.take k)).n, .string (appsC t (l.take k)).s, .slice ka kn kc, .slice na nn nc, .slice la ln lc] ∧ ConV wr (fun q => q < wr.heap.size ∧ q ≠ B6 ∧ q ≠ w.heap.size + 1) (appsC t (l.take k)) (.agg #[.int .i64 (appsC t (l.take k)).op, .int .i64 (appsC t (l.take k)).n, .string (appsC t (l.take k)).s, .slice ka kn kc, .slice na nn nc, .slice la ln lc]) ∧ Below B6 w4 wr)
  case atStart => exact ⟨0, _, _, _, _, _, _, _, _, _, Nat.zero_le _, rfl, by omega, by rw [List.take_zero]; exact hb6, by rw [List.take_zero]; exact hT4.mono (fun q hq => ⟨by have : q < w.heap.size := hq; have := HGE.out; have := HS4.out; omega, by have : q < w.heap.size := hq; have := HGE.out; omega, by have : q < w.heap.size := hq; omega⟩), Below.refl _ _⟩
  case round =>
    obtain ⟨k, ka2, kn2, kc2, na2, nn2, nc2, la2, ln2, lc2, hk, rfl, hgk, hbk, hck, hbw⟩ := hrel
    have HBK := Lib.hid hbk
    have HCK := Lib.hid hck
    have HBW := Lib.hid hbw
    clear hbk hck hbw hb6 hT4
    by_cases hlt : k < n
    · have hkl : k < l.length := by rw [← HN.out]; exact hlt
      have q5 : decide ((k : Int) < (n : Int)) = true := decide_eq_true (by omega)
      have HWW := Lib.hid (show Below w.heap.size w wr from HB.out.trans (HBW.out.mono (by have := HGE.out; omega)))
      obtain ⟨b, off, c', ya, yn, yc, za, zn, zc, pa, pn, pc, e, hPb, f0, f1, f2, f3, f4, f5, hx⟩ := (HSL.out wr HWW.out).part k hkl
      injection e with e1 e2 e3
      subst e1 e3
      clear e2
      have HTK := Lib.hid (show appsC t (l.take (k + 1)) = ap (appsC t (l.take k)) l[k] from by rw [List.take_succ_eq_append_getElem hkl, appsC_snoc])
      obtain ⟨u, hu⟩ : ∃ u, u = l[k] := ⟨_, rfl⟩
      rw [← hu] at f0 f1 f2 hx HTK
      have HX := Lib.hid hx
      clear hu hx
      obtain ⟨cc, hcc⟩ : ∃ c, c = appsC t (l.take k) := ⟨_, rfl⟩
      rw [← hcc] at HBK HCK HTK
      clear hcc
      obtain ⟨hbx, hb⟩ := boxN_new wr 28 #[.int .i64 u.op, .int .i64 u.n, .string u.s, .slice ya yn yc, .slice za zn zc, .slice pa pn pc]
      have hbk5 := HBK.out.of_eq (hb.block _ HBK.out.lt)
      have hc5 := HCK.out.keep (Same.of_below hb (fun q hq => hq.1))
      have hx5 := HX.out.keep (Same.of_below hb (fun q (h : q < w.heap.size) => Nat.lt_of_lt_of_le h HWW.out.size))
      have hsz5 := size_alloc wr (.cells #[.int .i64 u.op, .int .i64 u.n, .string u.s, .slice ya yn yc, .slice za zn zc, .slice pa pn pc] 28)
      have c0 := HBK.out.cell 0 (.int .i64 cc.op) rfl
      have c1 := HBK.out.cell 1 (.int .i64 cc.n) rfl
      have c2 := HBK.out.cell 2 (.string cc.s) rfl
      have c3 := HBK.out.cell 3 (.slice ka2 kn2 kc2) rfl
      have c4 := HBK.out.cell 4 (.slice na2 nn2 nc2) rfl
      have c5 := HBK.out.cell 5 (.slice la2 ln2 lc2) rfl
      go_upto_region 9 with fail
      clear c0 c1 c2 c3 c4 c5
      clear f0 f1 f2 f3 f4 f5
      generalize hw5 : wr.alloc (.cells #[.int .i64 u.op, .int .i64 u.n, .string u.s, .slice ya yn yc, .slice za zn zc, .slice pa pn pc] 28) = w5 at *
      have c0 := hbk5.cell 0 (.int .i64 cc.op) rfl
      have c1 := hbk5.cell 1 (.int .i64 cc.n) rfl
      have c2 := hbk5.cell 2 (.string cc.s) rfl
      have c3 := hbk5.cell 3 (.slice ka2 kn2 kc2) rfl
      have c4 := hbk5.cell 4 (.slice na2 nn2 nc2) rfl
      have c5 := hbk5.cell 5 (.slice la2 ln2 lc2) rfl
      have d0 := hbx.cell 0 (.int .i64 u.op) rfl
      have d1 := hbx.cell 1 (.int .i64 u.n) rfl
      have d2 := hbx.cell 2 (.string u.s) rfl
      have d3 := hbx.cell 3 (.slice ya yn yc) rfl
      have d4 := hbx.cell 4 (.slice za zn zc) rfl
      have d5 := hbx.cell 5 (.slice pa pn pc) rfl
      obtain ⟨hbs, hb6⟩ := boxN_new w5 28 #[.int .i64 cc.op, .int .i64 cc.n, .string cc.s, .slice ka2 kn2 kc2, .slice na2 nn2 nc2, .slice la2 ln2 lc2, .int .i64 u.op, .int .i64 u.n, .string u.s, .slice ya yn yc, .slice za zn zc, .slice pa pn pc]
      have hbk6 := hbk5.alloc (.cells #[.int .i64 cc.op, .int .i64 cc.n, .string cc.s, .slice ka2 kn2 kc2, .slice na2 nn2 nc2, .slice la2 ln2 lc2, .int .i64 u.op, .int .i64 u.n, .string u.s, .slice ya yn yc, .slice za zn zc, .slice pa pn pc] 28)
      have hsz6 := size_alloc w5 (.cells #[.int .i64 cc.op, .int .i64 cc.n, .string cc.s, .slice ka2 kn2 kc2, .slice na2 nn2 nc2, .slice la2 ln2 lc2, .int .i64 u.op, .int .i64 u.n, .string u.s, .slice ya yn yc, .slice za zn zc, .slice pa pn pc] 28)
      have HSL2 := Lib.hid (cons_two (P := fun q => q < w5.heap.size + 1 ∧ q ≠ B6 ∧ q ≠ w.heap.size + 1) hbs ⟨by omega, by have := HBK.out.lt; omega, by have := HZ.out.lt; have := HBW.out.size; omega⟩ ((hc5.keep (Same.of_below hb6 (fun q hq => by have := hq.1; omega))).mono (fun q hq => ⟨by have := hq.1; omega, hq.2⟩)) ((hx5.keep (Same.of_below hb6 (fun q (h : q < w.heap.size) => by have := HWW.out.size; omega))).mono (fun q hq => ⟨by have : q < w.heap.size := hq; have := HWW.out.size; omega, by have : q < w.heap.size := hq; have := HGE.out; omega, by have : q < w.heap.size := hq; omega⟩)))
      have t0 := hbk6.thaw 0
      have t1 := hbk6.thaw 1
      have t2 := hbk6.thaw 2
      have t3 := hbk6.thaw 3
      have t4 := hbk6.thaw 4
      have t5 := hbk6.thaw 5
      have r0 := hbk6.cell 0 (.int .i64 cc.op) rfl
      have r1 := hbk6.cell 1 (.int .i64 cc.n) rfl
      have r2 := hbk6.cell 2 (.string cc.s) rfl
      have r3 := hbk6.cell 3 (.slice ka2 kn2 kc2) rfl
      have r4 := hbk6.cell 4 (.slice na2 nn2 nc2) rfl
      have r5 := hbk6.cell 5 (.slice la2 ln2 lc2) rfl
      have HNB := Lib.hid (show B6 < w5.heap.size from hbk5.lt)
      have HS5 := Lib.hid (show w5.heap.size = wr.heap.size + 1 from hsz5)
      have hz := store6_blk hbk6 0 (.int .i64 12) (.int .i64 0) (.string ⟨#[]⟩) (.slice none 0 0) (.slice none 0 0) (.slice (some ⟨w5.heap.size, 0, none⟩) 2 2)
      rw [put6_all] at hz
      have hbe := store6_below (Below.trans HBW.out (Below.trans (hb.mono (by have := HBK.out.lt; omega)) (hb6.mono (by have := HNB.out; omega)))) B6 0 (.int .i64 12) (.int .i64 0) (.string ⟨#[]⟩) (.slice none 0 0) (.slice none 0 0) (.slice (some ⟨w5.heap.size, 0, none⟩) 2 2) (Nat.le_refl _)
      have hcv : ConSl (store6 (w5.alloc (.cells #[.int .i64 cc.op, .int .i64 cc.n, .string cc.s, .slice ka2 kn2 kc2, .slice na2 nn2 nc2, .slice la2 ln2 lc2, .int .i64 u.op, .int .i64 u.n, .string u.s, .slice ya yn yc, .slice za zn zc, .slice pa pn pc] 28)) B6 0 (.int .i64 12) (.int .i64 0) (.string ⟨#[]⟩) (.slice none 0 0) (.slice none 0 0) (.slice (some ⟨w5.heap.size, 0, none⟩) 2 2)) (fun q => q < w5.heap.size + 1 ∧ q ≠ B6 ∧ q ≠ w.heap.size + 1) (.slice (some ⟨w5.heap.size, 0, none⟩) 2 2) [cc, u] := HSL2.out.keep (fun q hq => store6_other _ _ _ _ _ _ _ _ _ q hq.2.1)
      have hss := store6_size (w5.alloc (.cells #[.int .i64 cc.op, .int .i64 cc.n, .string cc.s, .slice ka2 kn2 kc2, .slice na2 nn2 nc2, .slice la2 ln2 lc2, .int .i64 u.op, .int .i64 u.n, .string u.s, .slice ya yn yc, .slice za zn zc, .slice pa pn pc] 28)) B6 0 (.int .i64 12) (.int .i64 0) (.string ⟨#[]⟩) (.slice none 0 0) (.slice none 0 0) (.slice (some ⟨w5.heap.size, 0, none⟩) 2 2)
      have HE := Lib.hid (And.intro hz (And.intro hbe (And.intro hcv (hss.trans hsz6))))
      unfold store6 at HE
      simp only [Nat.zero_add] at HE
      clear hz hbe hcv hss hbs hb6 hbk6 hsz6 hbk5 hbx hb hc5 hx5 hsz5 hw5 HSL2 HX HCK HBK
      go_wp2
      go_roundg (gk - 1)
      case measure => omega
      case rel =>
        obtain ⟨h1, h2, h3, h4⟩ := HE.out
        refine ⟨k + 1, none, 0, 0, none, 0, 0, _, 2, 2, by omega, by go_num, by omega, by rw [HTK.out]; exact h1, ?_, h2⟩
        rw [HTK.out]
        rw [h4]
        exact (conV_iff _ _ _ _).2 ⟨Nat.zero_le _, _, _, _, rfl, kidV_none _ _, ⟨none, 0, rfl, Nat.le_refl _, Nat.zero_le _, fun _ => rfl, (fun z hz => by cases hz), .inl rfl⟩, h3⟩
    have hkn : k = n := by omega
    subst hkn
    have q5 : decide ((k : Int) < (k : Int)) = false := decide_eq_false (by omega)
    have hta : l.take k = l := List.take_of_length_le (by rw [HN.out]; exact Nat.le_refl _)
    rw [hta] at HBK HCK
    clear hta
    obtain ⟨cc, hcc⟩ : ∃ c, c = appsC t l := ⟨_, rfl⟩
    rw [← hcc] at HBK HCK HALLB HOUT
    clear hcc
    have HZ2 := Lib.hid (HZ.out.of_eq (HBW.out.block _ (by have := HGE.out; omega)))
    have HCP := Lib.hid (ccopy_own cc wr _ (HCK.out.mono (fun q hq => hq.1)) HALLB.out)
    obtain ⟨⟨u, ec⟩, hue⟩ : ∃ z : Con × Int, z = outB cc := ⟨_, rfl⟩
    rw [← hue] at HCP HOUT
    clear hue
    have HWW := Lib.hid (show Below w.heap.size w wr from HB.out.trans (HBW.out.mono (by have := HGE.out; omega)))
    have HLT := Lib.hid (show w.heap.size + 1 < wr.heap.size from HZ2.out.lt)
    have c0 := HBK.out.cell 0 (.int .i64 cc.op) rfl
    have c1 := HBK.out.cell 1 (.int .i64 cc.n) rfl
    have c2 := HBK.out.cell 2 (.string cc.s) rfl
    have c3 := HBK.out.cell 3 (.slice ka2 kn2 kc2) rfl
    have c4 := HBK.out.cell 4 (.slice na2 nn2 nc2) rfl
    have c5 := HBK.out.cell 5 (.slice la2 ln2 lc2) rfl
    go_wp2_with fail
    clear c0 c1 c2 c3 c4 c5
    refine HCP.out.mono ?_
    rintro e wq ⟨⟨y, rfl, hy⟩, hbq⟩
    obtain ⟨yka, ykn, ykc, yna, ynn, ync, yla, yln, ylc, rfl, -, -, -⟩ := hy.shape
    have hzr := HZ2.out.of_eq (hbq.block _ HZ2.out.lt)
    have HO2 := HOUT
    have t0 := hzr.thaw 0
    have t1 := hzr.thaw 1
    have t2 := hzr.thaw 2
    have t3 := hzr.thaw 3
    have t4 := hzr.thaw 4
    have t5 := hzr.thaw 5
    have r0 := hzr.cell 0 (.int .i64 0) rfl
    have r1 := hzr.cell 1 (.int .i64 0) rfl
    have r2 := hzr.cell 2 (.string ⟨#[]⟩) rfl
    have r3 := hzr.cell 3 (.slice none 0 0) rfl
    have r4 := hzr.cell 4 (.slice none 0 0) rfl
    have r5 := hzr.cell 5 (.slice none 0 0) rfl
    have hz := store6_blk hzr 0 (.int .i64 u.op) (.int .i64 u.n) (.string u.s) (.slice yka ykn ykc) (.slice yna ynn ync) (.slice yla yln ylc)
    rw [put6_all] at hz
    have HE := Lib.hid (show OutO (appsOut t l) w (.returned (.tuple #[.agg #[.int .i64 u.op, .int .i64 u.n, .string u.s, .slice yka ykn ykc, .slice yna ynn ync, .slice yla yln ylc], .int .i64 ec])) (store6 wq (w.heap.size + 1) 0 (.int .i64 u.op) (.int .i64 u.n) (.string u.s) (.slice yka ykn ykc) (.slice yna ynn ync) (.slice yla yln ylc)) from by
      rw [HO2.out]
      refine ⟨⟨_, rfl, (hy.keep (fun q hq => store6_other _ _ _ _ _ _ _ _ _ q (by have := HLT.out; have := hq.1; omega))).mono (fun q hq => ?_)⟩, store6_below (belowStep hbq HWW.out) _ _ _ _ _ _ _ _ (by omega)⟩
      rw [store6_size]
      exact ⟨by have := HLT.out; have := hq.1; omega, hq.2⟩)
    unfold store6 at hz HE
    simp only [Nat.zero_add] at hz HE
    have z0 := hz.cell 0 (.int .i64 u.op) rfl
    have z1 := hz.cell 1 (.int .i64 u.n) rfl
    have z2 := hz.cell 2 (.string u.s) rfl
    have z3 := hz.cell 3 (.slice yka ykn ykc) rfl
    have z4 := hz.cell 4 (.slice yna ynn ync) rfl
    have z5 := hz.cell 5 (.slice yla yln ylc) rfl
    clear hz hy hzr hbq HCP HZ2 HBK HCK HZ HBX
    go_wp2
    refine bodyPost_ret (v := .tuple #[.agg #[.int .i64 u.op, .int .i64 u.n, .string u.s, .slice yka ykn ykc, .slice yna ynn ync, .slice yla yln ylc], .int .i64 ec]) (by simp [results, Tryz.results6, go_sem, z0, z1, z2, z3, z4, z5]) rfl ?_
    exact HE.out
theorem capps_new (t : Con) (l : List Con) (w : World) (v xv : Value) (ht : ConV w (· < w.heap.size) t v) (hl : ConSl w (· < w.heap.size) xv l) :
    Calls Tryz.prog 6 #[v, xv] w (OutF (appsOut t l) w) := (capps_own t l w v xv ht hl).mono fun _ _ h => h.fresh
end Go.Proofs.YtmjiocpcenbndaaGreatDoor
namespace Go.Proofs.YtmjiocpcenbndaaGreatDoor
open Go Go.RowKit
open Pl (K Con)
set_option linter.unusedSimpArgs false
set_option linter.unusedVariables false

/-- the decimal digit of a number from 1 to 9 -/
def digitS (k : Nat) : ByteArray := ⟨#[UInt8.ofNat (48 + k)]⟩
/-- the labels of a tuple -/
def digits (n : Nat) : List ByteArray := (List.range n).map (fun i => digitS (i + 1))
theorem digits_succ (n : Nat) : digits (n + 1) = digits n ++ [digitS (n + 1)] := by unfold digits; rw [List.range_succ, List.map_append]; rfl
theorem digits_len (n : Nat) : (digits n).length = n := by unfold digits; rw [List.length_map, List.length_range]
theorem digits_size (n : Nat) : ∀ z ∈ digits n, z.size ≤ maxLen := by
  intro z hz
  obtain ⟨i, -, rfl⟩ := List.mem_map.1 hz
  show 1 ≤ maxLen
  decide
/-- the record of a list -/
def tupC (l : List Con) : Con := ⟨7, 0, ByteArray.empty, .mk [], digits l.length, l⟩
/-- what Tuple answers -/
def tupOut (l : List Con) : Con × Int := if l.all Con.validB = true then (if l.length = 1 ∨ 9 < l.length then (Con.none0, 2) else outB (tupC l)) else (Con.none0, 1)
theorem digits_ok (n : Nat) (h : n ≤ 9) : Con.labelsOk (digits n) = true := by
  unfold Con.labelsOk
  rw [Bool.and_eq_true, Bool.and_eq_true, digits_len]
  refine ⟨?_, decide_eq_true (by omega), asc_yes _ (fun j hj => ?_)⟩
  · rw [List.all_eq_true]
    intro z hz
    obtain ⟨i, hi, rfl⟩ := List.mem_map.1 hz
    have hi := List.mem_range.1 hi
    have h9 : i = 0 ∨ i = 1 ∨ i = 2 ∨ i = 3 ∨ i = 4 ∨ i = 5 ∨ i = 6 ∨ i = 7 ∨ i = 8 := by omega
    rw [ByteArray.toList_eq]
    rcases h9 with rfl | rfl | rfl | rfl | rfl | rfl | rfl | rfl | rfl <;> rfl
  · rw [digits_len] at hj
    have e : ∀ k (hk : k < n), Pl.el (digits n) k = digitS (k + 1) := by
      intro k hk
      have : (digits n)[k]? = some (digitS (k + 1)) := by unfold digits; simp [hk]
      unfold Pl.el
      simp [List.getD, this]
    unfold lessAt
    rw [e j (by omega), e (j + 1) hj]
    have h9 : j = 0 ∨ j = 1 ∨ j = 2 ∨ j = 3 ∨ j = 4 ∨ j = 5 ∨ j = 6 ∨ j = 7 := by omega
    rw [ByteArray.toList_eq, ByteArray.toList_eq]
    rcases h9 with rfl | rfl | rfl | rfl | rfl | rfl | rfl | rfl <;> rfl
theorem tup_all (l : List Con) (h : l.length ≤ 9) (hl : ∀ x ∈ l, Con.allB x = true) : Con.allB (tupC l) = true := by
  rw [allB_eq, Bool.and_eq_true]
  have he : ByteArray.empty.toList = [] := by rw [ByteArray.toList_eq]; rfl
  have e1 : Con.shapeB (tupC l) = true := by
    have h1 : Con.partsOf (tupC l).op = -1 := by simp [tupC, Con.partsOf]
    unfold Con.shapeB
    rw [h1, if_neg (by decide)]
    show (decide (l.length = (digits l.length).length) && Con.labelsOk (digits l.length)) = true
    rw [digits_len, digits_ok _ h]
    simp
  have e2 : Con.numB (tupC l) = true := by simp [Con.numB, tupC]
  have e3 : Con.strB (tupC l) = true := by simp [Con.strB, tupC, he]
  have e4 : Con.kindB (tupC l) = true := by simp [Con.kindB, tupC, Con.binder]; rfl
  have e5 : (decide (1 ≤ (tupC l).op) && decide ((tupC l).op ≤ 13)) = true := by simp [tupC]
  refine ⟨?_, ?_⟩
  · unfold Con.nodeB
    rw [e1, e2, e3, e4, e5]
    rfl
  · show l.all Con.allB = true
    exact List.all_eq_true.2 hl
end Go.Proofs.YtmjiocpcenbndaaGreatDoor
namespace Go.Proofs.YtmjiocpcenbndaaGreatDoor
open Go Go.RowKit
open Pl (K Con)
set_option linter.unusedSimpArgs false
set_option linter.unusedVariables false

set_option maxRecDepth 100000 in
theorem rdecimal_1 (w : World) : Calls Tryz.prog 41 #[.int .i64 1] w fun e w' => e = .returned (.string ⟨#[49]⟩) ∧ Below w.heap.size w w' := by
  obtain ⟨hbx, hb⟩ := boxN_new w 5 #[.int .u8 49]
  have hconv := run_convert_bytes_back (P := Tryz.prog) (w.alloc (.cells #[.int .u8 49] 5)) 85 9 5 ⟨w.heap.size, 0, none⟩ 1 [49] Tryz.underlying85 Tryz.underlying5 Tryz.underlying9 (fun j hj => match j, hj with | 0, _ => hbx.cell 0 _ rfl)
  simp only [List.length_cons, List.length_nil, Nat.zero_add] at hconv
  have HB := Lib.hid hb
  clear hbx hb
  go_enter Tryz.func41, Tryz.ntmps41
  go_wp2
  go_ret
  exact ⟨rfl, HB.out⟩
set_option maxRecDepth 100000 in
theorem rdecimal_2 (w : World) : Calls Tryz.prog 41 #[.int .i64 2] w fun e w' => e = .returned (.string ⟨#[50]⟩) ∧ Below w.heap.size w w' := by
  obtain ⟨hbx, hb⟩ := boxN_new w 5 #[.int .u8 50]
  have hconv := run_convert_bytes_back (P := Tryz.prog) (w.alloc (.cells #[.int .u8 50] 5)) 85 9 5 ⟨w.heap.size, 0, none⟩ 1 [50] Tryz.underlying85 Tryz.underlying5 Tryz.underlying9 (fun j hj => match j, hj with | 0, _ => hbx.cell 0 _ rfl)
  simp only [List.length_cons, List.length_nil, Nat.zero_add] at hconv
  have HB := Lib.hid hb
  clear hbx hb
  go_enter Tryz.func41, Tryz.ntmps41
  go_wp2
  go_ret
  exact ⟨rfl, HB.out⟩
set_option maxRecDepth 100000 in
theorem rdecimal_3 (w : World) : Calls Tryz.prog 41 #[.int .i64 3] w fun e w' => e = .returned (.string ⟨#[51]⟩) ∧ Below w.heap.size w w' := by
  obtain ⟨hbx, hb⟩ := boxN_new w 5 #[.int .u8 51]
  have hconv := run_convert_bytes_back (P := Tryz.prog) (w.alloc (.cells #[.int .u8 51] 5)) 85 9 5 ⟨w.heap.size, 0, none⟩ 1 [51] Tryz.underlying85 Tryz.underlying5 Tryz.underlying9 (fun j hj => match j, hj with | 0, _ => hbx.cell 0 _ rfl)
  simp only [List.length_cons, List.length_nil, Nat.zero_add] at hconv
  have HB := Lib.hid hb
  clear hbx hb
  go_enter Tryz.func41, Tryz.ntmps41
  go_wp2
  go_ret
  exact ⟨rfl, HB.out⟩
set_option maxRecDepth 100000 in
theorem rdecimal_4 (w : World) : Calls Tryz.prog 41 #[.int .i64 4] w fun e w' => e = .returned (.string ⟨#[52]⟩) ∧ Below w.heap.size w w' := by
  obtain ⟨hbx, hb⟩ := boxN_new w 5 #[.int .u8 52]
  have hconv := run_convert_bytes_back (P := Tryz.prog) (w.alloc (.cells #[.int .u8 52] 5)) 85 9 5 ⟨w.heap.size, 0, none⟩ 1 [52] Tryz.underlying85 Tryz.underlying5 Tryz.underlying9 (fun j hj => match j, hj with | 0, _ => hbx.cell 0 _ rfl)
  simp only [List.length_cons, List.length_nil, Nat.zero_add] at hconv
  have HB := Lib.hid hb
  clear hbx hb
  go_enter Tryz.func41, Tryz.ntmps41
  go_wp2
  go_ret
  exact ⟨rfl, HB.out⟩
set_option maxRecDepth 100000 in
theorem rdecimal_5 (w : World) : Calls Tryz.prog 41 #[.int .i64 5] w fun e w' => e = .returned (.string ⟨#[53]⟩) ∧ Below w.heap.size w w' := by
  obtain ⟨hbx, hb⟩ := boxN_new w 5 #[.int .u8 53]
  have hconv := run_convert_bytes_back (P := Tryz.prog) (w.alloc (.cells #[.int .u8 53] 5)) 85 9 5 ⟨w.heap.size, 0, none⟩ 1 [53] Tryz.underlying85 Tryz.underlying5 Tryz.underlying9 (fun j hj => match j, hj with | 0, _ => hbx.cell 0 _ rfl)
  simp only [List.length_cons, List.length_nil, Nat.zero_add] at hconv
  have HB := Lib.hid hb
  clear hbx hb
  go_enter Tryz.func41, Tryz.ntmps41
  go_wp2
  go_ret
  exact ⟨rfl, HB.out⟩
set_option maxRecDepth 100000 in
theorem rdecimal_6 (w : World) : Calls Tryz.prog 41 #[.int .i64 6] w fun e w' => e = .returned (.string ⟨#[54]⟩) ∧ Below w.heap.size w w' := by
  obtain ⟨hbx, hb⟩ := boxN_new w 5 #[.int .u8 54]
  have hconv := run_convert_bytes_back (P := Tryz.prog) (w.alloc (.cells #[.int .u8 54] 5)) 85 9 5 ⟨w.heap.size, 0, none⟩ 1 [54] Tryz.underlying85 Tryz.underlying5 Tryz.underlying9 (fun j hj => match j, hj with | 0, _ => hbx.cell 0 _ rfl)
  simp only [List.length_cons, List.length_nil, Nat.zero_add] at hconv
  have HB := Lib.hid hb
  clear hbx hb
  go_enter Tryz.func41, Tryz.ntmps41
  go_wp2
  go_ret
  exact ⟨rfl, HB.out⟩
set_option maxRecDepth 100000 in
theorem rdecimal_7 (w : World) : Calls Tryz.prog 41 #[.int .i64 7] w fun e w' => e = .returned (.string ⟨#[55]⟩) ∧ Below w.heap.size w w' := by
  obtain ⟨hbx, hb⟩ := boxN_new w 5 #[.int .u8 55]
  have hconv := run_convert_bytes_back (P := Tryz.prog) (w.alloc (.cells #[.int .u8 55] 5)) 85 9 5 ⟨w.heap.size, 0, none⟩ 1 [55] Tryz.underlying85 Tryz.underlying5 Tryz.underlying9 (fun j hj => match j, hj with | 0, _ => hbx.cell 0 _ rfl)
  simp only [List.length_cons, List.length_nil, Nat.zero_add] at hconv
  have HB := Lib.hid hb
  clear hbx hb
  go_enter Tryz.func41, Tryz.ntmps41
  go_wp2
  go_ret
  exact ⟨rfl, HB.out⟩
set_option maxRecDepth 100000 in
theorem rdecimal_8 (w : World) : Calls Tryz.prog 41 #[.int .i64 8] w fun e w' => e = .returned (.string ⟨#[56]⟩) ∧ Below w.heap.size w w' := by
  obtain ⟨hbx, hb⟩ := boxN_new w 5 #[.int .u8 56]
  have hconv := run_convert_bytes_back (P := Tryz.prog) (w.alloc (.cells #[.int .u8 56] 5)) 85 9 5 ⟨w.heap.size, 0, none⟩ 1 [56] Tryz.underlying85 Tryz.underlying5 Tryz.underlying9 (fun j hj => match j, hj with | 0, _ => hbx.cell 0 _ rfl)
  simp only [List.length_cons, List.length_nil, Nat.zero_add] at hconv
  have HB := Lib.hid hb
  clear hbx hb
  go_enter Tryz.func41, Tryz.ntmps41
  go_wp2
  go_ret
  exact ⟨rfl, HB.out⟩
set_option maxRecDepth 100000 in
theorem rdecimal_9 (w : World) : Calls Tryz.prog 41 #[.int .i64 9] w fun e w' => e = .returned (.string ⟨#[57]⟩) ∧ Below w.heap.size w w' := by
  obtain ⟨hbx, hb⟩ := boxN_new w 5 #[.int .u8 57]
  have hconv := run_convert_bytes_back (P := Tryz.prog) (w.alloc (.cells #[.int .u8 57] 5)) 85 9 5 ⟨w.heap.size, 0, none⟩ 1 [57] Tryz.underlying85 Tryz.underlying5 Tryz.underlying9 (fun j hj => match j, hj with | 0, _ => hbx.cell 0 _ rfl)
  simp only [List.length_cons, List.length_nil, Nat.zero_add] at hconv
  have HB := Lib.hid hb
  clear hbx hb
  go_enter Tryz.func41, Tryz.ntmps41
  go_wp2
  go_ret
  exact ⟨rfl, HB.out⟩
theorem rdecimal_any (k : Nat) (h1 : 1 ≤ k) (h9 : k ≤ 9) (w : World) : Calls Tryz.prog 41 #[.int .i64 (k : Nat)] w fun e w' => e = .returned (.string (digitS k)) ∧ Below w.heap.size w w' := by
  have h : k = 1 ∨ k = 2 ∨ k = 3 ∨ k = 4 ∨ k = 5 ∨ k = 6 ∨ k = 7 ∨ k = 8 ∨ k = 9 := by omega
  rcases h with rfl | rfl | rfl | rfl | rfl | rfl | rfl | rfl | rfl
  · exact rdecimal_1 w
  · exact rdecimal_2 w
  · exact rdecimal_3 w
  · exact rdecimal_4 w
  · exact rdecimal_5 w
  · exact rdecimal_6 w
  · exact rdecimal_7 w
  · exact rdecimal_8 w
  · exact rdecimal_9 w
theorem citoa_any (k : Nat) (h1 : 1 ≤ k) (h9 : k ≤ 9) (w : World) : Calls Tryz.prog 36 #[.int .i64 (k : Nat)] w fun e w' => e = .returned (.string (digitS k)) ∧ w' = w := by
  have e : (⟨(Lib.decDigits k).toArray⟩ : ByteArray) = digitS k := by
    rw [Lib.decDigits_one (by omega)]
    rfl
  rw [← e]
  exact Tryz.strconv_Itoa_small k (by omega) w
end Go.Proofs.YtmjiocpcenbndaaGreatDoor
namespace Go.Proofs.YtmjiocpcenbndaaGreatDoor
open Go Go.RowKit
open Pl (K Con)
set_option linter.unusedSimpArgs false
set_option linter.unusedVariables false

/-- an answer that is a constructor, in the blocks of P and in new ones -/
def RcP (P : Nat → Prop) (x : Con) (w : World) (e : Ending) (w' : World) : Prop := (∃ y, e = .returned y ∧ ConV w' (Ext P w w') x y) ∧ Below w.heap.size w w'
/-- a row of its own that holds these constructors -/
structure CB (P : Nat → Prop) (B : Nat) (wr : World) (l : List Con) (us : List Value) (sv : Value) : Prop where
  row : wr.ownsRow B 28 6 sv l.length us
  kids : ConRow wr (fun q => (P q ∨ (B ≤ q ∧ q < wr.heap.size)) ∧ sv.ownBlock ≠ some q) us l
theorem CB.nil (P : Nat → Prop) (B : Nat) (wr : World) : CB P B wr [] [] (.slice none 0 0) := ⟨World.ownsRow_nil _ _ _ _, ConRow.nil _ _⟩
theorem CB.below {P : Nat → Prop} {B : Nat} {wr W : World} {l : List Con} {us : List Value} {sv : Value} (h : CB P B wr l us sv) (hP : ∀ b, P b → b < wr.heap.size) (hb : Below wr.heap.size wr W) : CB P B W l us sv :=
  ⟨ownsRow6_below h.row hb, (h.kids.keep (Same.of_below hb (fun q hq => by rcases hq.1 with h1 | h1; exact hP q h1; exact h1.2))).mono (fun q hq => ⟨by rcases hq.1 with h1 | h1; exact .inl h1; exact .inr ⟨h1.1, Nat.lt_of_lt_of_le h1.2 hb.size⟩, hq.2⟩)⟩
theorem CB.cons {P S : Nat → Prop} {B : Nat} {wr : World} {l : List Con} {us : List Value} {sv : Value} (h : CB P B wr l us sv) (hP : ∀ b, P b → S b) (hS : ∀ b, B ≤ b → b < wr.heap.size → S b) : ConSl wr S sv l :=
  ConRow.cons h.row h.kids (fun q hq => by rcases hq.1 with h1 | h1; exact hP q h1; exact hS q h1.1 h1.2) hS
theorem CB.push {P Q : Nat → Prop} {B gg cap n : Nat} {wr w1 : World} {l : List Con} {us : List Value} {sv x0 x1 x2 x3 x4 x5 : Value} {y : Con} (h : CB P B wr l us sv) (hn : n = l.length) (hP : ∀ b, P b → b < wr.heap.size)
    (hy : ConV wr Q y (.agg #[x0, x1, x2, x3, x4, x5])) (hQ : ∀ q, Q q → (P q ∨ (B ≤ q ∧ q < wr.heap.size)) ∧ sv.ownBlock ≠ some q)
    (hown : w1.ownsRow B 28 6 (.slice (some ⟨gg, 0, none⟩) (n + 1) cap) (n + 1) (us ++ [x0, x1, x2, x3, x4, x5])) (hgrow : (wr.alloc (.cells #[x0, x1, x2, x3, x4, x5] 28)).grownBy w1 sv.ownBlock) (hat : sv.ownBlock = some gg ∨ gg = wr.heap.size + 1) :
    CB P B w1 (l ++ [y]) (us ++ [x0, x1, x2, x3, x4, x5]) (.slice (some ⟨gg, 0, none⟩) (n + 1) cap) := by
  subst hn
  have hlt : ∀ q, (P q ∨ (B ≤ q ∧ q < wr.heap.size)) → q < wr.heap.size := fun q hq => by rcases hq with h1 | h1; exact hP q h1; exact h1.2
  have hgB : ∀ q, (P q ∨ (B ≤ q ∧ q < wr.heap.size)) ∧ sv.ownBlock ≠ some q → q ≠ gg := by
    rintro q ⟨h1, h2⟩ rfl
    rcases hat with h5 | h5
    · exact h2 h5
    · have := hlt _ h1; omega
  have hs1 : wr.heap.size ≤ w1.heap.size := by have h1 := hgrow.size; rw [size_alloc] at h1; omega
  have hS : Same (fun q => (P q ∨ (B ≤ q ∧ q < wr.heap.size)) ∧ sv.ownBlock ≠ some q) wr w1 := fun q hq =>
    (hgrow.block q (by rw [size_alloc]; have := hlt q hq.1; omega) (fun e => hq.2 e.symm)).trans (Below.heap_alloc wr _ q (hlt q hq.1))
  refine ⟨by rw [List.length_append]; exact hown, ((h.kids.keep hS).push ((hy.mono hQ).keep hS)).mono (fun q hq => ⟨?_, fun e => ?_⟩)⟩
  · rcases hq.1 with h1 | h1
    · exact .inl h1
    · exact .inr ⟨h1.1, by omega⟩
  · have e : (some gg : Option Nat) = some q := e
    injection e with e
    exact hgB q hq e.symm
theorem CB.low {P : Nat → Prop} {B : Nat} {wr : World} {l : List Con} {us : List Value} {sv : Value} (h : CB P B wr l us sv) : ∀ q, sv.ownBlock = some q → B ≤ q ∧ q < wr.heap.size := h.row.lt
theorem cell_eq9 {w w' : World} {g o : Nat} (h : w'.heap[g]? = w.heap[g]?) : w'.cell? ⟨g, o, none⟩ = w.cell? ⟨g, o, none⟩ := by
  simp only [World.cell?]
  rw [h]
theorem row_form6 {w : World} {B z n : Nat} {T : TypeId} {v : Value} {us : List Value} (h : w.ownsRow B T z v n us) : ∃ a c, v = .slice a n c := by
  rcases h.2 with ⟨rfl, rfl⟩ | ⟨q, cap, cur, e, -⟩
  · exact ⟨_, _, rfl⟩
  · exact ⟨_, _, e⟩
theorem con_list {w : World} {P : Nat → Prop} {u : Con} {ka na la : Option Addr} {kn kc nn nc ln lc : Nat} {x0 x1 x2 : Value} (h : ConV w P u (.agg #[x0, x1, x2, .slice ka kn kc, .slice na nn nc, .slice la ln lc])) : ConSl w P (.slice la ln lc) u.l := by
  obtain ⟨-, kv', nv', lv', e, hk, hn, hl⟩ := (conV_iff _ _ _ _).1 h
  simp only [Value.agg.injEq, Array.mk.injEq, List.cons.injEq, and_true, true_and] at e
  obtain ⟨-, -, -, rfl, rfl, rfl⟩ := e
  exact hl
/-- the blocks but for a row's, as they were -/
theorem grown_block {w W : World} {g : Nat} {row : Option Nat} {T : TypeId} {cs : Array Value} (h : Blk w g T cs) (hg : w.grownBy W row) (hn : row ≠ some g) : Blk W g T cs := h.of_eq (hg.block g h.lt (fun e => hn e.symm))
end Go.Proofs.YtmjiocpcenbndaaGreatDoor
namespace Go.Proofs
open Go.Shelf
end Go.Proofs
namespace Go.Proofs.YtmjiocpcenbndaaGreatDoor
open Go Go.RowKit
open Pl (K Con)
set_option linter.unusedSimpArgs false
/-- appending nothing -/
theorem run_append_none9 {P : Program} (w : World) (t ty e : TypeId) (i : TypeInfo) (ht : P.underlying t = some (.slice e)) (hi : P.info? e = some i) (a : Option Addr) (n c : Nat) (hn : n ≤ c) :
    (Builtin.append_ #[t, t] ty #[.slice a n c, .slice none 0 0]).run P w = .ok (.slice a n c) w := by
  cases a <;> simp [Builtin.append_, run_underlying ht, sizeOf, typeInfo, hi, Builtin.lenOf, hn, run_firstCells_none, storeCells]
theorem wpList_append_none9 {P : Program} {w : World} {ops : Array Oper} {rest : List Oper} {o : Oper} {a : Act} {Q : Exit → Act → World → Prop} (hgd : o.guard = none) (s x : Operand) (t : TypeId)
    (ho : o.op = .call { callee := .builtin .append, args := #[s, x], argTypes := #[t, t] })
    (e : TypeId) (i : TypeInfo) (ht : P.underlying t = some (.slice e)) (hi : P.info? e = some i) (b : Option Addr) (n c : Nat) (hs : a.eval s = .slice b n c) (hx : a.eval x = .slice none 0 0) (hn : n ≤ c)
    (h : wpList P ops Q rest (a.put o.dst (.slice b n c)) w) : wpList P ops Q (o :: rest) a w := by
  refine wpList_plain hgd fun K hK => ?_
  have hr := run_append_none9 (P := P) w t o.type e i ht hi b n c hn
  unfold Oper.wp execOp
  simp only [ho, resolve, invoke, builtin, Sem.run_bind, Sem.run_pure, Result.andThen_ok, List.map_toArray, List.map_cons, List.map_nil, hs, hx, hr]
  exact hK _ _ h
/-- the values of a row -/
theorem ConSl.row {w : World} {P : Nat → Prop} {l : List Con} {v : Value} (h : ConSl w P v l) : ∃ a c, v = .slice a l.length c ∧ ((a = none ∧ c = 0 ∧ l = []) ∨ ∃ ad, a = some ad ∧ ∃ us, ConRow w P us l ∧ ∀ j u, us[j]? = some u → w.cell? (ad.add j) = some u) := by
  obtain ⟨a, c, rfl, h4, h5, h6, h7⟩ := h
  refine ⟨a, c, rfl, ?_⟩
  cases a with
  | none =>
    left
    have hc := h6 rfl
    exact ⟨rfl, hc, List.eq_nil_of_length_eq_zero (by omega)⟩
  | some ad =>
    right
    refine ⟨ad, rfl, ?_⟩
    rcases h7 with rfl | ⟨b, off, e, hb, hk⟩
    · exact ⟨[], ConRow.nil _ _, fun j u hu => by cases hu⟩
    · injection e with e
      subst e
      rw [consAt_iff] at hk
      obtain ⟨T, hT⟩ : ∃ T : Nat → Value, ∀ i, i < l.length * 6 → w.cell? ⟨b, off + i, none⟩ = some (T i) := by
        refine ⟨fun i => (w.cell? ⟨b, off + i, none⟩).getD (.int .i64 0), fun i hi => ?_⟩
        obtain ⟨x, ⟨x0, x1, x2, x3, x4, x5, -, c0, c1, c2, c3, c4, c5⟩, -⟩ := hk (i / 6) (by omega)
        have hd : i % 6 = 0 ∨ i % 6 = 1 ∨ i % 6 = 2 ∨ i % 6 = 3 ∨ i % 6 = 4 ∨ i % 6 = 5 := by omega
        have go : ∀ d y, i % 6 = d → w.cell? ⟨b, off + i / 6 * 6 + d, none⟩ = some y → w.cell? ⟨b, off + i, none⟩ = some ((w.cell? ⟨b, off + i, none⟩).getD (.int .i64 0)) := by
          intro d y h1 h2
          have e : off + i / 6 * 6 + d = off + i := by omega
          rw [e] at h2
          rw [h2]
          rfl
        rcases hd with h | h | h | h | h | h
        · exact go 0 _ h c0
        · exact go 1 _ h c1
        · exact go 2 _ h c2
        · exact go 3 _ h c3
        · exact go 4 _ h c4
        · exact go 5 _ h c5
      have hget : ∀ i, i < l.length * 6 → ((List.range (l.length * 6)).map T)[i]? = some (T i) := fun i hi => by simp [hi]
      have hadd : ∀ j, (⟨b, off, none⟩ : Addr).add j = ⟨b, off + j, none⟩ := fun j => by unfold Addr.add; split <;> simp_all
      have hpt : ∀ (j : Nat) (hj : j < l.length), ∃ x, ConIn ((List.range (l.length * 6)).map T).toArray (j * 6) x ∧ ConV w P l[j] x := by
        intro j hj
        obtain ⟨x, ⟨x0, x1, x2, x3, x4, x5, rfl, c0, c1, c2, c3, c4, c5⟩, hv⟩ := hk j hj
        have go : ∀ d y, d < 6 → w.cell? ⟨b, off + j * 6 + d, none⟩ = some y → ((List.range (l.length * 6)).map T).toArray[j * 6 + d]? = some y := by
          intro d y hd h2
          have h3 := hT (j * 6 + d) (by omega)
          rw [← Nat.add_assoc, h2] at h3
          simp only [List.getElem?_toArray]
          rw [hget _ (by omega)]
          exact h3.symm
        exact ⟨_, ⟨x0, x1, x2, x3, x4, x5, rfl, go 0 _ (by omega) c0, go 1 _ (by omega) c1, go 2 _ (by omega) c2, go 3 _ (by omega) c3, go 4 _ (by omega) c4, go 5 _ (by omega) c5⟩, hv⟩
      refine ⟨(List.range (l.length * 6)).map T, ⟨by simp, fun u hu => ?_, hpt⟩, fun j u hu => ?_⟩
      · obtain ⟨i, hi, rfl⟩ := List.getElem_of_mem hu
        have hi : i < l.length * 6 := by simpa using hi
        obtain ⟨x, ⟨x0, x1, x2, x3, x4, x5, rfl, c0, c1, c2, c3, c4, c5⟩, hv⟩ := hpt (i / 6) (by omega)
        have hone := con_one_cell hv
        simp only [List.getElem?_toArray] at c0 c1 c2 c3 c4 c5
        have go : ∀ d y, i % 6 = d → y ∈ [x0, x1, x2, x3, x4, x5] → ((List.range (l.length * 6)).map T)[i / 6 * 6 + d]? = some y → ((List.range (l.length * 6)).map T)[i].oneCell' = true := by
          intro d y h1 h2 h3
          have e : i / 6 * 6 + d = i := by omega
          rw [e, List.getElem?_eq_getElem (by simpa using hi)] at h3
          injection h3 with h3
          rw [h3]
          exact hone y h2
        have hd : i % 6 = 0 ∨ i % 6 = 1 ∨ i % 6 = 2 ∨ i % 6 = 3 ∨ i % 6 = 4 ∨ i % 6 = 5 := by omega
        rcases hd with h | h | h | h | h | h
        · exact go 0 _ h (by simp) c0
        · exact go 1 _ h (by simp) c1
        · exact go 2 _ h (by simp) c2
        · exact go 3 _ h (by simp) c3
        · exact go 4 _ h (by simp) c4
        · exact go 5 _ h (by simp) c5
      · have hj : j < l.length * 6 := by
          have := (List.getElem?_eq_some_iff.1 hu).1
          simpa using this
        rw [hget j hj] at hu
        rw [← hu, hadd]
        exact hT j hj
theorem ConIn.right {us vs : List Value} {o : Nat} {v : Value} (h : ConIn vs.toArray o v) : ConIn (us ++ vs).toArray (us.length + o) v := by
  obtain ⟨x0, x1, x2, x3, x4, x5, rfl, h0, h1, h2, h3, h4, h5⟩ := h
  have each : ∀ (i : Nat) (x : Value), vs.toArray[o + i]? = some x → (us ++ vs).toArray[us.length + o + i]? = some x := by
    intro i x hx
    simp only [List.getElem?_toArray] at hx ⊢
    rw [List.getElem?_append_right (by omega), show us.length + o + i - us.length = o + i from by omega]
    exact hx
  exact ⟨x0, x1, x2, x3, x4, x5, rfl, each 0 _ h0, each 1 _ h1, each 2 _ h2, each 3 _ h3, each 4 _ h4, each 5 _ h5⟩
theorem ConRow.app {w : World} {P : Nat → Prop} {us vs : List Value} {ts rs : List Con} (h : ConRow w P us ts) (k : ConRow w P vs rs) : ConRow w P (us ++ vs) (ts ++ rs) := by
  refine ⟨by rw [List.length_append, List.length_append, h.1, k.1]; omega, fun u hu => ?_, fun j hj => ?_⟩
  · rcases List.mem_append.1 hu with hu | hu
    · exact h.2.1 u hu
    · exact k.2.1 u hu
  rcases Nat.lt_or_ge j ts.length with hlt | hge
  · obtain ⟨y, h1, h2⟩ := h.2.2 j hlt
    exact ⟨y, h1.left, by rw [List.getElem_append_left hlt]; exact h2⟩
  · have hk : j - ts.length < rs.length := by rw [List.length_append] at hj; omega
    obtain ⟨y, h1, h2⟩ := k.2.2 (j - ts.length) hk
    refine ⟨y, ?_, by rw [List.getElem_append_right hge]; exact h2⟩
    have := h1.right (us := us)
    rw [h.1, show ts.length * 6 + (j - ts.length) * 6 = j * 6 from by omega] at this
    exact this
theorem ConRow.one {w : World} {P : Nat → Prop} {us : List Value} {ts : List Con} (h : ConRow w P us ts) : ∀ u ∈ us, u.oneCell' = true := h.2.1
theorem ownC_form {w : World} {base : Nat} {v : Value} {n : Nat} {xs : List Value} (h : w.ownsRow base 28 6 v n xs) : ∃ a c, v = .slice a n c ∧ n ≤ c := by
  rcases h.2 with ⟨hv, h0⟩ | ⟨g, cap, cur, hv, _, _, hnc, _⟩
  · exact ⟨none, 0, by rw [hv, h0], by omega⟩
  · exact ⟨_, _, hv, hnc⟩
/-- one more row behind the row that the call owns -/
theorem wpList_append_cons9 {w : World} {ops : Array Oper} {rest : List Oper} {o : Oper} {a : Act} {Q : Exit → Act → World → Prop} (hgd : o.guard = none) (s x : Operand)
    (ho : o.op = .call { callee := .builtin .append, args := #[s, x], argTypes := #[26, 26] })
    (P : Nat → Prop) (base : Nat) (v : Value) (ts rs : List Con) (us : List Value) (hs : a.eval s = v) (hown : w.ownsRow base 28 6 v ts.length us) (hP : ∀ q, P q → q < base) (hr : ConRow w P us ts) (x0 : Value) (hx : a.eval x = x0) (hk : ConSl w P x0 rs) (hlen : ts.length + rs.length ≤ 100000) (hbase : base ≤ w.heap.size)
    (h : ∀ v' w' us', w'.ownsRow base 28 6 v' (ts ++ rs).length us' → ConRow w' P us' (ts ++ rs) → Below base w w' → wpList Tryz.prog ops Q rest (a.put o.dst v') w') : wpList Tryz.prog ops Q (o :: rest) a w := by
  obtain ⟨i9, hi, hz0, hz1, hz2⟩ := info_parts infoCon
  obtain ⟨ax, cx, rfl, hcase⟩ := hk.row
  rcases hcase with ⟨rfl, rfl, rfl⟩ | ⟨ad, rfl, ns, hns, hcs⟩
  · obtain ⟨b, c, rfl, hnc⟩ := ownC_form hown
    refine wpList_append_none9 hgd s x _ ho _ i9 Tryz.underlying26 hi b ts.length c hs hx hnc ?_
    rw [List.append_nil] at h
    exact h _ _ us hown hr (Below.refl _ _)
  · refine wpList_append_own (P := Tryz.prog) (w := w) hgd s x 26 ho base 28 i9 (.agg #[.int .i64 0, .int .i64 0, .string ByteArray.empty, .slice none 0 0, .slice none 0 0, .slice none 0 0]) 6 104 Tryz.underlying26 hi hz0 hz1 hz2 rfl (by decide) v ts.length us hs hown ad rs.length cx ns hx hns.1 hcs hns.one (by unfold maxLen; omega) (by omega) hbase ?_
    intro v' w' hown' hgrow _
    have hb : Below base w w' := (Below.refl base w).grown hgrow hbase (fun k hk => (hown.lt k hk).1)
    refine h v' w' (us ++ ns) ?_ ?_ hb
    · rw [List.length_append]; exact hown'
    · exact (hr.app hns).keep (Same.of_below hb hP)
end Go.Proofs.YtmjiocpcenbndaaGreatDoor
