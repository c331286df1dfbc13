/-
  Layer 9: several texts in one (Sb Sl Sk).
-/
import Derived.Test.YtkjaicmfegpjdaaGreatHg
import Derived.Test.YtkjaicmfegpjdaaGreatHi
import Derived.Deep.RegionHeld3
namespace Go.Proofs.YtkjaicmfegpjdaaGreat
open Go Go.RowKit
open Pl (K Con)
set_option linter.unusedSimpArgs false

/-- a constructor, or nothing, with a code; it lies below N and in new blocks -/
def OutN (N : Nat) (x : Con × Int) (w : World) (e : Ending) (w' : World) : Prop := (∃ y, e = .returned (.tuple #[y, .int .i64 x.2]) ∧ ConV w' (fun q => q < N ∨ (w.heap.size ≤ q ∧ q < w'.heap.size)) x.1 y) ∧ Below w.heap.size w w'
set_option maxRecDepth 100000 in
set_option maxHeartbeats 4000000 in
theorem csubst_at (N : Nat) (t : Con) (l : List Con) (w : World) (v xv : Value) (hN : N ≤ w.heap.size) (ht : ConV w (· < N) t v) (hl : ConSl w (· < N) xv l) :
    Calls Tryz.prog 21 #[v, xv] w (OutN N (substOut t l) w) := by
  have HV := Lib.hid (fun W (hW : Below w.heap.size w W) => cvalid_any (· < N) t W v (fun q hq => Nat.lt_of_lt_of_le hq (Nat.le_trans hN hW.size)) (ht.keep (Same.of_below hW (fun _ h => Nat.lt_of_lt_of_le h hN))))
  have HALL := Lib.hid (fun W (hW : Below w.heap.size w W) => allC_any 54 (fun _ _ => by kernel_rfl) Con.validB (· < N) l (fun t _ W v h1 h2 => cvalid_any (· < N) t W v h1 h2) W xv (fun q hq => Nat.lt_of_lt_of_le hq (Nat.le_trans hN hW.size)) (hl.keep (Same.of_below hW (fun _ h => Nat.lt_of_lt_of_le h hN))))
  have HO := Lib.hid (substOut_eq t l)
  have HR := Lib.hid (fun (wb : World) (G g1 g2 : Nat) (hG : w.heap.size ≤ G) (hv : Con.validB t = true) (hlv : l.all Con.validB = true) (hln : l.length ≤ 1000) (hw : Below w.heap.size w wb) (hbl : Blk wb G 135 #[.int .i64 20000]) (hs : SubBoxes wb g1 g2 G xv) (h1 : g1 ≠ G) (h2 : g2 ≠ G) =>
    result_any N G _ _ (suF l) wb (sub_change N G g1 g2 l xv wb (Nat.le_trans hN hG) hbl.lt hs h1 h2 (hl.keep (Same.of_below hw (fun _ h => Nat.lt_of_lt_of_le h hN))) (fun y hy => valid_all y (List.all_eq_true.1 hlv y hy)) hln) (Nat.le_trans hN hG) t v (valid_all t hv) hbl (ht.keep (Same.of_below hw (fun _ h => Nat.lt_of_lt_of_le h hN))))
  obtain ⟨ka, kn, kc, na, nn, nc, la, ln, lc, rfl, -, -, -⟩ := ht.shape
  obtain ⟨sa, lc9, rfl, hmn, hmx, -⟩ := hl.each
  obtain ⟨n, hn⟩ : ∃ n, n = l.length := ⟨_, rfl⟩
  have HN := Lib.hid hn
  rw [← hn] at HALL HR HO hmn ⊢
  have hn63 : n ≤ 9223372036854775807 := by unfold maxLen at hmx; omega
  have hb1 := boxN_new w 28 #[.int .i64 t.op, .int .i64 t.n, .string t.s, .slice ka kn kc, .slice na nn nc, .slice la ln lc]
  have hb2 := boxN_new (w.alloc (.cells #[.int .i64 t.op, .int .i64 t.n, .string t.s, .slice ka kn kc, .slice na nn nc, .slice la ln lc] 28)) 26 #[.slice sa n lc9]
  have hb3 := boxN_new ((w.alloc (.cells #[.int .i64 t.op, .int .i64 t.n, .string t.s, .slice ka kn kc, .slice na nn nc, .slice la ln lc] 28)).alloc (.cells #[.slice sa n lc9] 26)) 28 #[.int .i64 0, .int .i64 0, .string ⟨#[]⟩, .slice none 0 0, .slice none 0 0, .slice none 0 0]
  have k1 := (hb1.1.alloc (.cells #[.slice sa n lc9] 26)).alloc (.cells #[.int .i64 0, .int .i64 0, .string ⟨#[]⟩, .slice none 0 0, .slice none 0 0, .slice none 0 0] 28)
  have k2 := hb2.1.alloc (.cells #[.int .i64 0, .int .i64 0, .string ⟨#[]⟩, .slice none 0 0, .slice none 0 0, .slice none 0 0] 28)
  have k3 := hb3.1
  have hbb := belowStep hb3.2 (belowStep hb2.2 hb1.2)
  rw [size_alloc] at k2
  rw [size_alloc, size_alloc] at k3
  have HBX := Lib.hid k1
  have HBL := Lib.hid k2
  have HZ := Lib.hid k3
  have HB := Lib.hid hbb
  have c0 := k1.cell 0 (.int .i64 t.op) rfl
  have c1 := k1.cell 1 (.int .i64 t.n) rfl
  have c2 := k1.cell 2 (.string t.s) rfl
  have c3 := k1.cell 3 (.slice ka kn kc) rfl
  have c4 := k1.cell 4 (.slice na nn nc) rfl
  have c5 := k1.cell 5 (.slice la ln lc) rfl
  clear hb1 hb2 hb3 k1 k2 k3 hbb ht hl hmx hmn hn
  go_enter Tryz.func21, Tryz.ntmps21
  go_wp2_with fail
  clear c0 c1 c2 c3 c4 c5
  generalize (((w.alloc (.cells #[.int .i64 t.op, .int .i64 t.n, .string t.s, .slice ka kn kc, .slice na nn nc, .slice la ln lc] 28)).alloc (.cells #[.slice sa n lc9] 26)).alloc (.cells #[.int .i64 0, .int .i64 0, .string ⟨#[]⟩, .slice none 0 0, .slice none 0 0, .slice none 0 0] 28)) = w1 at *
  refine (HV.out _ HB.out).mono ?_
  rintro e w2 ⟨rfl, h2⟩
  replace HB := Lib.hid (belowStep h2 HB.out)
  replace HBX := Lib.hid (HBX.out.of_eq (h2.block _ HBX.out.lt))
  replace HBL := Lib.hid (HBL.out.of_eq (h2.block _ HBL.out.lt))
  replace HZ := Lib.hid (HZ.out.of_eq (h2.block _ HZ.out.lt))
  clear h2
  cases hv : Con.validB t
  · clear HR
    have HO2 := Lib.hid (show substOut t l = (Con.none0, 1) from by rw [HO.out, if_neg (by rw [hv]; simp)])
    have hzz := HZ.out
    have hz := store6_blk hzz 0 (.int .i64 0) (.int .i64 0) (.string ⟨#[]⟩) (.slice none 0 0) (.slice none 0 0) (.slice none 0 0)
    rw [put6_all] at hz
    have HE := Lib.hid (show OutN N (substOut t l) w (.returned (.tuple #[.agg #[.int .i64 0, .int .i64 0, .string ⟨#[]⟩, .slice none 0 0, .slice none 0 0, .slice none 0 0], .int .i64 1])) (store6 w2 (w.heap.size + 1 + 1) 0 (.int .i64 0) (.int .i64 0) (.string ⟨#[]⟩) (.slice none 0 0) (.slice none 0 0) (.slice none 0 0)) from ⟨⟨_, by rw [HO2.out], by rw [HO2.out]; exact conV_none _ _⟩, store6_below HB.out _ _ _ _ _ _ _ _ (by omega)⟩)
    unfold store6 at hz HE
    simp only [Nat.zero_add] at hz HE
    have z0 := hz.cell 0 (.int .i64 0) rfl
    have z1 := hz.cell 1 (.int .i64 0) rfl
    have z2 := hz.cell 2 (.string ⟨#[]⟩) rfl
    have z3 := hz.cell 3 (.slice none 0 0) rfl
    have z4 := hz.cell 4 (.slice none 0 0) rfl
    have z5 := hz.cell 5 (.slice none 0 0) rfl
    have r0 := hzz.cell 0 (.int .i64 0) rfl
    have r1 := hzz.cell 1 (.int .i64 0) rfl
    have r2 := hzz.cell 2 (.string ⟨#[]⟩) rfl
    have r3 := hzz.cell 3 (.slice none 0 0) rfl
    have r4 := hzz.cell 4 (.slice none 0 0) rfl
    have r5 := hzz.cell 5 (.slice none 0 0) rfl
    have t0 := hzz.thaw 0
    have t1 := hzz.thaw 1
    have t2 := hzz.thaw 2
    have t3 := hzz.thaw 3
    have t4 := hzz.thaw 4
    have t5 := hzz.thaw 5
    clear hz hzz HV HALL HO HBX HZ HO2
    go_wp2
    refine bodyPost_ret (v := .tuple #[.agg #[.int .i64 0, .int .i64 0, .string ⟨#[]⟩, .slice none 0 0, .slice none 0 0, .slice none 0 0], .int .i64 1]) (by simp [results, Tryz.results21, go_sem, z0, z1, z2, z3, z4, z5]) rfl ?_
    exact HE.out
  have HVT := Lib.hid hv
  rw [hv] at HV
  clear hv
  have x0 := HBL.out.cell 0 (.slice sa n lc9) rfl
  go_wp2_with fail
  clear x0
  refine (HALL.out _ HB.out).mono ?_
  rintro e w3 ⟨rfl, h3⟩
  replace HB := Lib.hid (belowStep h3 HB.out)
  replace HBX := Lib.hid (HBX.out.of_eq (h3.block _ HBX.out.lt))
  replace HBL := Lib.hid (HBL.out.of_eq (h3.block _ HBL.out.lt))
  replace HZ := Lib.hid (HZ.out.of_eq (h3.block _ HZ.out.lt))
  clear h3
  cases hlv : l.all Con.validB
  · clear HR
    have HO2 := Lib.hid (show substOut t l = (Con.none0, 1) from by rw [HO.out, if_neg (by rw [hlv]; simp)])
    have hzz := HZ.out
    have hz := store6_blk hzz 0 (.int .i64 0) (.int .i64 0) (.string ⟨#[]⟩) (.slice none 0 0) (.slice none 0 0) (.slice none 0 0)
    rw [put6_all] at hz
    have HE := Lib.hid (show OutN N (substOut t l) w (.returned (.tuple #[.agg #[.int .i64 0, .int .i64 0, .string ⟨#[]⟩, .slice none 0 0, .slice none 0 0, .slice none 0 0], .int .i64 1])) (store6 w3 (w.heap.size + 1 + 1) 0 (.int .i64 0) (.int .i64 0) (.string ⟨#[]⟩) (.slice none 0 0) (.slice none 0 0) (.slice none 0 0)) from ⟨⟨_, by rw [HO2.out], by rw [HO2.out]; exact conV_none _ _⟩, store6_below HB.out _ _ _ _ _ _ _ _ (by omega)⟩)
    unfold store6 at hz HE
    simp only [Nat.zero_add] at hz HE
    have z0 := hz.cell 0 (.int .i64 0) rfl
    have z1 := hz.cell 1 (.int .i64 0) rfl
    have z2 := hz.cell 2 (.string ⟨#[]⟩) rfl
    have z3 := hz.cell 3 (.slice none 0 0) rfl
    have z4 := hz.cell 4 (.slice none 0 0) rfl
    have z5 := hz.cell 5 (.slice none 0 0) rfl
    have r0 := hzz.cell 0 (.int .i64 0) rfl
    have r1 := hzz.cell 1 (.int .i64 0) rfl
    have r2 := hzz.cell 2 (.string ⟨#[]⟩) rfl
    have r3 := hzz.cell 3 (.slice none 0 0) rfl
    have r4 := hzz.cell 4 (.slice none 0 0) rfl
    have r5 := hzz.cell 5 (.slice none 0 0) rfl
    have t0 := hzz.thaw 0
    have t1 := hzz.thaw 1
    have t2 := hzz.thaw 2
    have t3 := hzz.thaw 3
    have t4 := hzz.thaw 4
    have t5 := hzz.thaw 5
    clear hz hzz HV HALL HO HBX HZ HO2
    go_wp2
    refine bodyPost_ret (v := .tuple #[.agg #[.int .i64 0, .int .i64 0, .string ⟨#[]⟩, .slice none 0 0, .slice none 0 0, .slice none 0 0], .int .i64 1]) (by simp [results, Tryz.results21, go_sem, z0, z1, z2, z3, z4, z5]) rfl ?_
    exact HE.out
  have HLV := Lib.hid hlv
  rw [hlv] at HALL
  have x0 := HBL.out.cell 0 (.slice sa n lc9) rfl
  cases q1 : decide ((1000 : Int) < (n : Int))
  rotate_left
  · clear HR
    have HLN := Lib.hid (show 1000 < n from by have := of_decide_eq_true q1; omega)
    have HO2 := Lib.hid (show substOut t l = (Con.none0, 5) from by rw [HO.out, if_pos (by rw [HVT.out, HLV.out]; rfl), if_pos HLN.out])
    have hzz := HZ.out
    have hz := store6_blk hzz 0 (.int .i64 0) (.int .i64 0) (.string ⟨#[]⟩) (.slice none 0 0) (.slice none 0 0) (.slice none 0 0)
    rw [put6_all] at hz
    have HE := Lib.hid (show OutN N (substOut t l) w (.returned (.tuple #[.agg #[.int .i64 0, .int .i64 0, .string ⟨#[]⟩, .slice none 0 0, .slice none 0 0, .slice none 0 0], .int .i64 5])) (store6 w3 (w.heap.size + 1 + 1) 0 (.int .i64 0) (.int .i64 0) (.string ⟨#[]⟩) (.slice none 0 0) (.slice none 0 0) (.slice none 0 0)) from ⟨⟨_, by rw [HO2.out], by rw [HO2.out]; exact conV_none _ _⟩, store6_below HB.out _ _ _ _ _ _ _ _ (by omega)⟩)
    unfold store6 at hz HE
    simp only [Nat.zero_add] at hz HE
    have z0 := hz.cell 0 (.int .i64 0) rfl
    have z1 := hz.cell 1 (.int .i64 0) rfl
    have z2 := hz.cell 2 (.string ⟨#[]⟩) rfl
    have z3 := hz.cell 3 (.slice none 0 0) rfl
    have z4 := hz.cell 4 (.slice none 0 0) rfl
    have z5 := hz.cell 5 (.slice none 0 0) rfl
    have r0 := hzz.cell 0 (.int .i64 0) rfl
    have r1 := hzz.cell 1 (.int .i64 0) rfl
    have r2 := hzz.cell 2 (.string ⟨#[]⟩) rfl
    have r3 := hzz.cell 3 (.slice none 0 0) rfl
    have r4 := hzz.cell 4 (.slice none 0 0) rfl
    have r5 := hzz.cell 5 (.slice none 0 0) rfl
    have t0 := hzz.thaw 0
    have t1 := hzz.thaw 1
    have t2 := hzz.thaw 2
    have t3 := hzz.thaw 3
    have t4 := hzz.thaw 4
    have t5 := hzz.thaw 5
    clear hz hzz HV HALL HO HBX HZ HO2
    go_wp2
    refine bodyPost_ret (v := .tuple #[.agg #[.int .i64 0, .int .i64 0, .string ⟨#[]⟩, .slice none 0 0, .slice none 0 0, .slice none 0 0], .int .i64 5]) (by simp [results, Tryz.results21, go_sem, z0, z1, z2, z3, z4, z5]) rfl ?_
    exact HE.out
  have HLN := Lib.hid (show n ≤ 1000 from by have := of_decide_eq_false q1; omega)
  have HOUT := Lib.hid (show substOut t l = fitOut (Con.reb (suF l) t 0) from by
    rw [HO.out, if_pos (by rw [HVT.out, HLV.out]; rfl), if_neg (by have := HLN.out; omega)]
    rfl)
  clear hlv HV HO HALL
  go_wp2_with fail
  refine (newBuilder_any _).mono ?_
  rintro e wb ⟨rfl, rfl⟩
  have hnb := boxN_new w3 135 #[.int .i64 20000]
  have hnc := boxN_new (w3.alloc (.cells #[.int .i64 20000] 135)) 88 #[.pointer (some ⟨w3.heap.size, 0, none⟩)]
  have hnd := hnb.1.alloc (.cells #[.pointer (some ⟨w3.heap.size, 0, none⟩)] 88)
  have hne := hnc.1
  rw [size_alloc] at hne
  have h4 := belowStep hnc.2 hnb.2
  have HGS := Lib.hid (show w.heap.size + 1 + 1 < w3.heap.size from HZ.out.lt)
  replace HB := Lib.hid (belowStep h4 HB.out)
  replace HBX := Lib.hid (HBX.out.of_eq (h4.block _ HBX.out.lt))
  replace HBL := Lib.hid (HBL.out.of_eq (h4.block _ HBL.out.lt))
  replace HZ := Lib.hid (HZ.out.of_eq (h4.block _ HZ.out.lt))
  have hfin : ∃ u c, fitOut (Con.reb (suF l) t 0) = (u, c) := ⟨_, _, rfl⟩
  obtain ⟨u, c, hfo⟩ := hfin
  have HFO := Lib.hid (show substOut t l = (u, c) from HOUT.out.trans hfo)
  have HRR := Lib.hid ((HR.out (((w3.alloc (.cells #[.int .i64 20000] 135)).alloc (.cells #[.pointer (some ⟨w3.heap.size, 0, none⟩)] 88))) w3.heap.size (w.heap.size + 1) (w3.heap.size + 1) (by have := HGS.out; omega) HVT.out HLV.out HLN.out HB.out hnd ⟨HBL.out, hne⟩ (by have := HGS.out; omega) (by omega)).mono (R' := fun e w' => Only w3.heap.size (((w3.alloc (.cells #[.int .i64 20000] 135)).alloc (.cells #[.pointer (some ⟨w3.heap.size, 0, none⟩)] 88))) w' ∧ ∃ y, e = .returned (.tuple #[y, .int .i64 c]) ∧ ConV w' (Reg N (((w3.alloc (.cells #[.int .i64 20000] 135)).alloc (.cells #[.pointer (some ⟨w3.heap.size, 0, none⟩)] 88))).heap.size w') u y) (by
    rintro e w' ⟨h1, y, h2, h3⟩
    rw [hfo] at h2 h3
    exact ⟨h1, y, h2, h3⟩))
  have HGL := Lib.hid hnd.lt
  have c0 := HBX.out.cell 0 (.int .i64 t.op) rfl
  have c1 := HBX.out.cell 1 (.int .i64 t.n) rfl
  have c2 := HBX.out.cell 2 (.string t.s) rfl
  have c3 := HBX.out.cell 3 (.slice ka kn kc) rfl
  have c4 := HBX.out.cell 4 (.slice na nn nc) rfl
  have c5 := HBX.out.cell 5 (.slice la ln lc) rfl
  have x1 := hne.cell 0 (.pointer (some ⟨w3.heap.size, 0, none⟩)) rfl
  have x9 := hne.thaw 0
  clear hfo HOUT hnb hnc hnd hne h4 HR
  go_wp2_with fail
  clear c0 c1 c2 c3 c4 c5 x0 x1 x9 q1
  generalize (((w3.alloc (.cells #[.int .i64 20000] 135)).alloc (.cells #[.pointer (some ⟨w3.heap.size, 0, none⟩)] 88))) = wb at *
  generalize w3.heap.size = G at *
  refine HRR.out.mono ?_
  rintro e wr ⟨hor, y, rfl, hy⟩
  obtain ⟨ua, un, uc, va, vn, vc, xa, xn, xc, rfl, -, -, -⟩ := hy.shape
  have hzr := hor.blk HZ.out (by have := HGS.out; omega)
  have t0 := hzr.thaw 0
  have t1 := hzr.thaw 1
  have t2 := hzr.thaw 2
  have t3 := hzr.thaw 3
  have t4 := hzr.thaw 4
  have t5 := hzr.thaw 5
  have r0 := hzr.cell 0 (.int .i64 0) rfl
  have r1 := hzr.cell 1 (.int .i64 0) rfl
  have r2 := hzr.cell 2 (.string ⟨#[]⟩) rfl
  have r3 := hzr.cell 3 (.slice none 0 0) rfl
  have r4 := hzr.cell 4 (.slice none 0 0) rfl
  have r5 := hzr.cell 5 (.slice none 0 0) rfl
  have hz := store6_blk hzr 0 (.int .i64 u.op) (.int .i64 u.n) (.string u.s) (.slice ua un uc) (.slice va vn vc) (.slice xa xn xc)
  rw [put6_all] at hz
  have HE := Lib.hid (show OutN N (substOut t l) w (.returned (.tuple #[.agg #[.int .i64 u.op, .int .i64 u.n, .string u.s, .slice ua un uc, .slice va vn vc, .slice xa xn xc], .int .i64 c])) (store6 wr (w.heap.size + 1 + 1) 0 (.int .i64 u.op) (.int .i64 u.n) (.string u.s) (.slice ua un uc) (.slice va vn vc) (.slice xa xn xc)) from by
    rw [HFO.out]
    refine ⟨⟨_, rfl, (hy.keep (fun q hq => store6_other _ _ _ _ _ _ _ _ _ q (by
      have := HGS.out
      have := HGL.out
      rcases hq with hq | hq <;> omega))).mono (fun q hq => ?_)⟩, store6_below (HB.out.trans (hor.to (by have := HGS.out; omega) HB.out.size)) _ _ _ _ _ _ _ _ (by omega)⟩
    rcases hq with hq | hq
    · exact .inl hq
    · exact .inr ⟨by have := HGS.out; have := HGL.out; have := hq.1; omega, by rw [store6_size]; exact hq.2⟩)
  unfold store6 at hz HE
  simp only [Nat.zero_add] at hz HE
  have z0 := hz.cell 0 (.int .i64 u.op) rfl
  have z1 := hz.cell 1 (.int .i64 u.n) rfl
  have z2 := hz.cell 2 (.string u.s) rfl
  have z3 := hz.cell 3 (.slice ua un uc) rfl
  have z4 := hz.cell 4 (.slice va vn vc) rfl
  have z5 := hz.cell 5 (.slice xa xn xc) rfl
  clear hy hzr hz HRR HBX HBL HZ HB
  go_wp2
  refine bodyPost_ret (v := .tuple #[.agg #[.int .i64 u.op, .int .i64 u.n, .string u.s, .slice ua un uc, .slice va vn vc, .slice xa xn xc], .int .i64 c]) (by simp [results, Tryz.results21, go_sem, z0, z1, z2, z3, z4, z5]) rfl ?_
  exact HE.out
end Go.Proofs.YtkjaicmfegpjdaaGreat
namespace Go.Proofs.YtkjaicmfegpjdaaGreat
open Go Go.RowKit
open Pl (K Con)
set_option linter.unusedSimpArgs false
set_option linter.unusedVariables false

/-- a slice of constructors: its own block in Q, what its elements reach in P -/
def ConSp (w : World) (P Q : Nat → Prop) (v : Value) (l : List Con) : Prop :=
  ∃ a c, v = .slice a l.length c ∧ l.length ≤ c ∧ c ≤ maxLen ∧ (a = none → c = 0) ∧ (l = [] ∨ ∃ b off, a = some ⟨b, off, none⟩ ∧ Q b ∧ ConsAt w P l b off)
theorem ConSp.of {w : World} {P : Nat → Prop} {v : Value} {l : List Con} (h : ConSl w P v l) : ConSp w P P v l := h
theorem ConsAt.up {w : World} {P Q : Nat → Prop} (hq : ∀ b, P b → Q b) {l : List Con} {b off : Nat} (h : ConsAt w P l b off) : ConsAt w Q l b off := by
  rw [consAt_iff] at h ⊢
  intro j hj
  obtain ⟨x, h1, h2⟩ := h j hj
  exact ⟨x, h1, h2.mono hq⟩
theorem ConSp.mono {w : World} {P P' Q Q' : Nat → Prop} {v : Value} {l : List Con} (h : ConSp w P Q v l) (hp : ∀ b, P b → P' b) (hq : ∀ b, Q b → Q' b) : ConSp w P' Q' v l := by
  obtain ⟨a, c, h3, h4, h5, h6, h7⟩ := h
  refine ⟨a, c, h3, h4, h5, h6, ?_⟩
  rcases h7 with h7 | ⟨b, off, h7, h8, h9⟩
  · exact .inl h7
  · exact .inr ⟨b, off, h7, hq b h8, h9.up hp⟩
theorem ConSp.sl {w : World} {P Q R : Nat → Prop} {v : Value} {l : List Con} (h : ConSp w P Q v l) (hp : ∀ b, P b → R b) (hq : ∀ b, Q b → R b) : ConSl w R v l := h.mono hp hq
theorem ConSp.keep {w w' : World} {P Q : Nat → Prop} {v : Value} {l : List Con} (h : ConSp w P Q v l) (hp : Same P w w') (hq : Same Q w w') : ConSp w' P Q v l := by
  obtain ⟨a, c, h3, h4, h5, h6, h7⟩ := h
  refine ⟨a, c, h3, h4, h5, h6, ?_⟩
  rcases h7 with h7 | ⟨b, off, h7, h8, h9⟩
  · exact .inl h7
  · refine .inr ⟨b, off, h7, h8, ?_⟩
    rw [consAt_iff] at h9 ⊢
    intro j hj
    obtain ⟨x, h1, h2⟩ := h9 j hj
    exact ⟨x, h1.keep hq h8, h2.keep hp⟩
theorem ConSp.each {w : World} {P Q : Nat → Prop} {l : List Con} {v : Value} (h : ConSp w P Q v l) : ∃ a c, v = .slice a l.length c ∧ l.length ≤ c ∧ c ≤ maxLen ∧ (∀ j (hj : j < l.length), ∃ b off x, a = some ⟨b, off, none⟩ ∧ Q b ∧ Cells6 w b (off + j * 6) x ∧ ConV w P l[j] x) := by
  obtain ⟨a, c, h3, h4, h5, h6, h7⟩ := h
  refine ⟨a, c, h3, h4, h5, fun j hj => ?_⟩
  rcases h7 with h7 | ⟨b, off, h7, h8, h9⟩
  · rw [h7] at hj
    exact absurd hj (Nat.not_lt_zero _)
  · obtain ⟨y, e1, e2⟩ := (consAt_iff _ _ _ _ _).1 h9 j hj
    exact ⟨b, off, y, h7, h8, e1, e2⟩
theorem ConSp.part {w : World} {P Q : Nat → Prop} {v : Value} {l : List Con} (h : ConSp w P Q v l) (k : Nat) (hk : k < l.length) : ∃ b off c ka kn kc na nn nc la ln lc, v = .slice (some ⟨b, off, none⟩) l.length c ∧ Q b ∧
    w.cell? ⟨b, off + k * 6, none⟩ = some (.int .i64 l[k].op) ∧ w.cell? ⟨b, off + k * 6 + 1, none⟩ = some (.int .i64 l[k].n) ∧ w.cell? ⟨b, off + k * 6 + 2, none⟩ = some (.string l[k].s) ∧ w.cell? ⟨b, off + k * 6 + 3, none⟩ = some (.slice ka kn kc) ∧ w.cell? ⟨b, off + k * 6 + 4, none⟩ = some (.slice na nn nc) ∧ w.cell? ⟨b, off + k * 6 + 5, none⟩ = some (.slice la ln lc) ∧
    ConV w P l[k] (.agg #[.int .i64 l[k].op, .int .i64 l[k].n, .string l[k].s, .slice ka kn kc, .slice na nn nc, .slice la ln lc]) := by
  obtain ⟨a, c, rfl, -, -, hh⟩ := h.each
  obtain ⟨b, off, x, rfl, hP, ⟨x0, x1, x2, x3, x4, x5, rfl, f0, f1, f2, f3, f4, f5⟩, hx⟩ := hh k hk
  obtain ⟨ka, kn, kc, na, nn, nc, la, ln, lc, e, -, -, -⟩ := hx.shape
  simp only [Value.agg.injEq, Array.mk.injEq, List.cons.injEq, and_true] at e
  obtain ⟨rfl, rfl, rfl, rfl, rfl, rfl⟩ := e
  exact ⟨b, off, c, ka, kn, kc, na, nn, nc, la, ln, lc, rfl, hP, f0, f1, f2, f3, f4, f5, hx⟩
/-- one constructor in a slice, its block apart -/
theorem cons_one_sp {w : World} {P Q : Nat → Prop} {g : Nat} {t : Con} {x0 x1 x2 x3 x4 x5 : Value} (hb : Blk w g 28 #[x0, x1, x2, x3, x4, x5]) (hg : Q g) (ht : ConV w P t (.agg #[x0, x1, x2, x3, x4, x5])) : ConSp w P Q (.slice (some ⟨g, 0, none⟩) 1 1) [t] := by
  refine ⟨_, 1, rfl, by simp, by unfold maxLen; omega, (fun h => by cases h), .inr ⟨g, 0, rfl, hg, ?_⟩⟩
  rw [ConsAt, ConsAt]
  exact ⟨⟨_, ⟨x0, x1, x2, x3, x4, x5, rfl, hb.cell 0 _ rfl, hb.cell 1 _ rfl, hb.cell 2 _ rfl, hb.cell 3 _ rfl, hb.cell 4 _ rfl, hb.cell 5 _ rfl⟩, ht⟩, trivial⟩
set_option maxRecDepth 100000 in
set_option maxHeartbeats 4000000 in
theorem subF2_any (N G g1 g2 : Nat) (l : List Con) (xv : Value) (t : Con) (b d L : Int) (w : World) (v : Value) (hN : N ≤ G) (hs : SubBoxes w g1 g2 G xv) (hgn1 : g1 ≠ G) (hgn2 : g2 ≠ G) (hl : ConSp w (· < N) (· < G) xv l) (hla : ∀ y ∈ l, Con.allB y = true) (hln : l.length ≤ 1000) (hG : Blk w G 135 #[.int .i64 L]) (ht : ConV w (· < N) t v) (ha : Con.nodeB t = true) (hlf : Con.leafy t b) (h0 : 0 ≤ L) (h1 : L ≤ 20000) (hb0 : 0 ≤ b) (hbd : b ≤ d) (hd0 : 1 ≤ d) (hd : d ≤ 401) :
    Calls Tryz.prog 69 #[v, .int .i64 b, .int .i64 d, .pointer (some ⟨g1, 0, none⟩), .pointer (some ⟨g2, 0, none⟩)] w (RebP N G (suF l t b) L d w) := by
  obtain ⟨hkv, hnl, hll⟩ := node_facts t ha
  have hnn := nodeB_n t ha
  have hgl := hG.lt
  have hl0 : t.l = [] := leaf_none t ha (by rcases hlf with h | h; exact .inr h; exact .inl h.1)
  have htt := (conV_iff _ _ _ _).1 ht
  obtain ⟨ka, kn, kc, na, nn, nc, la, ln, lc, rfl, -, -, -⟩ := ht.shape
  have HPRT := Lib.hid (show t.s.size ≤ maxLen ∧ KidV w (· < N) t.kind (.slice ka kn kc) ∧ StrSl w (· < N) (.slice na nn nc) t.names ∧ ConSl w (· < N) (.slice la ln lc) t.l from by
    obtain ⟨hs, kv', nv', lv', e, hk, hn, hl⟩ := htt
    simp only [Value.agg.injEq, Array.mk.injEq, List.cons.injEq, and_true, true_and] at e
    obtain ⟨rfl, rfl, rfl⟩ := e
    exact ⟨hs, hk, hn, hl⟩)
  clear htt
  obtain ⟨sa, lc9, rfl, -, -, -⟩ := hl.each
  obtain ⟨n, hn⟩ : ∃ n, n = l.length := ⟨_, rfl⟩
  have HN := Lib.hid hn
  have HL := Lib.hid hl
  rw [← hn] at hs hln HL
  obtain ⟨hbx, hbx2, hb⟩ := twoN_new w 28 28 #[.int .i64 t.op, .int .i64 t.n, .string t.s, .slice ka kn kc, .slice na nn nc, .slice la ln lc] #[.int .i64 0, .int .i64 0, .string ⟨#[]⟩, .slice none 0 0, .slice none 0 0, .slice none 0 0]
  have HGL := Lib.hid hgl
  have HBY0 := Lib.hid hbx2
  have HB := Lib.hid hb
  have HSB := Lib.hid (⟨hs.lst.of_eq (hb.block _ hs.lst.lt), hs.bld.of_eq (hb.block _ hs.bld.lt)⟩ : SubBoxes _ g1 g2 G _)
  have x1 := HSB.out.lst.cell 0 (.slice sa n lc9) rfl
  have x2 := HSB.out.bld.cell 0 (.pointer (some ⟨G, 0, none⟩)) rfl
  have c0 := hbx.cell 0 (.int .i64 t.op) rfl
  have c1 := hbx.cell 1 (.int .i64 t.n) rfl
  have c2 := hbx.cell 2 (.string t.s) rfl
  have c3 := hbx.cell 3 (.slice ka kn kc) rfl
  have c4 := hbx.cell 4 (.slice na nn nc) rfl
  have c5 := hbx.cell 5 (.slice la ln lc) rfl
  have fz := hbx.thaw 1
  have w2 : wrap64 (t.n - (n : Int)) = t.n - (n : Int) := by rw [wrap64]; omega
  by_cases h2 : t.op = 1
  rotate_left
  · have q1 : (t.op == 1) = false := by simpa using h2
    have HW := Lib.hid (show suF l t b = t from if_neg h2)
    rw [HW.out]
    obtain ⟨hbx9, hby9, hb9⟩ := twoN_new w 28 28 #[.int .i64 t.op, .int .i64 (t.n), .string t.s, .slice ka kn kc, .slice na nn nc, .slice la ln lc] #[.int .i64 0, .int .i64 0, .string ⟨#[]⟩, .slice none 0 0, .slice none 0 0, .slice none 0 0]
    have HSZ := Lib.hid (show ((w.alloc (.cells #[.int .i64 t.op, .int .i64 (t.n), .string t.s, .slice ka kn kc, .slice na nn nc, .slice la ln lc] 28)).alloc (.cells #[.int .i64 0, .int .i64 0, .string ⟨#[]⟩, .slice none 0 0, .slice none 0 0, .slice none 0 0] 28)).heap.size = w.heap.size + 2 by simp)
    have hgg := hG.of_eq (hb9.block _ hG.lt)
    have HBY := Lib.hid hby9
    have HOW := Lib.hid (only_below (N := G) hb9)
    have HNODE := Lib.hid (node_leaf N G t L d ((w.alloc (.cells #[.int .i64 t.op, .int .i64 (t.n), .string t.s, .slice ka kn kc, .slice na nn nc, .slice la ln lc] 28)).alloc (.cells #[.int .i64 0, .int .i64 0, .string ⟨#[]⟩, .slice none 0 0, .slice none 0 0, .slice none 0 0] 28)) (.agg #[.int .i64 t.op, .int .i64 (t.n), .string t.s, .slice ka kn kc, .slice na nn nc, .slice la ln lc]) hN hgg ((conV_iff _ _ _ _).2 (show t.s.size ≤ maxLen ∧ ∃ kv nv lv, (.agg #[.int .i64 t.op, .int .i64 (t.n), .string t.s, .slice ka kn kc, .slice na nn nc, .slice la ln lc] : Value) = .agg #[.int .i64 t.op, .int .i64 (t.n), .string t.s, kv, nv, lv] ∧ KidV _ _ t.kind kv ∧ StrSl _ _ nv t.names ∧ ConSl _ _ lv t.l from ⟨HPRT.out.1, _, _, _, rfl, HPRT.out.2.1.keep (Same.of_below hb9 (fun q (hq : q < N) => by omega)), HPRT.out.2.2.1.keep (Same.of_below hb9 (fun q (hq : q < N) => by omega)), HPRT.out.2.2.2.keep (Same.of_below hb9 (fun q (hq : q < N) => by omega))⟩)) hkv hl0 hnl h0 h1)
    have d0 := hbx9.cell 0 (.int .i64 t.op) rfl
    have d1 := hbx9.cell 1 (.int .i64 (t.n)) rfl
    have d2 := hbx9.cell 2 (.string t.s) rfl
    have d3 := hbx9.cell 3 (.slice ka kn kc) rfl
    have d4 := hbx9.cell 4 (.slice na nn nc) rfl
    have d5 := hbx9.cell 5 (.slice la ln lc) rfl
    clear hG ht ha hs hgl hlf h2 HPRT hbx9 hby9 hb9 hgg HW hl HL HSB HB HBY0 hbx hbx2 hb hla hn HN
    go_enter Tryz.func69, Tryz.ntmps69
    go_wp2_with fail
    clear c0 c1 c2 c3 c4 c5 d0 d1 d2 d3 d4 d5 x1 x2 q1 fz
    generalize ((w.alloc (.cells #[.int .i64 t.op, .int .i64 t.n, .string t.s, .slice ka kn kc, .slice na nn nc, .slice la ln lc] 28)).alloc (.cells #[.int .i64 0, .int .i64 0, .string ⟨#[]⟩, .slice none 0 0, .slice none 0 0, .slice none 0 0] 28)) = wa at *
    refine HNODE.out.mono ?_
    rintro e w3 ⟨ho3, y, u, c, rfl, hy, hg3, hc0, hc1, hfit⟩
    have hsz := HSZ.out
    have hss := ho3.size
    have hgl2 := HGL.out
    obtain ⟨ua, un, uc, va, vn, vc, xa, xn, xc, rfl, -, -, -⟩ := hy.shape
    have hby := ho3.blk HBY.out (show w.heap.size + 1 ≠ G from by have := HGL.out; omega)
    have t0 := hby.thaw 0
    have t1 := hby.thaw 1
    have t2 := hby.thaw 2
    have t3 := hby.thaw 3
    have t4 := hby.thaw 4
    have t5 := hby.thaw 5
    have r0 := hby.cell 0 (.int .i64 0) rfl
    have r1 := hby.cell 1 (.int .i64 0) rfl
    have r2 := hby.cell 2 (.string ⟨#[]⟩) rfl
    have r3 := hby.cell 3 (.slice none 0 0) rfl
    have r4 := hby.cell 4 (.slice none 0 0) rfl
    have r5 := hby.cell 5 (.slice none 0 0) rfl
    have hz := store6_blk hby 0 (.int .i64 u.op) (.int .i64 u.n) (.string u.s) (.slice ua un uc) (.slice va vn vc) (.slice xa xn xc)
    rw [put6_all] at hz
    have HE := Lib.hid (show RebP N G t L d w (.returned (.tuple #[.agg #[.int .i64 u.op, .int .i64 u.n, .string u.s, .slice ua un uc, .slice va vn vc, .slice xa xn xc], .bool (fitB t L d)])) (store6 w3 (w.heap.size + 1) 0 (.int .i64 u.op) (.int .i64 u.n) (.string u.s) (.slice ua un uc) (.slice va vn vc) (.slice xa xn xc)) from by
      refine ⟨store6_only (HOW.out.trans ho3) _ _ _ _ _ _ _ _ (.inr (Nat.le_succ _)), _, u, c, rfl, ?_, hg3.of_eq (store6_other _ _ _ _ _ _ _ _ _ G (by have := HGL.out; omega)), hc0, hc1, hfit⟩
      refine (hy.keep (fun q hq => store6_other _ _ _ _ _ _ _ _ _ q (by rcases hq with hq | hq <;> omega))).mono (fun q hq => ?_)
      rcases hq with hq | hq
      · exact .inl hq
      · exact .inr ⟨by omega, by rw [store6_size]; exact hq.2⟩)
    unfold store6 at hz HE
    simp only [Nat.zero_add] at hz HE
    have z0 := hz.cell 0 (.int .i64 u.op) rfl
    have z1 := hz.cell 1 (.int .i64 u.n) rfl
    have z2 := hz.cell 2 (.string u.s) rfl
    have z3 := hz.cell 3 (.slice ua un uc) rfl
    have z4 := hz.cell 4 (.slice va vn vc) rfl
    have z5 := hz.cell 5 (.slice xa xn xc) rfl
    clear hy hg3 hfit hby hz ho3 hsz hss hgl2 HNODE HOW HBY HSZ
    generalize fitB t L d = r at *
    go_wp2
    refine bodyPost_ret (v := .tuple #[.agg #[.int .i64 u.op, .int .i64 u.n, .string u.s, .slice ua un uc, .slice va vn vc, .slice xa xn xc], .bool r]) (by simp [results, Tryz.results69, go_sem, z0, z1, z2, z3, z4, z5]) rfl ?_
    exact HE.out
  have q1 : (t.op == 1) = true := by rw [h2]; rfl
  have hbn : b ≤ t.n := by
    rcases hlf with h | h
    · rw [h2] at h; cases h
    · exact h.2
  by_cases h3 : t.n - b < (n : Int)
  rotate_left
  · have w1 : wrap64 (t.n - b) = t.n - b := by rw [wrap64]; omega
    have q2 : decide (t.n - b < (n : Int)) = false := decide_eq_false h3
    have HW := Lib.hid (show suF l t b = (⟨t.op, t.n - (n : Int), t.s, t.kind, t.names, t.l⟩ : Con) from (by
      unfold suF
      rw [if_pos h2, if_neg (by rw [← HN.out]; exact h3), ← HN.out]))
    rw [HW.out]
    obtain ⟨hbx9, hby9, hb9⟩ := twoN_new w 28 28 #[.int .i64 t.op, .int .i64 (t.n - (n : Int)), .string t.s, .slice ka kn kc, .slice na nn nc, .slice la ln lc] #[.int .i64 0, .int .i64 0, .string ⟨#[]⟩, .slice none 0 0, .slice none 0 0, .slice none 0 0]
    have HSZ := Lib.hid (show ((w.alloc (.cells #[.int .i64 t.op, .int .i64 (t.n - (n : Int)), .string t.s, .slice ka kn kc, .slice na nn nc, .slice la ln lc] 28)).alloc (.cells #[.int .i64 0, .int .i64 0, .string ⟨#[]⟩, .slice none 0 0, .slice none 0 0, .slice none 0 0] 28)).heap.size = w.heap.size + 2 by simp)
    have hgg := hG.of_eq (hb9.block _ hG.lt)
    have HBY := Lib.hid hby9
    have HOW := Lib.hid (only_below (N := G) hb9)
    have HNODE := Lib.hid (node_leaf N G (⟨t.op, t.n - (n : Int), t.s, t.kind, t.names, t.l⟩ : Con) L d ((w.alloc (.cells #[.int .i64 t.op, .int .i64 (t.n - (n : Int)), .string t.s, .slice ka kn kc, .slice na nn nc, .slice la ln lc] 28)).alloc (.cells #[.int .i64 0, .int .i64 0, .string ⟨#[]⟩, .slice none 0 0, .slice none 0 0, .slice none 0 0] 28)) (.agg #[.int .i64 t.op, .int .i64 (t.n - (n : Int)), .string t.s, .slice ka kn kc, .slice na nn nc, .slice la ln lc]) hN hgg ((conV_iff _ _ _ _).2 (show t.s.size ≤ maxLen ∧ ∃ kv nv lv, (.agg #[.int .i64 t.op, .int .i64 (t.n - (n : Int)), .string t.s, .slice ka kn kc, .slice na nn nc, .slice la ln lc] : Value) = .agg #[.int .i64 t.op, .int .i64 (t.n - (n : Int)), .string t.s, kv, nv, lv] ∧ KidV _ _ t.kind kv ∧ StrSl _ _ nv t.names ∧ ConSl _ _ lv t.l from ⟨HPRT.out.1, _, _, _, rfl, HPRT.out.2.1.keep (Same.of_below hb9 (fun q (hq : q < N) => by omega)), HPRT.out.2.2.1.keep (Same.of_below hb9 (fun q (hq : q < N) => by omega)), HPRT.out.2.2.2.keep (Same.of_below hb9 (fun q (hq : q < N) => by omega))⟩)) hkv hl0 hnl h0 h1)
    have d0 := hbx9.cell 0 (.int .i64 t.op) rfl
    have d1 := hbx9.cell 1 (.int .i64 (t.n - (n : Int))) rfl
    have d2 := hbx9.cell 2 (.string t.s) rfl
    have d3 := hbx9.cell 3 (.slice ka kn kc) rfl
    have d4 := hbx9.cell 4 (.slice na nn nc) rfl
    have d5 := hbx9.cell 5 (.slice la ln lc) rfl
    obtain ⟨y1, y2⟩ : ((w.alloc (.cells #[.int .i64 t.op, .int .i64 (t.n - (n : Int)), .string t.s, .slice ka kn kc, .slice na nn nc, .slice la ln lc] 28)).alloc (.cells #[.int .i64 0, .int .i64 0, .string ⟨#[]⟩, .slice none 0 0, .slice none 0 0, .slice none 0 0] 28)).cell? ⟨g1, 0, none⟩ = some (.slice sa n lc9) ∧ ((w.alloc (.cells #[.int .i64 t.op, .int .i64 (t.n - (n : Int)), .string t.s, .slice ka kn kc, .slice na nn nc, .slice la ln lc] 28)).alloc (.cells #[.int .i64 0, .int .i64 0, .string ⟨#[]⟩, .slice none 0 0, .slice none 0 0, .slice none 0 0] 28)).cell? ⟨g2, 0, none⟩ = some (.pointer (some ⟨G, 0, none⟩)) := ⟨(hs.lst.of_eq (hb9.block _ hs.lst.lt)).cell 0 _ rfl, (hs.bld.of_eq (hb9.block _ hs.bld.lt)).cell 0 _ rfl⟩
    clear hG ht ha hs hgl hlf h2 HPRT hbx9 hby9 hb9 hgg HW hl HL HSB HB HBY0 hbx hbx2 hb hla hn HN h3
    go_enter Tryz.func69, Tryz.ntmps69
    go_wp2_with fail
    clear c0 c1 c2 c3 c4 c5 d0 d1 d2 d3 d4 d5 x1 x2 y1 y2 q1 q2 w1 w2 fz
    generalize ((w.alloc (.cells #[.int .i64 t.op, .int .i64 (t.n - (n : Int)), .string t.s, .slice ka kn kc, .slice na nn nc, .slice la ln lc] 28)).alloc (.cells #[.int .i64 0, .int .i64 0, .string ⟨#[]⟩, .slice none 0 0, .slice none 0 0, .slice none 0 0] 28)) = wa at *
    refine HNODE.out.mono ?_
    rintro e w3 ⟨ho3, y, u, c, rfl, hy, hg3, hc0, hc1, hfit⟩
    have hsz := HSZ.out
    have hss := ho3.size
    have hgl2 := HGL.out
    obtain ⟨ua, un, uc, va, vn, vc, xa, xn, xc, rfl, -, -, -⟩ := hy.shape
    have hby := ho3.blk HBY.out (show w.heap.size + 1 ≠ G from by have := HGL.out; omega)
    have t0 := hby.thaw 0
    have t1 := hby.thaw 1
    have t2 := hby.thaw 2
    have t3 := hby.thaw 3
    have t4 := hby.thaw 4
    have t5 := hby.thaw 5
    have r0 := hby.cell 0 (.int .i64 0) rfl
    have r1 := hby.cell 1 (.int .i64 0) rfl
    have r2 := hby.cell 2 (.string ⟨#[]⟩) rfl
    have r3 := hby.cell 3 (.slice none 0 0) rfl
    have r4 := hby.cell 4 (.slice none 0 0) rfl
    have r5 := hby.cell 5 (.slice none 0 0) rfl
    have hz := store6_blk hby 0 (.int .i64 u.op) (.int .i64 u.n) (.string u.s) (.slice ua un uc) (.slice va vn vc) (.slice xa xn xc)
    rw [put6_all] at hz
    have HE := Lib.hid (show RebP N G (⟨t.op, t.n - (n : Int), t.s, t.kind, t.names, t.l⟩ : Con) L d w (.returned (.tuple #[.agg #[.int .i64 u.op, .int .i64 u.n, .string u.s, .slice ua un uc, .slice va vn vc, .slice xa xn xc], .bool (fitB (⟨t.op, t.n - (n : Int), t.s, t.kind, t.names, t.l⟩ : Con) L d)])) (store6 w3 (w.heap.size + 1) 0 (.int .i64 u.op) (.int .i64 u.n) (.string u.s) (.slice ua un uc) (.slice va vn vc) (.slice xa xn xc)) from by
      refine ⟨store6_only (HOW.out.trans ho3) _ _ _ _ _ _ _ _ (.inr (Nat.le_succ _)), _, u, c, rfl, ?_, hg3.of_eq (store6_other _ _ _ _ _ _ _ _ _ G (by have := HGL.out; omega)), hc0, hc1, hfit⟩
      refine (hy.keep (fun q hq => store6_other _ _ _ _ _ _ _ _ _ q (by rcases hq with hq | hq <;> omega))).mono (fun q hq => ?_)
      rcases hq with hq | hq
      · exact .inl hq
      · exact .inr ⟨by omega, by rw [store6_size]; exact hq.2⟩)
    unfold store6 at hz HE
    simp only [Nat.zero_add] at hz HE
    have z0 := hz.cell 0 (.int .i64 u.op) rfl
    have z1 := hz.cell 1 (.int .i64 u.n) rfl
    have z2 := hz.cell 2 (.string u.s) rfl
    have z3 := hz.cell 3 (.slice ua un uc) rfl
    have z4 := hz.cell 4 (.slice va vn vc) rfl
    have z5 := hz.cell 5 (.slice xa xn xc) rfl
    clear hy hg3 hfit hby hz ho3 hsz hss hgl2 HNODE HOW HBY HSZ
    generalize fitB (⟨t.op, t.n - (n : Int), t.s, t.kind, t.names, t.l⟩ : Con) L d = r at *
    go_wp2
    refine bodyPost_ret (v := .tuple #[.agg #[.int .i64 u.op, .int .i64 u.n, .string u.s, .slice ua un uc, .slice va vn vc, .slice xa xn xc], .bool r]) (by simp [results, Tryz.results69, go_sem, z0, z1, z2, z3, z4, z5]) rfl ?_
    exact HE.out
  obtain ⟨k, hk⟩ : ∃ k : Nat, t.n - b = (k : Int) := ⟨(t.n - b).toNat, by omega⟩
  have hkn : k < n := by omega
  have hkl : k < l.length := by omega
  have w1 : wrap64 (t.n - b) = (k : Int) := by rw [wrap64]; omega
  have q2 : decide ((k : Int) < (n : Int)) = true := decide_eq_true (by omega)
  obtain ⟨bl, o, c', ya, yn, yc, ma, mn, mc, qa, qn, qc, e, hbl, f0, f1, f2, f3, f4, f5, hy0⟩ := hl.part k hkl
  injection e with e1 e2 e3
  subst e1 e3
  clear e2
  have HYA := Lib.hid (hla l[k] (List.getElem_mem hkl))
  have HW := Lib.hid (show suF l t b = Con.reb (shF b 0) l[k] 0 from (by
    unfold suF
    rw [if_pos h2, if_pos (by rw [← HN.out]; exact h3), hk, Int.toNat_natCast]
    simp [List.getD, List.getElem?_eq_getElem hkl]))
  rw [HW.out]
  generalize l[k] = y at *
  have HR0 := Lib.hid (fun (wx W : World) (g3 g4 g5 : Nat) (hx : Below w.heap.size w wx) (hW : Below wx.heap.size wx W) (hs : ShiftBoxes W g3 g4 g5 G b 0) (k1 : wx.heap.size ≤ g3) (k2 : wx.heap.size ≤ g4) (k3 : wx.heap.size ≤ g5) =>
    rebuilt_any N G _ _ (shF b 0) W (shift_change N G g3 g4 g5 b 0 W hN hs (by have := hx.size; omega) (by have := hx.size; omega) (by have := hx.size; omega) (by omega) (by omega)) hN y HYA.out L d 0 W _ (Only.refl G W) (hG.of_eq ((belowStep hW hx).block _ hgl)) (hy0.keep (Same.of_below (belowStep hW hx) (fun q (hq : q < N) => by omega))) h0 h1 (Int.le_refl _) (by omega) hd0 hd)
  have hbl2 : bl < w.heap.size ∧ bl ≠ G := ⟨by have : bl < G := hbl; omega, by have : bl < G := hbl; omega⟩
  have HYC := Lib.hid (fun (W : World) (hW : Only G w W) => (show W.cell? ⟨bl, o + k * 6, none⟩ = some (.int .i64 y.op) ∧ W.cell? ⟨bl, o + k * 6 + 1, none⟩ = some (.int .i64 y.n) ∧ W.cell? ⟨bl, o + k * 6 + 2, none⟩ = some (.string y.s) ∧ W.cell? ⟨bl, o + k * 6 + 3, none⟩ = some (.slice ya yn yc) ∧ W.cell? ⟨bl, o + k * 6 + 4, none⟩ = some (.slice ma mn mc) ∧ W.cell? ⟨bl, o + k * 6 + 5, none⟩ = some (.slice qa qn qc) from
    ⟨(cell_same (hW.heap hbl2.1 hbl2.2)).trans f0, (cell_same (hW.heap hbl2.1 hbl2.2)).trans f1, (cell_same (hW.heap hbl2.1 hbl2.2)).trans f2, (cell_same (hW.heap hbl2.1 hbl2.2)).trans f3, (cell_same (hW.heap hbl2.1 hbl2.2)).trans f4, (cell_same (hW.heap hbl2.1 hbl2.2)).trans f5⟩))
  have hgq1 : g1 ≠ w.heap.size + 1 := by have := hs.lst.lt; omega
  have hgq2 : g2 ≠ w.heap.size + 1 := by have := hs.bld.lt; omega
  clear hy0 HYA HW hl HL ht hla hlf HPRT hkv hnl hll hl0 hnn f0 f1 f2 f3 f4 f5 hbl hbl2 hn HN hkl
  have hGG := hG
  have hsz := (show ((w.alloc (.cells #[.int .i64 t.op, .int .i64 t.n, .string t.s, .slice ka kn kc, .slice na nn nc, .slice la ln lc] 28)).alloc (.cells #[.int .i64 0, .int .i64 0, .string ⟨#[]⟩, .slice none 0 0, .slice none 0 0, .slice none 0 0] 28)).heap.size = w.heap.size + 2 by simp)
  have HSZ := Lib.hid hsz
  clear hG hs hbx hbx2 hb hsz hGG h2 h3 hbn hgl
  have hwx : ((w.alloc (.cells #[.int .i64 t.op, .int .i64 t.n, .string t.s, .slice ka kn kc, .slice na nn nc, .slice la ln lc] 28)).alloc (.cells #[.int .i64 0, .int .i64 0, .string ⟨#[]⟩, .slice none 0 0, .slice none 0 0, .slice none 0 0] 28)) = ((w.alloc (.cells #[.int .i64 t.op, .int .i64 t.n, .string t.s, .slice ka kn kc, .slice na nn nc, .slice la ln lc] 28)).alloc (.cells #[.int .i64 0, .int .i64 0, .string ⟨#[]⟩, .slice none 0 0, .slice none 0 0, .slice none 0 0] 28)) := rfl
  go_enter Tryz.func69, Tryz.ntmps69
  go_wp2_with fail
  clear c0 c1 c2 c3 c4 c5 fz x1 x2 q1 q2 w1 w2 hwx
  generalize ((w.alloc (.cells #[.int .i64 t.op, .int .i64 t.n, .string t.s, .slice ka kn kc, .slice na nn nc, .slice la ln lc] 28)).alloc (.cells #[.int .i64 0, .int .i64 0, .string ⟨#[]⟩, .slice none 0 0, .slice none 0 0, .slice none 0 0] 28)) = wx at *
  have HR := Lib.hid (fun (W : World) g3 g4 g5 => HR0.out wx W g3 g4 g5 HB.out)
  have HOW := Lib.hid (only_below (N := G) HB.out)
  have HSS := Lib.hid (fun W (hW : Only G wx W) => (show Only G w W ∧ W.cell? ⟨g1, 0, none⟩ = some (.slice (some ⟨bl, o, none⟩) n lc9) ∧ W.cell? ⟨g2, 0, none⟩ = some (.pointer (some ⟨G, 0, none⟩)) ∧ W.cell? ⟨bl, o + k * 6, none⟩ = some (.int .i64 y.op) ∧ W.cell? ⟨bl, o + k * 6 + 1, none⟩ = some (.int .i64 y.n) ∧ W.cell? ⟨bl, o + k * 6 + 2, none⟩ = some (.string y.s) ∧ W.cell? ⟨bl, o + k * 6 + 3, none⟩ = some (.slice ya yn yc) ∧ W.cell? ⟨bl, o + k * 6 + 4, none⟩ = some (.slice ma mn mc) ∧ W.cell? ⟨bl, o + k * 6 + 5, none⟩ = some (.slice qa qn qc) from by
    have h := HOW.out.trans hW
    exact ⟨h, (hW.blk HSB.out.lst hgn1).cell 0 _ rfl, (hW.blk HSB.out.bld hgn2).cell 0 _ rfl, HYC.out W h⟩))
  have HST := Lib.hid (fun W (hW : Only G wx W) (x0 x1 x2 x3 x4 x5 : Value) => (show (fun W => Only G w W ∧ W.cell? ⟨g1, 0, none⟩ = some (.slice (some ⟨bl, o, none⟩) n lc9) ∧ W.cell? ⟨g2, 0, none⟩ = some (.pointer (some ⟨G, 0, none⟩)) ∧ W.cell? ⟨bl, o + k * 6, none⟩ = some (.int .i64 y.op) ∧ W.cell? ⟨bl, o + k * 6 + 1, none⟩ = some (.int .i64 y.n) ∧ W.cell? ⟨bl, o + k * 6 + 2, none⟩ = some (.string y.s) ∧ W.cell? ⟨bl, o + k * 6 + 3, none⟩ = some (.slice ya yn yc) ∧ W.cell? ⟨bl, o + k * 6 + 4, none⟩ = some (.slice ma mn mc) ∧ W.cell? ⟨bl, o + k * 6 + 5, none⟩ = some (.slice qa qn qc)) (((((((W).setCell ⟨w.heap.size + 1, 0, none⟩ x0).setCell ⟨w.heap.size + 1, 1, none⟩ x1).setCell ⟨w.heap.size + 1, 2, none⟩ x2).setCell ⟨w.heap.size + 1, 3, none⟩ x3).setCell ⟨w.heap.size + 1, 4, none⟩ x4).setCell ⟨w.heap.size + 1, 5, none⟩ x5) from by
    have h := HOW.out.trans hW
    have h5 := store6_only h (w.heap.size + 1) 0 x0 x1 x2 x3 x4 x5 (.inr (Nat.le_succ _))
    have h6 := ((hW.blk HSB.out.lst hgn1).of_eq (store6_other W (w.heap.size + 1) 0 x0 x1 x2 x3 x4 x5 g1 hgq1)).cell 0 _ rfl
    have h7 := ((hW.blk HSB.out.bld hgn2).of_eq (store6_other W (w.heap.size + 1) 0 x0 x1 x2 x3 x4 x5 g2 hgq2)).cell 0 _ rfl
    have h8 := HYC.out _ h5
    have h9 := And.intro h5 (And.intro h6 (And.intro h7 h8))
    unfold store6 at h9
    simp only [Nat.zero_add] at h9
    exact h9))
  simp only at HST
  have HD0 := Lib.hid (Only.refl G wx).drew
  have HD1 := Lib.hid (Below.refl wx.heap.size wx).drew
  have HTH := Lib.hid (fun W (hW : Only G wx W) => hW.blk HBY0.out (by have := HGL.out; omega))
  clear HR0 HYC
  go_wp2_with fail
  go_region_held3 (fun W => Only G w W ∧ W.cell? ⟨g1, 0, none⟩ = some (.slice (some ⟨bl, o, none⟩) n lc9) ∧ W.cell? ⟨g2, 0, none⟩ = some (.pointer (some ⟨G, 0, none⟩)) ∧ W.cell? ⟨bl, o + k * 6, none⟩ = some (.int .i64 y.op) ∧ W.cell? ⟨bl, o + k * 6 + 1, none⟩ = some (.int .i64 y.n) ∧ W.cell? ⟨bl, o + k * 6 + 2, none⟩ = some (.string y.s) ∧ W.cell? ⟨bl, o + k * 6 + 3, none⟩ = some (.slice ya yn yc) ∧ W.cell? ⟨bl, o + k * 6 + 4, none⟩ = some (.slice ma mn mc) ∧ W.cell? ⟨bl, o + k * 6 + 5, none⟩ = some (.slice qa qn qc))
    (first | (with_reducible exact HSS.out _ HD0.out) | (with_reducible exact HSS.out _ (by assumption)) | (with_reducible exact HST.out _ (by assumption) _ _ _ _ _ _))
    (first
    | (go_at_call 61; (with_reducible refine (shifting_any G b 0 _).mono ?_); rintro e wn ⟨⟨g3, g4, g5, rfl, hsb, l1, l2, l3⟩, hbn⟩; have hbn2 := belowStep (a := wx) hbn (by first | assumption | exact HD1.out); have hon := only_below (N := G) hbn2; have k1 := Nat.le_trans HD1.out.size l1; have k2 := Nat.le_trans HD1.out.size l2; have k3 := Nat.le_trans HD1.out.size l3)
    | (go_at_call 70; (with_reducible refine (HR.out _ _ _ _ (by assumption) (by assumption) (by assumption) (by assumption) (by assumption)).mono ?_); rintro e wr ⟨hor, yv, u, c, rfl, hy, hg3, hc0, hc1, hfit⟩; have hor2 := Only.trans hon hor; obtain ⟨ua, un, uc, va, vn, vc, xa, xn, xc, rfl, -, -, -⟩ := hy.shape; have hzr := HTH.out _ hor2; have t0 := hzr.thaw 0; have t1 := hzr.thaw 1; have t2 := hzr.thaw 2; have t3 := hzr.thaw 3; have t4 := hzr.thaw 4; have t5 := hzr.thaw 5; have r0 := hzr.cell 0 (.int .i64 0) rfl; have r1 := hzr.cell 1 (.int .i64 0) rfl; have r2 := hzr.cell 2 (.string ⟨#[]⟩) rfl; have r3 := hzr.cell 3 (.slice none 0 0) rfl; have r4 := hzr.cell 4 (.slice none 0 0) rfl; have r5 := hzr.cell 5 (.slice none 0 0) rfl))
  have hz := store6_blk hzr 0 (.int .i64 u.op) (.int .i64 u.n) (.string u.s) (.slice ua un uc) (.slice va vn vc) (.slice xa xn xc)
  rw [put6_all] at hz
  have hsz := HSZ.out
  have HE := Lib.hid (show RebP N G (Con.reb (shF b 0) y 0) L d w (.returned (.tuple #[.agg #[.int .i64 u.op, .int .i64 u.n, .string u.s, .slice ua un uc, .slice va vn vc, .slice xa xn xc], .bool (fitB (Con.reb (shF b 0) y 0) L d)])) (store6 wr (w.heap.size + 1) 0 (.int .i64 u.op) (.int .i64 u.n) (.string u.s) (.slice ua un uc) (.slice va vn vc) (.slice xa xn xc)) from by
    refine ⟨store6_only (HOW.out.trans hor2) _ _ _ _ _ _ _ _ (.inr (Nat.le_succ _)), _, u, c, rfl, ?_, hg3.of_eq (store6_other _ _ _ _ _ _ _ _ _ G (by have := HGL.out; omega)), hc0, hc1, hfit⟩
    have := hon.size
    have := HGL.out
    refine (hy.keep (fun q hq => store6_other _ _ _ _ _ _ _ _ _ q (by rcases hq with hq | hq <;> omega))).mono (fun q hq => ?_)
    rcases hq with hq | hq
    · exact .inl hq
    · exact .inr ⟨by omega, by rw [store6_size]; exact hq.2⟩)
  unfold store6 at hz HE
  simp only [Nat.zero_add] at hz HE
  have z0 := hz.cell 0 (.int .i64 u.op) rfl
  have z1 := hz.cell 1 (.int .i64 u.n) rfl
  have z2 := hz.cell 2 (.string u.s) rfl
  have z3 := hz.cell 3 (.slice ua un uc) rfl
  have z4 := hz.cell 4 (.slice va vn vc) rfl
  have z5 := hz.cell 5 (.slice xa xn xc) rfl
  clear hy hzr hz HR HSS HST HTH HBY0 HSB HB hsb hfit hsz HSZ HOW hg3
  generalize fitB (Con.reb (shF b 0) y 0) L d = r at *
  go_wp2
  refine bodyPost_ret (v := .tuple #[.agg #[.int .i64 u.op, .int .i64 u.n, .string u.s, .slice ua un uc, .slice va vn vc, .slice xa xn xc], .bool r]) (by simp [results, Tryz.results69, go_sem, z0, z1, z2, z3, z4, z5]) rfl ?_
  exact HE.out
theorem sub_change2 (N G g1 g2 : Nat) (l : List Con) (xv : Value) (w : World) (hN : N ≤ G) (hgl : G < w.heap.size) (hs : SubBoxes w g1 g2 G xv) (h1 : g1 ≠ G) (h2 : g2 ≠ G) (hl : ConSp w (· < N) (· < G) xv l) (hla : ∀ y ∈ l, Con.allB y = true) (hln : l.length ≤ 1000) :
    ChangeOk N G 69 #[.pointer (some ⟨g1, 0, none⟩), .pointer (some ⟨g2, 0, none⟩)] (suF l) w :=
  ⟨fun _ _ => by kernel_rfl, fun W t v b2 d L hW hg h0 h1' hb0 hbd hd0 hd1 hlf ha ht => subF2_any N G g1 g2 l xv t b2 d L W v hN ⟨hW.blk hs.lst h1, hW.blk hs.bld h2⟩ h1 h2 (hl.keep (Same.of_only hW (fun q (hq : q < N) => ⟨by omega, by omega⟩)) (Same.of_only hW (fun q (hq : q < G) => ⟨by omega, by omega⟩))) hla hln hg ht ha hlf h0 h1' hb0 hbd hd0 hd1⟩
set_option maxRecDepth 100000 in
set_option maxHeartbeats 4000000 in
theorem csubst_sp (N : Nat) (t : Con) (l : List Con) (w : World) (v xv : Value) (hN : N ≤ w.heap.size) (ht : ConV w (· < N) t v) (hl : ConSp w (· < N) (· < w.heap.size) xv l) :
    Calls Tryz.prog 21 #[v, xv] w (OutN N (substOut t l) w) := by
  have HV := Lib.hid (fun W (hW : Below w.heap.size w W) => cvalid_any (· < N) t W v (fun q hq => Nat.lt_of_lt_of_le hq (Nat.le_trans hN hW.size)) (ht.keep (Same.of_below hW (fun _ h => Nat.lt_of_lt_of_le h hN))))
  have HALL := Lib.hid (fun W (hW : Below w.heap.size w W) => allC_any 54 (fun _ _ => by kernel_rfl) Con.validB (· < w.heap.size) l (fun t _ W v h1 h2 => cvalid_any (· < w.heap.size) t W v h1 h2) W xv (fun q hq => Nat.lt_of_lt_of_le hq hW.size) (ConSl.keep (Same.of_below hW (fun _ h => h)) (hl.sl (fun _ h => Nat.lt_of_lt_of_le h hN) (fun _ h => h))))
  have HO := Lib.hid (substOut_eq t l)
  have HR := Lib.hid (fun (wb : World) (G g1 g2 : Nat) (hG : w.heap.size ≤ G) (hv : Con.validB t = true) (hlv : l.all Con.validB = true) (hln : l.length ≤ 1000) (hw : Below w.heap.size w wb) (hbl : Blk wb G 135 #[.int .i64 20000]) (hs : SubBoxes wb g1 g2 G xv) (h1 : g1 ≠ G) (h2 : g2 ≠ G) =>
    result_any N G _ _ (suF l) wb (sub_change2 N G g1 g2 l xv wb (Nat.le_trans hN hG) hbl.lt hs h1 h2 ((hl.keep (Same.of_below hw (fun _ h => Nat.lt_of_lt_of_le h hN)) (Same.of_below hw (fun _ h => h))).mono (fun _ h => h) (fun _ h => Nat.lt_of_lt_of_le h hG)) (fun y hy => valid_all y (List.all_eq_true.1 hlv y hy)) hln) (Nat.le_trans hN hG) t v (valid_all t hv) hbl (ht.keep (Same.of_below hw (fun _ h => Nat.lt_of_lt_of_le h hN))))
  obtain ⟨ka, kn, kc, na, nn, nc, la, ln, lc, rfl, -, -, -⟩ := ht.shape
  obtain ⟨sa, lc9, rfl, hmn, hmx, -⟩ := hl.each
  obtain ⟨n, hn⟩ : ∃ n, n = l.length := ⟨_, rfl⟩
  have HN := Lib.hid hn
  rw [← hn] at HALL HR HO hmn ⊢
  have hn63 : n ≤ 9223372036854775807 := by unfold maxLen at hmx; omega
  have hb1 := boxN_new w 28 #[.int .i64 t.op, .int .i64 t.n, .string t.s, .slice ka kn kc, .slice na nn nc, .slice la ln lc]
  have hb2 := boxN_new (w.alloc (.cells #[.int .i64 t.op, .int .i64 t.n, .string t.s, .slice ka kn kc, .slice na nn nc, .slice la ln lc] 28)) 26 #[.slice sa n lc9]
  have hb3 := boxN_new ((w.alloc (.cells #[.int .i64 t.op, .int .i64 t.n, .string t.s, .slice ka kn kc, .slice na nn nc, .slice la ln lc] 28)).alloc (.cells #[.slice sa n lc9] 26)) 28 #[.int .i64 0, .int .i64 0, .string ⟨#[]⟩, .slice none 0 0, .slice none 0 0, .slice none 0 0]
  have k1 := (hb1.1.alloc (.cells #[.slice sa n lc9] 26)).alloc (.cells #[.int .i64 0, .int .i64 0, .string ⟨#[]⟩, .slice none 0 0, .slice none 0 0, .slice none 0 0] 28)
  have k2 := hb2.1.alloc (.cells #[.int .i64 0, .int .i64 0, .string ⟨#[]⟩, .slice none 0 0, .slice none 0 0, .slice none 0 0] 28)
  have k3 := hb3.1
  have hbb := belowStep hb3.2 (belowStep hb2.2 hb1.2)
  rw [size_alloc] at k2
  rw [size_alloc, size_alloc] at k3
  have HBX := Lib.hid k1
  have HBL := Lib.hid k2
  have HZ := Lib.hid k3
  have HB := Lib.hid hbb
  have c0 := k1.cell 0 (.int .i64 t.op) rfl
  have c1 := k1.cell 1 (.int .i64 t.n) rfl
  have c2 := k1.cell 2 (.string t.s) rfl
  have c3 := k1.cell 3 (.slice ka kn kc) rfl
  have c4 := k1.cell 4 (.slice na nn nc) rfl
  have c5 := k1.cell 5 (.slice la ln lc) rfl
  clear hb1 hb2 hb3 k1 k2 k3 hbb ht hl hmx hmn hn
  go_enter Tryz.func21, Tryz.ntmps21
  go_wp2_with fail
  clear c0 c1 c2 c3 c4 c5
  generalize (((w.alloc (.cells #[.int .i64 t.op, .int .i64 t.n, .string t.s, .slice ka kn kc, .slice na nn nc, .slice la ln lc] 28)).alloc (.cells #[.slice sa n lc9] 26)).alloc (.cells #[.int .i64 0, .int .i64 0, .string ⟨#[]⟩, .slice none 0 0, .slice none 0 0, .slice none 0 0] 28)) = w1 at *
  refine (HV.out _ HB.out).mono ?_
  rintro e w2 ⟨rfl, h2⟩
  replace HB := Lib.hid (belowStep h2 HB.out)
  replace HBX := Lib.hid (HBX.out.of_eq (h2.block _ HBX.out.lt))
  replace HBL := Lib.hid (HBL.out.of_eq (h2.block _ HBL.out.lt))
  replace HZ := Lib.hid (HZ.out.of_eq (h2.block _ HZ.out.lt))
  clear h2
  cases hv : Con.validB t
  · clear HR
    have HO2 := Lib.hid (show substOut t l = (Con.none0, 1) from by rw [HO.out, if_neg (by rw [hv]; simp)])
    have hzz := HZ.out
    have hz := store6_blk hzz 0 (.int .i64 0) (.int .i64 0) (.string ⟨#[]⟩) (.slice none 0 0) (.slice none 0 0) (.slice none 0 0)
    rw [put6_all] at hz
    have HE := Lib.hid (show OutN N (substOut t l) w (.returned (.tuple #[.agg #[.int .i64 0, .int .i64 0, .string ⟨#[]⟩, .slice none 0 0, .slice none 0 0, .slice none 0 0], .int .i64 1])) (store6 w2 (w.heap.size + 1 + 1) 0 (.int .i64 0) (.int .i64 0) (.string ⟨#[]⟩) (.slice none 0 0) (.slice none 0 0) (.slice none 0 0)) from ⟨⟨_, by rw [HO2.out], by rw [HO2.out]; exact conV_none _ _⟩, store6_below HB.out _ _ _ _ _ _ _ _ (by omega)⟩)
    unfold store6 at hz HE
    simp only [Nat.zero_add] at hz HE
    have z0 := hz.cell 0 (.int .i64 0) rfl
    have z1 := hz.cell 1 (.int .i64 0) rfl
    have z2 := hz.cell 2 (.string ⟨#[]⟩) rfl
    have z3 := hz.cell 3 (.slice none 0 0) rfl
    have z4 := hz.cell 4 (.slice none 0 0) rfl
    have z5 := hz.cell 5 (.slice none 0 0) rfl
    have r0 := hzz.cell 0 (.int .i64 0) rfl
    have r1 := hzz.cell 1 (.int .i64 0) rfl
    have r2 := hzz.cell 2 (.string ⟨#[]⟩) rfl
    have r3 := hzz.cell 3 (.slice none 0 0) rfl
    have r4 := hzz.cell 4 (.slice none 0 0) rfl
    have r5 := hzz.cell 5 (.slice none 0 0) rfl
    have t0 := hzz.thaw 0
    have t1 := hzz.thaw 1
    have t2 := hzz.thaw 2
    have t3 := hzz.thaw 3
    have t4 := hzz.thaw 4
    have t5 := hzz.thaw 5
    clear hz hzz HV HALL HO HBX HZ HO2
    go_wp2
    refine bodyPost_ret (v := .tuple #[.agg #[.int .i64 0, .int .i64 0, .string ⟨#[]⟩, .slice none 0 0, .slice none 0 0, .slice none 0 0], .int .i64 1]) (by simp [results, Tryz.results21, go_sem, z0, z1, z2, z3, z4, z5]) rfl ?_
    exact HE.out
  have HVT := Lib.hid hv
  rw [hv] at HV
  clear hv
  have x0 := HBL.out.cell 0 (.slice sa n lc9) rfl
  go_wp2_with fail
  clear x0
  refine (HALL.out _ HB.out).mono ?_
  rintro e w3 ⟨rfl, h3⟩
  replace HB := Lib.hid (belowStep h3 HB.out)
  replace HBX := Lib.hid (HBX.out.of_eq (h3.block _ HBX.out.lt))
  replace HBL := Lib.hid (HBL.out.of_eq (h3.block _ HBL.out.lt))
  replace HZ := Lib.hid (HZ.out.of_eq (h3.block _ HZ.out.lt))
  clear h3
  cases hlv : l.all Con.validB
  · clear HR
    have HO2 := Lib.hid (show substOut t l = (Con.none0, 1) from by rw [HO.out, if_neg (by rw [hlv]; simp)])
    have hzz := HZ.out
    have hz := store6_blk hzz 0 (.int .i64 0) (.int .i64 0) (.string ⟨#[]⟩) (.slice none 0 0) (.slice none 0 0) (.slice none 0 0)
    rw [put6_all] at hz
    have HE := Lib.hid (show OutN N (substOut t l) w (.returned (.tuple #[.agg #[.int .i64 0, .int .i64 0, .string ⟨#[]⟩, .slice none 0 0, .slice none 0 0, .slice none 0 0], .int .i64 1])) (store6 w3 (w.heap.size + 1 + 1) 0 (.int .i64 0) (.int .i64 0) (.string ⟨#[]⟩) (.slice none 0 0) (.slice none 0 0) (.slice none 0 0)) from ⟨⟨_, by rw [HO2.out], by rw [HO2.out]; exact conV_none _ _⟩, store6_below HB.out _ _ _ _ _ _ _ _ (by omega)⟩)
    unfold store6 at hz HE
    simp only [Nat.zero_add] at hz HE
    have z0 := hz.cell 0 (.int .i64 0) rfl
    have z1 := hz.cell 1 (.int .i64 0) rfl
    have z2 := hz.cell 2 (.string ⟨#[]⟩) rfl
    have z3 := hz.cell 3 (.slice none 0 0) rfl
    have z4 := hz.cell 4 (.slice none 0 0) rfl
    have z5 := hz.cell 5 (.slice none 0 0) rfl
    have r0 := hzz.cell 0 (.int .i64 0) rfl
    have r1 := hzz.cell 1 (.int .i64 0) rfl
    have r2 := hzz.cell 2 (.string ⟨#[]⟩) rfl
    have r3 := hzz.cell 3 (.slice none 0 0) rfl
    have r4 := hzz.cell 4 (.slice none 0 0) rfl
    have r5 := hzz.cell 5 (.slice none 0 0) rfl
    have t0 := hzz.thaw 0
    have t1 := hzz.thaw 1
    have t2 := hzz.thaw 2
    have t3 := hzz.thaw 3
    have t4 := hzz.thaw 4
    have t5 := hzz.thaw 5
    clear hz hzz HV HALL HO HBX HZ HO2
    go_wp2
    refine bodyPost_ret (v := .tuple #[.agg #[.int .i64 0, .int .i64 0, .string ⟨#[]⟩, .slice none 0 0, .slice none 0 0, .slice none 0 0], .int .i64 1]) (by simp [results, Tryz.results21, go_sem, z0, z1, z2, z3, z4, z5]) rfl ?_
    exact HE.out
  have HLV := Lib.hid hlv
  rw [hlv] at HALL
  have x0 := HBL.out.cell 0 (.slice sa n lc9) rfl
  cases q1 : decide ((1000 : Int) < (n : Int))
  rotate_left
  · clear HR
    have HLN := Lib.hid (show 1000 < n from by have := of_decide_eq_true q1; omega)
    have HO2 := Lib.hid (show substOut t l = (Con.none0, 5) from by rw [HO.out, if_pos (by rw [HVT.out, HLV.out]; rfl), if_pos HLN.out])
    have hzz := HZ.out
    have hz := store6_blk hzz 0 (.int .i64 0) (.int .i64 0) (.string ⟨#[]⟩) (.slice none 0 0) (.slice none 0 0) (.slice none 0 0)
    rw [put6_all] at hz
    have HE := Lib.hid (show OutN N (substOut t l) w (.returned (.tuple #[.agg #[.int .i64 0, .int .i64 0, .string ⟨#[]⟩, .slice none 0 0, .slice none 0 0, .slice none 0 0], .int .i64 5])) (store6 w3 (w.heap.size + 1 + 1) 0 (.int .i64 0) (.int .i64 0) (.string ⟨#[]⟩) (.slice none 0 0) (.slice none 0 0) (.slice none 0 0)) from ⟨⟨_, by rw [HO2.out], by rw [HO2.out]; exact conV_none _ _⟩, store6_below HB.out _ _ _ _ _ _ _ _ (by omega)⟩)
    unfold store6 at hz HE
    simp only [Nat.zero_add] at hz HE
    have z0 := hz.cell 0 (.int .i64 0) rfl
    have z1 := hz.cell 1 (.int .i64 0) rfl
    have z2 := hz.cell 2 (.string ⟨#[]⟩) rfl
    have z3 := hz.cell 3 (.slice none 0 0) rfl
    have z4 := hz.cell 4 (.slice none 0 0) rfl
    have z5 := hz.cell 5 (.slice none 0 0) rfl
    have r0 := hzz.cell 0 (.int .i64 0) rfl
    have r1 := hzz.cell 1 (.int .i64 0) rfl
    have r2 := hzz.cell 2 (.string ⟨#[]⟩) rfl
    have r3 := hzz.cell 3 (.slice none 0 0) rfl
    have r4 := hzz.cell 4 (.slice none 0 0) rfl
    have r5 := hzz.cell 5 (.slice none 0 0) rfl
    have t0 := hzz.thaw 0
    have t1 := hzz.thaw 1
    have t2 := hzz.thaw 2
    have t3 := hzz.thaw 3
    have t4 := hzz.thaw 4
    have t5 := hzz.thaw 5
    clear hz hzz HV HALL HO HBX HZ HO2
    go_wp2
    refine bodyPost_ret (v := .tuple #[.agg #[.int .i64 0, .int .i64 0, .string ⟨#[]⟩, .slice none 0 0, .slice none 0 0, .slice none 0 0], .int .i64 5]) (by simp [results, Tryz.results21, go_sem, z0, z1, z2, z3, z4, z5]) rfl ?_
    exact HE.out
  have HLN := Lib.hid (show n ≤ 1000 from by have := of_decide_eq_false q1; omega)
  have HOUT := Lib.hid (show substOut t l = fitOut (Con.reb (suF l) t 0) from by
    rw [HO.out, if_pos (by rw [HVT.out, HLV.out]; rfl), if_neg (by have := HLN.out; omega)]
    rfl)
  clear hlv HV HO HALL
  go_wp2_with fail
  refine (newBuilder_any _).mono ?_
  rintro e wb ⟨rfl, rfl⟩
  have hnb := boxN_new w3 135 #[.int .i64 20000]
  have hnc := boxN_new (w3.alloc (.cells #[.int .i64 20000] 135)) 88 #[.pointer (some ⟨w3.heap.size, 0, none⟩)]
  have hnd := hnb.1.alloc (.cells #[.pointer (some ⟨w3.heap.size, 0, none⟩)] 88)
  have hne := hnc.1
  rw [size_alloc] at hne
  have h4 := belowStep hnc.2 hnb.2
  have HGS := Lib.hid (show w.heap.size + 1 + 1 < w3.heap.size from HZ.out.lt)
  replace HB := Lib.hid (belowStep h4 HB.out)
  replace HBX := Lib.hid (HBX.out.of_eq (h4.block _ HBX.out.lt))
  replace HBL := Lib.hid (HBL.out.of_eq (h4.block _ HBL.out.lt))
  replace HZ := Lib.hid (HZ.out.of_eq (h4.block _ HZ.out.lt))
  have hfin : ∃ u c, fitOut (Con.reb (suF l) t 0) = (u, c) := ⟨_, _, rfl⟩
  obtain ⟨u, c, hfo⟩ := hfin
  have HFO := Lib.hid (show substOut t l = (u, c) from HOUT.out.trans hfo)
  have HRR := Lib.hid ((HR.out (((w3.alloc (.cells #[.int .i64 20000] 135)).alloc (.cells #[.pointer (some ⟨w3.heap.size, 0, none⟩)] 88))) w3.heap.size (w.heap.size + 1) (w3.heap.size + 1) (by have := HGS.out; omega) HVT.out HLV.out HLN.out HB.out hnd ⟨HBL.out, hne⟩ (by have := HGS.out; omega) (by omega)).mono (R' := fun e w' => Only w3.heap.size (((w3.alloc (.cells #[.int .i64 20000] 135)).alloc (.cells #[.pointer (some ⟨w3.heap.size, 0, none⟩)] 88))) w' ∧ ∃ y, e = .returned (.tuple #[y, .int .i64 c]) ∧ ConV w' (Reg N (((w3.alloc (.cells #[.int .i64 20000] 135)).alloc (.cells #[.pointer (some ⟨w3.heap.size, 0, none⟩)] 88))).heap.size w') u y) (by
    rintro e w' ⟨h1, y, h2, h3⟩
    rw [hfo] at h2 h3
    exact ⟨h1, y, h2, h3⟩))
  have HGL := Lib.hid hnd.lt
  have c0 := HBX.out.cell 0 (.int .i64 t.op) rfl
  have c1 := HBX.out.cell 1 (.int .i64 t.n) rfl
  have c2 := HBX.out.cell 2 (.string t.s) rfl
  have c3 := HBX.out.cell 3 (.slice ka kn kc) rfl
  have c4 := HBX.out.cell 4 (.slice na nn nc) rfl
  have c5 := HBX.out.cell 5 (.slice la ln lc) rfl
  have x1 := hne.cell 0 (.pointer (some ⟨w3.heap.size, 0, none⟩)) rfl
  have x9 := hne.thaw 0
  clear hfo HOUT hnb hnc hnd hne h4 HR
  go_wp2_with fail
  clear c0 c1 c2 c3 c4 c5 x0 x1 x9 q1
  generalize (((w3.alloc (.cells #[.int .i64 20000] 135)).alloc (.cells #[.pointer (some ⟨w3.heap.size, 0, none⟩)] 88))) = wb at *
  generalize w3.heap.size = G at *
  refine HRR.out.mono ?_
  rintro e wr ⟨hor, y, rfl, hy⟩
  obtain ⟨ua, un, uc, va, vn, vc, xa, xn, xc, rfl, -, -, -⟩ := hy.shape
  have hzr := hor.blk HZ.out (by have := HGS.out; omega)
  have t0 := hzr.thaw 0
  have t1 := hzr.thaw 1
  have t2 := hzr.thaw 2
  have t3 := hzr.thaw 3
  have t4 := hzr.thaw 4
  have t5 := hzr.thaw 5
  have r0 := hzr.cell 0 (.int .i64 0) rfl
  have r1 := hzr.cell 1 (.int .i64 0) rfl
  have r2 := hzr.cell 2 (.string ⟨#[]⟩) rfl
  have r3 := hzr.cell 3 (.slice none 0 0) rfl
  have r4 := hzr.cell 4 (.slice none 0 0) rfl
  have r5 := hzr.cell 5 (.slice none 0 0) rfl
  have hz := store6_blk hzr 0 (.int .i64 u.op) (.int .i64 u.n) (.string u.s) (.slice ua un uc) (.slice va vn vc) (.slice xa xn xc)
  rw [put6_all] at hz
  have HE := Lib.hid (show OutN N (substOut t l) w (.returned (.tuple #[.agg #[.int .i64 u.op, .int .i64 u.n, .string u.s, .slice ua un uc, .slice va vn vc, .slice xa xn xc], .int .i64 c])) (store6 wr (w.heap.size + 1 + 1) 0 (.int .i64 u.op) (.int .i64 u.n) (.string u.s) (.slice ua un uc) (.slice va vn vc) (.slice xa xn xc)) from by
    rw [HFO.out]
    refine ⟨⟨_, rfl, (hy.keep (fun q hq => store6_other _ _ _ _ _ _ _ _ _ q (by
      have := HGS.out
      have := HGL.out
      rcases hq with hq | hq <;> omega))).mono (fun q hq => ?_)⟩, store6_below (HB.out.trans (hor.to (by have := HGS.out; omega) HB.out.size)) _ _ _ _ _ _ _ _ (by omega)⟩
    rcases hq with hq | hq
    · exact .inl hq
    · exact .inr ⟨by have := HGS.out; have := HGL.out; have := hq.1; omega, by rw [store6_size]; exact hq.2⟩)
  unfold store6 at hz HE
  simp only [Nat.zero_add] at hz HE
  have z0 := hz.cell 0 (.int .i64 u.op) rfl
  have z1 := hz.cell 1 (.int .i64 u.n) rfl
  have z2 := hz.cell 2 (.string u.s) rfl
  have z3 := hz.cell 3 (.slice ua un uc) rfl
  have z4 := hz.cell 4 (.slice va vn vc) rfl
  have z5 := hz.cell 5 (.slice xa xn xc) rfl
  clear hy hzr hz HRR HBX HBL HZ HB
  go_wp2
  refine bodyPost_ret (v := .tuple #[.agg #[.int .i64 u.op, .int .i64 u.n, .string u.s, .slice ua un uc, .slice va vn vc, .slice xa xn xc], .int .i64 c]) (by simp [results, Tryz.results21, go_sem, z0, z1, z2, z3, z4, z5]) rfl ?_
  exact HE.out
end Go.Proofs.YtkjaicmfegpjdaaGreat
namespace Go.Proofs.YtkjaicmfegpjdaaGreat
open Go Go.RowKit
open Pl (K Con)
set_option linter.unusedSimpArgs false
set_option linter.unusedVariables false

theorem below_st6 {B : Nat} {a w : World} (h : Below B a w) {g : Nat} (hg : B ≤ g) (o : Nat) (v : Value) : Below B a (w.setCell ⟨g, o, none⟩ v) := h.setCell (p := ⟨g, o, none⟩) hg v
theorem le19 {n m : Nat} (h : n ≤ m) : n ≤ m + 1 := Nat.le_succ_of_le h
theorem sizeB9 {a w : World} (h : Below a.heap.size a w) : a.heap.size ≤ w.heap.size := h.size
theorem carry9 {W W' : World} (h : Below W.heap.size W W') {g : Nat} {T : TypeId} {cs : Array Value} (hb : Blk W g T cs) : Blk W' g T cs := hb.of_eq (h.block _ hb.lt)
theorem blk_new19 (w : World) (o : Obj) (cs : Array Value) (t : TypeId) : Blk ((w.alloc o).alloc (.cells cs t)) (w.heap.size + 1) t cs := by
  have h := blk_new (w.alloc o) cs t
  rw [size_alloc] at h
  exact h
theorem box6A {X W : World} (h : Below (X.alloc (.cells #[.int .i64 0, .int .i64 0, .string ⟨#[]⟩, .slice none 0 0, .slice none 0 0, .slice none 0 0] 28)).heap.size (X.alloc (.cells #[.int .i64 0, .int .i64 0, .string ⟨#[]⟩, .slice none 0 0, .slice none 0 0, .slice none 0 0] 28)) W) : X.heap.size < (X.alloc (.cells #[.int .i64 0, .int .i64 0, .string ⟨#[]⟩, .slice none 0 0, .slice none 0 0, .slice none 0 0] 28)).heap.size ∧ Blk W X.heap.size 28 #[.int .i64 0, .int .i64 0, .string ⟨#[]⟩, .slice none 0 0, .slice none 0 0, .slice none 0 0] := ⟨by rw [size_alloc]; omega, carry9 h (blk_new _ _ _)⟩
theorem box6B {X W : World} (h : Below (X.alloc (.cells #[.int .i64 0, .int .i64 0, .string ⟨#[]⟩, .slice none 0 0, .slice none 0 0, .slice none 0 0] 28)).drew.heap.size (X.alloc (.cells #[.int .i64 0, .int .i64 0, .string ⟨#[]⟩, .slice none 0 0, .slice none 0 0, .slice none 0 0] 28)).drew W) : X.heap.size < (X.alloc (.cells #[.int .i64 0, .int .i64 0, .string ⟨#[]⟩, .slice none 0 0, .slice none 0 0, .slice none 0 0] 28)).drew.heap.size ∧ Blk W X.heap.size 28 #[.int .i64 0, .int .i64 0, .string ⟨#[]⟩, .slice none 0 0, .slice none 0 0, .slice none 0 0] := ⟨by show X.heap.size < (X.alloc (.cells #[.int .i64 0, .int .i64 0, .string ⟨#[]⟩, .slice none 0 0, .slice none 0 0, .slice none 0 0] 28)).heap.size; rw [size_alloc]; omega, carry9 h (blk_new _ _ _).drew⟩
theorem box6C {X W : World} {o : Obj} (h : Below ((X.alloc (.cells #[.int .i64 0, .int .i64 0, .string ⟨#[]⟩, .slice none 0 0, .slice none 0 0, .slice none 0 0] 28)).alloc o).heap.size ((X.alloc (.cells #[.int .i64 0, .int .i64 0, .string ⟨#[]⟩, .slice none 0 0, .slice none 0 0, .slice none 0 0] 28)).alloc o) W) : X.heap.size < ((X.alloc (.cells #[.int .i64 0, .int .i64 0, .string ⟨#[]⟩, .slice none 0 0, .slice none 0 0, .slice none 0 0] 28)).alloc o).heap.size ∧ Blk W X.heap.size 28 #[.int .i64 0, .int .i64 0, .string ⟨#[]⟩, .slice none 0 0, .slice none 0 0, .slice none 0 0] := ⟨by rw [size_alloc, size_alloc]; omega, carry9 h ((blk_new _ _ _).alloc _)⟩
theorem box6D {X W : World} {o : Obj} (h : Below ((X.alloc o).alloc (.cells #[.int .i64 0, .int .i64 0, .string ⟨#[]⟩, .slice none 0 0, .slice none 0 0, .slice none 0 0] 28)).heap.size ((X.alloc o).alloc (.cells #[.int .i64 0, .int .i64 0, .string ⟨#[]⟩, .slice none 0 0, .slice none 0 0, .slice none 0 0] 28)) W) : X.heap.size + 1 < ((X.alloc o).alloc (.cells #[.int .i64 0, .int .i64 0, .string ⟨#[]⟩, .slice none 0 0, .slice none 0 0, .slice none 0 0] 28)).heap.size ∧ Blk W (X.heap.size + 1) 28 #[.int .i64 0, .int .i64 0, .string ⟨#[]⟩, .slice none 0 0, .slice none 0 0, .slice none 0 0] := ⟨by rw [size_alloc, size_alloc]; omega, carry9 h (blk_new19 _ _ _ _)⟩
theorem box6E {X W : World} {o : Obj} (h : Below ((X.alloc (.cells #[.int .i64 0, .int .i64 0, .string ⟨#[]⟩, .slice none 0 0, .slice none 0 0, .slice none 0 0] 28)).alloc o).drew.heap.size ((X.alloc (.cells #[.int .i64 0, .int .i64 0, .string ⟨#[]⟩, .slice none 0 0, .slice none 0 0, .slice none 0 0] 28)).alloc o).drew W) : X.heap.size < ((X.alloc (.cells #[.int .i64 0, .int .i64 0, .string ⟨#[]⟩, .slice none 0 0, .slice none 0 0, .slice none 0 0] 28)).alloc o).drew.heap.size ∧ Blk W X.heap.size 28 #[.int .i64 0, .int .i64 0, .string ⟨#[]⟩, .slice none 0 0, .slice none 0 0, .slice none 0 0] := ⟨by show X.heap.size < ((X.alloc (.cells #[.int .i64 0, .int .i64 0, .string ⟨#[]⟩, .slice none 0 0, .slice none 0 0, .slice none 0 0] 28)).alloc o).heap.size; rw [size_alloc, size_alloc]; omega, carry9 h ((blk_new _ _ _).alloc _).drew⟩
theorem box6F {X W : World} {o : Obj} (h : Below ((X.alloc o).alloc (.cells #[.int .i64 0, .int .i64 0, .string ⟨#[]⟩, .slice none 0 0, .slice none 0 0, .slice none 0 0] 28)).drew.heap.size ((X.alloc o).alloc (.cells #[.int .i64 0, .int .i64 0, .string ⟨#[]⟩, .slice none 0 0, .slice none 0 0, .slice none 0 0] 28)).drew W) : X.heap.size + 1 < ((X.alloc o).alloc (.cells #[.int .i64 0, .int .i64 0, .string ⟨#[]⟩, .slice none 0 0, .slice none 0 0, .slice none 0 0] 28)).drew.heap.size ∧ Blk W (X.heap.size + 1) 28 #[.int .i64 0, .int .i64 0, .string ⟨#[]⟩, .slice none 0 0, .slice none 0 0, .slice none 0 0] := ⟨by show X.heap.size + 1 < ((X.alloc o).alloc (.cells #[.int .i64 0, .int .i64 0, .string ⟨#[]⟩, .slice none 0 0, .slice none 0 0, .slice none 0 0] 28)).heap.size; rw [size_alloc, size_alloc]; omega, carry9 h (blk_new19 _ _ _ _).drew⟩
/-- a constructor in a box, and a code -/
def ConBox (t : Con) (ec : Int) (w : World) (s15 s16 : Value) (W : World) : Prop := ∃ (G : Nat) (a1 : Option Addr) (a2 a3 : Nat) (b1 : Option Addr) (b2 b3 : Nat) (c1 : Option Addr) (c2 c3 : Nat), s15 = .pointer (some ⟨G, 0, none⟩) ∧ s16 = .int .i64 ec ∧ Below w.heap.size w W ∧ Blk W G 28 #[.int .i64 t.op, .int .i64 t.n, .string t.s, .slice a1 a2 a3, .slice b1 b2 b3, .slice c1 c2 c3] ∧ ConV W (· < W.heap.size) t (.agg #[.int .i64 t.op, .int .i64 t.n, .string t.s, .slice a1 a2 a3, .slice b1 b2 b3, .slice c1 c2 c3])
theorem rel6A {t : Con} {ec : Int} {w wk : World} {B0 B1 : Nat} {a1 b1 c1 : Option Addr} {a2 a3 b2 b3 c2 c3 : Nat} (hk : ConV wk (fun q => q < B0 ∨ (B1 ≤ q ∧ q < wk.heap.size)) t (.agg #[.int .i64 t.op, .int .i64 t.n, .string t.s, .slice a1 a2 a3, .slice b1 b2 b3, .slice c1 c2 c3])) (h0 : B0 ≤ wk.heap.size) (hh : Below w.heap.size w (wk.alloc (.cells #[.int .i64 t.op, .int .i64 t.n, .string t.s, .slice a1 a2 a3, .slice b1 b2 b3, .slice c1 c2 c3] 28))) :
    ConBox t ec w (.pointer (some ⟨wk.heap.size, 0, none⟩)) (.int .i64 ec) (wk.alloc (.cells #[.int .i64 t.op, .int .i64 t.n, .string t.s, .slice a1 a2 a3, .slice b1 b2 b3, .slice c1 c2 c3] 28)) := by
  have hb : Below wk.heap.size wk (wk.alloc (.cells #[.int .i64 t.op, .int .i64 t.n, .string t.s, .slice a1 a2 a3, .slice b1 b2 b3, .slice c1 c2 c3] 28)) := (Below.refl _ _).alloc (Nat.le_refl _) _
  have hlt : ∀ q, (q < B0 ∨ (B1 ≤ q ∧ q < wk.heap.size)) → q < wk.heap.size := fun q h => by
    rcases h with h | h
    · omega
    · exact h.2
  exact ⟨_, _, _, _, _, _, _, _, _, _, rfl, rfl, hh, blk_new _ _ _, (hk.keep (Same.of_below hb hlt)).mono (fun q h => Nat.lt_of_lt_of_le (hlt q h) hb.size)⟩
theorem rel6B {t : Con} {ec : Int} {w wk : World} {B0 B1 g : Nat} {z0 z1 z2 z3 z4 z5 : Value} {a1 b1 c1 : Option Addr} {a2 a3 b2 b3 c2 c3 : Nat} (hk : ConV wk (fun q => q < B0 ∨ (B1 ≤ q ∧ q < wk.heap.size)) t (.agg #[.int .i64 t.op, .int .i64 t.n, .string t.s, .slice a1 a2 a3, .slice b1 b2 b3, .slice c1 c2 c3])) (h0 : B0 ≤ wk.heap.size) (hgl : g < B1) (hg0 : B0 ≤ g) (hz : Blk wk g 28 #[z0, z1, z2, z3, z4, z5])
    (hh : Below w.heap.size w ((((((wk.setCell ⟨g, 0, none⟩ (.int .i64 t.op)).setCell ⟨g, 1, none⟩ (.int .i64 t.n)).setCell ⟨g, 2, none⟩ (.string t.s)).setCell ⟨g, 3, none⟩ (.slice a1 a2 a3)).setCell ⟨g, 4, none⟩ (.slice b1 b2 b3)).setCell ⟨g, 5, none⟩ (.slice c1 c2 c3))) :
    ConBox t ec w (.pointer (some ⟨g, 0, none⟩)) (.int .i64 ec) ((((((wk.setCell ⟨g, 0, none⟩ (.int .i64 t.op)).setCell ⟨g, 1, none⟩ (.int .i64 t.n)).setCell ⟨g, 2, none⟩ (.string t.s)).setCell ⟨g, 3, none⟩ (.slice a1 a2 a3)).setCell ⟨g, 4, none⟩ (.slice b1 b2 b3)).setCell ⟨g, 5, none⟩ (.slice c1 c2 c3)) := by
  have hb := store6_blk hz 0 (.int .i64 t.op) (.int .i64 t.n) (.string t.s) (.slice a1 a2 a3) (.slice b1 b2 b3) (.slice c1 c2 c3)
  rw [put6_all] at hb
  have hv : ConV (store6 wk g 0 (.int .i64 t.op) (.int .i64 t.n) (.string t.s) (.slice a1 a2 a3) (.slice b1 b2 b3) (.slice c1 c2 c3)) (fun q => q < wk.heap.size) t (.agg #[.int .i64 t.op, .int .i64 t.n, .string t.s, .slice a1 a2 a3, .slice b1 b2 b3, .slice c1 c2 c3]) := (hk.keep (fun q h => store6_other _ _ _ _ _ _ _ _ _ q (by rcases h with h | h <;> omega))).mono (fun q h => by rcases h with h | h <;> omega)
  have hsz := store6_size wk g 0 (.int .i64 t.op) (.int .i64 t.n) (.string t.s) (.slice a1 a2 a3) (.slice b1 b2 b3) (.slice c1 c2 c3)
  refine ⟨_, _, _, _, _, _, _, _, _, _, rfl, rfl, hh, hb, ?_⟩
  refine hv.mono (fun q h => ?_)
  have h : q < wk.heap.size := h
  have e : (store6 wk g 0 (.int .i64 t.op) (.int .i64 t.n) (.string t.s) (.slice a1 a2 a3) (.slice b1 b2 b3) (.slice c1 c2 c3)).heap.size = wk.heap.size := hsz
  rw [← e] at h
  exact h
theorem ConSl.grow {w w' : World} {v : Value} {l : List Con} (h : ConSl w (· < w.heap.size) v l) (hb : Below w.heap.size w w') : ConSl w' (· < w'.heap.size) v l := (h.below (fun _ h => h) hb).mono (fun _ h => Nat.lt_of_lt_of_le h hb.size)
theorem sub_cases (t : Con) (l : List Con) (hv : Con.validB t = true) (hl : ∀ x ∈ l, Con.validB x = true) (hn : l.length ≤ 1000) : (substOut t l = (Con.subst l t 0, 0) ∧ Con.validB (Con.subst l t 0) = true) ∨ substOut t l = (Con.none0, 6) := by
  rw [substOut_ok t l hv hl hn]
  rcases outB_cases (Con.subst l t 0) with ⟨h1, h2⟩ | ⟨-, h2⟩
  · exact .inl ⟨h2, h1⟩
  · exact .inr h2
set_option maxRecDepth 100000 in
set_option maxHeartbeats 4000000 in
theorem commute_done (t a : Con) (l : List Con) (w : World) (v x z : Value) (ht : ConV w (· < w.heap.size) t v) (hu : ConV w (· < w.heap.size) a x) (hl : ConSl w (· < w.heap.size) z l) :
    Calls Tryz.prog 6 #[v, x, z] w fun e w' => e = .returned (.bool true) ∧ Below w.heap.size w w' := by
  have HA := Lib.hid awake9
  have HCE := Lib.hid cequal_any
  have HSU := Lib.hid codeS9.subst
  have HT := Lib.hid (fun W (hW : Below w.heap.size w W) => ht.grow hW)
  have HU := Lib.hid (fun W (hW : Below w.heap.size w W) => hu.grow hW)
  have HL := Lib.hid (fun W (hW : Below w.heap.size w W) => hl.grow hW)
  have HSM := Lib.hid (fun W m x' (hl : ConSl W (· < W.heap.size) x' m) => tiny_any (· < W.heap.size) m W x' (fun _ h => h) hl)
  obtain ⟨ka, kn, kc, na, nn, nc, la, ln, lc, rfl, -, -, -⟩ := ht.shape
  obtain ⟨ka2, kn2, kc2, na2, nn2, nc2, la2, ln2, lc2, rfl, -, -, -⟩ := hu.shape
  obtain ⟨za, zc, rfl, hzn, hzm, -⟩ := hl.each
  obtain ⟨n, hn⟩ : ∃ n, n = l.length := ⟨_, rfl⟩
  have HN := Lib.hid hn
  rw [← hn] at HL hzn ⊢
  have hn63 : n ≤ 9223372036854775807 := by unfold maxLen at hzm; omega
  obtain ⟨hbx, hbx2, hb⟩ := twoN_new w 28 28 #[.int .i64 t.op, .int .i64 t.n, .string t.s, .slice ka kn kc, .slice na nn nc, .slice la ln lc] #[.int .i64 a.op, .int .i64 a.n, .string a.s, .slice ka2 kn2 kc2, .slice na2 nn2 nc2, .slice la2 ln2 lc2]
  have HB := Lib.hid hb
  have HBX := Lib.hid hbx
  have HBX2 := Lib.hid hbx2
  clear hbx hbx2 hb ht hu hl hzn hzm hn
  go_enter Tryz.func6, Tryz.ntmps6
  go_wp2_with fail
  generalize (w.alloc (.cells #[.int .i64 t.op, .int .i64 t.n, .string t.s, .slice ka kn kc, .slice na nn nc, .slice la ln lc] 28)).alloc (.cells #[.int .i64 a.op, .int .i64 a.n, .string a.s, .slice ka2 kn2 kc2, .slice na2 nn2 nc2, .slice la2 ln2 lc2] 28) = w2 at *
  refine (HA.out _).mono ?_
  rintro e w3 ⟨rfl, hb⟩
  replace HBX := Lib.hid (HBX.out.of_eq (hb.block _ HBX.out.lt))
  replace HBX2 := Lib.hid (HBX2.out.of_eq (hb.block _ HBX2.out.lt))
  replace HB := Lib.hid (belowStep hb HB.out)
  clear hb
  cases q4 : decide ((4 : Int) < (n : Int))
  rotate_left
  · go_wp2_with fail
    refine (HA.out _).mono ?_
    rintro e w6 ⟨rfl, hb6⟩
    have HB6 := Lib.hid (belowStep hb6 HB.out)
    clear hb6
    go_wp2
    go_ret
    exact ⟨rfl, HB6.out⟩
  have HN4 := Lib.hid (show n ≤ 4 from by have := of_decide_eq_false q4; omega)
  have c0 := HBX.out.cell 0 (.int .i64 t.op) rfl
  have c1 := HBX.out.cell 1 (.int .i64 t.n) rfl
  have c2 := HBX.out.cell 2 (.string t.s) rfl
  have c3 := HBX.out.cell 3 (.slice ka kn kc) rfl
  have c4 := HBX.out.cell 4 (.slice na nn nc) rfl
  have c5 := HBX.out.cell 5 (.slice la ln lc) rfl
  have d0 := HBX2.out.cell 0 (.int .i64 a.op) rfl
  have d1 := HBX2.out.cell 1 (.int .i64 a.n) rfl
  have d2 := HBX2.out.cell 2 (.string a.s) rfl
  have d3 := HBX2.out.cell 3 (.slice ka2 kn2 kc2) rfl
  have d4 := HBX2.out.cell 4 (.slice na2 nn2 nc2) rfl
  have d5 := HBX2.out.cell 5 (.slice la2 ln2 lc2) rfl
  go_wp2_with fail
  clear c0 c1 c2 c3 c4 c5 d0 d1 d2 d3 d4 d5
  obtain ⟨hbx, hb⟩ := boxN_new w3 28 #[.int .i64 t.op, .int .i64 t.n, .string t.s, .slice ka kn kc, .slice na nn nc, .slice la ln lc, .int .i64 a.op, .int .i64 a.n, .string a.s, .slice ka2 kn2 kc2, .slice na2 nn2 nc2, .slice la2 ln2 lc2]
  have HB4 := Lib.hid (belowStep hb HB.out)
  have HPAIR := Lib.hid (cons_two (P := (· < (w3.alloc (.cells #[.int .i64 t.op, .int .i64 t.n, .string t.s, .slice ka kn kc, .slice na nn nc, .slice la ln lc, .int .i64 a.op, .int .i64 a.n, .string a.s, .slice ka2 kn2 kc2, .slice na2 nn2 nc2, .slice la2 ln2 lc2] 28)).heap.size)) hbx hbx.lt (HT.out _ HB4.out) (HU.out _ HB4.out))
  replace HBX := Lib.hid (HBX.out.of_eq (hb.block _ HBX.out.lt))
  replace HBX2 := Lib.hid (HBX2.out.of_eq (hb.block _ HBX2.out.lt))
  replace HB := Lib.hid (belowStep hb HB.out)
  clear hbx hb HB4
  generalize w3.alloc (.cells #[.int .i64 t.op, .int .i64 t.n, .string t.s, .slice ka kn kc, .slice na nn nc, .slice la ln lc, .int .i64 a.op, .int .i64 a.n, .string a.s, .slice ka2 kn2 kc2, .slice na2 nn2 nc2, .slice la2 ln2 lc2] 28) = w4 at *
  refine (HSM.out _ _ _ HPAIR.out).mono ?_
  rintro e w5 ⟨⟨r, rfl, hr⟩, hb⟩
  have HR := Lib.hid hr
  replace HBX := Lib.hid (HBX.out.of_eq (hb.block _ HBX.out.lt))
  replace HBX2 := Lib.hid (HBX2.out.of_eq (hb.block _ HBX2.out.lt))
  replace HB := Lib.hid (belowStep hb HB.out)
  clear hb hr HPAIR
  cases r
  · go_wp2_with fail
    refine (HA.out _).mono ?_
    rintro e w6 ⟨rfl, hb6⟩
    have HB6 := Lib.hid (belowStep hb6 HB.out)
    clear hb6
    go_wp2
    go_ret
    exact ⟨rfl, HB6.out⟩
  have HTT := Lib.hid (HR.out rfl t (by simp))
  have HTA := Lib.hid (HR.out rfl a (by simp))
  clear HR q4
  go_wp2_with fail
  refine (HSM.out _ _ _ (HL.out _ HB.out)).mono ?_
  rintro e w7 ⟨⟨r, rfl, hr⟩, hb⟩
  have HR := Lib.hid hr
  replace HBX := Lib.hid (HBX.out.of_eq (hb.block _ HBX.out.lt))
  replace HBX2 := Lib.hid (HBX2.out.of_eq (hb.block _ HBX2.out.lt))
  replace HB := Lib.hid (belowStep hb HB.out)
  clear hb hr
  cases r
  · go_wp2_with fail
    refine (HA.out _).mono ?_
    rintro e w6 ⟨rfl, hb6⟩
    have HB6 := Lib.hid (belowStep hb6 HB.out)
    clear hb6
    go_wp2
    go_ret
    exact ⟨rfl, HB6.out⟩
  have HTL := Lib.hid (HR.out rfl)
  clear HR HSM HA
  have HTV := Lib.hid (HT.out _ HB.out)
  have HUV := Lib.hid (HU.out _ HB.out)
  have HLV := Lib.hid (HL.out _ HB.out)
  clear HT HU HL
  have c0 := HBX.out.cell 0 (.int .i64 t.op) rfl
  have c1 := HBX.out.cell 1 (.int .i64 t.n) rfl
  have c2 := HBX.out.cell 2 (.string t.s) rfl
  have c3 := HBX.out.cell 3 (.slice ka kn kc) rfl
  have c4 := HBX.out.cell 4 (.slice na nn nc) rfl
  have c5 := HBX.out.cell 5 (.slice la ln lc) rfl
  have d0 := HBX2.out.cell 0 (.int .i64 a.op) rfl
  have d1 := HBX2.out.cell 1 (.int .i64 a.n) rfl
  have d2 := HBX2.out.cell 2 (.string a.s) rfl
  have d3 := HBX2.out.cell 3 (.slice ka2 kn2 kc2) rfl
  have d4 := HBX2.out.cell 4 (.slice na2 nn2 nc2) rfl
  have d5 := HBX2.out.cell 5 (.slice la2 ln2 lc2) rfl
  go_wp2_with fail
  clear c0 c1 c2 c3 c4 c5 d0 d1 d2 d3 d4 d5
  obtain ⟨hbx, hb⟩ := boxN_new w7 28 #[.int .i64 a.op, .int .i64 a.n, .string a.s, .slice ka2 kn2 kc2, .slice na2 nn2 nc2, .slice la2 ln2 lc2]
  have HONE := Lib.hid (cons_one (P := (· < (w7.alloc (.cells #[.int .i64 a.op, .int .i64 a.n, .string a.s, .slice ka2 kn2 kc2, .slice na2 nn2 nc2, .slice la2 ln2 lc2] 28)).heap.size)) hbx hbx.lt (HUV.out.grow hb))
  replace HBX := Lib.hid (HBX.out.of_eq (hb.block _ HBX.out.lt))
  replace HBX2 := Lib.hid (HBX2.out.of_eq (hb.block _ HBX2.out.lt))
  replace HTV := Lib.hid (HTV.out.grow hb)
  replace HUV := Lib.hid (HUV.out.grow hb)
  replace HLV := Lib.hid (HLV.out.grow hb)
  replace HB := Lib.hid (belowStep hb HB.out)
  clear hbx hb
  generalize w7.alloc (.cells #[.int .i64 a.op, .int .i64 a.n, .string a.s, .slice ka2 kn2 kc2, .slice na2 nn2 nc2, .slice la2 ln2 lc2] 28) = w8 at *
  have hc := HSU.out t [a] _ _ _ HTV.out HONE.out
  obtain ⟨⟨sx, ex⟩, hzz⟩ : ∃ z : Con × Int, z = substOut t [a] := ⟨_, rfl⟩
  have HSX := Lib.hid hzz
  rw [← hzz] at hc
  clear hzz
  replace hc : Calls Tryz.prog 21 _ _ (fun e w' => (∃ y, e = .returned (.tuple #[y, .int .i64 ex]) ∧ ConV w' (· < w'.heap.size) sx y) ∧ Below _ _ w') := hc
  refine hc.mono ?_
  rintro e w11 ⟨⟨y, rfl, hy⟩, hb⟩
  obtain ⟨xka, xkn, xkc, xna, xnn, xnc, xla, xln, xlc, rfl, -, -, -⟩ := hy.shape
  replace HBX := Lib.hid (HBX.out.of_eq (hb.block _ HBX.out.lt))
  replace HBX2 := Lib.hid (HBX2.out.of_eq (hb.block _ HBX2.out.lt))
  replace HTV := Lib.hid (HTV.out.grow hb)
  replace HUV := Lib.hid (HUV.out.grow hb)
  replace HLV := Lib.hid (HLV.out.grow hb)
  replace HB := Lib.hid (belowStep hb HB.out)
  have HXV := Lib.hid hy
  clear hb hy
  obtain ⟨hbx, hb⟩ := boxN_new w11 28 #[.int .i64 sx.op, .int .i64 sx.n, .string sx.s, .slice xka xkn xkc, .slice xna xnn xnc, .slice xla xln xlc]
  replace HBX := Lib.hid (HBX.out.of_eq (hb.block _ HBX.out.lt))
  replace HBX2 := Lib.hid (HBX2.out.of_eq (hb.block _ HBX2.out.lt))
  replace HTV := Lib.hid (HTV.out.grow hb)
  replace HUV := Lib.hid (HUV.out.grow hb)
  replace HLV := Lib.hid (HLV.out.grow hb)
  replace HXV := Lib.hid (HXV.out.grow hb)
  replace HB := Lib.hid (belowStep hb HB.out)
  have HBSX := Lib.hid hbx
  clear hbx hb
  have c0 := HBX2.out.cell 0 (.int .i64 a.op) rfl
  have c1 := HBX2.out.cell 1 (.int .i64 a.n) rfl
  have c2 := HBX2.out.cell 2 (.string a.s) rfl
  have c3 := HBX2.out.cell 3 (.slice ka2 kn2 kc2) rfl
  have c4 := HBX2.out.cell 4 (.slice na2 nn2 nc2) rfl
  have c5 := HBX2.out.cell 5 (.slice la2 ln2 lc2) rfl
  clear HONE
  go_wp2_with fail
  generalize w11.alloc (.cells #[.int .i64 sx.op, .int .i64 sx.n, .string sx.s, .slice xka xkn xkc, .slice xna xnn xnc, .slice xla xln xlc] 28) = v11 at *
  clear c0 c1 c2 c3 c4 c5
  have hc := HSU.out a l _ _ _ HUV.out HLV.out
  obtain ⟨⟨sy, ey⟩, hzz⟩ : ∃ z : Con × Int, z = substOut a l := ⟨_, rfl⟩
  have HSY := Lib.hid hzz
  rw [← hzz] at hc
  clear hzz
  replace hc : Calls Tryz.prog 21 _ _ (fun e w' => (∃ y, e = .returned (.tuple #[y, .int .i64 ey]) ∧ ConV w' (· < w'.heap.size) sy y) ∧ Below _ _ w') := hc
  refine hc.mono ?_
  rintro e w12 ⟨⟨y, rfl, hy⟩, hb⟩
  obtain ⟨yka, ykn, ykc, yna, ynn, ync, yla, yln, ylc, rfl, -, -, -⟩ := hy.shape
  replace HBX := Lib.hid (HBX.out.of_eq (hb.block _ HBX.out.lt))
  replace HBX2 := Lib.hid (HBX2.out.of_eq (hb.block _ HBX2.out.lt))
  replace HBSX := Lib.hid (HBSX.out.of_eq (hb.block _ HBSX.out.lt))
  replace HTV := Lib.hid (HTV.out.grow hb)
  replace HUV := Lib.hid (HUV.out.grow hb)
  replace HLV := Lib.hid (HLV.out.grow hb)
  replace HXV := Lib.hid (HXV.out.grow hb)
  replace HB := Lib.hid (belowStep hb HB.out)
  have HYV := Lib.hid hy
  clear hb hy
  obtain ⟨hbx, hb⟩ := boxN_new w12 28 #[.int .i64 sy.op, .int .i64 sy.n, .string sy.s, .slice yka ykn ykc, .slice yna ynn ync, .slice yla yln ylc]
  replace HBX := Lib.hid (HBX.out.of_eq (hb.block _ HBX.out.lt))
  replace HBX2 := Lib.hid (HBX2.out.of_eq (hb.block _ HBX2.out.lt))
  replace HBSX := Lib.hid (HBSX.out.of_eq (hb.block _ HBSX.out.lt))
  replace HTV := Lib.hid (HTV.out.grow hb)
  replace HUV := Lib.hid (HUV.out.grow hb)
  replace HLV := Lib.hid (HLV.out.grow hb)
  replace HXV := Lib.hid (HXV.out.grow hb)
  replace HYV := Lib.hid (HYV.out.grow hb)
  replace HB := Lib.hid (belowStep hb HB.out)
  have HBSY := Lib.hid hbx
  clear hbx hb
  have c0 := HBX.out.cell 0 (.int .i64 t.op) rfl
  have c1 := HBX.out.cell 1 (.int .i64 t.n) rfl
  have c2 := HBX.out.cell 2 (.string t.s) rfl
  have c3 := HBX.out.cell 3 (.slice ka kn kc) rfl
  have c4 := HBX.out.cell 4 (.slice na nn nc) rfl
  have c5 := HBX.out.cell 5 (.slice la ln lc) rfl
  go_wp2_with fail
  generalize w12.alloc (.cells #[.int .i64 sy.op, .int .i64 sy.n, .string sy.s, .slice yka ykn ykc, .slice yna ynn ync, .slice yla yln ylc] 28) = v12 at *
  clear c0 c1 c2 c3 c4 c5
  refine (rbound_any t _ _ HTV.out).mono ?_
  rintro e wl ⟨⟨gl, rfl, hm⟩, hb⟩
  replace HBX := Lib.hid (HBX.out.of_eq (hb.block _ HBX.out.lt))
  replace HBX2 := Lib.hid (HBX2.out.of_eq (hb.block _ HBX2.out.lt))
  replace HBSX := Lib.hid (HBSX.out.of_eq (hb.block _ HBSX.out.lt))
  replace HBSY := Lib.hid (HBSY.out.of_eq (hb.block _ HBSY.out.lt))
  replace HTV := Lib.hid (HTV.out.grow hb)
  replace HUV := Lib.hid (HUV.out.grow hb)
  replace HLV := Lib.hid (HLV.out.grow hb)
  replace HXV := Lib.hid (HXV.out.grow hb)
  replace HYV := Lib.hid (HYV.out.grow hb)
  replace HB := Lib.hid (belowStep hb HB.out)
  clear hb
  have hm : ConV wl (· < wl.heap.size) (lam t) _ := hm
  go_wp2_with fail
  have hc := HSU.out (lam t) l _ _ _ hm HLV.out
  obtain ⟨⟨sb, eb⟩, hzz⟩ : ∃ z : Con × Int, z = substOut (lam t) l := ⟨_, rfl⟩
  have HSB := Lib.hid hzz
  rw [← hzz] at hc
  clear hzz
  replace hc : Calls Tryz.prog 21 _ _ (fun e w' => (∃ y, e = .returned (.tuple #[y, .int .i64 eb]) ∧ ConV w' (· < w'.heap.size) sb y) ∧ Below _ _ w') := hc
  clear hm
  refine hc.mono ?_
  rintro e w13 ⟨⟨y, rfl, hy⟩, hb⟩
  obtain ⟨pka, pkn, pkc, pna, pnn, pnc, pla, pln, plc, rfl, -, -, -⟩ := hy.shape
  replace HBX := Lib.hid (HBX.out.of_eq (hb.block _ HBX.out.lt))
  replace HBX2 := Lib.hid (HBX2.out.of_eq (hb.block _ HBX2.out.lt))
  replace HBSX := Lib.hid (HBSX.out.of_eq (hb.block _ HBSX.out.lt))
  replace HBSY := Lib.hid (HBSY.out.of_eq (hb.block _ HBSY.out.lt))
  replace HTV := Lib.hid (HTV.out.grow hb)
  replace HUV := Lib.hid (HUV.out.grow hb)
  replace HLV := Lib.hid (HLV.out.grow hb)
  replace HXV := Lib.hid (HXV.out.grow hb)
  replace HYV := Lib.hid (HYV.out.grow hb)
  replace HB := Lib.hid (belowStep hb HB.out)
  have HBV := Lib.hid hy
  clear hb hy
  obtain ⟨hbx, hb⟩ := boxN_new w13 28 #[.int .i64 sb.op, .int .i64 sb.n, .string sb.s, .slice pka pkn pkc, .slice pna pnn pnc, .slice pla pln plc]
  replace HBX := Lib.hid (HBX.out.of_eq (hb.block _ HBX.out.lt))
  replace HBX2 := Lib.hid (HBX2.out.of_eq (hb.block _ HBX2.out.lt))
  replace HBSX := Lib.hid (HBSX.out.of_eq (hb.block _ HBSX.out.lt))
  replace HBSY := Lib.hid (HBSY.out.of_eq (hb.block _ HBSY.out.lt))
  replace HTV := Lib.hid (HTV.out.grow hb)
  replace HUV := Lib.hid (HUV.out.grow hb)
  replace HLV := Lib.hid (HLV.out.grow hb)
  replace HXV := Lib.hid (HXV.out.grow hb)
  replace HYV := Lib.hid (HYV.out.grow hb)
  replace HBV := Lib.hid (HBV.out.grow hb)
  replace HB := Lib.hid (belowStep hb HB.out)
  have HBSB := Lib.hid hbx
  clear hbx hb
  have hX := sub_cases t [a] HTT.out.2 (fun x hx => by rw [List.mem_singleton.1 hx]; exact HTA.out.2) (by simp)
  rw [← HSX.out] at hX
  have hY := sub_cases a l HTA.out.2 (fun x hx => (HTL.out x hx).2) (by rw [← HN.out]; have := HN4.out; omega)
  rw [← HSY.out] at hY
  have hB := sub_cases (lam t) l (lam_valid t HTT.out) (fun x hx => (HTL.out x hx).2) (by rw [← HN.out]; have := HN4.out; omega)
  rw [← HSB.out] at hB
  simp only [Prod.mk.injEq] at hX hY hB
  clear HSX HSY HSB
  obtain ⟨g1, hg1⟩ : ∃ g, g = w13.heap.size := ⟨_, rfl⟩
  have hHS := HB.out.size
  rcases hX with ⟨⟨hX1, rfl⟩, hX2⟩ | ⟨-, rfl⟩
  rotate_left
  · clear HTV HUV HLV HXV HYV HBV hg1
    rcases hY with ⟨⟨-, rfl⟩, -⟩ | ⟨-, rfl⟩ <;> rcases hB with ⟨⟨-, rfl⟩, -⟩ | ⟨-, rfl⟩ <;> (go_wp2_with fail; go_ret; exact ⟨rfl, HB.out⟩)
  rcases hY with ⟨⟨hY1, rfl⟩, hY2⟩ | ⟨-, rfl⟩
  rotate_left
  · clear HTV HUV HLV HXV HYV HBV hg1 hX1 hX2
    rcases hB with ⟨⟨-, rfl⟩, -⟩ | ⟨-, rfl⟩ <;> (go_wp2_with fail; go_ret; exact ⟨rfl, HB.out⟩)
  rcases hB with ⟨⟨hB1, rfl⟩, hB2⟩ | ⟨-, rfl⟩
  rotate_left
  · clear HTV HUV HLV HXV HYV HBV hg1 hX1 hX2 hY1 hY2
    (go_wp2_with fail; go_ret; exact ⟨rfl, HB.out⟩)
  clear hg1 hHS
  obtain ⟨u, hu⟩ : ∃ u, u = Con.subst l t 1 := ⟨_, rfl⟩
  have hB3 : sb = lam u := by rw [hB1, subst_lam, hu]
  have HSX := Lib.hid hX1
  have HSY := Lib.hid hY1
  have HU2 := Lib.hid hu
  have HCO := Lib.hid (show substOut sx l = substOut u [sy] from by
    rw [hX1, hY1, hu]
    exact commute_out t a l hX2 hY2 (by rw [← subst_lam]; exact hB2) (fun x hx => (HTL.out x hx).2) (by rw [← HN.out]; have := HN4.out; omega))
  have HEC := Lib.hid (show (substOut sx l).2 = 0 ∨ (substOut sx l).2 = 6 from by
    rw [hX1]
    rcases sub_cases _ l hX2 (fun x hx => (HTL.out x hx).2) (by rw [← HN.out]; have := HN4.out; omega) with ⟨h, -⟩ | h
    · rw [h]; exact .inl rfl
    · rw [h]; exact .inr rfl)
  subst hB3
  clear hX1 hX2 hY1 hY2 hB1 hB2 hu
  obtain ⟨-, kv9, nv9, lv9, e9, -, -, hls⟩ := (conV_iff _ _ _ _).1 HBV.out
  simp only [Value.agg.injEq, Array.mk.injEq, List.cons.injEq, and_true, true_and] at e9
  obtain ⟨-, -, rfl⟩ := e9
  obtain ⟨bb, ob, cc, qka, qkn, qkc, qna, qnn, qnc, qla, qln, qlc, e9, hP9, f0, f1, f2, f3, f4, f5, hu9⟩ := hls.part 0 (by simp [lam])
  injection e9 with e91 e92 e93
  subst e91 e93
  replace e92 : pln = 1 := e92
  subst e92
  rw [Nat.zero_mul, Nat.add_zero] at f0 f1 f2 f3 f4 f5
  have HF9 := Lib.hid (And.intro hP9 (And.intro f0 (And.intro f1 (And.intro f2 (And.intro f3 (And.intro f4 f5))))))
  have HU9 := Lib.hid hu9
  clear hP9 f0 f1 f2 f3 f4 f5 hu9 hls
  have c5 := HBSB.out.cell 5 (.slice (some ⟨bb, ob, none⟩) 1 plc) rfl
  have d0 := HBSX.out.cell 0 (.int .i64 sx.op) rfl
  have d1 := HBSX.out.cell 1 (.int .i64 sx.n) rfl
  have d2 := HBSX.out.cell 2 (.string sx.s) rfl
  have d3 := HBSX.out.cell 3 (.slice xka xkn xkc) rfl
  have d4 := HBSX.out.cell 4 (.slice xna xnn xnc) rfl
  have d5 := HBSX.out.cell 5 (.slice xla xln xlc) rfl
  go_wp2_with fail
  clear c5
  clear d0 d1 d2 d3 d4 d5
  generalize w13.alloc (.cells #[.int .i64 (lam u).op, .int .i64 (lam u).n, .string (lam u).s, .slice pka pkn pkc, .slice pna pnn pnc, .slice (some ⟨bb, ob, none⟩) 1 plc] 28) = v13 at *
  have hc := HSU.out sx l _ _ _ HXV.out HLV.out
  obtain ⟨⟨s1, e1⟩, hzz⟩ : ∃ z : Con × Int, z = substOut sx l := ⟨_, rfl⟩
  have HS1 := Lib.hid hzz
  rw [← hzz] at hc
  clear hzz
  replace hc : Calls Tryz.prog 21 _ _ (fun e w' => (∃ y, e = .returned (.tuple #[y, .int .i64 e1]) ∧ ConV w' (· < w'.heap.size) s1 y) ∧ Below _ _ w') := hc
  refine hc.mono ?_
  rintro e w14 ⟨⟨y, rfl, hy⟩, hb⟩
  obtain ⟨rka, rkn, rkc, rna, rnn, rnc, rla, rln, rlc, rfl, -, -, -⟩ := hy.shape
  replace HBX := Lib.hid (HBX.out.of_eq (hb.block _ HBX.out.lt))
  replace HBX2 := Lib.hid (HBX2.out.of_eq (hb.block _ HBX2.out.lt))
  replace HBSX := Lib.hid (HBSX.out.of_eq (hb.block _ HBSX.out.lt))
  replace HBSY := Lib.hid (HBSY.out.of_eq (hb.block _ HBSY.out.lt))
  replace HBSB := Lib.hid (HBSB.out.of_eq (hb.block _ HBSB.out.lt))
  replace HTV := Lib.hid (HTV.out.grow hb)
  replace HUV := Lib.hid (HUV.out.grow hb)
  replace HLV := Lib.hid (HLV.out.grow hb)
  replace HXV := Lib.hid (HXV.out.grow hb)
  replace HYV := Lib.hid (HYV.out.grow hb)
  replace HBV := Lib.hid (HBV.out.grow hb)
  replace HB := Lib.hid (belowStep hb HB.out)
  have HRV := Lib.hid hy
  clear hb hy
  obtain ⟨hbx, hb⟩ := boxN_new w14 28 #[.int .i64 s1.op, .int .i64 s1.n, .string s1.s, .slice rka rkn rkc, .slice rna rnn rnc, .slice rla rln rlc]
  replace HBX := Lib.hid (HBX.out.of_eq (hb.block _ HBX.out.lt))
  replace HBX2 := Lib.hid (HBX2.out.of_eq (hb.block _ HBX2.out.lt))
  replace HBSX := Lib.hid (HBSX.out.of_eq (hb.block _ HBSX.out.lt))
  replace HBSY := Lib.hid (HBSY.out.of_eq (hb.block _ HBSY.out.lt))
  replace HBSB := Lib.hid (HBSB.out.of_eq (hb.block _ HBSB.out.lt))
  replace HTV := Lib.hid (HTV.out.grow hb)
  replace HUV := Lib.hid (HUV.out.grow hb)
  replace HLV := Lib.hid (HLV.out.grow hb)
  replace HXV := Lib.hid (HXV.out.grow hb)
  replace HYV := Lib.hid (HYV.out.grow hb)
  replace HBV := Lib.hid (HBV.out.grow hb)
  replace HRV := Lib.hid (HRV.out.grow hb)
  replace HB := Lib.hid (belowStep hb HB.out)
  have HBS1 := Lib.hid hbx
  clear hbx hb
  go_wp2_with fail
  generalize w14.alloc (.cells #[.int .i64 s1.op, .int .i64 s1.n, .string s1.s, .slice rka rkn rkc, .slice rna rnn rnc, .slice rla rln rlc] 28) = v14 at *
  obtain ⟨b9, o9, c9, tka, tkn, tkc, tna, tnn, tnc, tla, tln, tlc, e9, hP9, f0, f1, f2, f3, f4, f5, hu9⟩ := (con_list HBV.out).part 0 (by simp [lam])
  injection e9 with e91 e92 e93
  injection e91 with e91
  injection e91 with e91 e94
  subst e91 e94
  clear e92 e93
  rw [Nat.zero_mul, Nat.add_zero] at f0 f1 f2 f3 f4 f5
  have HCO2 := Lib.hid (show substOut u [sy] = (s1, e1) from by rw [HS1.out, HCO.out])
  have HEC2 := Lib.hid (show e1 = 0 ∨ e1 = 6 from by have h := HEC.out; rw [← HS1.out] at h; exact h)
  clear HS1 HCO HEC
  have HSB := Lib.hid (fun W b (hW : Below v14.heap.size v14 W) (hb : Blk W b 28 #[.int .i64 sy.op, .int .i64 sy.n, .string sy.s, .slice yka ykn ykc, .slice yna ynn ync, .slice yla yln ylc]) => (show Calls Tryz.prog 21 #[.agg #[.int .i64 u.op, .int .i64 u.n, .string u.s, .slice tka tkn tkc, .slice tna tnn tnc, .slice tla tln tlc], .slice (some ⟨b, 0, none⟩) 1 1] W (fun e w' => (∃ y, e = .returned (.tuple #[y, .int .i64 e1]) ∧ ConV w' (fun q => q < v14.heap.size ∨ (W.heap.size ≤ q ∧ q < w'.heap.size)) s1 y) ∧ Below W.heap.size W w') from by
    have h := csubst_sp v14.heap.size u [sy] W _ _ hW.size (ConV.keep (Same.of_below hW (fun _ h => h)) hu9) (cons_one_sp (P := (· < v14.heap.size)) hb hb.lt (HYV.out.keep (Same.of_below hW (fun _ h => h))))
    rw [HCO2.out] at h
    exact h))
  have HU9 := Lib.hid (fun W (hW : Below v14.heap.size v14 W) => (show W.cell? ⟨bb, ob, none⟩ = some (.int .i64 u.op) ∧ W.cell? ⟨bb, ob + 1, none⟩ = some (.int .i64 u.n) ∧ W.cell? ⟨bb, ob + 2, none⟩ = some (.string u.s) ∧ W.cell? ⟨bb, ob + 3, none⟩ = some (.slice tka tkn tkc) ∧ W.cell? ⟨bb, ob + 4, none⟩ = some (.slice tna tnn tnc) ∧ W.cell? ⟨bb, ob + 5, none⟩ = some (.slice tla tln tlc) from by
    have e := hW.block bb hP9
    exact ⟨(cell_same e).trans f0, (cell_same e).trans f1, (cell_same e).trans f2, (cell_same e).trans f3, (cell_same e).trans f4, (cell_same e).trans f5⟩))
  clear f0 f1 f2 f3 f4 f5 hu9 hP9 HF9
  have HSS := Lib.hid (fun W (hW : Below v14.heap.size v14 W) => (show Below v14.heap.size v14 W ∧ W.cell? ⟨w12.heap.size, 0, none⟩ = some (.int .i64 sy.op) ∧ W.cell? ⟨w12.heap.size, 1, none⟩ = some (.int .i64 sy.n) ∧ W.cell? ⟨w12.heap.size, 2, none⟩ = some (.string sy.s) ∧ W.cell? ⟨w12.heap.size, 3, none⟩ = some (.slice yka ykn ykc) ∧ W.cell? ⟨w12.heap.size, 4, none⟩ = some (.slice yna ynn ync) ∧ W.cell? ⟨w12.heap.size, 5, none⟩ = some (.slice yla yln ylc) ∧ W.cell? ⟨w13.heap.size, 5, none⟩ = some (.slice (some ⟨bb, ob, none⟩) 1 plc) ∧ W.cell? ⟨bb, ob, none⟩ = some (.int .i64 u.op) ∧ W.cell? ⟨bb, ob + 1, none⟩ = some (.int .i64 u.n) ∧ W.cell? ⟨bb, ob + 2, none⟩ = some (.string u.s) ∧ W.cell? ⟨bb, ob + 3, none⟩ = some (.slice tka tkn tkc) ∧ W.cell? ⟨bb, ob + 4, none⟩ = some (.slice tna tnn tnc) ∧ W.cell? ⟨bb, ob + 5, none⟩ = some (.slice tla tln tlc) from ⟨hW, (HBSY.out.of_eq (hW.block _ HBSY.out.lt)).cell 0 _ rfl, (HBSY.out.of_eq (hW.block _ HBSY.out.lt)).cell 1 _ rfl, (HBSY.out.of_eq (hW.block _ HBSY.out.lt)).cell 2 _ rfl, (HBSY.out.of_eq (hW.block _ HBSY.out.lt)).cell 3 _ rfl, (HBSY.out.of_eq (hW.block _ HBSY.out.lt)).cell 4 _ rfl, (HBSY.out.of_eq (hW.block _ HBSY.out.lt)).cell 5 _ rfl, (HBSB.out.of_eq (hW.block _ HBSB.out.lt)).cell 5 _ rfl, HU9.out W hW⟩))
  have HD0 := Lib.hid (Below.refl v14.heap.size v14).drew
  go_cut [15, 16] from 100 to 109 (fun s15 s16 W => ConBox s1 e1 v14 s15 s16 W)
  case first =>
    have c0 := HBSY.out.cell 0 (.int .i64 sy.op) rfl
    have c1 := HBSY.out.cell 1 (.int .i64 sy.n) rfl
    have c2 := HBSY.out.cell 2 (.string sy.s) rfl
    have c3 := HBSY.out.cell 3 (.slice yka ykn ykc) rfl
    have c4 := HBSY.out.cell 4 (.slice yna ynn ync) rfl
    have c5 := HBSY.out.cell 5 (.slice yla yln ylc) rfl
    have d5 := HBSB.out.cell 5 (.slice (some ⟨bb, ob, none⟩) 1 plc) rfl
    go_region_held3 (fun W => Below v14.heap.size v14 W ∧ W.cell? ⟨w12.heap.size, 0, none⟩ = some (.int .i64 sy.op) ∧ W.cell? ⟨w12.heap.size, 1, none⟩ = some (.int .i64 sy.n) ∧ W.cell? ⟨w12.heap.size, 2, none⟩ = some (.string sy.s) ∧ W.cell? ⟨w12.heap.size, 3, none⟩ = some (.slice yka ykn ykc) ∧ W.cell? ⟨w12.heap.size, 4, none⟩ = some (.slice yna ynn ync) ∧ W.cell? ⟨w12.heap.size, 5, none⟩ = some (.slice yla yln ylc) ∧ W.cell? ⟨w13.heap.size, 5, none⟩ = some (.slice (some ⟨bb, ob, none⟩) 1 plc) ∧ W.cell? ⟨bb, ob, none⟩ = some (.int .i64 u.op) ∧ W.cell? ⟨bb, ob + 1, none⟩ = some (.int .i64 u.n) ∧ W.cell? ⟨bb, ob + 2, none⟩ = some (.string u.s) ∧ W.cell? ⟨bb, ob + 3, none⟩ = some (.slice tka tkn tkc) ∧ W.cell? ⟨bb, ob + 4, none⟩ = some (.slice tna tnn tnc) ∧ W.cell? ⟨bb, ob + 5, none⟩ = some (.slice tla tln tlc))
      (with_reducible exact HSS.out _ (by with_reducible (repeat (first | exact Below.refl _ _ | exact HD0.out | refine Below.drew ?_ | refine below_new ?_ | refine belowStep (by assumption) ?_ | refine below_st6 ?_ ?_ _ _ | exact Nat.le_refl _ | refine le19 ?_ | refine sizeB9 ?_))))
      (first
      | (go_at_call 21; (with_reducible refine Calls.mono (HSB.out _ _ ?_ ?_) ?_); (focus with_reducible (repeat (first | exact Below.refl _ _ | exact HD0.out | refine Below.drew ?_ | refine below_new ?_ | refine belowStep (by assumption) ?_ | refine below_st6 ?_ ?_ _ _ | exact Nat.le_refl _ | refine le19 ?_ | refine sizeB9 ?_))); (focus with_reducible (repeat (first | exact blk_new _ _ _ | exact blk_new19 _ _ _ _ | refine Blk.drew ?_ | refine Blk.alloc ?_ _))); rintro e wk ⟨⟨yv, rfl, hk⟩, hbk⟩; (first | (have hzq := box6C hbk; obtain ⟨hgl, hz⟩ := hzq) | (have hzq := box6D hbk; obtain ⟨hgl, hz⟩ := hzq) | (have hzq := box6E hbk; obtain ⟨hgl, hz⟩ := hzq) | (have hzq := box6F hbk; obtain ⟨hgl, hz⟩ := hzq) | (have hzq := box6A hbk; obtain ⟨hgl, hz⟩ := hzq) | (have hzq := box6B hbk; obtain ⟨hgl, hz⟩ := hzq) | skip); obtain ⟨ua, un, uk, va, vn, vk, xa2, xn2, xk2, hyv, -, -, -⟩ := hk.shape; subst hyv; (try have z0 := hz.cell 0 _ rfl); (try have z1 := hz.cell 1 _ rfl); (try have z2 := hz.cell 2 _ rfl); (try have z3 := hz.cell 3 _ rfl); (try have z4 := hz.cell 4 _ rfl); (try have z5 := hz.cell 5 _ rfl); (try have t0 := hz.thaw 0); (try have t1 := hz.thaw 1); (try have t2 := hz.thaw 2); (try have t3 := hz.thaw 3); (try have t4 := hz.thaw 4); (try have t5 := hz.thaw 5))
      | fail)
    all_goals (go_wp2; go_meet)
    all_goals (rename_i hHeld; have hh := hHeld.1; clear hHeld)
    all_goals first | (with_reducible refine rel6B hk ?_ hgl ?_ hz hh <;> (with_reducible (repeat (first | exact Below.refl _ _ | exact HD0.out | refine Below.drew ?_ | refine below_new ?_ | refine belowStep (by assumption) ?_ | refine below_st6 ?_ ?_ _ _ | exact Nat.le_refl _ | refine le19 ?_ | refine sizeB9 ?_)))) | (with_reducible refine rel6A hk ?_ hh; with_reducible (repeat (first | exact Below.refl _ _ | exact HD0.out | refine Below.drew ?_ | refine below_new ?_ | refine belowStep (by assumption) ?_ | refine below_st6 ?_ ?_ _ _ | exact Nat.le_refl _ | refine le19 ?_ | refine sizeB9 ?_))) | fail
  case rest =>
    obtain ⟨G5, qa1, qa2, qa3, qb1, qb2, qb3, qc1, qc2, qc3, rfl, rfl, hb5, h5, hv5⟩ := hcut
    clear HSS HSB HD0
    have hb1 := HBS1.out.of_eq (hb5.block _ HBS1.out.lt)
    have HQ := Lib.hid (cequal_any s1 _ _ s1 _ _ _ (fun _ h => h) (fun _ h => h) (HRV.out.grow hb5) hv5)
    rw [sameB_self] at HQ
    replace HB := Lib.hid (belowStep hb5 HB.out)
    have c0 := hb1.cell 0 (.int .i64 s1.op) rfl
    have c1 := hb1.cell 1 (.int .i64 s1.n) rfl
    have c2 := hb1.cell 2 (.string s1.s) rfl
    have c3 := hb1.cell 3 (.slice rka rkn rkc) rfl
    have c4 := hb1.cell 4 (.slice rna rnn rnc) rfl
    have c5 := hb1.cell 5 (.slice rla rln rlc) rfl
    have d0 := h5.cell 0 (.int .i64 s1.op) rfl
    have d1 := h5.cell 1 (.int .i64 s1.n) rfl
    have d2 := h5.cell 2 (.string s1.s) rfl
    have d3 := h5.cell 3 (.slice qa1 qa2 qa3) rfl
    have d4 := h5.cell 4 (.slice qb1 qb2 qb3) rfl
    have d5 := h5.cell 5 (.slice qc1 qc2 qc3) rfl
    have q9 : (e1 == e1) = true := by simp
    clear hb5 h5 hv5 hb1 HBV HYV HXV HRV HLV HUV HTV HSU HCE
    rcases HEC2.out with h0 | h0
    · have q8 : (e1 == 0) = true := by rw [h0]; rfl
      clear h0
      go_wp2_with fail
      refine HQ.out.mono ?_
      rintro e wx ⟨rfl, hbx⟩
      have HBE := Lib.hid (belowStep hbx HB.out)
      clear hbx
      go_wp2
      go_ret
      exact ⟨rfl, HBE.out⟩
    · have q8 : (e1 == 0) = false := by rw [h0]; rfl
      have q7 : (e1 == 6) = true := by rw [h0]; rfl
      clear h0
      go_wp2
      go_ret
      exact ⟨rfl, HB.out⟩
end Go.Proofs.YtkjaicmfegpjdaaGreat
