/-
  Several texts in one (Uaa).
-/
import Derived.Test.YtpkgiemdnfbopaaGreatMKg
import Derived.Test.YtpkgiemdnfbopaaGreatMKe
namespace Go.Proofs.YtpkgiemdnfbopaaGreat
open Go Go.RowKit
open Pl (K Con KR KS kof kofs ownK inK appK)
set_option linter.unusedSimpArgs false
set_option linter.unusedVariables false

theorem belowStep2 {B : Nat} {a b c : World} (h2 : Below b.heap.size b c) (h1 : Below B a b) (hB : B ≤ b.heap.size) : Below B a c := h1.trans (h2.mono hB)
/-- the names and the scope that the loop puts together, each in a row of its own -/
structure NK (w5 : World) (B : Nat) (g : List K) (cs : List (ByteArray × K)) (wr : World) (ov sv : Value) : Prop where
  names : wr.ownsRow B 9 1 ov (cs.map (·.1)).length ((cs.map (·.1)).map Value.string)
  kinds : ∃ us, wr.ownsRow B 24 1 sv (g ++ cs.map (·.2)).length us ∧ KindRow w5 (· < B) us (g ++ cs.map (·.2))
  diff : ∀ q, ov.ownBlock = some q → sv.ownBlock ≠ some q
theorem KindRow.push10 {w : World} {P : Nat → Prop} {us : List Value} {ks : List K} {x : Value} {k : K} (h : KindRow w P us ks) (hk : KidV w P k x) : KindRow w P (us ++ [x]) (ks ++ [k]) := by
  obtain ⟨h1, h2⟩ := h
  refine ⟨by rw [List.length_append, List.length_append, h1]; rfl, fun j hj => ?_⟩
  rw [List.length_append] at hj
  have hj : j < ks.length + 1 := hj
  by_cases hlt : j < ks.length
  · obtain ⟨y, e1, e2⟩ := h2 j hlt
    refine ⟨y, by rw [List.getElem?_append_left (by omega)]; exact e1, ?_⟩
    rw [List.getElem_append_left hlt]
    exact e2
  · obtain rfl : j = ks.length := by omega
    refine ⟨x, by rw [List.getElem?_append_right (by omega), h1, Nat.sub_self]; rfl, ?_⟩
    rw [List.getElem_append_right (Nat.le_refl _)]
    simpa using hk
theorem kept_other {B n : Nat} {e : TypeId} {w w1 : World} {v : Value} {xs : List Value} {o : Obj} {row : Option Nat} (h : w.ownsRow B e 1 v n xs) (hgrow : (w.alloc o).grownBy w1 row) (hd : ∀ q, row = some q → v.ownBlock ≠ some q) : w1.ownsRow B e 1 v n xs :=
  (h.alloc o).kept hgrow (by
    cases ho : v.ownBlock with
    | none => exact .inl rfl
    | some q => exact .inr (fun e => hd q e.symm ho))
theorem CstSl.grow9 {w w' : World} {v : Value} {cs : List (ByteArray × K)} (h : CstSl w (· < w.heap.size) v cs) (hb : Below w.heap.size w w') : CstSl w' (· < w'.heap.size) v cs := (h.keep (Same.of_below hb (fun _ h => h))).mono (fun _ h => Nat.lt_of_lt_of_le h hb.size)
theorem KSl.grow9 {w w' : World} {v : Value} {l : List K} (h : KSl w (· < w.heap.size) v l) (hb : Below w.heap.size w w') : KSl w' (· < w'.heap.size) v l := (h.keep (Same.of_below hb (fun _ h => h))).mono (fun _ h => Nat.lt_of_lt_of_le h hb.size)
theorem KidV.grow9 {w w' : World} {v : Value} {k : K} (h : KidV w (· < w.heap.size) k v) (hb : Below w.heap.size w w') : KidV w' (· < w'.heap.size) k v := (h.keep (Same.of_below hb (fun _ h => h))).mono (fun _ h => Nat.lt_of_lt_of_le h hb.size)
theorem sameK_self (k : K) (w : World) (x y : Value) (hx : KidV w (· < w.heap.size) k x) (hy : KidV w (· < w.heap.size) k y) :
    Calls Tryz.prog 39 #[.agg #[x], .agg #[y]] w fun e w' => e = .returned (.bool true) ∧ Below w.heap.size w w' := by
  have h := rsameK_any (· < w.heap.size) (· < w.heap.size) k k w (.agg #[x]) (.agg #[y]) (fun _ h => h) (fun _ h => h) ⟨_, rfl, hx⟩ ⟨_, rfl, hy⟩
  rw [(K.eqv_iff k k).2 rfl] at h
  exact h
/-- a constant of the list, there -/
theorem consts_part10 {w : World} {v : Value} {cs : List (ByteArray × K)} (h : CstSl w (· < w.heap.size) v cs) (k : Nat) (hk : k < cs.length) : ∃ b off c ka kn kc, v = .slice (some ⟨b, off, none⟩) cs.length c ∧ cs[k].1.size ≤ maxLen ∧ KidV w (· < w.heap.size) cs[k].2 (.slice ka kn kc) ∧
    ∀ W, Below w.heap.size w W → W.cell? ⟨b, off + k * 2, none⟩ = some (.string cs[k].1) ∧ W.cell? ⟨b, off + k * 2 + 1, none⟩ = some (.slice ka kn kc) := by
  obtain ⟨b, off, c, ka, kn, kc, e1, hb, hs, f0, f1, hk2⟩ := h.part k hk
  exact ⟨b, off, c, ka, kn, kc, e1, hs, hk2, fun W hW => ⟨(cell_same (hW.block _ hb)).trans f0, (cell_same (hW.block _ hb)).trans f1⟩⟩
set_option maxRecDepth 100000 in
set_option maxHeartbeats 4000000 in
theorem kconsts_any (g : List K) (t : Con) (w : World) (gv v : Value) (hg : KSl w (· < w.heap.size) gv g) (ht : ConV w (· < w.heap.size) t v) :
    Calls Tryz.prog 5 #[gv, v] w fun e w' => e = .returned (.bool true) ∧ Below w.heap.size w w' := by
  have HA := Lib.hid awake10
  have HT := Lib.hid (fun W (hW : Below w.heap.size w W) => ht.grow hW)
  have HGV := Lib.hid (fun W (hW : Below w.heap.size w W) => (show KSl W (· < w.heap.size) gv g from hg.keep (Same.of_below hW (fun _ h => h))))
  have HG := Lib.hid (fun W x (hW : Below w.heap.size w W) (hl : ConSl W (· < W.heap.size) x [t]) => great5_any (· < W.heap.size) g [t] W gv x (fun _ h => h) ((HGV.out W hW).mono (fun q hq => Nat.lt_of_lt_of_le hq hW.size)) hl)
  have HCN := Lib.hid (fun W (hW : Below w.heap.size w W) (hl : g.length ≤ 100000) => kclone_any (· < w.heap.size) g W gv (fun b h => Nat.lt_of_lt_of_le h hW.size) (HGV.out W hW) hl)
  have HOF := Lib.hid (fun W (hW : Below w.heap.size w W) u y (hu : ConV W (· < W.heap.size) u y) => of_any (· < W.heap.size) g u W gv y (fun _ h => h) ((HGV.out W hW).mono (fun q hq => Nat.lt_of_lt_of_le hq hW.size)) hu)
  obtain ⟨⟨l1, e1⟩, hco⟩ : ∃ z, z = consOut t := ⟨_, rfl⟩
  have HCS := Lib.hid (fun W (hW : Below w.heap.size w W) => (show Calls Tryz.prog 13 #[v] W (fun e w' => (∃ y, e = .returned (.tuple #[y, .int .i64 e1]) ∧ CstSl w' (fun q => W.heap.size ≤ q ∧ q < w'.heap.size) y l1) ∧ Below W.heap.size W w') from by
    have h := cconsts_any t W v (HT.out W hW)
    rw [← hco] at h
    exact h))
  have HCV := Lib.hid (show (l1 = [] ∧ e1 = 1) ∨ (l1 = [] ∧ e1 = 11) ∨ (l1 = Con.consL t ∧ e1 = 0 ∧ Con.validB t = true ∧ Con.consB t = true) from by
    unfold consOut at hco
    cases hv : Con.validB t
    · rw [hv, if_neg (by simp)] at hco
      exact .inl (by simpa using hco)
    · rw [hv, if_pos rfl] at hco
      cases hc : Con.consB t
      · rw [hc, if_neg (by simp)] at hco
        exact .inr (.inl (by simpa using hco))
      · rw [hc, if_pos rfl] at hco
        simp only [Prod.mk.injEq] at hco
        exact .inr (.inr ⟨hco.1, hco.2, rfl, rfl⟩))
  obtain ⟨ga, gc, rfl, -, hgm, -⟩ := hg.each
  obtain ⟨ka, kn, kc, na, nn, nc, la, ln, lc, rfl, -, -, -⟩ := ht.shape
  obtain ⟨gn, hgn⟩ : ∃ gn, gn = g.length := ⟨_, rfl⟩
  rw [← hgn] at HG HCN HOF HGV ⊢
  have HGN := Lib.hid hgn
  have hgn63 : gn ≤ 9223372036854775807 := by
    obtain ⟨a', c', e, h1, h2, -⟩ := hg.each
    injection e with e1 e2 e3
    unfold maxLen at h2; omega
  obtain ⟨hbx, hb⟩ := boxN_new w 28 #[.int .i64 t.op, .int .i64 t.n, .string t.s, .slice ka kn kc, .slice na nn nc, .slice la ln lc]
  have HB := Lib.hid hb
  have HBX := Lib.hid hbx
  clear hbx hb ht hg hco hgm hgn
  go_enter Tryz.func5, Tryz.ntmps5
  go_upto_region 1 with fail
  generalize w.alloc (.cells #[.int .i64 t.op, .int .i64 t.n, .string t.s, .slice ka kn kc, .slice na nn nc, .slice la ln lc] 28) = w1 at *
  go_wp2_with fail
  refine (HA.out _).mono ?_
  rintro e w2 ⟨rfl, hb⟩
  replace HBX := Lib.hid (HBX.out.of_eq (hb.block _ HBX.out.lt))
  replace HB := Lib.hid (belowStep hb HB.out)
  clear hb HA
  by_cases h40 : 40 < gn
  · have q0 : decide ((40 : Int) < (gn : Int)) = true := decide_eq_true (by omega)
    go_wp2
    go_ret
    exact ⟨rfl, HB.out⟩
  have q0 : decide ((40 : Int) < (gn : Int)) = false := decide_eq_false (by omega)
  have c0 := HBX.out.cell 0 (.int .i64 t.op) rfl
  have c1 := HBX.out.cell 1 (.int .i64 t.n) rfl
  have c2 := HBX.out.cell 2 (.string t.s) rfl
  have c3 := HBX.out.cell 3 (.slice ka kn kc) rfl
  have c4 := HBX.out.cell 4 (.slice na nn nc) rfl
  have c5 := HBX.out.cell 5 (.slice la ln lc) rfl
  obtain ⟨hlit, hb⟩ := boxN_new w2 28 #[.int .i64 t.op, .int .i64 t.n, .string t.s, .slice ka kn kc, .slice na nn nc, .slice la ln lc]
  have HGR := Lib.hid (HG.out _ _ (belowStep hb HB.out) (cons_one10 (P := (· < (w2.alloc (.cells #[.int .i64 t.op, .int .i64 t.n, .string t.s, .slice ka kn kc, .slice na nn nc, .slice la ln lc] 28)).heap.size)) hlit hlit.lt (HT.out _ (belowStep hb HB.out))))
  replace HBX := Lib.hid (HBX.out.of_eq (hb.block _ HBX.out.lt))
  replace HB := Lib.hid (belowStep hb HB.out)
  clear hlit hb HG
  go_wp2_with fail
  clear c0 c1 c2 c3 c4 c5
  generalize w2.alloc (.cells #[.int .i64 t.op, .int .i64 t.n, .string t.s, .slice ka kn kc, .slice na nn nc, .slice la ln lc] 28) = w3 at *
  refine HGR.out.mono ?_
  rintro e w4 ⟨⟨z, rfl, hz⟩, hb⟩
  have HSZ := Lib.hid hz
  replace HBX := Lib.hid (HBX.out.of_eq (hb.block _ HBX.out.lt))
  replace HB := Lib.hid (belowStep hb HB.out)
  clear hb hz HGR
  cases z
  rotate_left
  · go_wp2
    go_ret
    exact ⟨rfl, HB.out⟩
  have HS400 := Lib.hid (HSZ.out rfl t List.mem_cons_self)
  clear HSZ q0
  have c0 := HBX.out.cell 0 (.int .i64 t.op) rfl
  have c1 := HBX.out.cell 1 (.int .i64 t.n) rfl
  have c2 := HBX.out.cell 2 (.string t.s) rfl
  have c3 := HBX.out.cell 3 (.slice ka kn kc) rfl
  have c4 := HBX.out.cell 4 (.slice na nn nc) rfl
  have c5 := HBX.out.cell 5 (.slice la ln lc) rfl
  go_wp2_with fail
  clear c0 c1 c2 c3 c4 c5
  refine (HCS.out _ HB.out).mono ?_
  rintro e w5 ⟨⟨kv, rfl, hkv⟩, hb⟩
  have hlk := hkv
  obtain ⟨ka1, kc1, rfl, hkm0, hkm, -, -⟩ := hlk
  replace HBX := Lib.hid (HBX.out.of_eq (hb.block _ HBX.out.lt))
  replace HB := Lib.hid (belowStep hb HB.out)
  have HKV := Lib.hid (hkv.mono (fun q hq => hq.2))
  clear hb hkv HCS
  obtain ⟨ln1, hln1⟩ : ∃ n, n = l1.length := ⟨_, rfl⟩
  have HLN := Lib.hid hln1
  rw [← hln1] at HKV ⊢
  have hln63 : ln1 ≤ 9223372036854775807 := by unfold maxLen at hkm; omega
  clear hkm hkm0 hln1
  rcases HCV.out with ⟨h1, h2⟩ | ⟨h1, h2⟩ | ⟨h1, h2, hv, hc⟩
  · obtain rfl : ln1 = 0 := by rw [HLN.out, h1]; rfl
    subst h2
    clear HLN h1
    go_wp2
    go_ret
    exact ⟨rfl, HB.out⟩
  · obtain rfl : ln1 = 0 := by rw [HLN.out, h1]; rfl
    subst h2
    clear HLN h1
    go_wp2
    go_ret
    exact ⟨rfl, HB.out⟩
  subst h2
  have HL1 := Lib.hid h1
  have HVT := Lib.hid hv
  have HCT := Lib.hid hc
  clear h1 hv hc HCV
  have hg40 : gn ≤ 40 := by omega
  have HCL := Lib.hid (HCN.out w5 HB.out (by have := HGN.out; omega))
  clear HCN
  go_wp2_with fail
  refine HCL.out.mono ?_
  rintro e w6 ⟨⟨sv, us, rfl, hrow, hkids⟩, hb⟩
  obtain ⟨va, vc, hvf, -⟩ := row_form hrow
  subst hvf
  have HPT := Lib.hid (fun k (hk : k < ln1) => consts_part10 HKV.out k (by rw [← HLN.out]; exact hk))
  have HL5 := Lib.hid (show w.heap.size ≤ w5.heap.size from HB.out.size)
  have HW5 := Lib.hid (show w.heap.size < w5.heap.size from HBX.out.lt)
  have HROW0 := Lib.hid hrow
  have HKID0 := Lib.hid (show KindRow w5 (· < w5.heap.size) us g from (hkids.keep (fun q (hq : q < w.heap.size) => (hb.block q (by have := HL5.out; omega)).symm)).mono (fun q (hq : q < w.heap.size) => by have := HL5.out; omega))
  have HB6 := Lib.hid (show Below w5.heap.size w5 w6 from hb)
  clear hb hrow hkids HCL
  have HZS := Lib.hid (show ∀ z ∈ l1.map (·.1), z.size ≤ maxLen from fun z hz => by
    obtain ⟨y, hy, rfl⟩ := List.mem_map.1 hz
    obtain ⟨j, hj, rfl⟩ := List.getElem_of_mem hy
    obtain ⟨_, _, _, _, _, _, -, h, -⟩ := HPT.out j (by rw [HLN.out]; exact hj)
    exact h)
  have HL400 := Lib.hid (show ln1 ≤ 400 from by have h1 := (binds_plain t HVT.out HCT.out).2.1; have h2 := HS400.out; rw [HLN.out, HL1.out]; omega)
  obtain ⟨iI, hi, hz0, hz1, hz2⟩ := info_parts infoStr9
  obtain ⟨i28, hi0, hy0, hy1, hy2⟩ := info3 infoKind
  have hl400 := HL400.out
  go_wp2_with fail
  go_loopg [7, 8, 46] (ln1 + 1) (fun gk ov sv i wr => ∃ k : Nat, k ≤ ln1 ∧ i = .int .i64 k ∧ gk = ln1 + 1 - k ∧ NK w5 w5.heap.size g (l1.take k) wr ov sv ∧ Below w5.heap.size w5 wr)
  case atStart => exact ⟨0, Nat.zero_le _, rfl, by omega, by rw [List.take_zero]; exact ⟨World.ownsRow_nil _ _ _ _, ⟨us, by simpa [HGN.out] using HROW0.out, by simpa using HKID0.out⟩, fun q hq => (by cases hq)⟩, HB6.out⟩
  case round =>
    obtain ⟨k, hk, rfl, hgk, hnk, hbw⟩ := hrel
    have HNK := Lib.hid hnk
    have HBR := Lib.hid hbw
    clear HROW0 HKID0 HB6
    by_cases hlt : k < ln1
    · have q5 : decide ((k : Int) < (ln1 : Int)) = true := decide_eq_true (by omega)
      have hkl : k < l1.length := by rw [← HLN.out]; exact hlt
      obtain ⟨b, off, c', ka', kn', kc', e, hsz, hkd, hat⟩ := HPT.out k hlt
      rw [← HLN.out] at e
      injection e with e1 e2 e3
      subst e1 e3
      clear e2
      obtain ⟨f0, f1⟩ := hat wr hbw
      clear hat
      have HTK := Lib.hid (show l1.take (k + 1) = l1.take k ++ [l1[k]] from List.take_succ_eq_append_getElem hkl)
      have HLK := Lib.hid (show (l1.take k).length = k from by rw [List.length_take]; omega)
      obtain ⟨ls, hls⟩ : ∃ o, o = l1.take k := ⟨_, rfl⟩
      rw [← hls] at HNK HTK HLK
      obtain ⟨ck, hck⟩ : ∃ c, c = l1[k] := ⟨_, rfl⟩
      rw [← hck] at HTK hkd hsz f0
      have HKD := Lib.hid hkd
      obtain ⟨cs9, hcs9⟩ : ∃ x, x = ck.1 := ⟨_, rfl⟩
      rw [← hcs9] at f0 hsz
      have HC9 := Lib.hid hcs9
      obtain ⟨us2, hkr, hkk⟩ := HNK.out.kinds
      have hnr := HNK.out.names
      have hdf := HNK.out.diff
      have e9 : (ls.map (·.1)).length = k := by rw [List.length_map, HLK.out]
      have e8 : (g ++ ls.map (·.2)).length = gn + k := by rw [List.length_append, List.length_map, HLK.out, HGN.out]
      rw [e9] at hnr
      rw [e8] at hkr
      obtain ⟨oa, oc, hof, -⟩ := row_form hnr
      subst hof
      obtain ⟨sa, sc, hsf, -⟩ := row_form hkr
      subst hsf
      have HKK := Lib.hid hkk
      have HDF := Lib.hid hdf
      have HNR := Lib.hid hnr
      have HKR := Lib.hid hkr
      obtain ⟨hbx, hb⟩ := boxN_new wr 36 #[.string cs9, .slice ka' kn' kc']
      have HCBX := Lib.hid hbx
      have d0 := hbx.cell 0 (.string cs9) rfl
      have d1 := hbx.cell 1 (.slice ka' kn' kc') rfl
      have HNR2 := Lib.hid (hnr.alloc (.cells #[.string cs9, .slice ka' kn' kc'] 36))
      have HKR2 := Lib.hid (hkr.alloc (.cells #[.string cs9, .slice ka' kn' kc'] 36))
      have HBR2 := Lib.hid (belowStep hb hbw)
      have HLR := Lib.hid (show w5.heap.size ≤ wr.heap.size from hbw.size)
      have HON := Lib.hid (show ∀ q, (Value.slice oa k oc).ownBlock = some q → w5.heap.size ≤ q ∧ q < wr.heap.size from hnr.lt)
      have HOK := Lib.hid (show ∀ q, (Value.slice sa (gn + k) sc).ownBlock = some q → w5.heap.size ≤ q ∧ q < wr.heap.size from hkr.lt)
      have HSA := Lib.hid (show (wr.alloc (.cells #[.string cs9, .slice ka' kn' kc'] 36)).heap.size = wr.heap.size + 1 from size_alloc _ _)
      clear hnr hkr hkk hdf hbw hls hb hbx hck hkd hcs9 e8 e9 hnk HNK
      go_upto_region 13 with fail
      clear f0 f1
      generalize wr.alloc (.cells #[.string cs9, .slice ka' kn' kc'] 36) = wa at *
      go_wp2_with (at_builtin; refine wpList_append_lies _ rfl _ _ 25 rfl w5.heap.size 9 iI (.string ByteArray.empty) 1 16 Tryz.underlying25 hi hz0 hz1 hz2 rfl (by decide) _ _ _ rfl (HNR2.out.alloc _) ⟨wa.heap.size, 0, none⟩ 1 1 [.string cs9] rfl rfl ?c1x1 ?c2x1 (by decide) ?c3x1 ?c4x1 ?c5x1 (wa.heap.size + 1) (by simp) ?_)
      try case c1x1 =>
        intro j u hj
        match j, hj with
        | 0, hj => simp at hj; subst hj; simp [Addr.add]
      case c2x1 => first | rfl | (intro u hu; simp at hu; subst hu; rfl)
      case c3x1 => unfold maxLen; omega
      case c4x1 => omega
      case c5x1 => have := HBR2.out.size; simp; omega
      intro g1 cap1 wb hown1 hgrow1 hat1 hlt1
      have HX := Lib.hid ((HCBX.out.alloc (.cells #[.string cs9] 9)).of_eq (hgrow1.block _ (HCBX.out.alloc _).lt (fun e => Nat.lt_irrefl _ (HON.out _ e.symm).2)))
      have HKR3 := Lib.hid (kept_other HKR2.out hgrow1 HDF.out)
      have HB1 := Lib.hid (below_appT HBR2.out HBR2.out.size HNR2.out hgrow1)
      have HNR3 := Lib.hid hown1
      have HG1 := Lib.hid hlt1
      have HGD := Lib.hid (show (Value.slice sa (gn + k) sc).ownBlock ≠ some g1 from fun e => by
        rcases hat1 with h | h
        · exact HDF.out _ h e
        · have h1 := (HOK.out _ e).2
          have h2 := HSA.out
          omega)
      have HS1 := Lib.hid (show wr.heap.size ≤ wb.heap.size from by have h1 := hgrow1.size; have h2 := HSA.out; rw [size_alloc] at h1; omega)
      clear hown1 hgrow1 hat1 hlt1 HNR HNR2 HKR HKR2 HBR2 HDF d0 d1 HCBX HON HSA
      have d0 := HX.out.cell 0 (.string cs9) rfl
      have d1 := HX.out.cell 1 (.slice ka' kn' kc') rfl
      obtain ⟨h7, -⟩ := boxN_new wb 24 #[.slice ka' kn' kc']
      have HNEW := Lib.hid (show ∀ j u, [Value.slice ka' kn' kc'][j]? = some u → (wb.alloc (.cells #[.slice ka' kn' kc'] 24)).cell? ((⟨wb.heap.size, 0, none⟩ : Addr).add j) = some u from World.news_of_block (cs := #[.slice ka' kn' kc']) (t := 24) (fr := (0, 0)) h7)
      clear h7
      go_wp2_with (at_builtin; refine wpList_append_lies _ rfl _ _ 22 rfl w5.heap.size 24 i28 (.agg #[.slice none 0 0]) 1 24 Tryz.underlying22 hi0 hy0 hy1 hy2 rfl (by decide) _ _ _ rfl (HKR3.out.alloc _) ⟨wb.heap.size, 0, none⟩ 1 1 [.slice ka' kn' kc'] rfl rfl ?c1x2 ?c2x2 (by decide) ?c3x2 ?c4x2 ?c5x2 (wb.heap.size + 1) (by simp) ?_)
      case c1x2 => exact HNEW.out
      case c2x2 => simp [Value.oneCell']
      case c3x2 => unfold maxLen; omega
      case c4x2 => omega
      case c5x2 => have := HS1.out; have := HLR.out; simp; omega
      intro g2 cap2 wc hown2 hgrow2 hat2 hlt2
      have HB2 := Lib.hid (below_appT HB1.out HB1.out.size HKR3.out hgrow2)
      have HNR4 := Lib.hid (kept_other HNR3.out hgrow2 (fun q hq e => by
        have e : some g1 = some q := e
        injection e with e
        subst e
        exact HGD.out hq))
      have HNKE := Lib.hid (show NK w5 w5.heap.size g (l1.take (k + 1)) wc (.slice (some ⟨g1, 0, none⟩) (k + 1) cap1) (.slice (some ⟨g2, 0, none⟩) (gn + k + 1) cap2) from by
        rw [HTK.out]
        refine ⟨?_, ⟨us2 ++ [.slice ka' kn' kc'], ?_, ?_⟩, ?_⟩
        · have h := HNR4.out
          rw [HC9.out] at h
          simpa [HLK.out] using h
        · rw [List.map_append, ← List.append_assoc, List.length_append, List.length_append, List.length_map, HLK.out, ← HGN.out]
          exact hown2
        · rw [List.map_append, ← List.append_assoc]
          exact HKK.out.push10 HKD.out
        · intro q hq e
          have hq : some g1 = some q := hq
          have e : some g2 = some q := e
          injection hq with hq
          injection e with e
          subst hq
          rcases hat2 with h | h
          · rw [e] at h; exact HGD.out h
          · have h1 := HG1.out
            omega)
      clear hown2 hgrow2 hat2 hlt2 HNR4 HKR3 HNR3 HX d0 d1 HNEW HGD HG1
      go_wp2
      go_roundg (gk - 1)
      case measure => omega
      case rel => exact ⟨k + 1, by omega, by go_num, by omega, HNKE.out, HB2.out⟩
    have hkn : k = ln1 := by omega
    subst hkn
    have q5 : decide ((k : Int) < (k : Int)) = false := decide_eq_false (by omega)
    have hta : l1.take k = l1 := List.take_of_length_le (by rw [HLN.out]; exact Nat.le_refl _)
    rw [hta] at HNK
    have e9 : (l1.map (·.1)).length = k := by rw [List.length_map]; exact HLN.out.symm
    have e8 : (g ++ l1.map (·.2)).length = gn + k := by rw [List.length_append, List.length_map, ← HLN.out, HGN.out]
    have HNS := Lib.hid ((strSl_row HNK.out.names HZS.out).mono (Q := (· < wr.heap.size)) (fun q hq => hq.2))
    obtain ⟨us2, hkr, hkk⟩ := HNK.out.kinds
    have HKS := Lib.hid (show KSl wr (· < wr.heap.size) _ (g ++ l1.map (·.2)) from row_ksl hkr rfl (hkk.keep (Same.of_below hbw (fun _ h => h))) (fun b (hb : b < w5.heap.size) => Nat.lt_of_lt_of_le hb hbw.size) (fun b _ h => h))
    have hnr := HNK.out.names
    rw [e9] at hnr
    rw [e8] at hkr
    obtain ⟨oa, oc, hof, -⟩ := row_form hnr
    subst hof
    obtain ⟨sa, sc, hsf, -⟩ := row_form hkr
    subst hsf
    have hb56 : Below w5.heap.size w5 wr := hbw
    replace HBX := Lib.hid (HBX.out.of_eq (hb56.block _ HBX.out.lt))
    replace HKV := Lib.hid (HKV.out.grow9 hb56)
    replace HB := Lib.hid (belowStep hb56 HB.out)
    clear hb56 hbw hnk HNK hkr hkk hnr HBR HPT HZS hi hz0 hz1 hz2 hi0 hy0 hy1 hy2 hta e8 e9
    obtain ⟨⟨u, uc⟩, hbo⟩ : ∃ z, z = bindOut t (l1.map (·.1)) := ⟨_, rfl⟩
    have HBO := Lib.hid hbo
    have HBI := Lib.hid (show Calls Tryz.prog 14 #[_, .slice oa k oc] wr (fun e w' => (∃ y, e = .returned (.tuple #[y, .int .i64 uc]) ∧ ConV w' (fun q => wr.heap.size ≤ q ∧ q < w'.heap.size) u y) ∧ Below wr.heap.size wr w') from by
      have h := cbind_new t (l1.map (·.1)) wr _ _ (HT.out wr HB.out) HNS.out
      rw [← hbo] at h
      exact h)
    clear hbo HNS
    have c0 := HBX.out.cell 0 (.int .i64 t.op) rfl
    have c1 := HBX.out.cell 1 (.int .i64 t.n) rfl
    have c2 := HBX.out.cell 2 (.string t.s) rfl
    have c3 := HBX.out.cell 3 (.slice ka kn kc) rfl
    have c4 := HBX.out.cell 4 (.slice na nn nc) rfl
    have c5 := HBX.out.cell 5 (.slice la ln lc) rfl
    go_wp2_with fail
    clear c0 c1 c2 c3 c4 c5
    refine HBI.out.mono ?_
    rintro e w7 ⟨⟨z, rfl, hz⟩, hb⟩
    obtain ⟨uka, ukn, ukc, una, unn, unc, ula, uln, ulc, rfl, -, -, -⟩ := hz.shape
    replace HBX := Lib.hid (HBX.out.of_eq (hb.block _ HBX.out.lt))
    replace HKV := Lib.hid (HKV.out.grow9 hb)
    replace HKS := Lib.hid (HKS.out.grow9 hb)
    replace HB := Lib.hid (belowStep hb HB.out)
    have HUV := Lib.hid (hz.mono (fun q hq => hq.2))
    clear hb hz
    obtain ⟨hbx, hb⟩ := boxN_new w7 28 #[.int .i64 u.op, .int .i64 u.n, .string u.s, .slice uka ukn ukc, .slice una unn unc, .slice ula uln ulc]
    replace HBX := Lib.hid (HBX.out.of_eq (hb.block _ HBX.out.lt))
    replace HUV := Lib.hid (HUV.out.grow hb)
    replace HKV := Lib.hid (HKV.out.grow9 hb)
    replace HKS := Lib.hid (HKS.out.grow9 hb)
    replace HB := Lib.hid (belowStep hb HB.out)
    have HBU := Lib.hid hbx
    clear hbx hb
    go_upto_region 17 with fail
    generalize w7.alloc (.cells #[.int .i64 u.op, .int .i64 u.n, .string u.s, .slice uka ukn ukc, .slice una unn unc, .slice ula uln ulc] 28) = w7b at *
    clear HBI
    by_cases h6 : uc = 6
    · subst h6
      go_wp2
      go_ret
      exact ⟨rfl, HB.out⟩
    have q6 : (uc == 6) = false := beq_eq_false_iff_ne.2 h6
    have HKP := Lib.hid (consts_keep (g := g) HVT.out HCT.out HS400.out (by rw [← HGN.out]; exact hg40) (by rw [← HL1.out]; exact HBO.out) h6)
    rw [← HL1.out] at HKP
    clear h6 HBO
    have c0 := HBX.out.cell 0 (.int .i64 t.op) rfl
    have c1 := HBX.out.cell 1 (.int .i64 t.n) rfl
    have c2 := HBX.out.cell 2 (.string t.s) rfl
    have c3 := HBX.out.cell 3 (.slice ka kn kc) rfl
    have c4 := HBX.out.cell 4 (.slice na nn nc) rfl
    have c5 := HBX.out.cell 5 (.slice la ln lc) rfl
    go_wp2_with fail
    clear c0 c1 c2 c3 c4 c5
    obtain ⟨ro, hro⟩ : ∃ r, r = ofOut g t := ⟨_, rfl⟩
    have HO1 := Lib.hid (HOF.out _ HB.out t _ (HT.out _ HB.out))
    rw [← hro] at HO1 HKP
    have HRO := Lib.hid hro
    clear hro
    refine (HO1.out).mono ?_
    rintro e w8 ⟨⟨rKa, rKn, rKc, rfl, hr⟩, hb⟩
    have hr := hr.mono (Q := (· < w8.heap.size)) (fun q hq => by
      have h1 := hb.size
      rcases hq with hq | hq
      · have hq : q < _ := hq
        omega
      · exact hq.2)
    replace HBX := Lib.hid (HBX.out.of_eq (hb.block _ HBX.out.lt))
    replace HBU := Lib.hid (HBU.out.of_eq (hb.block _ HBU.out.lt))
    replace HUV := Lib.hid (HUV.out.grow hb)
    replace HKV := Lib.hid (HKV.out.grow9 hb)
    replace HKS := Lib.hid (HKS.out.grow9 hb)
    replace HB := Lib.hid (belowStep hb HB.out)
    clear hb
    obtain ⟨hbx, hb⟩ := boxN_new w8 24 #[.slice rKa rKn rKc]
    replace HBX := Lib.hid (HBX.out.of_eq (hb.block _ HBX.out.lt))
    replace HBU := Lib.hid (HBU.out.of_eq (hb.block _ HBU.out.lt))
    replace HUV := Lib.hid (HUV.out.grow hb)
    replace HKV := Lib.hid (HKV.out.grow9 hb)
    replace HKS := Lib.hid (HKS.out.grow9 hb)
    replace HB := Lib.hid (belowStep hb HB.out)
    have HBK := Lib.hid hbx
    have HRK := Lib.hid ((hr.keep (Same.of_below hb (fun _ h => h))).mono (Q := (· < (w8.alloc (.cells #[.slice rKa rKn rKc] 24)).heap.size)) (fun q hq => Nat.lt_of_lt_of_le hq hb.size))
    clear hbx hb hr
    go_upto_region 20 with fail
    generalize w8.alloc (.cells #[.slice rKa rKn rKc] 24) = w8b at *
    clear HO1
    have c0 := HBU.out.cell 0 (.int .i64 u.op) rfl
    have c1 := HBU.out.cell 1 (.int .i64 u.n) rfl
    have c2 := HBU.out.cell 2 (.string u.s) rfl
    have c3 := HBU.out.cell 3 (.slice uka ukn ukc) rfl
    have c4 := HBU.out.cell 4 (.slice una unn unc) rfl
    have c5 := HBU.out.cell 5 (.slice ula uln ulc) rfl
    go_wp2_with fail
    clear c0 c1 c2 c3 c4 c5
    have HO2 := Lib.hid (of_any (· < w8b.heap.size) (g ++ l1.map (·.2)) u w8b _ _ (fun _ h => h) HKS.out HUV.out)
    rw [HKP.out.2.1] at HO2
    refine (HO2.out).mono ?_
    rintro e w9 ⟨⟨rLa, rLn, rLc, rfl, hr⟩, hb⟩
    have hr := hr.mono (Q := (· < w9.heap.size)) (fun q hq => by
      have h1 := hb.size
      rcases hq with hq | hq
      · have hq : q < _ := hq
        omega
      · exact hq.2)
    replace HBX := Lib.hid (HBX.out.of_eq (hb.block _ HBX.out.lt))
    replace HBU := Lib.hid (HBU.out.of_eq (hb.block _ HBU.out.lt))
    replace HBK := Lib.hid (HBK.out.of_eq (hb.block _ HBK.out.lt))
    replace HUV := Lib.hid (HUV.out.grow hb)
    replace HKV := Lib.hid (HKV.out.grow9 hb)
    replace HKS := Lib.hid (HKS.out.grow9 hb)
    replace HRK := Lib.hid (HRK.out.grow9 hb)
    replace HB := Lib.hid (belowStep hb HB.out)
    clear hb
    obtain ⟨hbx, hb⟩ := boxN_new w9 24 #[.slice rLa rLn rLc]
    replace HBX := Lib.hid (HBX.out.of_eq (hb.block _ HBX.out.lt))
    replace HBU := Lib.hid (HBU.out.of_eq (hb.block _ HBU.out.lt))
    replace HBK := Lib.hid (HBK.out.of_eq (hb.block _ HBK.out.lt))
    replace HUV := Lib.hid (HUV.out.grow hb)
    replace HKV := Lib.hid (HKV.out.grow9 hb)
    replace HKS := Lib.hid (HKS.out.grow9 hb)
    replace HRK := Lib.hid (HRK.out.grow9 hb)
    replace HB := Lib.hid (belowStep hb HB.out)
    have HBL := Lib.hid hbx
    have HRL := Lib.hid ((hr.keep (Same.of_below hb (fun _ h => h))).mono (Q := (· < (w9.alloc (.cells #[.slice rLa rLn rLc] 24)).heap.size)) (fun q hq => Nat.lt_of_lt_of_le hq hb.size))
    clear hbx hb hr
    go_upto_region 21 with fail
    generalize w9.alloc (.cells #[.slice rLa rLn rLc] 24) = w9b at *
    clear HO2
    have c0 := HBU.out.cell 0 (.int .i64 u.op) rfl
    have c1 := HBU.out.cell 1 (.int .i64 u.n) rfl
    have c2 := HBU.out.cell 2 (.string u.s) rfl
    have c3 := HBU.out.cell 3 (.slice uka ukn ukc) rfl
    have c4 := HBU.out.cell 4 (.slice una unn unc) rfl
    have c5 := HBU.out.cell 5 (.slice ula uln ulc) rfl
    go_wp2_with fail
    clear c0 c1 c2 c3 c4 c5
    have HO3 := Lib.hid (cunbind_new u l1 w9b _ _ HUV.out HKV.out (by rw [← HLN.out]; have := HL400.out; omega))
    rw [HKP.out.2.2] at HO3
    refine HO3.out.mono ?_
    rintro e w10 ⟨⟨z, rfl, hz⟩, hb⟩
    obtain ⟨xka, xkn, xkc, xna, xnn, xnc, xla, xln, xlc, rfl, -, -, -⟩ := hz.shape
    replace HBX := Lib.hid (HBX.out.of_eq (hb.block _ HBX.out.lt))
    replace HBU := Lib.hid (HBU.out.of_eq (hb.block _ HBU.out.lt))
    replace HBK := Lib.hid (HBK.out.of_eq (hb.block _ HBK.out.lt))
    replace HBL := Lib.hid (HBL.out.of_eq (hb.block _ HBL.out.lt))
    replace HUV := Lib.hid (HUV.out.grow hb)
    replace HKV := Lib.hid (HKV.out.grow9 hb)
    replace HKS := Lib.hid (HKS.out.grow9 hb)
    replace HRK := Lib.hid (HRK.out.grow9 hb)
    replace HRL := Lib.hid (HRL.out.grow9 hb)
    replace HB := Lib.hid (belowStep hb HB.out)
    have HZV := Lib.hid (hz.mono (fun q hq => hq.2))
    clear hb hz
    obtain ⟨hbx, hb⟩ := boxN_new w10 28 #[.int .i64 t.op, .int .i64 t.n, .string t.s, .slice xka xkn xkc, .slice xna xnn xnc, .slice xla xln xlc]
    replace HBX := Lib.hid (HBX.out.of_eq (hb.block _ HBX.out.lt))
    replace HBU := Lib.hid (HBU.out.of_eq (hb.block _ HBU.out.lt))
    replace HBK := Lib.hid (HBK.out.of_eq (hb.block _ HBK.out.lt))
    replace HBL := Lib.hid (HBL.out.of_eq (hb.block _ HBL.out.lt))
    replace HUV := Lib.hid (HUV.out.grow hb)
    replace HZV := Lib.hid (HZV.out.grow hb)
    replace HKV := Lib.hid (HKV.out.grow9 hb)
    replace HKS := Lib.hid (HKS.out.grow9 hb)
    replace HRK := Lib.hid (HRK.out.grow9 hb)
    replace HRL := Lib.hid (HRL.out.grow9 hb)
    replace HB := Lib.hid (belowStep hb HB.out)
    have HBZ := Lib.hid hbx
    clear hbx hb
    go_upto_region 22 with fail
    generalize w10.alloc (.cells #[.int .i64 t.op, .int .i64 t.n, .string t.s, .slice xka xkn xkc, .slice xna xnn xnc, .slice xla xln xlc] 28) = w10b at *
    have c0 := HBZ.out.cell 0 (.int .i64 t.op) rfl
    have c1 := HBZ.out.cell 1 (.int .i64 t.n) rfl
    have c2 := HBZ.out.cell 2 (.string t.s) rfl
    have c3 := HBZ.out.cell 3 (.slice xka xkn xkc) rfl
    have c4 := HBZ.out.cell 4 (.slice xna xnn xnc) rfl
    have c5 := HBZ.out.cell 5 (.slice xla xln xlc) rfl
    go_wp2_with fail
    clear c0 c1 c2 c3 c4 c5
    have HO4 := Lib.hid (HOF.out _ HB.out t _ HZV.out)
    rw [← HRO.out] at HO4
    refine (HO4.out).mono ?_
    rintro e w11 ⟨⟨rMa, rMn, rMc, rfl, hr⟩, hb⟩
    have hr := hr.mono (Q := (· < w11.heap.size)) (fun q hq => by
      have h1 := hb.size
      rcases hq with hq | hq
      · have hq : q < _ := hq
        omega
      · exact hq.2)
    replace HBX := Lib.hid (HBX.out.of_eq (hb.block _ HBX.out.lt))
    replace HBU := Lib.hid (HBU.out.of_eq (hb.block _ HBU.out.lt))
    replace HBZ := Lib.hid (HBZ.out.of_eq (hb.block _ HBZ.out.lt))
    replace HBK := Lib.hid (HBK.out.of_eq (hb.block _ HBK.out.lt))
    replace HBL := Lib.hid (HBL.out.of_eq (hb.block _ HBL.out.lt))
    replace HUV := Lib.hid (HUV.out.grow hb)
    replace HZV := Lib.hid (HZV.out.grow hb)
    replace HKV := Lib.hid (HKV.out.grow9 hb)
    replace HKS := Lib.hid (HKS.out.grow9 hb)
    replace HRK := Lib.hid (HRK.out.grow9 hb)
    replace HRL := Lib.hid (HRL.out.grow9 hb)
    replace HB := Lib.hid (belowStep hb HB.out)
    clear hb
    obtain ⟨hbx, hb⟩ := boxN_new w11 24 #[.slice rMa rMn rMc]
    replace HBX := Lib.hid (HBX.out.of_eq (hb.block _ HBX.out.lt))
    replace HBU := Lib.hid (HBU.out.of_eq (hb.block _ HBU.out.lt))
    replace HBZ := Lib.hid (HBZ.out.of_eq (hb.block _ HBZ.out.lt))
    replace HBK := Lib.hid (HBK.out.of_eq (hb.block _ HBK.out.lt))
    replace HBL := Lib.hid (HBL.out.of_eq (hb.block _ HBL.out.lt))
    replace HUV := Lib.hid (HUV.out.grow hb)
    replace HZV := Lib.hid (HZV.out.grow hb)
    replace HKV := Lib.hid (HKV.out.grow9 hb)
    replace HKS := Lib.hid (HKS.out.grow9 hb)
    replace HRK := Lib.hid (HRK.out.grow9 hb)
    replace HRL := Lib.hid (HRL.out.grow9 hb)
    replace HB := Lib.hid (belowStep hb HB.out)
    have HBM := Lib.hid hbx
    have HRM := Lib.hid ((hr.keep (Same.of_below hb (fun _ h => h))).mono (Q := (· < (w11.alloc (.cells #[.slice rMa rMn rMc] 24)).heap.size)) (fun q hq => Nat.lt_of_lt_of_le hq hb.size))
    clear hbx hb hr
    go_upto_region 23 with fail
    generalize w11.alloc (.cells #[.slice rMa rMn rMc] 24) = w11b at *
    clear HO4 HO3
    have q1 : (uc == 0) = true := by rw [HKP.out.1]; rfl
    have q2 : (ro.er == ro.er) = true := by simp
    have HSK1 := Lib.hid (sameK_self ro.kd w11b _ _ HRK.out HRL.out)
    obtain ⟨er, her⟩ : ∃ x, x = ro.er := ⟨_, rfl⟩
    rw [← her] at q2 ⊢
    clear her
    have d1 := HBK.out.cell 0 (.slice rKa rKn rKc) rfl
    have d2 := HBL.out.cell 0 (.slice rLa rLn rLc) rfl
    go_wp2_with fail
    refine HSK1.out.mono ?_
    rintro e w12 ⟨rfl, hb⟩
    replace HBX := Lib.hid (HBX.out.of_eq (hb.block _ HBX.out.lt))
    replace HBU := Lib.hid (HBU.out.of_eq (hb.block _ HBU.out.lt))
    replace HBZ := Lib.hid (HBZ.out.of_eq (hb.block _ HBZ.out.lt))
    replace HBK := Lib.hid (HBK.out.of_eq (hb.block _ HBK.out.lt))
    replace HBL := Lib.hid (HBL.out.of_eq (hb.block _ HBL.out.lt))
    replace HBM := Lib.hid (HBM.out.of_eq (hb.block _ HBM.out.lt))
    replace HUV := Lib.hid (HUV.out.grow hb)
    replace HZV := Lib.hid (HZV.out.grow hb)
    replace HKV := Lib.hid (HKV.out.grow9 hb)
    replace HKS := Lib.hid (HKS.out.grow9 hb)
    replace HRK := Lib.hid (HRK.out.grow9 hb)
    replace HRL := Lib.hid (HRL.out.grow9 hb)
    replace HRM := Lib.hid (HRM.out.grow9 hb)
    replace HB := Lib.hid (belowStep hb HB.out)
    clear hb HSK1 d1 d2
    have HSK2 := Lib.hid (sameK_self ro.kd w12 _ _ HRK.out HRM.out)
    have d1 := HBK.out.cell 0 (.slice rKa rKn rKc) rfl
    have d2 := HBM.out.cell 0 (.slice rMa rMn rMc) rfl
    go_wp2_with fail
    refine HSK2.out.mono ?_
    rintro e w13 ⟨rfl, hb⟩
    have HBE := Lib.hid (belowStep hb HB.out)
    clear hb HSK2 d1 d2
    go_wp2
    go_ret
    exact ⟨rfl, HBE.out⟩
end Go.Proofs.YtpkgiemdnfbopaaGreat
