/-
  Walks of layer 9: the reference's equality of constructors.
-/
import Derived.Test.YtmjiocpcenbndaaGreatDoorQd
namespace Go.Proofs.YtmjiocpcenbndaaGreatDoor
open Go Go.RowKit
open Pl (K Con)
set_option linter.unusedSimpArgs false

theorem con_ext {t u : Con} (h0 : t.op = u.op) (h1 : t.n = u.n) (h2 : t.s = u.s) (h3 : t.kind = u.kind) (h4 : t.names = u.names) (h5 : t.l = u.l) : t = u := by
  obtain ⟨_, _, _, _, _, _⟩ := t
  obtain ⟨_, _, _, _, _, _⟩ := u
  simp only at h0 h1 h2 h3 h4 h5
  subst h0 h1 h2 h3 h4 h5
  rfl
theorem twoN_new (w : World) (T1 T2 : TypeId) (cs ds : Array Value) : Blk ((w.alloc (.cells cs T1)).alloc (.cells ds T2)) w.heap.size T1 cs ∧ Blk ((w.alloc (.cells cs T1)).alloc (.cells ds T2)) (w.heap.size + 1) T2 ds ∧ Below w.heap.size w ((w.alloc (.cells cs T1)).alloc (.cells ds T2)) := by
  have h := blk_new (w.alloc (.cells cs T1)) ds T2
  rw [size_alloc] at h
  exact ⟨(blk_new w cs T1).alloc _, h, ((Below.refl _ _).alloc (Nat.le_refl _) _).alloc (by rw [size_alloc]; omega) _⟩
set_option maxRecDepth 100000 in
set_option maxHeartbeats 8000000 in
theorem rsame9_any (P Q : Nat → Prop) (t : Con) : ∀ (u : Con) (w : World) (v x : Value), (∀ b, P b → b < w.heap.size) → (∀ b, Q b → b < w.heap.size) → ConV w P t v → ConV w Q u x →
    Calls Tryz.prog 9 #[v, x] w (Says (t = u) w) := by
  induction t using Con.ind with
  | h t ih =>
  intro u w v x hP hQ ht hu
  have HIH := Lib.hid ih
  have HP := Lib.hid hP
  have HQ := Lib.hid hQ
  clear ih
  obtain ⟨-, kv, nv, lv, rfl, hk, hs, hl⟩ := (conV_iff _ _ _ _).1 ht
  obtain ⟨-, kv2, nv2, lv2, rfl, hk2, hs2, hl2⟩ := (conV_iff _ _ _ _).1 hu
  have HSL := Lib.hid (fun W (hW : Below w.heap.size w W) => hl.keep (Same.of_below hW hP))
  have HSM := Lib.hid (fun W (hW : Below w.heap.size w W) => hl2.keep (Same.of_below hW hQ))
  have HKK := Lib.hid (fun W (hW : Below w.heap.size w W) => rsameK_any P Q t.kind u.kind W (.agg #[kv]) (.agg #[kv2]) (fun b h => Nat.lt_of_lt_of_le (hP b h) hW.size) (fun b h => Nat.lt_of_lt_of_le (hQ b h) hW.size) ⟨_, rfl, hk.keep (Same.of_below hW hP)⟩ ⟨_, rfl, hk2.keep (Same.of_below hW hQ)⟩)
  have HNN := Lib.hid (fun W (hW : Below w.heap.size w W) => rsameS_any P Q t.names u.names W nv nv2 (hs.keep (Same.of_below hW hP)) (hs2.keep (Same.of_below hW hQ)))
  obtain ⟨la, lc, rfl, hlc, hcm, -⟩ := hl.each
  obtain ⟨la2, lc2, rfl, hlc2, hcm2, -⟩ := hl2.each
  obtain ⟨ka, kc, rfl⟩ := hk.shape
  obtain ⟨ka2, kc2, rfl⟩ := hk2.shape
  obtain ⟨na, nc, rfl, -⟩ := strs_len hs
  obtain ⟨na2, nc2, rfl, -⟩ := strs_len hs2
  obtain ⟨n, hn⟩ : ∃ n, n = t.l.length := ⟨_, rfl⟩
  obtain ⟨m, hm⟩ : ∃ n, n = u.l.length := ⟨_, rfl⟩
  have HN := Lib.hid hn
  have HM := Lib.hid hm
  rw [← hn] at HSL hlc ⊢
  rw [← hm] at HSM hlc2 ⊢
  have hn63 : n ≤ 9223372036854775807 := by unfold maxLen at hcm; omega
  have hm63 : m ≤ 9223372036854775807 := by unfold maxLen at hcm2; omega
  generalize t.kind.l.length = kn at *
  generalize u.kind.l.length = kn2 at *
  generalize t.names.length = nn at *
  generalize u.names.length = nn2 at *
  obtain ⟨hbx, hbx2, hb⟩ := twoN_new w 28 28 #[.int .i64 t.op, .int .i64 t.n, .string t.s, .slice ka kn kc, .slice na nn nc, .slice la n lc] #[.int .i64 u.op, .int .i64 u.n, .string u.s, .slice ka2 kn2 kc2, .slice na2 nn2 nc2, .slice la2 m lc2]
  have c0 := hbx.cell 0 (.int .i64 t.op) rfl
  have c1 := hbx.cell 1 (.int .i64 t.n) rfl
  have c2 := hbx.cell 2 (.string t.s) rfl
  have c3 := hbx.cell 3 (.slice ka kn kc) rfl
  have c4 := hbx.cell 4 (.slice na nn nc) rfl
  have c5 := hbx.cell 5 (.slice la n lc) rfl
  have d0 := hbx2.cell 0 (.int .i64 u.op) rfl
  have d1 := hbx2.cell 1 (.int .i64 u.n) rfl
  have d2 := hbx2.cell 2 (.string u.s) rfl
  have d3 := hbx2.cell 3 (.slice ka2 kn2 kc2) rfl
  have d4 := hbx2.cell 4 (.slice na2 nn2 nc2) rfl
  have d5 := hbx2.cell 5 (.slice la2 m lc2) rfl
  have HB := Lib.hid hb
  have HBX := Lib.hid hbx
  have HBX2 := Lib.hid hbx2
  clear hbx hbx2 hb hl hl2 ht hu hk hk2 hs hs2 hn hm hcm hcm2 hP hQ
  by_cases h0 : t.op = u.op
  rotate_left
  · have q0 : (t.op != u.op) = true := by simpa using h0
    have HNO := Lib.hid (show ¬ t = u from fun h => h0 (by rw [h]))
    clear h0
    go_enter Tryz.func9, Tryz.ntmps9
    go_wp2_with fail
    go_ret
    exact says_no HNO.out HB.out
  have q0 : (t.op != u.op) = false := by simpa using h0
  by_cases h1 : t.n = u.n
  rotate_left
  · have q1 : (t.n != u.n) = true := by simpa using h1
    have HNO := Lib.hid (show ¬ t = u from fun h => h1 (by rw [h]))
    clear h1 h0
    go_enter Tryz.func9, Tryz.ntmps9
    go_wp2_with fail
    go_ret
    exact says_no HNO.out HB.out
  have q1 : (t.n != u.n) = false := by simpa using h1
  by_cases h2 : t.s = u.s
  rotate_left
  · have q2 : (t.s.toList == u.s.toList) = false := beq_eq_false_iff_ne.2 (fun h => h2 (bytes_ext h))
    have HNO := Lib.hid (show ¬ t = u from fun h => h2 (by rw [h]))
    clear h1 h0 h2
    go_enter Tryz.func9, Tryz.ntmps9
    go_wp2_with fail
    go_ret
    exact says_no HNO.out HB.out
  have q2 : (t.s.toList == u.s.toList) = true := by rw [h2]; simp
  by_cases h3 : n = m
  rotate_left
  · have q3 : ((n : Int) != (m : Int)) = true := by simp; omega
    have HNO := Lib.hid (show ¬ t = u from fun h => h3 (by rw [HN.out, HM.out, h]))
    clear h1 h0 h2 h3
    go_enter Tryz.func9, Tryz.ntmps9
    go_wp2_with fail
    go_ret
    exact says_no HNO.out HB.out
  subst h3
  have q3 : ((n : Int) != (n : Int)) = false := by simp
  have HE := Lib.hid (show t.op = u.op ∧ t.n = u.n ∧ t.s = u.s from ⟨h0, h1, h2⟩)
  clear h0 h1 h2
  have HKC := Lib.hid (HKK.out _ HB.out)
  have HX1 := Lib.hid (HBX.out)
  go_enter Tryz.func9, Tryz.ntmps9
  go_wp2_with fail
  have HKR := Lib.hid (Pl.K.eqv_iff t.kind u.kind)
  generalize Pl.K.eqv t.kind u.kind = r at HKC HKR
  clear c0 c1 c2 c3 c4 c5 d0 d1 d2 d3 d4 d5 HKK q0 q1 q2 q3
  generalize (w.alloc (.cells #[.int .i64 t.op, .int .i64 t.n, .string t.s, .slice ka kn kc, .slice na nn nc, .slice la n lc] 28)).alloc (.cells #[.int .i64 u.op, .int .i64 u.n, .string u.s, .slice ka2 kn2 kc2, .slice na2 nn2 nc2, .slice la2 n lc2] 28) = w2 at *
  refine HKC.out.mono ?_
  rintro e w3 ⟨rfl, hb3⟩
  have HB3 := Lib.hid (belowStep hb3 HB.out)
  replace HBX := Lib.hid (HBX.out.of_eq (hb3.block _ HBX.out.lt))
  replace HBX2 := Lib.hid (HBX2.out.of_eq (hb3.block _ HBX2.out.lt))
  have c4 := HBX.out.cell 4 (.slice na nn nc) rfl
  have d4 := HBX2.out.cell 4 (.slice na2 nn2 nc2) rfl
  clear hb3 HX1
  cases r
  · have HNO := Lib.hid (show ¬ t = u from fun h => (by have := HKR.out.2 (by rw [h]); cases this))
    go_wp2
    go_ret
    exact says_no HNO.out HB3.out
  go_wp2_with fail
  refine (HNN.out _ HB3.out).mono ?_
  rintro e w4 ⟨r2, rfl, hr2, hb4⟩
  have HNR := Lib.hid hr2
  have HB4 := Lib.hid (belowStep hb4 HB3.out)
  replace HBX := Lib.hid (HBX.out.of_eq (hb4.block _ HBX.out.lt))
  replace HBX2 := Lib.hid (HBX2.out.of_eq (hb4.block _ HBX2.out.lt))
  clear hb4 hr2 c4 d4
  cases r2
  · have HNO := Lib.hid (show ¬ t = u from fun h => (by have := HNR.out.2 (by rw [h]); cases this))
    go_wp2
    go_ret
    exact says_no HNO.out HB4.out
  go_wp2_with fail
  go_loopg [5] (n + 1) (fun g i wr => ∃ k : Nat, k ≤ n ∧ i = .int .i64 k ∧ g = n + 1 - k ∧ t.l.take k = u.l.take k ∧ Below w4.heap.size w4 wr)
  case atStart => exact ⟨0, by omega, rfl, by omega, rfl, Below.refl _ _⟩
  case round =>
    obtain ⟨k, hk, rfl, hg, htk, hbw⟩ := hrel
    have HTK := Lib.hid htk
    have HBW := Lib.hid hbw
    have HW0 := Lib.hid (belowStep hbw HB4.out)
    have HZ1 := Lib.hid (HBX.out.of_eq (hbw.block _ HBX.out.lt))
    have HZ2 := Lib.hid (HBX2.out.of_eq (hbw.block _ HBX2.out.lt))
    have c5 := HZ1.out.cell 5 (.slice la n lc) rfl
    have d5 := HZ2.out.cell 5 (.slice la2 n lc2) rfl
    by_cases hlt : k < n
    · have q5 : decide ((k : Int) < (n : Int)) = true := decide_eq_true (by omega)
      have hkl : k < t.l.length := by rw [← HN.out]; exact hlt
      have hkm : k < u.l.length := by rw [← HM.out]; exact hlt
      obtain ⟨b, off, c', xa, xn, xc, ya, yn, yc, za, zn, zc, e, hPb, f0, f1, f2, f3, f4, f5, hx⟩ := (HSL.out wr HW0.out).part k hkl
      injection e with e1 e2 e3
      subst e1 e3
      clear e2
      obtain ⟨b2, off2, c'', xa2, xn2, xc2, ya2, yn2, yc2, za2, zn2, zc2, e, hQb, g0, g1, g2, g3, g4, g5, hy⟩ := (HSM.out wr HW0.out).part k hkm
      injection e with e1 e2 e3
      subst e1 e3
      clear e2
      have HC := Lib.hid (fun W (hW : Below wr.heap.size wr W) => HIH.out _ (List.getElem_mem hkl) u.l[k] W _ _ (fun b hb => Nat.lt_of_lt_of_le (HP.out b hb) (Nat.le_trans HW0.out.size hW.size)) (fun b hb => Nat.lt_of_lt_of_le (HQ.out b hb) (Nat.le_trans HW0.out.size hW.size)) (hx.keep (Same.of_below hW (fun b hb => Nat.lt_of_lt_of_le (HP.out b hb) HW0.out.size))) (hy.keep (Same.of_below hW (fun b hb => Nat.lt_of_lt_of_le (HQ.out b hb) HW0.out.size))))
      have HSN := Lib.hid (take_snoc_iff k hkl hkm htk)
      have HGE := Lib.hid (show t = u → t.l[k] = u.l[k] from fun h => by subst h; rfl)
      have HWRD := Lib.hid (show Below wr.heap.size wr wr.drew from (Below.refl _ _).drew)
      have f0d := (HWRD.out.cell (p := ⟨b, off + k * 6, none⟩) (Nat.lt_of_lt_of_le (HP.out b hPb) HW0.out.size)).trans f0
      have f1d := (HWRD.out.cell (p := ⟨b, off + k * 6 + 1, none⟩) (Nat.lt_of_lt_of_le (HP.out b hPb) HW0.out.size)).trans f1
      have f2d := (HWRD.out.cell (p := ⟨b, off + k * 6 + 2, none⟩) (Nat.lt_of_lt_of_le (HP.out b hPb) HW0.out.size)).trans f2
      have f3d := (HWRD.out.cell (p := ⟨b, off + k * 6 + 3, none⟩) (Nat.lt_of_lt_of_le (HP.out b hPb) HW0.out.size)).trans f3
      have f4d := (HWRD.out.cell (p := ⟨b, off + k * 6 + 4, none⟩) (Nat.lt_of_lt_of_le (HP.out b hPb) HW0.out.size)).trans f4
      have f5d := (HWRD.out.cell (p := ⟨b, off + k * 6 + 5, none⟩) (Nat.lt_of_lt_of_le (HP.out b hPb) HW0.out.size)).trans f5
      have g0d := (HWRD.out.cell (p := ⟨b2, off2 + k * 6, none⟩) (Nat.lt_of_lt_of_le (HQ.out b2 hQb) HW0.out.size)).trans g0
      have g1d := (HWRD.out.cell (p := ⟨b2, off2 + k * 6 + 1, none⟩) (Nat.lt_of_lt_of_le (HQ.out b2 hQb) HW0.out.size)).trans g1
      have g2d := (HWRD.out.cell (p := ⟨b2, off2 + k * 6 + 2, none⟩) (Nat.lt_of_lt_of_le (HQ.out b2 hQb) HW0.out.size)).trans g2
      have g3d := (HWRD.out.cell (p := ⟨b2, off2 + k * 6 + 3, none⟩) (Nat.lt_of_lt_of_le (HQ.out b2 hQb) HW0.out.size)).trans g3
      have g4d := (HWRD.out.cell (p := ⟨b2, off2 + k * 6 + 4, none⟩) (Nat.lt_of_lt_of_le (HQ.out b2 hQb) HW0.out.size)).trans g4
      have g5d := (HWRD.out.cell (p := ⟨b2, off2 + k * 6 + 5, none⟩) (Nat.lt_of_lt_of_le (HQ.out b2 hQb) HW0.out.size)).trans g5
      have c5d := (HWRD.out.cell (p := ⟨w.heap.size, 5, none⟩) HZ1.out.lt).trans c5
      have d5d := (HWRD.out.cell (p := ⟨w.heap.size + 1, 5, none⟩) HZ2.out.lt).trans d5
      generalize t.l[k] = x1 at *
      generalize u.l[k] = x2 at *
      clear htk hx hy hbw f0 f1 f2 f3 f4 f5 g0 g1 g2 g3 g4 g5
      go_wp2
      refine wp_region_still_tail 10 (by kernel_rfl) (by kernel_rfl) ?_
      clear c5 d5
      change wpStill _ _ wr.drew (fun a' => wpList _ _ _ _ a' wr.drew) _ _
      generalize wr.drew = wd at *
      simp only [List.take_succ_cons, List.take_zero, List.drop_succ_cons, List.drop_zero]
      repeat still_step
      refine wpStill_nil ?_
      go_wp2_with fail
      refine (HC.out _ HWRD.out).mono ?_
      rintro e w5 ⟨r3, rfl, hr3, hb5⟩
      have HR3 := Lib.hid hr3
      have HB5 := Lib.hid (belowStep hb5 (belowStep HWRD.out HBW.out))
      clear hb5 hr3 c5d d5d f0d f1d f2d f3d f4d f5d g0d g1d g2d g3d g4d g5d
      cases r3
      · have HNO := Lib.hid (show ¬ t = u from fun h => (by have := HR3.out.2 (HGE.out h); cases this))
        go_wp2
        go_ret
        exact says_no HNO.out (belowStep HB5.out HB4.out)
      · have HTN := Lib.hid (HSN.out.2 (HR3.out.1 rfl))
        go_wp2
        go_roundg (gk - 1)
        case measure => omega
        case rel => exact ⟨k + 1, by omega, by go_num, by omega, HTN.out, HB5.out⟩
    · have q5 : decide ((k : Int) < (n : Int)) = false := decide_eq_false (by omega)
      have HYES := Lib.hid (show t = u from by
        have h := HTK.out
        rw [List.take_of_length_le (by rw [← HN.out]; omega), List.take_of_length_le (by rw [← HM.out]; omega)] at h
        exact con_ext HE.out.1 HE.out.2.1 HE.out.2.2 (HKR.out.1 (by simp)) (HNR.out.1 (by simp)) h)
      clear htk hbw
      go_wp2
      go_ret
      exact says_yes HYES.out HW0.out
end Go.Proofs.YtmjiocpcenbndaaGreatDoor
