/-
  Walks of layer 9: the reference's equality of kinds, and of lists of strings.
-/
import Derived.Test.YtmjiocpcenbndaaGreatDoorQc
namespace Go.Proofs.YtmjiocpcenbndaaGreatDoor
open Go Go.RowKit
open Pl (K Con)
set_option linter.unusedSimpArgs false

/-- the parts of a kind in memory, one by one -/
theorem kids9_each {w : World} {P : Nat → Prop} {a : Option Addr} {l : List K} (hka : ∀ (j : Nat) (hj : j < l.length), ∃ b off x, a = some ⟨b, off, none⟩ ∧ P b ∧ w.cell? ⟨b, off + j, none⟩ = some x ∧ KidV w P l[j] x) (h : 0 < l.length) : ∃ b off, a = some ⟨b, off, none⟩ ∧ P b ∧ ∀ (j : Nat) (hj : j < l.length), ∃ x, w.cell? ⟨b, off + j, none⟩ = some x ∧ KidV w P l[j] x := by
  obtain ⟨b, off, x0, rfl, hPb, -, -⟩ := hka 0 h
  refine ⟨b, off, rfl, hPb, fun j hj => ?_⟩
  obtain ⟨b', off', x, e, -, e2, e3⟩ := hka j hj
  injection e with e
  injection e with e e'
  subst e e'
  exact ⟨x, e2, e3⟩
theorem eqvs9_step (l m : List K) (k : Nat) (hk : k < l.length) (hm : k < m.length) : K.eqvs (l.drop k) (m.drop k) = (K.eqv l[k] m[k] && K.eqvs (l.drop (k + 1)) (m.drop (k + 1))) := by
  rw [List.drop_eq_getElem_cons hk, List.drop_eq_getElem_cons hm, K.eqvs]
theorem two9_new (w : World) (T : TypeId) (u v : Value) : Blk ((w.alloc (.cells #[u] T)).alloc (.cells #[v] T)) w.heap.size T #[u] ∧ Blk ((w.alloc (.cells #[u] T)).alloc (.cells #[v] T)) (w.heap.size + 1) T #[v] ∧ Below w.heap.size w ((w.alloc (.cells #[u] T)).alloc (.cells #[v] T)) := by
  have h := blk_new (w.alloc (.cells #[u] T)) #[v] T
  rw [size_alloc] at h
  exact ⟨(blk_new w #[u] T).alloc _, h, ((Below.refl _ _).alloc (Nat.le_refl _) _).alloc (by rw [size_alloc]; omega) _⟩
set_option maxRecDepth 100000 in
theorem rsameK_any (P Q : Nat → Prop) (t : K) : ∀ (u : K) (w : World) (v x : Value), (∀ b, P b → b < w.heap.size) → (∀ b, Q b → b < w.heap.size) → KV w P t v → KV w Q u x →
    Calls Tryz.prog 37 #[v, x] w fun e w' => e = .returned (.bool (K.eqv t u)) ∧ Below w.heap.size w w' := by
  induction t using K.ind with
  | h t ih =>
  intro u w v x hP hQ ht hu
  have HIH := Lib.hid ih
  clear ih
  obtain ⟨l⟩ := t
  obtain ⟨m⟩ := u
  obtain ⟨a, c, rfl, hlc, hcm, hka⟩ := ht.open
  obtain ⟨a2, c2, rfl, hlc2, hcm2, hka2⟩ := hu.open
  clear ht hu
  replace hka : ∀ (j : Nat) (hj : j < l.length), ∃ b off x, a = some ⟨b, off, none⟩ ∧ P b ∧ w.cell? ⟨b, off + j, none⟩ = some x ∧ KidV w P l[j] x := hka
  replace hka2 : ∀ (j : Nat) (hj : j < m.length), ∃ b off x, a2 = some ⟨b, off, none⟩ ∧ Q b ∧ w.cell? ⟨b, off + j, none⟩ = some x ∧ KidV w Q m[j] x := hka2
  replace hlc : l.length ≤ c := hlc
  replace hlc2 : m.length ≤ c2 := hlc2
  change Calls _ _ #[.agg #[.slice a l.length c], .agg #[.slice a2 m.length c2]] _ _
  have HR := Lib.hid (show K.eqv (.mk l) (.mk m) = (l.length == m.length && K.eqvs l m) from by rw [K.eqv])
  generalize K.eqv (.mk l) (.mk m) = R at HR ⊢
  by_cases h1 : l.length = m.length
  rotate_left
  · have HF := Lib.hid (show R = false from by rw [HR.out, beq_eq_false_iff_ne.2 h1, Bool.false_and])
    clear HR hka hka2 HIH
    generalize l.length = n at *
    generalize m.length = n2 at *
    obtain ⟨hbx, hbx2, hb⟩ := two9_new w 24 (.slice a n c) (.slice a2 n2 c2)
    have c0 := hbx.cell 0 (.slice a n c) rfl
    have d0 := hbx2.cell 0 (.slice a2 n2 c2) rfl
    have HB := Lib.hid hb
    clear hbx hbx2 hb
    have q1 : ((n : Int) != (n2 : Int)) = true := by simp; omega
    go_enter Tryz.func37, Tryz.ntmps37
    go_wp2_with fail
    go_ret
    exact ⟨by rw [HF.out]; rfl, HB.out⟩
  have HF := Lib.hid (show R = K.eqvs l m from by rw [HR.out, beq_iff_eq.2 h1, Bool.true_and])
  clear HR
  by_cases h2 : l.length = 0
  · have hl : l = [] := List.eq_nil_of_length_eq_zero h2
    have hm : m = [] := List.eq_nil_of_length_eq_zero (by omega)
    subst hl hm
    have HF2 := Lib.hid (show R = true from by rw [HF.out, K.eqvs])
    clear hka hka2 HIH h1 h2
    change Calls _ _ #[.agg #[.slice a 0 c], .agg #[.slice a2 0 c2]] _ _
    obtain ⟨hbx, hbx2, hb⟩ := two9_new w 24 (.slice a 0 c) (.slice a2 0 c2)
    have c0 := hbx.cell 0 (.slice a 0 c) rfl
    have d0 := hbx2.cell 0 (.slice a2 0 c2) rfl
    have HB := Lib.hid hb
    clear hbx hbx2 hb
    go_enter Tryz.func37, Tryz.ntmps37
    go_wp2_with fail
    go_loopg [5] 1 (fun g k wr => k = .int .i64 0 ∧ wr = (w.alloc (.cells #[.slice a 0 c] 24)).alloc (.cells #[.slice a2 0 c2] 24))
    case atStart => exact ⟨rfl, rfl⟩
    case round =>
      obtain ⟨rfl, rfl⟩ := hrel
      go_wp2
      go_ret
      exact ⟨by rw [HF2.out]; rfl, HB.out⟩
  obtain ⟨b, off, rfl, hPb, hk⟩ := kids9_each hka (by omega)
  obtain ⟨b2, off2, rfl, hQb, hk2⟩ := kids9_each hka2 (by omega)
  have HKA := Lib.hid hk
  have HKA2 := Lib.hid hk2
  have HP := Lib.hid hP
  have HQ := Lib.hid hQ
  have HPB := Lib.hid (hP b hPb)
  have HQB := Lib.hid (hQ b2 hQb)
  obtain ⟨n, hn⟩ : ∃ n, n = l.length := ⟨_, rfl⟩
  have hn2 : n = m.length := hn.trans h1
  rw [← hn] at hlc h2
  rw [← hn2] at hlc2
  rw [← hn, ← hn2]
  have HN := Lib.hid hn
  have HM := Lib.hid hn2
  have hll : n ≤ 9223372036854775807 := by unfold maxLen at hcm; omega
  clear hka hka2 hk hk2 hcm hcm2 hP hQ h1 hn hn2 hPb hQb
  obtain ⟨hbx, hbx2, hb⟩ := two9_new w 24 (.slice (some ⟨b, off, none⟩) n c) (.slice (some ⟨b2, off2, none⟩) n c2)
  have c0 := hbx.cell 0 (.slice (some ⟨b, off, none⟩) n c) rfl
  have d0 := hbx2.cell 0 (.slice (some ⟨b2, off2, none⟩) n c2) rfl
  have HB := Lib.hid hb
  have HBX := Lib.hid hbx
  have HBX2 := Lib.hid hbx2
  have q1 : ((n : Int) != (n : Int)) = false := by simp
  clear hbx hbx2 hb
  go_enter Tryz.func37, Tryz.ntmps37
  go_wp2_with fail
  clear c0 d0
  generalize ((w.alloc (.cells #[.slice (some ⟨b, off, none⟩) n c] 24)).alloc (.cells #[.slice (some ⟨b2, off2, none⟩) n c2] 24)) = w2 at *
  go_loopg [5] (n + 1) (fun g k wr => ∃ i : Nat, i ≤ n ∧ k = .int .i64 i ∧ g = n + 1 - i ∧ R = K.eqvs (l.drop i) (m.drop i) ∧ Below w2.heap.size w2 wr)
  case atStart => exact ⟨0, by omega, rfl, by omega, by rw [List.drop_zero, List.drop_zero]; exact HF.out, Below.refl _ _⟩
  case round =>
    obtain ⟨i, hi, rfl, hg, hR, hbw⟩ := hrel
    have HBW := Lib.hid hbw
    have HHR := Lib.hid hR
    have HW0 := Lib.hid (show Below w.heap.size w wr from HB.out.trans (hbw.mono HB.out.size))
    have z1 := (HBX.out.of_eq (hbw.block _ HBX.out.lt))
    have z2 := (HBX2.out.of_eq (hbw.block _ HBX2.out.lt))
    have c0 := z1.cell 0 (.slice (some ⟨b, off, none⟩) n c) rfl
    have d0 := z2.cell 0 (.slice (some ⟨b2, off2, none⟩) n c2) rfl
    have HZ1 := Lib.hid z1
    have HZ2 := Lib.hid z2
    by_cases hlt : i < n
    · have q5 : decide ((i : Int) < (n : Int)) = true := decide_eq_true (by omega)
      have hil : i < l.length := by rw [← HN.out]; exact hlt
      have him : i < m.length := by rw [← HM.out]; exact hlt
      obtain ⟨x, hx, hkx⟩ := HKA.out i hil
      obtain ⟨y, hy, hky⟩ := HKA2.out i him
      have HC := Lib.hid (fun W (hW : Below wr.heap.size wr W) => HIH.out l[i] (List.getElem_mem hil) m[i] W (.agg #[x]) (.agg #[y]) (fun b hb => Nat.lt_of_lt_of_le (HP.out b hb) (Nat.le_trans HW0.out.size hW.size)) (fun b hb => Nat.lt_of_lt_of_le (HQ.out b hb) (Nat.le_trans HW0.out.size hW.size)) ⟨x, rfl, hkx.keep (Same.of_below (HW0.out.trans (hW.mono HW0.out.size)) HP.out)⟩ ⟨y, rfl, hky.keep (Same.of_below (HW0.out.trans (hW.mono HW0.out.size)) HQ.out)⟩)
      have HN' := Lib.hid (show R = (K.eqv l[i] m[i] && K.eqvs (l.drop (i + 1)) (m.drop (i + 1))) from by rw [HHR.out, eqvs9_step l m i hil him])
      generalize K.eqv l[i] m[i] = r at *
      have HX := Lib.hid hx
      have HY := Lib.hid hy
      clear hR hbw hx hy hkx hky hil him z1 z2
      go_wp2
      refine wp_region_still_tail 10 (by kernel_rfl) (by kernel_rfl) ?_
      have hwd : Below wr.heap.size wr wr.drew := (Below.refl _ _).drew
      have c0d := (hwd.cell (p := ⟨w.heap.size, 0, none⟩) HZ1.out.lt).trans c0
      have d0d := (hwd.cell (p := ⟨w.heap.size + 1, 0, none⟩) HZ2.out.lt).trans d0
      have f0d := ((HW0.out.trans (hwd.mono HW0.out.size)).cell (p := ⟨b, off + i, none⟩) HPB.out).trans HX.out
      have g0d := ((HW0.out.trans (hwd.mono HW0.out.size)).cell (p := ⟨b2, off2 + i, none⟩) HQB.out).trans HY.out
      have HWD := Lib.hid hwd
      clear c0 d0 hwd
      change wpStill _ _ wr.drew (fun a' => wpList _ _ _ _ a' wr.drew) _ _
      generalize wr.drew = wd at *
      simp only [List.take_succ_cons, List.take_zero, List.drop_succ_cons, List.drop_zero]
      repeat still_step
      refine wpStill_nil ?_
      go_wp2_with fail
      refine (HC.out _ HWD.out).mono ?_
      rintro e w3 ⟨rfl, hb3⟩
      have HB3 := Lib.hid ((HBW.out.trans (HWD.out.mono HBW.out.size)).trans (hb3.mono (Nat.le_trans HBW.out.size HWD.out.size)))
      clear hb3 c0d d0d f0d g0d
      cases r
      · have HF2 := Lib.hid (show R = false from by rw [HN'.out, Bool.false_and])
        go_wp2
        go_ret
        exact ⟨by rw [HF2.out]; rfl, HB.out.trans (HB3.out.mono HB.out.size)⟩
      · have HF2 := Lib.hid (show R = K.eqvs (l.drop (i + 1)) (m.drop (i + 1)) from by rw [HN'.out, Bool.true_and])
        go_wp2
        go_roundg (gk - 1)
        case measure => omega
        case rel => exact ⟨i + 1, by omega, by go_num, by omega, HF2.out, HB3.out⟩
    · have q5 : decide ((i : Int) < (n : Int)) = false := decide_eq_false (by omega)
      have HF2 := Lib.hid (show R = true from by rw [HHR.out, List.drop_of_length_le (by rw [← HN.out]; omega), K.eqvs])
      clear hR hbw z1 z2
      go_wp2
      go_ret
      exact ⟨by rw [HF2.out]; rfl, HW0.out⟩

theorem bytes_ext {x y : ByteArray} (h : x.toList = y.toList) : x = y := by
  rw [ByteArray.toList_eq, ByteArray.toList_eq] at h
  exact ByteArray.ext (Array.toList_inj.1 h)
theorem below_drewN9 {B : Nat} {a w : World} (h : Below B a w) (n : Nat) : Below B a (w.drewN n) := ⟨h.os, h.tape, h.output, h.size, h.block⟩
theorem strs_len {w : World} {P : Nat → Prop} {v : Value} {zs : List ByteArray} (h : StrSl w P v zs) : ∃ a c, v = .slice a zs.length c ∧ zs.length ≤ c ∧ c ≤ maxLen := by
  obtain ⟨a, c, rfl, h1, h2, -⟩ := h
  exact ⟨a, c, rfl, h1, h2⟩
theorem strs_at {w : World} {P : Nat → Prop} {v : Value} {zs : List ByteArray} (h : StrSl w P v zs) (k : Nat) (hk : k < zs.length) : ∃ b off c, v = .slice (some ⟨b, off, none⟩) zs.length c ∧ w.cell? ⟨b, off + k, none⟩ = some (.string zs[k]) := by
  obtain ⟨a, c, rfl, h1, h2, -, -, h3⟩ := h
  rcases h3 with h3 | ⟨b, off, rfl, -, h4⟩
  · subst h3; exact absurd hk (Nat.not_lt_zero _)
  · exact ⟨b, off, c, rfl, h4 k hk⟩
theorem take_snoc_iff {α : Type} {l m : List α} (k : Nat) (hl : k < l.length) (hm : k < m.length) (h : l.take k = m.take k) : l.take (k + 1) = m.take (k + 1) ↔ l[k] = m[k] := by
  rw [List.take_succ_eq_append_getElem hl, List.take_succ_eq_append_getElem hm, h]
  simp only [List.append_cancel_left_eq, List.cons.injEq, and_true]
/-- a call answers a bool: whether this holds -/
def Says (p : Prop) (w : World) (e : Ending) (w' : World) : Prop := ∃ r : Bool, e = .returned (.bool r) ∧ (r = true ↔ p) ∧ Below w.heap.size w w'
theorem says_no {p : Prop} {w w' : World} (hp : ¬ p) (hb : Below w.heap.size w w') : Says p w (.returned (.bool false)) w' := ⟨false, rfl, ⟨fun h => (by cases h), fun h => absurd h hp⟩, hb⟩
theorem says_yes {p : Prop} {w w' : World} (hp : p) (hb : Below w.heap.size w w') : Says p w (.returned (.bool true)) w' := ⟨true, rfl, ⟨fun _ => hp, fun _ => rfl⟩, hb⟩
set_option maxRecDepth 100000 in
theorem rsameS_any (P Q : Nat → Prop) (zs ys : List ByteArray) (w : World) (v u : Value) (hz : StrSl w P v zs) (hy : StrSl w Q u ys) :
    Calls Tryz.prog 38 #[v, u] w (Says (zs = ys) w) := by
  have HZ := Lib.hid hz
  have HY := Lib.hid hy
  obtain ⟨a, c, rfl, hlc, hcm⟩ := strs_len hz
  obtain ⟨a2, c2, rfl, hlc2, hcm2⟩ := strs_len hy
  obtain ⟨n, hn⟩ : ∃ n, n = zs.length := ⟨_, rfl⟩
  obtain ⟨m, hm⟩ : ∃ n, n = ys.length := ⟨_, rfl⟩
  have HN := Lib.hid hn
  have HM := Lib.hid hm
  have hn63 : n ≤ 9223372036854775807 := by unfold maxLen at hcm; omega
  have hm63 : m ≤ 9223372036854775807 := by unfold maxLen at hcm2; omega
  rw [← hn] at HZ ⊢
  rw [← hm] at HY ⊢
  clear hz hy hcm hcm2 hlc hlc2 hn hm
  by_cases hnm : n = m
  rotate_left
  · have q1 : ((n : Int) != (m : Int)) = true := by simp; omega
    have HNO := Lib.hid (show ¬ zs = ys from fun h => hnm (by rw [HN.out, HM.out, h]))
    go_enter Tryz.func38, Tryz.ntmps38
    go_wp2_with fail
    go_ret
    exact says_no HNO.out (Below.refl _ _)
  subst hnm
  have q1 : ((n : Int) != (n : Int)) = false := by simp
  go_enter Tryz.func38, Tryz.ntmps38
  go_wp2_with fail
  go_loopg [5] (n + 1) (fun g i wr => ∃ k : Nat, k ≤ n ∧ i = .int .i64 k ∧ g = n + 1 - k ∧ zs.take k = ys.take k ∧ ∃ q, wr = w.drewN q)
  case atStart => exact ⟨0, by omega, rfl, by omega, rfl, 0, rfl⟩
  case round =>
    obtain ⟨k, hk, rfl, hg, htk, q, rfl⟩ := hrel
    have HTK := Lib.hid htk
    by_cases hlt : k < n
    · have q5 : decide ((k : Int) < (n : Int)) = true := decide_eq_true (by omega)
      have hkz : k < zs.length := by rw [← HN.out]; exact hlt
      have hky : k < ys.length := by rw [← HM.out]; exact hlt
      obtain ⟨b, off, c', e, f0⟩ := strs_at HZ.out k hkz
      obtain ⟨b2, off2, c2', e', g0⟩ := strs_at HY.out k hky
      injection e with e1 e2 e3
      subst e1 e3
      clear e2
      injection e' with e1 e2 e3
      subst e1 e3
      clear e2
      have HSN := Lib.hid (take_snoc_iff k hkz hky htk)
      have HGE := Lib.hid (show zs = ys → zs[k] = ys[k] from fun h => by subst h; rfl)
      generalize zs[k] = x at *
      generalize ys[k] = y at *
      have f1 : (w.drewN q).cell? ⟨b, off + k, none⟩ = some (.string x) := f0
      have g1 : (w.drewN q).cell? ⟨b2, off2 + k, none⟩ = some (.string y) := g0
      clear htk
      by_cases hxy : x = y
      · subst hxy
        have HTN := Lib.hid (HSN.out.2 rfl)
        clear HSN HGE
        go_wp2
        go_quiet (fail)
        go_wp2
        go_roundg (gk - 1)
        case measure => omega
        case rel => exact ⟨k + 1, by omega, by go_num, by omega, HTN.out, q + nq, rfl⟩
      · have q7 : (x.toList == y.toList) = false := beq_eq_false_iff_ne.2 (fun h => hxy (bytes_ext h))
        have HNO := Lib.hid (show ¬ zs = ys from fun h => hxy (HGE.out h))
        clear HSN HGE hxy
        go_wp2
        go_quiet (fail)
        go_wp2
        go_ret
        exact says_no HNO.out (below_drewN9 (below_drewN9 (Below.refl _ _) q) nq)
    · have q5 : decide ((k : Int) < (n : Int)) = false := decide_eq_false (by omega)
      have HYES := Lib.hid (show zs = ys from by
        have h := HTK.out
        rw [List.take_of_length_le (by rw [← HN.out]; omega), List.take_of_length_le (by rw [← HM.out]; omega)] at h
        exact h)
      clear htk
      go_wp2
      go_ret
      exact says_yes HYES.out (below_drewN9 (Below.refl _ _) q)
end Go.Proofs.YtmjiocpcenbndaaGreatDoor
