/-
  Walks and plain mathematics, several texts in one (Tg).
-/
import Derived.Test.YtkmgnibopmpcjaaGreatDoorH36
/-
  Walks of layer 3: all parts of one kind, and their names.
-/
namespace Go.Proofs.YtkmgnibopmpcjaaGreatDoor
open Go Go.RowKit
open Pl (Syn)
set_option linter.unusedSimpArgs false
structure SynFn where
  fid : FuncId
  cb : Nat
  p : Syn → Bool
  J : World → Prop
  enter : ∀ (args : Array Value) (w : World), Sem.run Tryz.prog (callFunc fid args) w = .ok (.enter fid args) w
  keep : ∀ (w w' : World), J w → Below w.heap.size w w' → J w'
  calls : ∀ (P : Nat → Prop) (t : Syn) (v : Value) (w : World), J w → (∀ b, P b → b < w.heap.size) → SynV w P t v → Calls Tryz.prog fid #[v, .pointer (some ⟨cb, 0, none⟩)] w fun e w' => e = .returned (.bool (p t)) ∧ Below w.heap.size w w'
theorem allS_false_at (p : Syn → Bool) (l : List Syn) (k : Nat) (hk : k < l.length) (h : p l[k] = false) : l.all p = false := by
  rw [List.all_eq_false]; exact ⟨l[k], List.getElem_mem hk, by simp [h]⟩
theorem allS_take_snoc (p : Syn → Bool) (l : List Syn) (k : Nat) (hk : k < l.length) : (l.take (k + 1)).all p = ((l.take k).all p && p l[k]) := by
  rw [List.take_succ_eq_append_getElem hk, List.all_append]; simp
set_option maxRecDepth 100000 in
set_option maxHeartbeats 4000000 in
theorem allSyn_any (F : SynFn) (P : Nat → Prop) (v : Value) (l : List Syn) (w : World) (hJ : F.J w) (hP : ∀ b, P b → b < w.heap.size) (h : SynSl w P v l) :
    Calls Tryz.prog 243 #[v, .func (.func F.fid) #[] #[.pointer (some ⟨F.cb, 0, none⟩)]] w fun e w' => e = .returned (.bool (l.all F.p)) ∧ Below w.heap.size w w' := by
  have HBL := Lib.hid (Below.refl w.heap.size w)
  rcases h.cases with ⟨rfl, a, c, rfl, -, -⟩ | ⟨b, off, n, c, rfl, hnl, hn0, hnc, hcm, hPb, hka⟩
  · clear h hJ
    go_enter Tryz.func243, Tryz.ntmps243
    go_wp2_with fail
    go_loopg [9] 1 (fun g v wr => v = .int .i64 0 ∧ wr = w)
    case atStart => exact ⟨rfl, rfl⟩
    case round =>
      obtain ⟨rfl, rfl⟩ := hrel
      go_wp2
      go_ret
      exact ⟨rfl, HBL.out⟩
  · unfold maxLen at hcm
    have HNL := Lib.hid hnl
    have HKA := Lib.hid hka
    have HP := Lib.hid hP
    have HPB := Lib.hid hPb
    have HJ := Lib.hid hJ
    have HF := Lib.hid F.calls
    have HE := Lib.hid F.enter
    have HKP := Lib.hid F.keep
    clear h hnl hka hP hPb hJ
    go_enter Tryz.func243, Tryz.ntmps243
    go_wp2_with fail
    go_loopg [9] (n + 1) (fun g v wr => ∃ k : Nat, k ≤ n ∧ v = .int .i64 k ∧ g = n + 1 - k ∧ Below w.heap.size w wr ∧ (l.take k).all F.p = true)
    case atStart => exact ⟨0, by omega, rfl, by omega, HBL.out, by simp⟩
    case round =>
      obtain ⟨k, hk, rfl, hg, hbw, hall⟩ := hrel
      have HA := Lib.hid hall
      have HBW := Lib.hid hbw
      clear hall
      by_cases hlt : k < n
      · have hkl : k < l.length := by rw [HNL.out]; exact hlt
        obtain ⟨xo, xn, xs, na, nn, nc, la, ln, lc, -, a0, a1, a2, a3, a4, hxs⟩ := (HKA.out.keep (Same.of_below hbw HP.out) HPB.out).part k hkl
        have hb2 : Below wr.heap.size wr (wr.alloc (.cells #[.int .i64 xo, .int .i64 xn, .string xs, .slice na nn nc, .slice la ln lc] 28)) := (Below.refl _ _).alloc (Nat.le_refl _) _
        have hPw : ∀ b, P b → b < wr.heap.size := fun b hb => Nat.lt_of_lt_of_le (HP.out b hb) hbw.size
        have HC := Lib.hid (HF.out P l[k] _ _ (HKP.out _ _ HJ.out (hbw.trans (hb2.mono hbw.size))) (fun b hb => Nat.lt_of_lt_of_le (hPw b hb) hb2.size) (hxs.keep (Same.of_below hb2 hPw)))
        have HNO := Lib.hid (fun h => allS_false_at F.p l k hkl h)
        have HYS := Lib.hid (allS_take_snoc F.p l k hkl)
        have HB2 := Lib.hid (hbw.trans (hb2.mono hbw.size))
        generalize F.p l[k] = r at *
        clear hbw hb2 hPw hxs
        go_wp2_with fail
        rw [HE.out, Oper.upon_enter]
        refine HC.out.mono ?_
        rintro e w3 ⟨rfl, hb3⟩
        have HB3 := Lib.hid (HB2.out.trans (hb3.mono HB2.out.size))
        clear hb3 a0 a1 a2 a3 a4
        cases r
        · go_wp2
          go_ret
          exact ⟨ret_bool (HNO.out (by first | rfl | trivial)).symm, HB3.out⟩
        · go_wp2
          go_roundg (gk - 1)
          case measure => omega
          case rel => exact ⟨k + 1, by omega, by go_num, by omega, HB3.out, by rw [HYS.out, HA.out]; rfl⟩
      · have HT := Lib.hid (show l.take k = l from List.take_of_length_le (by rw [HNL.out]; omega))
        clear hbw
        go_wp2
        go_ret
        have := HA.out
        rw [HT.out] at this
        exact ⟨ret_bool this.symm, HBW.out⟩
set_option maxHeartbeats 2000000 in
theorem allOf1_any (c : Int) (cb : Nat) (P : Nat → Prop) (t : Syn) (v : Value) (w : World) (hc : Blk w cb 3 #[.int .i64 c]) (hv : SynV w P t v) :
    Calls Tryz.prog 244 #[v, .pointer (some ⟨cb, 0, none⟩)] w fun e w' => e = .returned (.bool (Pl.bel t.op c)) ∧ Below w.heap.size w w' := by
  obtain ⟨na, nn, nc, la, ln, lc, rfl⟩ := hv.form
  have c0 := (hc.alloc (.cells #[.int .i64 t.op, .int .i64 t.n, .string t.s, .slice na nn nc, .slice la ln lc] 28)).cell 0 _ rfl
  have HB := Lib.hid (show Below w.heap.size w (w.alloc (.cells #[.int .i64 t.op, .int .i64 t.n, .string t.s, .slice na nn nc, .slice la ln lc] 28)) from (Below.refl _ _).alloc (Nat.le_refl _) _)
  clear hv hc
  go_enter Tryz.func244, Tryz.ntmps244
  go_wp2_with (go_at_call 58; refine (belongs_any _ _ _).mono ?_; rintro e w2 ⟨rfl, rfl⟩)
  go_ret
  exact ⟨rfl, HB.out⟩
def allOfFn (c : Int) (cb : Nat) : SynFn where
  fid := 244
  cb := cb
  p t := Pl.bel t.op c
  J w := Blk w cb 3 #[.int .i64 c]
  enter := fun args w => by kernel_rfl
  keep := fun w w' h hb => h.of_eq (hb.block _ h.lt)
  calls := fun P t v w hJ _ hv => allOf1_any c cb P t v w hJ hv
set_option maxHeartbeats 2000000 in
theorem allOf_any (P : Nat → Prop) (v : Value) (l : List Syn) (c : Int) (w : World) (hP : ∀ b, P b → b < w.heap.size) (h : SynSl w P v l) :
    Calls Tryz.prog 221 #[v, .int .i64 c] w fun e w' => e = .returned (.bool (Pl.allOf l c)) ∧ Below w.heap.size w w' := by
  have hb : Below w.heap.size w (w.alloc (.cells #[.int .i64 c] 3)) := (Below.refl _ _).alloc (Nat.le_refl _) _
  have HC := Lib.hid (allSyn_any (allOfFn c w.heap.size) P v l _ (blk_new w #[.int .i64 c] 3) (fun b hb' => Nat.lt_of_lt_of_le (hP b hb') hb.size) (h.keep (Same.of_below hb hP)))
  rw [show (allOfFn c w.heap.size).fid = 244 from rfl, show (allOfFn c w.heap.size).cb = w.heap.size from rfl, show l.all (allOfFn c w.heap.size).p = Pl.allOf l c from rfl] at HC
  have HB := Lib.hid hb
  clear hb h hP
  go_enter Tryz.func221, Tryz.ntmps221
  go_wp2_with fail
  refine HC.out.mono ?_
  rintro e w2 ⟨rfl, hb2⟩
  have HB2 := Lib.hid (HB.out.trans (hb2.mono HB.out.size))
  clear hb2
  go_wp2
  go_ret
  exact ⟨rfl, HB2.out⟩
theorem contains_ints (w : World) (u : Value) (ks : List Int) (x : Int) (h : IntSl w u ks) : Calls Tryz.prog 246 #[u, .int .i64 x] w fun e w' => e = .returned (.bool (ks.contains x)) ∧ w = w' := by
  obtain ⟨a, c, rfl, h1, h2⟩ := h
  rcases h2 with rfl | ⟨b, off, rfl, -, h3⟩
  · refine (Tryz.slices_Contains_int_empty a c x w).mono ?_
    rintro e w' ⟨rfl, rfl⟩
    exact ⟨rfl, rfl⟩
  · have := Tryz.slices_Contains_int b off ks.length c ks x w (Nat.le_refl _) (by omega) (fun j hj => by rw [h3 j hj]; simp [List.getD, hj])
    rw [List.take_length] at this
    refine this.mono ?_
    rintro e w' ⟨rfl, rfl⟩
    exact ⟨rfl, rfl⟩
set_option maxHeartbeats 2000000 in
theorem areKinds1_any (ks : List Int) (u : Value) (cb : Nat) (P : Nat → Prop) (t : Syn) (v : Value) (w : World) (hc : Blk w cb 61 #[u]) (hu : IntSl w u ks) (hv : SynV w P t v) :
    Calls Tryz.prog 245 #[v, .pointer (some ⟨cb, 0, none⟩)] w fun e w' => e = .returned (.bool (ks.contains t.op)) ∧ Below w.heap.size w w' := by
  obtain ⟨na, nn, nc, la, ln, lc, rfl⟩ := hv.form
  have c0 := (hc.alloc (.cells #[.int .i64 t.op, .int .i64 t.n, .string t.s, .slice na nn nc, .slice la ln lc] 28)).cell 0 _ rfl
  have hb : Below w.heap.size w (w.alloc (.cells #[.int .i64 t.op, .int .i64 t.n, .string t.s, .slice na nn nc, .slice la ln lc] 28)) := (Below.refl _ _).alloc (Nat.le_refl _) _
  have HC := Lib.hid (contains_ints _ u ks t.op (hu.below hb))
  have HB := Lib.hid hb
  generalize ks.contains t.op = r at HC ⊢
  clear hv hc hu hb
  go_enter Tryz.func245, Tryz.ntmps245
  go_wp2_with fail
  refine HC.out.mono ?_
  rintro e w2 ⟨rfl, rfl⟩
  go_wp2
  go_ret
  exact ⟨rfl, HB.out⟩
def kindsFn (ks : List Int) (u : Value) (cb : Nat) : SynFn where
  fid := 245
  cb := cb
  p t := ks.contains t.op
  J w := Blk w cb 61 #[u] ∧ IntSl w u ks
  enter := fun args w => by kernel_rfl
  keep := fun w w' h hb => ⟨h.1.of_eq (hb.block _ h.1.lt), h.2.below hb⟩
  calls := fun P t v w hJ _ hv => areKinds1_any ks u cb P t v w hJ.1 hJ.2 hv
set_option maxHeartbeats 2000000 in
theorem areKinds_any (P : Nat → Prop) (v u : Value) (l : List Syn) (ks : List Int) (w : World) (hP : ∀ b, P b → b < w.heap.size) (h : SynSl w P v l) (hu : IntSl w u ks) :
    Calls Tryz.prog 223 #[v, u] w fun e w' => e = .returned (.bool (Pl.kinds l ks)) ∧ Below w.heap.size w w' := by
  have hb : Below w.heap.size w (w.alloc (.cells #[u] 61)) := (Below.refl _ _).alloc (Nat.le_refl _) _
  have HC := Lib.hid (allSyn_any (kindsFn ks u w.heap.size) P v l _ ⟨blk_new w #[u] 61, hu.below hb⟩ (fun b hb' => Nat.lt_of_lt_of_le (hP b hb') hb.size) (h.keep (Same.of_below hb hP)))
  rw [show (kindsFn ks u w.heap.size).fid = 245 from rfl, show (kindsFn ks u w.heap.size).cb = w.heap.size from rfl, show l.all (kindsFn ks u w.heap.size).p = Pl.kinds l ks from rfl] at HC
  obtain ⟨a, c, rfl, -⟩ := hu
  have HB := Lib.hid hb
  clear hb h hP
  go_enter Tryz.func223, Tryz.ntmps223
  go_wp2_with fail
  refine HC.out.mono ?_
  rintro e w2 ⟨rfl, hb2⟩
  have HB2 := Lib.hid (HB.out.trans (hb2.mono HB.out.size))
  clear hb2
  go_wp2
  go_ret
  exact ⟨rfl, HB2.out⟩
set_option maxHeartbeats 2000000 in
theorem isTuple_any (P : Nat → Prop) (v : Value) (l : List Syn) (c : Int) (w : World) (hP : ∀ b, P b → b < w.heap.size) (h : SynSl w P v l) :
    Calls Tryz.prog 222 #[v, .int .i64 c] w fun e w' => e = .returned (.bool (Pl.tuple l c)) ∧ Below w.heap.size w w' := by
  have HC := Lib.hid (allOf_any P v l c w hP h)
  have HT := Lib.hid (show Pl.tuple l c = (decide (2 ≤ l.length ∧ l.length ≤ 9) && Pl.allOf l c) from rfl)
  have HBL := Lib.hid (Below.refl w.heap.size w)
  obtain ⟨a, lc, rfl, hm⟩ := h.form
  unfold maxLen at hm
  generalize Pl.tuple l c = rt at *
  generalize Pl.allOf l c = ra at *
  generalize l.length = n at *
  clear h hP
  by_cases hn : 2 ≤ n ∧ n ≤ 9
  · go_enter Tryz.func222, Tryz.ntmps222
    go_wp2_with fail
    refine HC.out.mono ?_
    rintro e w2 ⟨rfl, hb2⟩
    have HB2 := Lib.hid hb2
    clear hb2
    go_wp2
    go_ret
    exact ⟨ret_bool (by rw [HT.out, decide_eq_true hn]; rfl), HB2.out⟩
  · rw [decide_eq_false hn] at HT
    by_cases h2 : n < 2
    · have q : decide ((2 : Int) ≤ (n : Int)) = false := by simp; omega
      go_enter Tryz.func222, Tryz.ntmps222
      go_wp2
      go_ret
      exact ⟨ret_bool (by rw [HT.out]; rfl), HBL.out⟩
    · have q : decide ((n : Int) ≤ 9) = false := by simp; omega
      go_enter Tryz.func222, Tryz.ntmps222
      go_wp2
      go_ret
      exact ⟨ret_bool (by rw [HT.out]; rfl), HBL.out⟩
end Go.Proofs.YtkmgnibopmpcjaaGreatDoor
