/-
  Walks of layer 9: binders, how many parts, labels.
-/
import Derived.Test.YtmjiocpcenbndaaGreatDoorQf
namespace Go.Proofs.YtmjiocpcenbndaaGreatDoor
open Go Go.RowKit
open Pl (K Con)
set_option linter.unusedSimpArgs false

theorem rbinder_any (op : Int) (w : World) :
    Calls Tryz.prog 73 #[.int .i64 op] w fun e w' => e = .returned (.bool (Con.binder op)) ∧ w = w' := by
  have HV := Lib.hid (show Con.binder op = ((op == 9) || ((op == 10) || ((op == 11) || (op == 13)))) from rfl)
  cases h1 : (op == 9)
  rotate_left
  · rw [h1] at HV
    go_enter Tryz.func73, Tryz.ntmps73
    go_wp2
    go_ret
    exact ⟨by rw [HV.out]; rfl, rfl⟩
  cases h2 : (op == 10)
  rotate_left
  · rw [h1, h2] at HV
    go_enter Tryz.func73, Tryz.ntmps73
    go_wp2
    go_ret
    exact ⟨by rw [HV.out]; rfl, rfl⟩
  cases h3 : (op == 11)
  rotate_left
  · rw [h1, h2, h3] at HV
    go_enter Tryz.func73, Tryz.ntmps73
    go_wp2
    go_ret
    exact ⟨by rw [HV.out]; rfl, rfl⟩
  cases h4 : (op == 13)
  · rw [h1, h2, h3, h4] at HV
    go_enter Tryz.func73, Tryz.ntmps73
    go_wp2
    go_ret
    exact ⟨by rw [HV.out]; rfl, rfl⟩
  · rw [h1, h2, h3, h4] at HV
    go_enter Tryz.func73, Tryz.ntmps73
    go_wp2
    go_ret
    exact ⟨by rw [HV.out]; rfl, rfl⟩
/-- six cells in a box -/
theorem con_box {w : World} {P : Nat → Prop} {t : Con} {v : Value} (ht : ConV w P t v) : ∃ ka kn kc na nn nc la ln lc, v = .agg #[.int .i64 t.op, .int .i64 t.n, .string t.s, .slice ka kn kc, .slice na nn nc, .slice la ln lc] ∧ kn = t.kind.l.length ∧ nn = t.names.length ∧ ln = t.l.length ∧
    Blk (w.alloc (.cells #[.int .i64 t.op, .int .i64 t.n, .string t.s, .slice ka kn kc, .slice na nn nc, .slice la ln lc] 28)) w.heap.size 28 #[.int .i64 t.op, .int .i64 t.n, .string t.s, .slice ka kn kc, .slice na nn nc, .slice la ln lc] ∧
    Below w.heap.size w (w.alloc (.cells #[.int .i64 t.op, .int .i64 t.n, .string t.s, .slice ka kn kc, .slice na nn nc, .slice la ln lc] 28)) := by
  obtain ⟨ka, kn, kc, na, nn, nc, la, ln, lc, rfl, h1, h2, h3⟩ := ht.shape
  exact ⟨ka, kn, kc, na, nn, nc, la, ln, lc, rfl, h1, h2, h3, (boxN_new _ _ _).1, (boxN_new _ _ _).2⟩
/-- how many parts a node has; -1: as many as names -/
def Con.partsOf (op : Int) : Int := if op = 6 ∨ op = 12 then 2 else if op = 7 ∨ op = 8 then -1 else if Con.binder op then 1 else 0
theorem rparts_any (op : Int) (w : World) :
    Calls Tryz.prog 70 #[.int .i64 op] w fun e w' => e = .returned (.int .i64 (Con.partsOf op)) ∧ w = w' := by
  by_cases h1 : op = 6
  · subst h1
    go_enter Tryz.func70, Tryz.ntmps70
    go_wp2
    go_ret
    exact ⟨rfl, rfl⟩
  by_cases h2 : op = 12
  · subst h2
    go_enter Tryz.func70, Tryz.ntmps70
    go_wp2
    go_ret
    exact ⟨rfl, rfl⟩
  by_cases h3 : op = 7
  · subst h3
    go_enter Tryz.func70, Tryz.ntmps70
    go_wp2
    go_ret
    exact ⟨rfl, rfl⟩
  by_cases h4 : op = 8
  · subst h4
    go_enter Tryz.func70, Tryz.ntmps70
    go_wp2
    go_ret
    exact ⟨rfl, rfl⟩
  have HV := Lib.hid (show Con.partsOf op = if Con.binder op then 1 else 0 from by unfold Con.partsOf; rw [if_neg (by omega), if_neg (by omega)])
  have HC := Lib.hid (fun W => rbinder_any op W)
  have q1 : (op == 6) = false := by simpa using h1
  have q2 : (op == 12) = false := by simpa using h2
  have q3 : (op == 7) = false := by simpa using h3
  have q4 : (op == 8) = false := by simpa using h4
  generalize Con.binder op = r at HC HV
  clear h1 h2 h3 h4
  go_enter Tryz.func70, Tryz.ntmps70
  go_wp2_with fail
  refine (HC.out _).mono ?_
  rintro e w' ⟨rfl, rfl⟩
  cases r
  · go_wp2
    go_ret
    exact ⟨by rw [HV.out]; rfl, rfl⟩
  · go_wp2
    go_ret
    exact ⟨by rw [HV.out]; rfl, rfl⟩
theorem StrSl.sliceOf {w : World} {P : Nat → Prop} {v : Value} {zs : List ByteArray} (h : StrSl w P v zs) (hP : ∀ b, P b → b < w.heap.size) : SliceOf w v zs := by
  obtain ⟨a, c, rfl, h1, h2, h3, h4, h5⟩ := h
  by_cases h0 : zs = []
  · subst h0; exact .inl ⟨rfl, a, c, rfl⟩
  · rcases h5 with h5 | ⟨b, off, rfl, hb, h6⟩
    · exact absurd h5 h0
    · refine .inr ⟨b, off, c, rfl, ?_, h1, h2, hP b hb, h4, fun j hj => ?_⟩
      · cases zs with
        | nil => exact absurd rfl h0
        | cons x r => simp
      · rw [h6 j hj]; simp [List.getD, hj]
/-- labels that ascend, not too many -/
def Con.labelsOk (zs : List ByteArray) : Bool := zs.all (fun z => Pl.isLabel z.toList) && (decide (zs.length ≤ 1000) && asc zs)
theorem all_take_step {α : Type} (p : α → Bool) (l : List α) (k : Nat) (hk : k < l.length) : (l.take (k + 1)).all p = ((l.take k).all p && p l[k]) := by
  rw [List.take_succ_eq_append_getElem hk, List.all_append]
  simp
theorem all_miss {α : Type} (p : α → Bool) (l : List α) (k : Nat) (hk : k < l.length) (h : p l[k] = false) : l.all p = false := by
  rw [List.all_eq_false]
  exact ⟨l[k], List.getElem_mem hk, by rw [h]; simp⟩
set_option maxRecDepth 100000 in
theorem rlabels_any (P : Nat → Prop) (zs : List ByteArray) (w : World) (v : Value) (hP : ∀ b, P b → b < w.heap.size) (hz : StrSl w P v zs) :
    Calls Tryz.prog 71 #[v] w fun e w' => e = .returned (.bool (Con.labelsOk zs)) ∧ Below w.heap.size w w' := by
  have HZ := Lib.hid hz
  have HS := Lib.hid (hz.sliceOf hP)
  obtain ⟨a, c, hv, h1, h2, h3, h4, -⟩ := hz
  have HSZ := Lib.hid h4
  subst hv
  obtain ⟨n, hn⟩ : ∃ n, n = zs.length := ⟨_, rfl⟩
  have HN := Lib.hid hn
  have hn63 : n ≤ 9223372036854775807 := by unfold maxLen at h2; omega
  have HV := Lib.hid (show Con.labelsOk zs = (zs.all (fun z => Pl.isLabel z.toList) && (decide (n ≤ 1000) && asc zs)) from by rw [hn]; rfl)
  generalize Con.labelsOk zs = R at HV ⊢
  rw [← hn] at HZ HS ⊢
  clear h1 h2 h3 h4 hn
  go_enter Tryz.func71, Tryz.ntmps71
  go_wp2_with fail
  go_loopg [3] (n + 1) (fun g i wr => ∃ k : Nat, k ≤ n ∧ i = .int .i64 k ∧ g = n + 1 - k ∧ (zs.take k).all (fun z => Pl.isLabel z.toList) = true ∧ wr = w)
  case atStart => exact ⟨0, by omega, rfl, by omega, by simp, rfl⟩
  case round =>
    obtain ⟨k, hk, rfl, hg, hin, rfl⟩ := hrel
    have HI := Lib.hid hin
    clear hin
    by_cases hlt : k < n
    · have q5 : decide ((k : Int) < (n : Int)) = true := decide_eq_true (by omega)
      have hkz : k < zs.length := by rw [← HN.out]; exact hlt
      obtain ⟨b, off, c', e, f0⟩ := strs_at HZ.out k hkz
      injection e with e1 e2 e3
      subst e1 e3
      clear e2
      have HC := Lib.hid (fun W => rIsLabel_any zs[k] W (HSZ.out _ (List.getElem_mem hkz)))
      have HT := Lib.hid (all_take_step (fun z : ByteArray => Pl.isLabel z.toList) zs k hkz)
      have HM := Lib.hid (all_miss (fun z : ByteArray => Pl.isLabel z.toList) zs k hkz)
      generalize zs[k] = x at *
      generalize hr : Pl.isLabel x.toList = r at HC
      have HR := Lib.hid hr
      clear hr
      go_wp2_with fail
      refine (HC.out _).mono ?_
      rintro e w' ⟨rfl, rfl⟩
      cases r
      · have HF := Lib.hid (show R = false from by rw [HV.out, HM.out HR.out, Bool.false_and])
        go_wp2
        go_ret
        exact ⟨by rw [HF.out]; rfl, Below.refl _ _⟩
      · have HT2 := Lib.hid (show (zs.take (k + 1)).all (fun z => Pl.isLabel z.toList) = true from by rw [HT.out, HI.out]; exact HR.out)
        clear HM HT f0
        go_wp2
        go_roundg (gk - 1)
        case measure => omega
        case rel => exact ⟨k + 1, by omega, by go_num, by omega, HT2.out, rfl⟩
    · have q5 : decide ((k : Int) < (n : Int)) = false := decide_eq_false (by omega)
      have HA := Lib.hid (show zs.all (fun z => Pl.isLabel z.toList) = true from by have := HI.out; rwa [List.take_of_length_le (by rw [← HN.out]; omega)] at this)
      by_cases h1000 : n ≤ 1000
      · have q6 : decide ((n : Int) ≤ 1000) = true := decide_eq_true (by omega)
        have HF := Lib.hid (show R = asc zs from by rw [HV.out, HA.out, decide_eq_true h1000]; rfl)
        have HC := Lib.hid (rasc_of HS.out)
        generalize asc zs = r at HC HF
        go_wp2_with fail
        refine HC.out.mono ?_
        rintro e w' ⟨rfl, hb⟩
        have HB := Lib.hid hb
        clear hb
        go_wp2
        go_ret
        exact ⟨by rw [HF.out]; rfl, HB.out⟩
      · have q6 : decide ((n : Int) ≤ 1000) = false := decide_eq_false (by omega)
        have HF := Lib.hid (show R = false from by rw [HV.out, HA.out, decide_eq_false h1000]; rfl)
        go_wp2
        go_ret
        exact ⟨by rw [HF.out]; rfl, Below.refl _ _⟩
end Go.Proofs.YtmjiocpcenbndaaGreatDoor
