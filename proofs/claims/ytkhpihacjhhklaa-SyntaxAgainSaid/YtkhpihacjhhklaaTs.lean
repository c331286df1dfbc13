/-
  Walks of layer 3: Paths, whole.
-/
import Derived.Test.YtkhpihacjhhklaaTr
namespace Go.Proofs.Ytkhpihacjhhklaa
open Go Go.RowKit
open Pl (Syn)
set_option linter.unusedSimpArgs false

set_option maxRecDepth 100000 in
set_option maxHeartbeats 4000000 in
theorem paths1_no (g : Nat) (w : World) (t : Syn) (v : Value) (P : Nat → Prop) (around depth : Int) (ht : SynV w P t v) (hpath : Pl.hasPath t.op = false) :
    Calls Try.prog 40 #[v, .int .i64 around, .int .i64 depth, .pointer (some ⟨g, 0, none⟩)] w fun e w' => e = .returned (.bool true) ∧ Below w.heap.size w w' := by
  obtain ⟨na, nn, nc, la, ln, lc, rfl⟩ := ht.form
  have HB := Lib.hid (show Below w.heap.size w (w.alloc (.cells #[.int .i64 t.op, .int .i64 t.n, .string t.s, .slice na nn nc, .slice la ln lc] 25)) from (Below.refl _ _).alloc (Nat.le_refl _) _)
  have HH := Lib.hid (fun W => hasPath_any t.op W)
  rw [hpath] at HH
  clear ht hpath
  go_enter Try.func40, Try.ntmps40
  go_wp2_with fail
  refine (HH.out _).mono ?_
  rintro e w1 ⟨rfl, rfl⟩
  go_wp2
  go_ret
  exact ⟨rfl, HB.out⟩
theorem paths_good (g : Nat) : (pathsV g).Good where
  enter := by
    intro args w
    show Sem.run Try.prog (callFunc 40 args) w = .ok (.enter 40 args) w
    kernel_rfl
  calls := fun σ γ w P t v around depth hi ht hP hb hc h0 h1 => by
    cases hp : Pl.hasPath t.op
    · refine (paths1_no g w t v P around depth ht hp).mono fun e w' h => ⟨h.1, γ, ?_, Fr.of_below h.2⟩
      show PInv g (if Pl.hasPath t.op then σ ++ [t.names] else σ) γ w'
      rw [hp]
      exact PInv.below hi h.2
    · refine (paths1_yes g σ γ w t v P around depth hi ht hP hb hc hp).mono ?_
      rintro e w' ⟨he, lv', h2, h3⟩
      refine ⟨he, lv', ?_, h3⟩
      show PInv g (if Pl.hasPath t.op then σ ++ [t.names] else σ) lv' w'
      rw [hp]
      exact h2
  keep := fun σ γ w w' hi hb => PInv.below hi hb
  lt := fun σ γ w i hi ho => by
    obtain ⟨h1, us, h2, h3, _⟩ := hi
    rcases ho with rfl | ho
    · exact h1.lt
    · exact (h3.lt i ho).2
  cnt_le := fun σ t around depth => by
    show (if Pl.hasPath t.op then σ ++ [t.names] else σ).length ≤ σ.length + 1
    split <;> simp
theorem paths_run (g : Nat) (t : Syn) : ∀ (pss : List (List ByteArray)) (around depth : Int), (pathsV g).run pss t around depth = (pss ++ t.paths, true) := by
  induction t using Syn.ind with
  | h t ih =>
    intro pss around depth
    have hl : ∀ l : List Syn, (∀ x ∈ l, ∀ (pss : List (List ByteArray)) (around depth : Int), (pathsV g).run pss x around depth = (pss ++ x.paths, true)) → ∀ (pss : List (List ByteArray)) (around depth : Int), (pathsV g).runs pss l around depth = (pss ++ Pl.pathss l, true) := by
      intro l
      induction l with
      | nil => intro _ pss around depth; rw [Visitor.runs_nil, Pl.pathss_nil, List.append_nil]
      | cons x r ihr =>
        intro h pss around depth
        rw [Visitor.runs_cons, h x List.mem_cons_self, Pl.pathss_cons]
        simp only [if_true]
        rw [ihr (fun y hy => h y (List.mem_cons_of_mem _ hy)), List.append_assoc]
    rw [Visitor.run_eq]
    show (if true = true then (pathsV g).runs (if Pl.hasPath t.op then pss ++ [t.names] else pss) t.l t.op (depth + 1) else _) = _
    rw [if_pos rfl, hl t.l ih, Pl.paths_eq]
    split <;> simp
/-- a slice of paths -/
def PathsAt (w : World) (P : Nat → Prop) (v : Value) (pss : List (List ByteArray)) : Prop :=
  ∃ a c, v = .slice a pss.length c ∧ pss.length ≤ maxLen ∧ (pss = [] ∨ ∃ b off, a = some ⟨b, off, none⟩ ∧ P b ∧ ∀ j (h : j < pss.length), ∃ ua un uc, w.cell? ⟨b, off + j, none⟩ = some (.slice ua un uc) ∧ StrSl w P (.slice ua un uc) pss[j])
theorem PathsAt.keep {w w' : World} {P : Nat → Prop} {v : Value} {pss : List (List ByteArray)} (h : PathsAt w P v pss) (hs : Same P w w') : PathsAt w' P v pss := by
  obtain ⟨a, c, h1, h2, h3⟩ := h
  refine ⟨a, c, h1, h2, ?_⟩
  rcases h3 with h3 | ⟨b, off, h3, h4, h5⟩
  · exact .inl h3
  · refine .inr ⟨b, off, h3, h4, fun j hj => ?_⟩
    obtain ⟨ua, un, uc, g1, g2⟩ := h5 j hj
    exact ⟨ua, un, uc, (hs.cell h4).trans g1, g2.keep hs⟩
theorem pathsAt_of {w : World} {base : Nat} {P : Nat → Prop} {v : Value} {us : List Value} {pss : List (List ByteArray)} (hul : us.length = pss.length) (hown : w.ownsRow base 22 1 v pss.length us) (hP : ∀ b, v.ownBlock = some b → P b)
    (hus : ∀ j (h : j < us.length) (h' : j < pss.length), StrSl w P us[j] pss[j]) : PathsAt w P v pss := by
  obtain ⟨hlen, hf⟩ := id hown
  rcases hf with ⟨rfl, h0⟩ | ⟨g, cap, cur, rfl, hgb, hg, hnc, hm, _, _⟩
  · refine ⟨none, 0, by rw [h0], by rw [h0]; exact Nat.zero_le _, .inl (List.eq_nil_of_length_eq_zero h0)⟩
  · refine ⟨some ⟨g, 0, none⟩, cap, rfl, Nat.le_trans hnc hm, .inr ⟨g, 0, rfl, hP g rfl, fun j hj => ?_⟩⟩
    have h1 := hus j (by omega) hj
    obtain ⟨ua, uc, e, _⟩ := h1.form
    refine ⟨ua, _, uc, ?_, e ▸ h1⟩
    rw [Nat.zero_add, hown.cellAt j (by omega), List.getElem?_eq_getElem (by omega), e]
def PathsPost (t : Syn) (w : World) (e : Ending) (w' : World) : Prop :=
  ((anyP t = true ∧ ∃ v, e = .returned (.tuple #[v, .int .i64 0]) ∧ PathsAt w' (fun b => b < w'.heap.size) v t.paths) ∨ (anyP t = false ∧ e = .returned (.tuple #[.slice none 0 0, .int .i64 1]))) ∧ Below w.heap.size w w'
set_option maxRecDepth 100000 in
set_option maxHeartbeats 4000000 in
theorem paths_any (P : Nat → Prop) (t : Syn) (w : World) (v : Value) (hP : ∀ b, P b → b < w.heap.size) (ht : SynV w P t v) (hbig : t.big ≤ 536870912) :
    Calls Try.prog 21 #[v] w (PathsPost t w) := by
  have hsb := Pl.size_big t
  have HT := Lib.hid ht
  obtain ⟨na, nn, nc, la, ln, lc, rfl⟩ := ht.form
  have hb : Below w.heap.size w (w.alloc (.cells #[.int .i64 t.op, .int .i64 t.n, .string t.s, .slice na nn nc, .slice la ln lc] 25)) := (Below.refl _ _).alloc (Nat.le_refl _) _
  have bx := blk_new w #[.int .i64 t.op, .int .i64 t.n, .string t.s, .slice na nn nc, .slice la ln lc] 25
  have HC := Lib.hid (isTree_any P t _ (.agg #[.int .i64 t.op, .int .i64 t.n, .string t.s, .slice na nn nc, .slice la ln lc]) (fun b hb' => Nat.lt_of_lt_of_le (hP b hb') hb.size) (HT.out.keep (Same.of_below hb hP)) hbig)
  have HB := Lib.hid hb
  have HBX := Lib.hid bx
  have HP := Lib.hid hP
  have hsz := size_alloc w (.cells #[.int .i64 t.op, .int .i64 t.n, .string t.s, .slice na nn nc, .slice la ln lc] 25)
  have HSZ := Lib.hid hsz
  generalize hat : anyP t = at' at *
  have HAT := Lib.hid hat
  clear ht hb hP bx hsz hat
  cases at'
  · go_enter Try.func21, Try.ntmps21
    go_wp2_with fail
    refine HC.out.mono ?_
    rintro e w1 ⟨rfl, hb1⟩
    have HB1 := Lib.hid (HB.out.trans (hb1.mono HB.out.size))
    clear hb1
    go_wp2
    go_ret2
    exact ⟨.inr ⟨HAT.out, rfl⟩, HB1.out⟩
  · go_enter Try.func21, Try.ntmps21
    go_wp2_with fail
    refine HC.out.mono ?_
    rintro e w1 ⟨rfl, hb1⟩
    have HB1 := Lib.hid (HB.out.trans (hb1.mono HB.out.size))
    have hbx := HBX.out.of_eq (hb1.block _ HBX.out.lt)
    have x0 := (hbx.alloc (.cells #[.slice none 0 0] 33)).cell 0 _ rfl
    have x1 := (hbx.alloc (.cells #[.slice none 0 0] 33)).cell 1 _ rfl
    have x2 := (hbx.alloc (.cells #[.slice none 0 0] 33)).cell 2 _ rfl
    have x3 := (hbx.alloc (.cells #[.slice none 0 0] 33)).cell 3 _ rfl
    have x4 := (hbx.alloc (.cells #[.slice none 0 0] 33)).cell 4 _ rfl
    have hw1 : Below w.heap.size w (w1.alloc (.cells #[.slice none 0 0] 33)) := HB1.out.alloc HB1.out.size _
    have hgb : w.heap.size ≤ w1.heap.size := HB1.out.size
    have hi : PInv w1.heap.size [] (.slice none 0 0) (w1.alloc (.cells #[.slice none 0 0] 33)) :=
      ⟨blk_new _ _ _, [], rfl, World.ownsRow_nil _ _ _ _, (fun u hu => by cases hu), fun j hj => absurd hj (Nat.not_lt_zero _)⟩
    have HV := Lib.hid (visit_any (pathsV w1.heap.size) (paths_good _) P t ([] : List (List ByteArray)) (.slice none 0 0) _ (.agg #[.int .i64 t.op, .int .i64 t.n, .string t.s, .slice na nn nc, .slice la ln lc]) hi (fun b hbp => ⟨Nat.lt_of_lt_of_le (HP.out b hbp) hw1.size, fun ho => by
      have := HP.out b hbp
      rcases ho with ho | ho
      · omega
      · cases ho⟩) (HT.out.keep (Same.of_below hw1 HP.out)) (by omega) (by show 0 + t.size ≤ 1073741824; omega))
    rw [paths_run] at HV
    have HW1 := Lib.hid hw1
    have HGB := Lib.hid hgb
    clear hb1 hbx hw1 hi hgb
    go_wp2_with fail
    refine HV.out.mono ?_
    rintro e w3 ⟨rfl, lv, hi3, hf3⟩
    have hi3' : PInv w1.heap.size ([] ++ t.paths) lv w3 := hi3
    rw [List.nil_append] at hi3'
    have g0 := hi3'.1.cell 0 _ rfl
    have HI3 := Lib.hid hi3'
    have HB3 := Lib.hid (fr_above (B := w.heap.size) HW1.out hf3 HW1.out.size (fun i ho => by
      rcases ho with ho | ho
      · have := HGB.out; omega
      · cases ho))
    clear hi3 hf3 hi3'
    go_wp2
    go_ret2
    refine ⟨.inl ⟨HAT.out, lv, rfl, ?_⟩, HB3.out⟩
    obtain ⟨_, us, h2, h3, _, h5⟩ := HI3.out
    exact pathsAt_of h2 h3 (fun b hb => (h3.lt b hb).2) (fun j hj hj' => (h5 j hj hj').mono (fun b hb => hb.1))
end Go.Proofs.Ytkhpihacjhhklaa
