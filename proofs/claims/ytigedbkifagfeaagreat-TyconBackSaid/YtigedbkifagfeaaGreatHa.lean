/-
  Layer 9: several texts in one (Qn Qo Qp Qq).
-/
import Derived.Test.YtigedbkifagfeaaGreatQl
import Derived.Deep.RegionHeld3
namespace Go.Proofs.YtigedbkifagfeaaGreat
open Go Go.RowKit
open Pl (K Con)
set_option linter.unusedSimpArgs false

/-- whether two constructors are equal -/
noncomputable def Con.sameB (t u : Con) : Bool := @decide (t = u) (Classical.propDecidable _)
theorem sameB_iff (t u : Con) : Con.sameB t u = true ↔ t = u := by unfold Con.sameB; exact @decide_eq_true_iff _ (Classical.propDecidable _)
theorem sameB_self (t : Con) : Con.sameB t t = true := (sameB_iff t t).2 rfl
theorem rsameB_any (P Q : Nat → Prop) (t u : Con) (w : World) (v x : Value) (hP : ∀ b, P b → b < w.heap.size) (hQ : ∀ b, Q b → b < w.heap.size) (ht : ConV w P t v) (hu : ConV w Q u x) :
    Calls Tryz.prog 15 #[v, x] w fun e w' => e = .returned (.bool (Con.sameB t u)) ∧ Below w.heap.size w w' := by
  refine (rsame9_any P Q t u w v x hP hQ ht hu).mono ?_
  rintro e w' ⟨r, rfl, hr, hb⟩
  refine ⟨?_, hb⟩
  have : r = Con.sameB t u := by
    rw [Bool.eq_iff_iff, hr, sameB_iff]
  rw [this]
/-- what the program's functions answer -/
structure Code9 : Prop where
  valid : ∀ (P : Nat → Prop) (t : Con) (W : World) (v : Value), (∀ b, P b → b < W.heap.size) → ConV W P t v → Calls Tryz.prog 12 #[v] W fun e w' => e = .returned (.bool (Con.validB t)) ∧ Below W.heap.size W w'
  equal : ∀ (P Q : Nat → Prop) (t u : Con) (W : World) (v x : Value), (∀ b, P b → b < W.heap.size) → (∀ b, Q b → b < W.heap.size) → ConV W P t v → ConV W Q u x → Calls Tryz.prog 14 #[v, x] W fun e w' => e = .returned (.bool (Con.sameB t u)) ∧ Below W.heap.size W w'
  size : ∀ (P : Nat → Prop) (t : Con) (W : World) (v : Value), (∀ b, P b → b < W.heap.size) → ConV W P t v → t.size ≤ 1000000 → Calls Tryz.prog 16 #[v] W fun e w' => e = .returned (.int .i64 t.size) ∧ Below W.heap.size W w'
/-- the examples hold -/
def Awake9 : Prop := ∀ W : World, Calls Tryz.prog 10 #[] W fun e w' => e = .returned (.bool true) ∧ Below W.heap.size W w'
/-- two constructors side by side -/
theorem cons_two {w : World} {P : Nat → Prop} {g : Nat} {t u : Con} {x0 x1 x2 x3 x4 x5 y0 y1 y2 y3 y4 y5 : Value} (hb : Blk w g 28 #[x0, x1, x2, x3, x4, x5, y0, y1, y2, y3, y4, y5]) (hg : P g) (ht : ConV w P t (.agg #[x0, x1, x2, x3, x4, x5])) (hu : ConV w P u (.agg #[y0, y1, y2, y3, y4, y5])) : ConSl w P (.slice (some ⟨g, 0, none⟩) 2 2) [t, u] := by
  refine ⟨_, 2, rfl, by simp, by unfold maxLen; omega, (fun h => by cases h), .inr ⟨g, 0, rfl, hg, ?_⟩⟩
  rw [ConsAt, ConsAt, ConsAt]
  exact ⟨⟨_, ⟨x0, x1, x2, x3, x4, x5, rfl, hb.cell 0 _ rfl, hb.cell 1 _ rfl, hb.cell 2 _ rfl, hb.cell 3 _ rfl, hb.cell 4 _ rfl, hb.cell 5 _ rfl⟩, ht⟩, ⟨_, ⟨y0, y1, y2, y3, y4, y5, rfl, hb.cell 6 _ rfl, hb.cell 7 _ rfl, hb.cell 8 _ rfl, hb.cell 9 _ rfl, hb.cell 10 _ rfl, hb.cell 11 _ rfl⟩, hu⟩, trivial⟩
set_option maxRecDepth 100000 in
set_option maxHeartbeats 8000000 in
theorem checks_walk (C : Code9) (A : Awake9) (t u : Con) (w : World) (v x : Value) (ht : ConV w (· < w.heap.size) t v) (hu : ConV w (· < w.heap.size) u x) :
    Calls Tryz.prog 3 #[v, x] w fun e w' => e = .returned (.bool true) ∧ Below w.heap.size w w' := by
  have HA := Lib.hid A
  have HUP := Lib.hid (fun W (hW : Below w.heap.size w W) => (show ∀ b, b < w.heap.size → b < W.heap.size from fun b h => Nat.lt_of_lt_of_le h hW.size))
  have HT := Lib.hid (fun W (hW : Below w.heap.size w W) => ht.below (fun _ h => h) hW)
  have HU := Lib.hid (fun W (hW : Below w.heap.size w W) => hu.below (fun _ h => h) hW)
  have HV := Lib.hid (fun W (hW : Below w.heap.size w W) => C.valid (· < w.heap.size) t W v (HUP.out W hW) (HT.out W hW))
  have HRV := Lib.hid (fun W (hW : Below w.heap.size w W) => rvalid9_any (· < w.heap.size) t W v (HUP.out W hW) (HT.out W hW))
  have HE := Lib.hid (fun W (hW : Below w.heap.size w W) => C.equal (· < w.heap.size) (· < w.heap.size) t u W v x (HUP.out W hW) (HUP.out W hW) (HT.out W hW) (HU.out W hW))
  have HRE := Lib.hid (fun W (hW : Below w.heap.size w W) => rsameB_any (· < w.heap.size) (· < w.heap.size) t u W v x (HUP.out W hW) (HUP.out W hW) (HT.out W hW) (HU.out W hW))
  have HEE := Lib.hid (fun W (hW : Below w.heap.size w W) => C.equal (· < w.heap.size) (· < w.heap.size) t t W v v (HUP.out W hW) (HUP.out W hW) (HT.out W hW) (HT.out W hW))
  rw [sameB_self] at HEE
  have HS := Lib.hid (fun W (hW : Below w.heap.size w W) (hs : t.size ≤ 1000000) => C.size (· < w.heap.size) t W v (HUP.out W hW) (HT.out W hW) hs)
  have HRS := Lib.hid (fun W (hW : Below w.heap.size w W) (hs : t.size ≤ 1000000) => rsize9_any (· < w.heap.size) t W v (HUP.out W hW) (HT.out W hW) (by omega))
  have HSM := Lib.hid (fun W x' (hW : Below w.heap.size w W) (hl : ConSl W (· < W.heap.size) x' [t, u]) => small_any (· < W.heap.size) [t, u] W x' (fun _ h => h) hl)
  generalize Con.validB t = r1 at *
  generalize Con.sameB t u = r2 at *
  obtain ⟨ka, kn, kc, na, nn, nc, la, ln, lc, rfl, -, -, -⟩ := ht.shape
  obtain ⟨ka2, kn2, kc2, na2, nn2, nc2, la2, ln2, lc2, rfl, -, -, -⟩ := hu.shape
  obtain ⟨hbx, hbx2, hb⟩ := twoN_new w 28 28 #[.int .i64 t.op, .int .i64 t.n, .string t.s, .slice ka kn kc, .slice na nn nc, .slice la ln lc] #[.int .i64 u.op, .int .i64 u.n, .string u.s, .slice ka2 kn2 kc2, .slice na2 nn2 nc2, .slice la2 ln2 lc2]
  have HB := Lib.hid hb
  have HBX := Lib.hid hbx
  have HBX2 := Lib.hid hbx2
  clear hbx hbx2 hb ht hu C A
  go_enter Tryz.func3, Tryz.ntmps3
  go_wp2_with fail
  generalize (w.alloc (.cells #[.int .i64 t.op, .int .i64 t.n, .string t.s, .slice ka kn kc, .slice na nn nc, .slice la ln lc] 28)).alloc (.cells #[.int .i64 u.op, .int .i64 u.n, .string u.s, .slice ka2 kn2 kc2, .slice na2 nn2 nc2, .slice la2 ln2 lc2] 28) = w2 at *
  refine (HA.out _).mono ?_
  rintro e w3 ⟨rfl, hb3⟩
  replace HB := Lib.hid (belowStep hb3 HB.out)
  replace HBX := Lib.hid (HBX.out.of_eq (hb3.block _ HBX.out.lt))
  replace HBX2 := Lib.hid (HBX2.out.of_eq (hb3.block _ HBX2.out.lt))
  clear hb3
  have c0 := HBX.out.cell 0 (.int .i64 t.op) rfl
  have c1 := HBX.out.cell 1 (.int .i64 t.n) rfl
  have c2 := HBX.out.cell 2 (.string t.s) rfl
  have c3 := HBX.out.cell 3 (.slice ka kn kc) rfl
  have c4 := HBX.out.cell 4 (.slice na nn nc) rfl
  have c5 := HBX.out.cell 5 (.slice la ln lc) rfl
  have d0 := HBX2.out.cell 0 (.int .i64 u.op) rfl
  have d1 := HBX2.out.cell 1 (.int .i64 u.n) rfl
  have d2 := HBX2.out.cell 2 (.string u.s) rfl
  have d3 := HBX2.out.cell 3 (.slice ka2 kn2 kc2) rfl
  have d4 := HBX2.out.cell 4 (.slice na2 nn2 nc2) rfl
  have d5 := HBX2.out.cell 5 (.slice la2 ln2 lc2) rfl
  go_wp2_with fail
  clear c0 c1 c2 c3 c4 c5 d0 d1 d2 d3 d4 d5
  obtain ⟨hbx, hb⟩ := boxN_new w3 28 #[.int .i64 t.op, .int .i64 t.n, .string t.s, .slice ka kn kc, .slice na nn nc, .slice la ln lc, .int .i64 u.op, .int .i64 u.n, .string u.s, .slice ka2 kn2 kc2, .slice na2 nn2 nc2, .slice la2 ln2 lc2]
  have HPAIR := Lib.hid (cons_two (P := (· < (w3.alloc (.cells #[.int .i64 t.op, .int .i64 t.n, .string t.s, .slice ka kn kc, .slice na nn nc, .slice la ln lc, .int .i64 u.op, .int .i64 u.n, .string u.s, .slice ka2 kn2 kc2, .slice na2 nn2 nc2, .slice la2 ln2 lc2] 28)).heap.size)) hbx hbx.lt ((HT.out _ (belowStep hb HB.out)).mono (fun b h => Nat.lt_of_lt_of_le h (Nat.le_trans HB.out.size hb.size))) ((HU.out _ (belowStep hb HB.out)).mono (fun b h => Nat.lt_of_lt_of_le h (Nat.le_trans HB.out.size hb.size))))
  replace HB := Lib.hid (belowStep hb HB.out)
  replace HBX := Lib.hid (HBX.out.of_eq (hb.block _ HBX.out.lt))
  replace HBX2 := Lib.hid (HBX2.out.of_eq (hb.block _ HBX2.out.lt))
  clear hbx hb
  generalize w3.alloc (.cells #[.int .i64 t.op, .int .i64 t.n, .string t.s, .slice ka kn kc, .slice na nn nc, .slice la ln lc, .int .i64 u.op, .int .i64 u.n, .string u.s, .slice ka2 kn2 kc2, .slice na2 nn2 nc2, .slice la2 ln2 lc2] 28) = w4 at *
  refine (HSM.out _ _ HB.out HPAIR.out).mono ?_
  rintro e w5 ⟨⟨r, rfl, hr⟩, hb5⟩
  have HR := Lib.hid hr
  replace HB := Lib.hid (belowStep hb5 HB.out)
  replace HBX := Lib.hid (HBX.out.of_eq (hb5.block _ HBX.out.lt))
  replace HBX2 := Lib.hid (HBX2.out.of_eq (hb5.block _ HBX2.out.lt))
  clear hb5 hr HPAIR HSM
  cases r
  · go_wp2_with fail
    refine (HA.out _).mono ?_
    rintro e w6 ⟨rfl, hb6⟩
    have HB6 := Lib.hid (belowStep hb6 HB.out)
    clear hb6
    go_wp2
    go_ret
    exact ⟨rfl, HB6.out⟩
  have hsz : t.size ≤ 1000000 := by
    have h1 := HR.out rfl t (by simp)
    have h2 := size_le_wt t
    unfold Con.Small9 at h1
    omega
  have GV := Lib.hid (fun W (hW : Below w5.heap.size w5 W) => HV.out W (belowStep hW HB.out))
  have GRV := Lib.hid (fun W (hW : Below w5.heap.size w5 W) => HRV.out W (belowStep hW HB.out))
  have GE := Lib.hid (fun W (hW : Below w5.heap.size w5 W) => HE.out W (belowStep hW HB.out))
  have GEE := Lib.hid (fun W (hW : Below w5.heap.size w5 W) => HEE.out W (belowStep hW HB.out))
  have GRE := Lib.hid (fun W (hW : Below w5.heap.size w5 W) => HRE.out W (belowStep hW HB.out))
  have GS := Lib.hid (fun W (hW : Below w5.heap.size w5 W) => HS.out W (belowStep hW HB.out) hsz)
  have GRS := Lib.hid (fun W (hW : Below w5.heap.size w5 W) => HRS.out W (belowStep hW HB.out) hsz)
  have HSS := Lib.hid (fun W (hW : Below w5.heap.size w5 W) => (show Below w5.heap.size w5 W ∧ W.cell? ⟨w.heap.size, 0, none⟩ = some (.int .i64 t.op) ∧ W.cell? ⟨w.heap.size, 1, none⟩ = some (.int .i64 t.n) ∧ W.cell? ⟨w.heap.size, 2, none⟩ = some (.string t.s) ∧ W.cell? ⟨w.heap.size, 3, none⟩ = some (.slice ka kn kc) ∧ W.cell? ⟨w.heap.size, 4, none⟩ = some (.slice na nn nc) ∧ W.cell? ⟨w.heap.size, 5, none⟩ = some (.slice la ln lc) ∧ W.cell? ⟨w.heap.size + 1, 0, none⟩ = some (.int .i64 u.op) ∧ W.cell? ⟨w.heap.size + 1, 1, none⟩ = some (.int .i64 u.n) ∧ W.cell? ⟨w.heap.size + 1, 2, none⟩ = some (.string u.s) ∧ W.cell? ⟨w.heap.size + 1, 3, none⟩ = some (.slice ka2 kn2 kc2) ∧ W.cell? ⟨w.heap.size + 1, 4, none⟩ = some (.slice na2 nn2 nc2) ∧ W.cell? ⟨w.heap.size + 1, 5, none⟩ = some (.slice la2 ln2 lc2) from ⟨hW, (HBX.out.of_eq (hW.block _ HBX.out.lt)).cell 0 _ rfl, (HBX.out.of_eq (hW.block _ HBX.out.lt)).cell 1 _ rfl, (HBX.out.of_eq (hW.block _ HBX.out.lt)).cell 2 _ rfl, (HBX.out.of_eq (hW.block _ HBX.out.lt)).cell 3 _ rfl, (HBX.out.of_eq (hW.block _ HBX.out.lt)).cell 4 _ rfl, (HBX.out.of_eq (hW.block _ HBX.out.lt)).cell 5 _ rfl, (HBX2.out.of_eq (hW.block _ HBX2.out.lt)).cell 0 _ rfl, (HBX2.out.of_eq (hW.block _ HBX2.out.lt)).cell 1 _ rfl, (HBX2.out.of_eq (hW.block _ HBX2.out.lt)).cell 2 _ rfl, (HBX2.out.of_eq (hW.block _ HBX2.out.lt)).cell 3 _ rfl, (HBX2.out.of_eq (hW.block _ HBX2.out.lt)).cell 4 _ rfl, (HBX2.out.of_eq (hW.block _ HBX2.out.lt)).cell 5 _ rfl⟩))
  have HD0 := Lib.hid (Below.refl w5.heap.size w5).drew
  have q1 : (r1 == r1) = true := by simp
  have q2 : (r2 == r2) = true := by simp
  have q3 : ((t.size : Int) == (t.size : Int)) = true := by simp
  generalize t.size = sz at *
  generalize t.op = op at *
  generalize t.n = num at *
  generalize t.s = s at *
  generalize u.op = op2 at *
  generalize u.n = num2 at *
  generalize u.s = s2 at *
  clear HT HU HUP HV HRV HE HRE HEE HS HRS HR HA hsz
  go_wp2
  go_region_held3 (fun W => Below w5.heap.size w5 W ∧ W.cell? ⟨w.heap.size, 0, none⟩ = some (.int .i64 op) ∧ W.cell? ⟨w.heap.size, 1, none⟩ = some (.int .i64 num) ∧ W.cell? ⟨w.heap.size, 2, none⟩ = some (.string s) ∧ W.cell? ⟨w.heap.size, 3, none⟩ = some (.slice ka kn kc) ∧ W.cell? ⟨w.heap.size, 4, none⟩ = some (.slice na nn nc) ∧ W.cell? ⟨w.heap.size, 5, none⟩ = some (.slice la ln lc) ∧ W.cell? ⟨w.heap.size + 1, 0, none⟩ = some (.int .i64 op2) ∧ W.cell? ⟨w.heap.size + 1, 1, none⟩ = some (.int .i64 num2) ∧ W.cell? ⟨w.heap.size + 1, 2, none⟩ = some (.string s2) ∧ W.cell? ⟨w.heap.size + 1, 3, none⟩ = some (.slice ka2 kn2 kc2) ∧ W.cell? ⟨w.heap.size + 1, 4, none⟩ = some (.slice na2 nn2 nc2) ∧ W.cell? ⟨w.heap.size + 1, 5, none⟩ = some (.slice la2 ln2 lc2))
      (exact HSS.out _ (by with_reducible (repeat (first | exact Below.refl _ _ | exact HD0.out | refine Below.drew ?_ | refine below_new ?_ | refine belowStep (by assumption) ?_ | exact Nat.le_refl _))))
      (first
      | (go_at_call 12; (with_reducible refine Calls.mono (GV.out _ ?_) ?_); (focus with_reducible (repeat (first | exact Below.refl _ _ | exact HD0.out | refine Below.drew ?_ | refine below_new ?_ | refine belowStep (by assumption) ?_ | exact Nat.le_refl _))); rintro e k1 ⟨rfl, hbk1⟩)
      | (go_at_call 13; (with_reducible refine Calls.mono (GRV.out _ ?_) ?_); (focus with_reducible (repeat (first | exact Below.refl _ _ | exact HD0.out | refine Below.drew ?_ | refine below_new ?_ | refine belowStep (by assumption) ?_ | exact Nat.le_refl _))); rintro e k2 ⟨rfl, hbk2⟩)
      | (go_at_call 14; (with_reducible refine Calls.mono (GE.out _ ?_) ?_); (focus with_reducible (repeat (first | exact Below.refl _ _ | exact HD0.out | refine Below.drew ?_ | refine below_new ?_ | refine belowStep (by assumption) ?_ | exact Nat.le_refl _))); rintro e k3 ⟨rfl, hbk3⟩)
      | (go_at_call 14; (with_reducible refine Calls.mono (GEE.out _ ?_) ?_); (focus with_reducible (repeat (first | exact Below.refl _ _ | exact HD0.out | refine Below.drew ?_ | refine below_new ?_ | refine belowStep (by assumption) ?_ | exact Nat.le_refl _))); rintro e k4 ⟨rfl, hbk4⟩)
      | (go_at_call 15; (with_reducible refine Calls.mono (GRE.out _ ?_) ?_); (focus with_reducible (repeat (first | exact Below.refl _ _ | exact HD0.out | refine Below.drew ?_ | refine below_new ?_ | refine belowStep (by assumption) ?_ | exact Nat.le_refl _))); rintro e k5 ⟨rfl, hbk5⟩)
      | (go_at_call 16; (with_reducible refine Calls.mono (GS.out _ ?_) ?_); (focus with_reducible (repeat (first | exact Below.refl _ _ | exact HD0.out | refine Below.drew ?_ | refine below_new ?_ | refine belowStep (by assumption) ?_ | exact Nat.le_refl _))); rintro e k6 ⟨rfl, hbk6⟩)
      | (go_at_call 17; (with_reducible refine Calls.mono (GRS.out _ ?_) ?_); (focus with_reducible (repeat (first | exact Below.refl _ _ | exact HD0.out | refine Below.drew ?_ | refine below_new ?_ | refine belowStep (by assumption) ?_ | exact Nat.le_refl _))); rintro e k7 ⟨rfl, hbk7⟩)
      | fail)
  rename_i hHeld
  have HBE := Lib.hid (belowStep hHeld.1 HB.out)
  go_wp2
  go_ret
  exact ⟨rfl, HBE.out⟩
end Go.Proofs.YtigedbkifagfeaaGreat
namespace Go.Proofs.YtigedbkifagfeaaGreat
open Go Go.RowKit
open Pl (K Con)
set_option linter.unusedSimpArgs false

mutual
/-- no variable in the gap of m behind f -/
def Con.gap (m : Int) : Con → Int → Bool
  | ⟨op, n, _, _, _, l⟩, f => if op = 1 then decide (n < f) || decide (f + m ≤ n) else Con.gaps m l (Con.deep op f)
def Con.gaps (m : Int) : List Con → Int → Bool
  | [], _ => true
  | t :: r, f => Con.gap m t f && Con.gaps m r f
end
theorem gaps_all (m f : Int) (l : List Con) : Con.gaps m l f = l.all (fun t => Con.gap m t f) := by
  induction l with
  | nil => rw [Con.gaps]; rfl
  | cons t r ih => rw [Con.gaps, ih]; rfl
theorem gap_var (m f : Int) (t : Con) (h : t.op = 1) : Con.gap m t f = (decide (t.n < f) || decide (f + m ≤ t.n)) := by
  obtain ⟨op, n, s, k, names, l⟩ := t
  have h : op = 1 := h
  rw [Con.gap, if_pos h]
theorem gap_node (m f : Int) (t : Con) (h : t.op ≠ 1) : Con.gap m t f = t.l.all (fun x => Con.gap m x (Con.deep t.op f)) := by
  obtain ⟨op, n, s, k, names, l⟩ := t
  have h : op ≠ 1 := h
  rw [Con.gap, if_neg h, gaps_all]
theorem gap_shift (t : Con) (m : Int) : ∀ f, 0 ≤ m → Con.gap m (Con.shift m t f) f = true := by
  induction t using Con.ind with
  | h t ih =>
  intro f hm
  by_cases h : t.op = 1
  · rw [Con.shift_var _ _ t h]
    by_cases h1 : f ≤ t.n
    · rw [if_pos h1, gap_var _ _ _ rfl]
      show (decide (t.n + m < f) || decide (f + m ≤ t.n + m)) = true
      rw [decide_eq_true (by omega : f + m ≤ t.n + m), Bool.or_true]
    · rw [if_neg h1, gap_var _ _ _ h, decide_eq_true (by omega : t.n < f), Bool.true_or]
  · rw [Con.shift_node _ _ t h, gap_node _ _ _ (show (Con.inside t _).op ≠ 1 from h)]
    show (t.l.map (fun x => Con.shift m x (Con.deep t.op f))).all (fun x => Con.gap m x (Con.deep t.op f)) = true
    rw [List.all_map, List.all_eq_true]
    exact fun x hx => ih x hx _ hm
theorem bytes_none {s : ByteArray} (h : s.toList = []) : s = ByteArray.empty := bytes_ext (h.trans (by rw [ByteArray.toList_eq]; rfl))
theorem kind_none {k : K} (h : k.l.length = 0) : k = .mk [] := by
  obtain ⟨l⟩ := k
  rw [List.eq_nil_of_length_eq_zero (show l.length = 0 from h)]
/-- a right variable is nothing but its index -/
theorem clean_node (t : Con) (h : Con.nodeB t = true) : Con.Clean t := by
  intro h1
  unfold Con.nodeB at h
  simp only [Bool.and_eq_true] at h
  obtain ⟨-, hs, -, hst, hk⟩ := h
  unfold Con.shapeB at hs
  unfold Con.strB at hst
  unfold Con.kindB at hk
  rw [h1] at hs hst hk
  rw [if_pos (by decide), Bool.and_eq_true, decide_eq_true_eq, decide_eq_true_eq] at hs
  rw [if_neg (by decide), decide_eq_true_eq] at hst
  rw [if_neg (by decide), decide_eq_true_eq] at hk
  have hl : t.l.length = 0 := by
    have := hs.1
    rw [show Con.partsOf 1 = 0 from rfl] at this
    omega
  obtain ⟨op, n, s, k, names, l⟩ := t
  have e1 : op = 1 := h1
  have e2 := bytes_none (s := s) hst
  have e3 := kind_none (k := k) hk
  have e4 : names = [] := List.eq_nil_of_length_eq_zero hs.2
  have e5 : l = [] := List.eq_nil_of_length_eq_zero hl
  subst e1 e2 e3 e4 e5
  rfl
theorem clean_all (t : Con) : Con.allB t = true → Con.clean t := by
  induction t using Con.ind with
  | h t ih =>
  intro h
  rw [allB_eq, Bool.and_eq_true, List.all_eq_true] at h
  exact (Con.clean_iff t).2 ⟨clean_node t h.1, fun x hx => ih x hx (h.2 x hx)⟩
theorem clean_valid (t : Con) (h : Con.validB t = true) : Con.clean t := by
  unfold Con.validB at h
  rw [Bool.and_eq_true] at h
  exact clean_all t h.2
/-- a result, or ErrBig -/
def outB (x : Con) : Con × Int := if Con.validB x then (x, 0) else (Con.none0, 6)
/-- what Shift answers -/
def shiftOut (t : Con) (b f : Int) : Con × Int :=
  if Con.validB t then (if f < 0 ∨ b < -20000 ∨ 20000 < b ∨ (b < 0 ∧ Con.gap (-b) t f = false) then (Con.none0, 2) else outB (Con.shift b t f)) else (Con.none0, 1)
/-- what Subst answers -/
def substOut (t : Con) (l : List Con) : Con × Int :=
  if Con.validB t && l.all Con.validB then (if 1000 < l.length then (Con.none0, 5) else outB (Con.subst l t 0)) else (Con.none0, 1)
theorem outB_cases (x : Con) : (Con.validB x = true ∧ outB x = (x, 0)) ∨ (Con.validB x = false ∧ outB x = (Con.none0, 6)) := by
  unfold outB
  cases h : Con.validB x
  · exact .inr ⟨rfl, if_neg (by simp)⟩
  · exact .inl ⟨rfl, if_pos rfl⟩
theorem shiftOut_up (t : Con) (b f : Int) (h : Con.validB t = true) (h0 : 0 ≤ b) (h1 : b ≤ 20000) (hf : 0 ≤ f) : shiftOut t b f = outB (Con.shift b t f) := by
  unfold shiftOut
  rw [if_pos h, if_neg (by omega)]
theorem shiftOut_back (t : Con) (b f : Int) (h : Con.validB t = true) (hs : Con.validB (Con.shift b t f) = true) (h0 : 0 ≤ b) (h1 : b ≤ 20000) (hf : 0 ≤ f) : shiftOut (Con.shift b t f) (-b) f = (t, 0) := by
  unfold shiftOut
  rw [if_pos hs, if_neg, Con.shift_back t b f h0 (clean_valid t h)]
  · unfold outB
    rw [if_pos h]
  · rintro (h2 | h2 | h2 | ⟨-, h2⟩)
    · omega
    · omega
    · omega
    · rw [show - -b = b from by omega, gap_shift t b f h0] at h2
      cases h2
theorem shiftOut_two (t : Con) (n m f : Int) (h : Con.validB t = true) (hs : Con.validB (Con.shift n t f) = true) (h0 : 0 ≤ n) (h1 : 0 ≤ m) (h2 : n + m ≤ 20000) (hf : 0 ≤ f) : shiftOut (Con.shift n t f) m f = shiftOut t (n + m) f := by
  rw [shiftOut_up _ m f hs h1 (by omega) hf, shiftOut_up t (n + m) f h (by omega) h2 hf, Con.shift_shift t m n f (n + f) h0 rfl f (by omega) (by omega)]
theorem substOut_up (t a : Con) (h : Con.validB t = true) (ha : Con.validB a = true) (hs : Con.validB (Con.shift 1 t 0) = true) : substOut (Con.shift 1 t 0) [a] = (t, 0) := by
  unfold substOut
  rw [hs, List.all_cons, ha, show (true && (true && ([] : List Con).all Con.validB)) = true from rfl, if_pos rfl, if_neg (by simp)]
  have := Con.subst_shift t a 0 0 (Int.le_refl _) (Int.le_refl _)
  rw [show (0 : Int) + 1 = 1 from rfl, show (0 : Int) + 0 = 0 from rfl, Con.shift_zero t 0 (clean_valid t h)] at this
  rw [this]
  unfold outB
  rw [if_pos h]
end Go.Proofs.YtigedbkifagfeaaGreat
namespace Go.Proofs.YtigedbkifagfeaaGreat
open Go Go.RowKit
open Pl (K Con)
set_option linter.unusedSimpArgs false

/-- what the program's Shift and Subst answer -/
structure CodeS9 : Prop where
  shift : ∀ (t : Con) (b f : Int) (W : World) (v : Value), ConV W (· < W.heap.size) t v → -9223372036854775808 ≤ b → b ≤ 9223372036854775807 → -9223372036854775808 ≤ f → f ≤ 9223372036854775807 → Calls Tryz.prog 19 #[v, .int .i64 b, .int .i64 f] W fun e w' => (∃ y, e = .returned (.tuple #[y, .int .i64 (shiftOut t b f).2]) ∧ ConV w' (· < w'.heap.size) (shiftOut t b f).1 y) ∧ Below W.heap.size W w'
  subst : ∀ (t : Con) (l : List Con) (W : World) (v x : Value), ConV W (· < W.heap.size) t v → ConSl W (· < W.heap.size) x l → Calls Tryz.prog 28 #[v, x] W fun e w' => (∃ y, e = .returned (.tuple #[y, .int .i64 (substOut t l).2]) ∧ ConV w' (· < w'.heap.size) (substOut t l).1 y) ∧ Below W.heap.size W w'
/-- a constructor in a box stays -/
theorem ConV.grow {w w' : World} {t : Con} {v : Value} (h : ConV w (· < w.heap.size) t v) (hb : Below w.heap.size w w') : ConV w' (· < w'.heap.size) t v := (h.below (fun _ h => h) hb).mono (fun _ h => Nat.lt_of_lt_of_le h hb.size)
/-- one constructor in a slice -/
theorem cons_one {w : World} {P : Nat → Prop} {g : Nat} {t : Con} {x0 x1 x2 x3 x4 x5 : Value} (hb : Blk w g 28 #[x0, x1, x2, x3, x4, x5]) (hg : P g) (ht : ConV w P t (.agg #[x0, x1, x2, x3, x4, x5])) : ConSl w P (.slice (some ⟨g, 0, none⟩) 1 1) [t] := by
  refine ⟨_, 1, rfl, by simp, by unfold maxLen; omega, (fun h => by cases h), .inr ⟨g, 0, rfl, hg, ?_⟩⟩
  rw [ConsAt, ConsAt]
  exact ⟨⟨_, ⟨x0, x1, x2, x3, x4, x5, rfl, hb.cell 0 _ rfl, hb.cell 1 _ rfl, hb.cell 2 _ rfl, hb.cell 3 _ rfl, hb.cell 4 _ rfl, hb.cell 5 _ rfl⟩, ht⟩, trivial⟩
set_option maxRecDepth 100000 in
set_option maxHeartbeats 8000000 in
theorem back_walk (C : Code9) (S : CodeS9) (A : Awake9) (t a : Con) (n1 n2 n3 : Int) (w : World) (v x : Value) (ht : ConV w (· < w.heap.size) t v) (hu : ConV w (· < w.heap.size) a x) (b1 : 0 ≤ n1 ∧ n1 ≤ 255) (b2 : 0 ≤ n2 ∧ n2 ≤ 255) (b3 : 0 ≤ n3 ∧ n3 ≤ 255) :
    Calls Tryz.prog 7 #[v, .int .u8 n1, .int .u8 n2, .int .u8 n3, x] w fun e w' => e = .returned (.bool true) ∧ Below w.heap.size w w' := by
  have HA := Lib.hid A
  have HCE := Lib.hid C.equal
  have HSH := Lib.hid S.shift
  have HSU := Lib.hid S.subst
  have HT := Lib.hid (fun W (hW : Below w.heap.size w W) => ht.grow hW)
  have HU := Lib.hid (fun W (hW : Below w.heap.size w W) => hu.grow hW)
  have HSM := Lib.hid (fun W x' (hl : ConSl W (· < W.heap.size) x' [t, a]) => tiny_any (· < W.heap.size) [t, a] W x' (fun _ h => h) hl)
  obtain ⟨ka, kn, kc, na, nn, nc, la, ln, lc, rfl, -, -, -⟩ := ht.shape
  obtain ⟨ka2, kn2, kc2, na2, nn2, nc2, la2, ln2, lc2, rfl, -, -, -⟩ := hu.shape
  obtain ⟨hbx, hbx2, hb⟩ := twoN_new w 28 28 #[.int .i64 t.op, .int .i64 t.n, .string t.s, .slice ka kn kc, .slice na nn nc, .slice la ln lc] #[.int .i64 a.op, .int .i64 a.n, .string a.s, .slice ka2 kn2 kc2, .slice na2 nn2 nc2, .slice la2 ln2 lc2]
  have HB := Lib.hid hb
  have HBX := Lib.hid hbx
  have HBX2 := Lib.hid hbx2
  clear hbx hbx2 hb ht hu C A S
  go_enter Tryz.func7, Tryz.ntmps7
  go_wp2_with fail
  generalize (w.alloc (.cells #[.int .i64 t.op, .int .i64 t.n, .string t.s, .slice ka kn kc, .slice na nn nc, .slice la ln lc] 28)).alloc (.cells #[.int .i64 a.op, .int .i64 a.n, .string a.s, .slice ka2 kn2 kc2, .slice na2 nn2 nc2, .slice la2 ln2 lc2] 28) = w2 at *
  refine (HA.out _).mono ?_
  rintro e w3 ⟨rfl, hb3⟩
  replace HB := Lib.hid (belowStep hb3 HB.out)
  replace HBX := Lib.hid (HBX.out.of_eq (hb3.block _ HBX.out.lt))
  replace HBX2 := Lib.hid (HBX2.out.of_eq (hb3.block _ HBX2.out.lt))
  clear hb3
  have c0 := HBX.out.cell 0 (.int .i64 t.op) rfl
  have c1 := HBX.out.cell 1 (.int .i64 t.n) rfl
  have c2 := HBX.out.cell 2 (.string t.s) rfl
  have c3 := HBX.out.cell 3 (.slice ka kn kc) rfl
  have c4 := HBX.out.cell 4 (.slice na nn nc) rfl
  have c5 := HBX.out.cell 5 (.slice la ln lc) rfl
  have d0 := HBX2.out.cell 0 (.int .i64 a.op) rfl
  have d1 := HBX2.out.cell 1 (.int .i64 a.n) rfl
  have d2 := HBX2.out.cell 2 (.string a.s) rfl
  have d3 := HBX2.out.cell 3 (.slice ka2 kn2 kc2) rfl
  have d4 := HBX2.out.cell 4 (.slice na2 nn2 nc2) rfl
  have d5 := HBX2.out.cell 5 (.slice la2 ln2 lc2) rfl
  go_wp2_with fail
  clear c0 c1 c2 c3 c4 c5 d0 d1 d2 d3 d4 d5
  obtain ⟨hbx, hb⟩ := boxN_new w3 28 #[.int .i64 t.op, .int .i64 t.n, .string t.s, .slice ka kn kc, .slice na nn nc, .slice la ln lc, .int .i64 a.op, .int .i64 a.n, .string a.s, .slice ka2 kn2 kc2, .slice na2 nn2 nc2, .slice la2 ln2 lc2]
  have HB4 := Lib.hid (belowStep hb HB.out)
  have HPAIR := Lib.hid (cons_two (P := (· < (w3.alloc (.cells #[.int .i64 t.op, .int .i64 t.n, .string t.s, .slice ka kn kc, .slice na nn nc, .slice la ln lc, .int .i64 a.op, .int .i64 a.n, .string a.s, .slice ka2 kn2 kc2, .slice na2 nn2 nc2, .slice la2 ln2 lc2] 28)).heap.size)) hbx hbx.lt (HT.out _ HB4.out) (HU.out _ HB4.out))
  replace HB := HB4
  replace HBX := Lib.hid (HBX.out.of_eq (hb.block _ HBX.out.lt))
  replace HBX2 := Lib.hid (HBX2.out.of_eq (hb.block _ HBX2.out.lt))
  clear hbx hb HB4
  generalize w3.alloc (.cells #[.int .i64 t.op, .int .i64 t.n, .string t.s, .slice ka kn kc, .slice na nn nc, .slice la ln lc, .int .i64 a.op, .int .i64 a.n, .string a.s, .slice ka2 kn2 kc2, .slice na2 nn2 nc2, .slice la2 ln2 lc2] 28) = w4 at *
  refine (HSM.out _ _ HPAIR.out).mono ?_
  rintro e w5 ⟨⟨r, rfl, hr⟩, hb5⟩
  have HR := Lib.hid hr
  replace HB := Lib.hid (belowStep hb5 HB.out)
  replace HBX := Lib.hid (HBX.out.of_eq (hb5.block _ HBX.out.lt))
  replace HBX2 := Lib.hid (HBX2.out.of_eq (hb5.block _ HBX2.out.lt))
  clear hb5 hr HPAIR HSM
  cases r
  · go_wp2_with fail
    refine (HA.out _).mono ?_
    rintro e w6 ⟨rfl, hb6⟩
    have HB6 := Lib.hid (belowStep hb6 HB.out)
    clear hb6
    go_wp2
    go_ret
    exact ⟨rfl, HB6.out⟩
  have HVT := Lib.hid ((HR.out rfl t (by simp)).2)
  have HVA := Lib.hid ((HR.out rfl a (by simp)).2)
  clear HR HA
  have c0 := HBX.out.cell 0 (.int .i64 t.op) rfl
  have c1 := HBX.out.cell 1 (.int .i64 t.n) rfl
  have c2 := HBX.out.cell 2 (.string t.s) rfl
  have c3 := HBX.out.cell 3 (.slice ka kn kc) rfl
  have c4 := HBX.out.cell 4 (.slice na nn nc) rfl
  have c5 := HBX.out.cell 5 (.slice la ln lc) rfl
  have HTV := Lib.hid (HT.out _ HB.out)
  have HUV := Lib.hid (HU.out _ HB.out)
  clear HT HU
  go_wp2_with fail
  generalize hn : n1 % 20 = n at *
  generalize hm : n2 % 20 = m at *
  generalize hk : n3 % 5 = k at *
  have hn0 : 0 ≤ n ∧ n ≤ 19 := by omega
  have hm0 : 0 ≤ m ∧ m ≤ 19 := by omega
  have hk0 : 0 ≤ k ∧ k ≤ 4 := by omega
  clear hn hm hk b1 b2 b3
  have hc := HSH.out t n k _ _ HTV.out (by omega) (by omega) (by omega) (by omega)
  rw [shiftOut_up t n k HVT.out (by omega) (by omega) (by omega)] at hc
  clear c0 c1 c2 c3 c4 c5
  rcases outB_cases (Con.shift n t k) with ⟨hv1, ho⟩ | ⟨hv1, ho⟩
  rotate_left
  · rw [ho] at hc
    refine hc.mono ?_
    rintro e w6 ⟨⟨y, rfl, hy⟩, hb⟩
    obtain ⟨zka, zkn, zkc, zna, znn, znc, zla, zln, zlc, rfl, -, -, -⟩ := hy.shape
    have HBE := Lib.hid (below_new (o := .cells #[.int .i64 Con.none0.op, .int .i64 Con.none0.n, .string Con.none0.s, .slice zka zkn zkc, .slice zna znn znc, .slice zla zln zlc] 28) (belowStep hb HB.out))
    clear hb hy
    go_wp2
    go_ret
    exact ⟨rfl, HBE.out⟩
  rw [ho] at hc
  have HV1 := Lib.hid hv1
  clear hv1 ho
  have HBK := Lib.hid (shiftOut_back t n k HVT.out HV1.out hn0.1 (by omega) hk0.1)
  have HTW := Lib.hid (shiftOut_two t n m k HVT.out HV1.out hn0.1 hm0.1 (by omega) hk0.1)
  obtain ⟨s, hs⟩ : ∃ s, s = Con.shift n t k := ⟨_, rfl⟩
  rw [← hs] at hc HBK HTW HV1
  clear hs
  refine hc.mono ?_
  rintro e w7 ⟨⟨y, rfl, hy⟩, hb⟩
  obtain ⟨ska, skn, skc, sna, snn, snc, sla, sln, slc, rfl, -, -, -⟩ := hy.shape
  replace HBX := Lib.hid (HBX.out.of_eq (hb.block _ HBX.out.lt))
  replace HBX2 := Lib.hid (HBX2.out.of_eq (hb.block _ HBX2.out.lt))
  replace HTV := Lib.hid (HTV.out.grow hb)
  replace HUV := Lib.hid (HUV.out.grow hb)
  replace HB := Lib.hid (belowStep hb HB.out)
  have HSV := Lib.hid hy
  clear hb hy
  obtain ⟨hbx, hb⟩ := boxN_new w7 28 #[.int .i64 s.op, .int .i64 s.n, .string s.s, .slice ska skn skc, .slice sna snn snc, .slice sla sln slc]
  replace HBX := Lib.hid (HBX.out.of_eq (hb.block _ HBX.out.lt))
  replace HBX2 := Lib.hid (HBX2.out.of_eq (hb.block _ HBX2.out.lt))
  replace HTV := Lib.hid (HTV.out.grow hb)
  replace HUV := Lib.hid (HUV.out.grow hb)
  replace HSV := Lib.hid (HSV.out.grow hb)
  replace HB := Lib.hid (belowStep hb HB.out)
  have HBS := Lib.hid hbx
  clear hbx hb
  have c0 := HBS.out.cell 0 (.int .i64 s.op) rfl
  have c1 := HBS.out.cell 1 (.int .i64 s.n) rfl
  have c2 := HBS.out.cell 2 (.string s.s) rfl
  have c3 := HBS.out.cell 3 (.slice ska skn skc) rfl
  have c4 := HBS.out.cell 4 (.slice sna snn snc) rfl
  have c5 := HBS.out.cell 5 (.slice sla sln slc) rfl
  go_wp2_with fail
  generalize w7.alloc (.cells #[.int .i64 s.op, .int .i64 s.n, .string s.s, .slice ska skn skc, .slice sna snn snc, .slice sla sln slc] 28) = v7 at *
  have hc := HSH.out s (-n) k _ _ HSV.out (by omega) (by omega) (by omega) (by omega)
  rw [HBK.out] at hc
  clear c0 c1 c2 c3 c4 c5
  refine hc.mono ?_
  rintro e w8 ⟨⟨y, rfl, hy⟩, hb⟩
  obtain ⟨bka, bkn, bkc, bna, bnn, bnc, bla, bln, blc, rfl, -, -, -⟩ := hy.shape
  replace HBX := Lib.hid (HBX.out.of_eq (hb.block _ HBX.out.lt))
  replace HBX2 := Lib.hid (HBX2.out.of_eq (hb.block _ HBX2.out.lt))
  replace HBS := Lib.hid (HBS.out.of_eq (hb.block _ HBS.out.lt))
  replace HTV := Lib.hid (HTV.out.grow hb)
  replace HUV := Lib.hid (HUV.out.grow hb)
  replace HSV := Lib.hid (HSV.out.grow hb)
  replace HB := Lib.hid (belowStep hb HB.out)
  have HBV := Lib.hid hy
  clear hb hy
  obtain ⟨hbx, hb⟩ := boxN_new w8 28 #[.int .i64 t.op, .int .i64 t.n, .string t.s, .slice bka bkn bkc, .slice bna bnn bnc, .slice bla bln blc]
  replace HBX := Lib.hid (HBX.out.of_eq (hb.block _ HBX.out.lt))
  replace HBX2 := Lib.hid (HBX2.out.of_eq (hb.block _ HBX2.out.lt))
  replace HBS := Lib.hid (HBS.out.of_eq (hb.block _ HBS.out.lt))
  replace HTV := Lib.hid (HTV.out.grow hb)
  replace HUV := Lib.hid (HUV.out.grow hb)
  replace HSV := Lib.hid (HSV.out.grow hb)
  replace HBV := Lib.hid (HBV.out.grow hb)
  replace HB := Lib.hid (belowStep hb HB.out)
  have HBB := Lib.hid hbx
  clear hbx hb
  have c0 := HBS.out.cell 0 (.int .i64 s.op) rfl
  have c1 := HBS.out.cell 1 (.int .i64 s.n) rfl
  have c2 := HBS.out.cell 2 (.string s.s) rfl
  have c3 := HBS.out.cell 3 (.slice ska skn skc) rfl
  have c4 := HBS.out.cell 4 (.slice sna snn snc) rfl
  have c5 := HBS.out.cell 5 (.slice sla sln slc) rfl
  go_wp2_with fail
  generalize w8.alloc (.cells #[.int .i64 t.op, .int .i64 t.n, .string t.s, .slice bka bkn bkc, .slice bna bnn bnc, .slice bla bln blc] 28) = v8 at *
  have hc := HSH.out s m k _ _ HSV.out (by omega) (by omega) (by omega) (by omega)
  rw [HTW.out] at hc
  obtain ⟨⟨zz, ec⟩, hzz⟩ : ∃ z : Con × Int, z = shiftOut t (n + m) k := ⟨_, rfl⟩
  have HZZ := Lib.hid hzz
  rw [← hzz] at hc
  clear hzz
  replace hc : Calls Tryz.prog 19 _ _ (fun e w' => (∃ y, e = .returned (.tuple #[y, .int .i64 ec]) ∧ ConV w' (· < w'.heap.size) zz y) ∧ Below _ _ w') := hc
  clear c0 c1 c2 c3 c4 c5
  refine hc.mono ?_
  rintro e w9 ⟨⟨y, rfl, hy⟩, hb⟩
  obtain ⟨dka, dkn, dkc, dna, dnn, dnc, dla, dln, dlc, rfl, -, -, -⟩ := hy.shape
  replace HBX := Lib.hid (HBX.out.of_eq (hb.block _ HBX.out.lt))
  replace HBX2 := Lib.hid (HBX2.out.of_eq (hb.block _ HBX2.out.lt))
  replace HBS := Lib.hid (HBS.out.of_eq (hb.block _ HBS.out.lt))
  replace HBB := Lib.hid (HBB.out.of_eq (hb.block _ HBB.out.lt))
  replace HTV := Lib.hid (HTV.out.grow hb)
  replace HUV := Lib.hid (HUV.out.grow hb)
  replace HSV := Lib.hid (HSV.out.grow hb)
  replace HBV := Lib.hid (HBV.out.grow hb)
  replace HB := Lib.hid (belowStep hb HB.out)
  have HDV := Lib.hid hy
  clear hb hy
  obtain ⟨hbx, hb⟩ := boxN_new w9 28 #[.int .i64 zz.op, .int .i64 zz.n, .string zz.s, .slice dka dkn dkc, .slice dna dnn dnc, .slice dla dln dlc]
  replace HBX := Lib.hid (HBX.out.of_eq (hb.block _ HBX.out.lt))
  replace HBX2 := Lib.hid (HBX2.out.of_eq (hb.block _ HBX2.out.lt))
  replace HBS := Lib.hid (HBS.out.of_eq (hb.block _ HBS.out.lt))
  replace HBB := Lib.hid (HBB.out.of_eq (hb.block _ HBB.out.lt))
  replace HTV := Lib.hid (HTV.out.grow hb)
  replace HUV := Lib.hid (HUV.out.grow hb)
  replace HSV := Lib.hid (HSV.out.grow hb)
  replace HBV := Lib.hid (HBV.out.grow hb)
  replace HDV := Lib.hid (HDV.out.grow hb)
  replace HB := Lib.hid (belowStep hb HB.out)
  have HBD := Lib.hid hbx
  clear hbx hb
  have c0 := HBX.out.cell 0 (.int .i64 t.op) rfl
  have c1 := HBX.out.cell 1 (.int .i64 t.n) rfl
  have c2 := HBX.out.cell 2 (.string t.s) rfl
  have c3 := HBX.out.cell 3 (.slice ka kn kc) rfl
  have c4 := HBX.out.cell 4 (.slice na nn nc) rfl
  have c5 := HBX.out.cell 5 (.slice la ln lc) rfl
  have w7 : wrap64 (n + m) = n + m := by rw [wrap64]; omega
  go_wp2_with fail
  generalize w9.alloc (.cells #[.int .i64 zz.op, .int .i64 zz.n, .string zz.s, .slice dka dkn dkc, .slice dna dnn dnc, .slice dla dln dlc] 28) = v9 at *
  have hc := HSH.out t (n + m) k _ _ HTV.out (by omega) (by omega) (by omega) (by omega)
  rw [← HZZ.out] at hc
  replace hc : Calls Tryz.prog 19 _ _ (fun e w' => (∃ y, e = .returned (.tuple #[y, .int .i64 ec]) ∧ ConV w' (· < w'.heap.size) zz y) ∧ Below _ _ w') := hc
  clear c0 c1 c2 c3 c4 c5
  refine hc.mono ?_
  rintro e w10 ⟨⟨y, rfl, hy⟩, hb⟩
  obtain ⟨gka, gkn, gkc, gna, gnn, gnc, gla, gln, glc, rfl, -, -, -⟩ := hy.shape
  replace HBX := Lib.hid (HBX.out.of_eq (hb.block _ HBX.out.lt))
  replace HBX2 := Lib.hid (HBX2.out.of_eq (hb.block _ HBX2.out.lt))
  replace HBS := Lib.hid (HBS.out.of_eq (hb.block _ HBS.out.lt))
  replace HBB := Lib.hid (HBB.out.of_eq (hb.block _ HBB.out.lt))
  replace HBD := Lib.hid (HBD.out.of_eq (hb.block _ HBD.out.lt))
  replace HTV := Lib.hid (HTV.out.grow hb)
  replace HUV := Lib.hid (HUV.out.grow hb)
  replace HSV := Lib.hid (HSV.out.grow hb)
  replace HBV := Lib.hid (HBV.out.grow hb)
  replace HDV := Lib.hid (HDV.out.grow hb)
  replace HB := Lib.hid (belowStep hb HB.out)
  have HGV := Lib.hid hy
  clear hb hy
  obtain ⟨hbx, hb⟩ := boxN_new w10 28 #[.int .i64 zz.op, .int .i64 zz.n, .string zz.s, .slice gka gkn gkc, .slice gna gnn gnc, .slice gla gln glc]
  replace HBX := Lib.hid (HBX.out.of_eq (hb.block _ HBX.out.lt))
  replace HBX2 := Lib.hid (HBX2.out.of_eq (hb.block _ HBX2.out.lt))
  replace HBS := Lib.hid (HBS.out.of_eq (hb.block _ HBS.out.lt))
  replace HBB := Lib.hid (HBB.out.of_eq (hb.block _ HBB.out.lt))
  replace HBD := Lib.hid (HBD.out.of_eq (hb.block _ HBD.out.lt))
  replace HTV := Lib.hid (HTV.out.grow hb)
  replace HUV := Lib.hid (HUV.out.grow hb)
  replace HSV := Lib.hid (HSV.out.grow hb)
  replace HBV := Lib.hid (HBV.out.grow hb)
  replace HDV := Lib.hid (HDV.out.grow hb)
  replace HGV := Lib.hid (HGV.out.grow hb)
  replace HB := Lib.hid (belowStep hb HB.out)
  have HBG := Lib.hid hbx
  clear hbx hb
  have c0 := HBB.out.cell 0 (.int .i64 t.op) rfl
  have c1 := HBB.out.cell 1 (.int .i64 t.n) rfl
  have c2 := HBB.out.cell 2 (.string t.s) rfl
  have c3 := HBB.out.cell 3 (.slice bka bkn bkc) rfl
  have c4 := HBB.out.cell 4 (.slice bna bnn bnc) rfl
  have c5 := HBB.out.cell 5 (.slice bla bln blc) rfl
  have d0 := HBX.out.cell 0 (.int .i64 t.op) rfl
  have d1 := HBX.out.cell 1 (.int .i64 t.n) rfl
  have d2 := HBX.out.cell 2 (.string t.s) rfl
  have d3 := HBX.out.cell 3 (.slice ka kn kc) rfl
  have d4 := HBX.out.cell 4 (.slice na nn nc) rfl
  have d5 := HBX.out.cell 5 (.slice la ln lc) rfl
  go_wp2_with fail
  generalize w10.alloc (.cells #[.int .i64 zz.op, .int .i64 zz.n, .string zz.s, .slice gka gkn gkc, .slice gna gnn gnc, .slice gla gln glc] 28) = v10 at *
  have hc := HCE.out _ _ t t _ _ _ (fun _ h => h) (fun _ h => h) HBV.out HTV.out
  rw [sameB_self] at hc
  clear c0 c1 c2 c3 c4 c5 d0 d1 d2 d3 d4 d5
  refine hc.mono ?_
  rintro e w11 ⟨rfl, hb⟩
  replace HBX := Lib.hid (HBX.out.of_eq (hb.block _ HBX.out.lt))
  replace HBX2 := Lib.hid (HBX2.out.of_eq (hb.block _ HBX2.out.lt))
  replace HBS := Lib.hid (HBS.out.of_eq (hb.block _ HBS.out.lt))
  replace HBB := Lib.hid (HBB.out.of_eq (hb.block _ HBB.out.lt))
  replace HBD := Lib.hid (HBD.out.of_eq (hb.block _ HBD.out.lt))
  replace HBG := Lib.hid (HBG.out.of_eq (hb.block _ HBG.out.lt))
  replace HTV := Lib.hid (HTV.out.grow hb)
  replace HUV := Lib.hid (HUV.out.grow hb)
  replace HSV := Lib.hid (HSV.out.grow hb)
  replace HBV := Lib.hid (HBV.out.grow hb)
  replace HDV := Lib.hid (HDV.out.grow hb)
  replace HGV := Lib.hid (HGV.out.grow hb)
  replace HB := Lib.hid (belowStep hb HB.out)
  clear hb hc
  have q9 : (ec != ec) = false := by simp
  have c0 := HBD.out.cell 0 (.int .i64 zz.op) rfl
  have c1 := HBD.out.cell 1 (.int .i64 zz.n) rfl
  have c2 := HBD.out.cell 2 (.string zz.s) rfl
  have c3 := HBD.out.cell 3 (.slice dka dkn dkc) rfl
  have c4 := HBD.out.cell 4 (.slice dna dnn dnc) rfl
  have c5 := HBD.out.cell 5 (.slice dla dln dlc) rfl
  have d0 := HBG.out.cell 0 (.int .i64 zz.op) rfl
  have d1 := HBG.out.cell 1 (.int .i64 zz.n) rfl
  have d2 := HBG.out.cell 2 (.string zz.s) rfl
  have d3 := HBG.out.cell 3 (.slice gka gkn gkc) rfl
  have d4 := HBG.out.cell 4 (.slice gna gnn gnc) rfl
  have d5 := HBG.out.cell 5 (.slice gla gln glc) rfl
  have HQ := Lib.hid (fun W (hW : Below w11.heap.size w11 W) => HCE.out _ _ zz zz W _ _ (fun _ h => h) (fun _ h => h) (HDV.out.grow hW) (HGV.out.grow hW))
  rw [sameB_self] at HQ
  by_cases hec : ec = 0
  · subst hec
    go_wp2_with fail
    refine (HQ.out _ (Below.refl _ _)).mono ?_
    rintro e w50 ⟨rfl, hb⟩
    clear c0 c1 c2 c3 c4 c5 d0 d1 d2 d3 d4 d5
    replace HBX := Lib.hid (HBX.out.of_eq (hb.block _ HBX.out.lt))
    replace HBX2 := Lib.hid (HBX2.out.of_eq (hb.block _ HBX2.out.lt))
    replace HBS := Lib.hid (HBS.out.of_eq (hb.block _ HBS.out.lt))
    replace HBB := Lib.hid (HBB.out.of_eq (hb.block _ HBB.out.lt))
    replace HBD := Lib.hid (HBD.out.of_eq (hb.block _ HBD.out.lt))
    replace HBG := Lib.hid (HBG.out.of_eq (hb.block _ HBG.out.lt))
    replace HTV := Lib.hid (HTV.out.grow hb)
    replace HUV := Lib.hid (HUV.out.grow hb)
    replace HSV := Lib.hid (HSV.out.grow hb)
    replace HBV := Lib.hid (HBV.out.grow hb)
    replace HDV := Lib.hid (HDV.out.grow hb)
    replace HGV := Lib.hid (HGV.out.grow hb)
    replace HB := Lib.hid (belowStep hb HB.out)
    clear hb HQ
    have c0 := HBX.out.cell 0 (.int .i64 t.op) rfl
    have c1 := HBX.out.cell 1 (.int .i64 t.n) rfl
    have c2 := HBX.out.cell 2 (.string t.s) rfl
    have c3 := HBX.out.cell 3 (.slice ka kn kc) rfl
    have c4 := HBX.out.cell 4 (.slice na nn nc) rfl
    have c5 := HBX.out.cell 5 (.slice la ln lc) rfl
    go_wp2_with fail
    have hc := HSH.out t 1 0 _ _ HTV.out (by omega) (by omega) (by omega) (by omega)
    rw [shiftOut_up t 1 0 HVT.out (by omega) (by omega) (by omega)] at hc
    clear c0 c1 c2 c3 c4 c5
    rcases outB_cases (Con.shift 1 t 0) with ⟨hv1, ho⟩ | ⟨hv1, ho⟩
    rotate_left
    · rw [ho] at hc
      refine hc.mono ?_
      rintro e w61 ⟨⟨y, rfl, hy⟩, hb⟩
      obtain ⟨zka, zkn, zkc, zna, znn, znc, zla, zln, zlc, rfl, -, -, -⟩ := hy.shape
      have HBE := Lib.hid (below_new (o := .cells #[.int .i64 Con.none0.op, .int .i64 Con.none0.n, .string Con.none0.s, .slice zka zkn zkc, .slice zna znn znc, .slice zla zln zlc] 28) (belowStep hb HB.out))
      clear hb hy
      go_wp2
      go_ret
      exact ⟨rfl, HBE.out⟩
    rw [ho] at hc
    have HUP := Lib.hid (substOut_up t a HVT.out HVA.out hv1)
    clear hv1 ho
    obtain ⟨u, hu⟩ : ∃ u, u = Con.shift 1 t 0 := ⟨_, rfl⟩
    rw [← hu] at hc HUP
    clear hu
    refine hc.mono ?_
    rintro e w62 ⟨⟨y, rfl, hy⟩, hb⟩
    obtain ⟨uka, ukn, ukc, una, unn, unc, ula, uln, ulc, rfl, -, -, -⟩ := hy.shape
    replace HBX := Lib.hid (HBX.out.of_eq (hb.block _ HBX.out.lt))
    replace HBX2 := Lib.hid (HBX2.out.of_eq (hb.block _ HBX2.out.lt))
    replace HBS := Lib.hid (HBS.out.of_eq (hb.block _ HBS.out.lt))
    replace HBB := Lib.hid (HBB.out.of_eq (hb.block _ HBB.out.lt))
    replace HBD := Lib.hid (HBD.out.of_eq (hb.block _ HBD.out.lt))
    replace HBG := Lib.hid (HBG.out.of_eq (hb.block _ HBG.out.lt))
    replace HTV := Lib.hid (HTV.out.grow hb)
    replace HUV := Lib.hid (HUV.out.grow hb)
    replace HSV := Lib.hid (HSV.out.grow hb)
    replace HBV := Lib.hid (HBV.out.grow hb)
    replace HDV := Lib.hid (HDV.out.grow hb)
    replace HGV := Lib.hid (HGV.out.grow hb)
    replace HB := Lib.hid (belowStep hb HB.out)
    have HPV := Lib.hid hy
    clear hb hy
    obtain ⟨hbx, hb⟩ := boxN_new w62 28 #[.int .i64 u.op, .int .i64 u.n, .string u.s, .slice uka ukn ukc, .slice una unn unc, .slice ula uln ulc]
    replace HBX := Lib.hid (HBX.out.of_eq (hb.block _ HBX.out.lt))
    replace HBX2 := Lib.hid (HBX2.out.of_eq (hb.block _ HBX2.out.lt))
    replace HBS := Lib.hid (HBS.out.of_eq (hb.block _ HBS.out.lt))
    replace HBB := Lib.hid (HBB.out.of_eq (hb.block _ HBB.out.lt))
    replace HBD := Lib.hid (HBD.out.of_eq (hb.block _ HBD.out.lt))
    replace HBG := Lib.hid (HBG.out.of_eq (hb.block _ HBG.out.lt))
    replace HTV := Lib.hid (HTV.out.grow hb)
    replace HUV := Lib.hid (HUV.out.grow hb)
    replace HSV := Lib.hid (HSV.out.grow hb)
    replace HBV := Lib.hid (HBV.out.grow hb)
    replace HDV := Lib.hid (HDV.out.grow hb)
    replace HGV := Lib.hid (HGV.out.grow hb)
    replace HPV := Lib.hid (HPV.out.grow hb)
    replace HB := Lib.hid (belowStep hb HB.out)
    have HBU := Lib.hid hbx
    clear hbx hb
    have c0 := HBU.out.cell 0 (.int .i64 u.op) rfl
    have c1 := HBU.out.cell 1 (.int .i64 u.n) rfl
    have c2 := HBU.out.cell 2 (.string u.s) rfl
    have c3 := HBU.out.cell 3 (.slice uka ukn ukc) rfl
    have c4 := HBU.out.cell 4 (.slice una unn unc) rfl
    have c5 := HBU.out.cell 5 (.slice ula uln ulc) rfl
    have d0 := HBX2.out.cell 0 (.int .i64 a.op) rfl
    have d1 := HBX2.out.cell 1 (.int .i64 a.n) rfl
    have d2 := HBX2.out.cell 2 (.string a.s) rfl
    have d3 := HBX2.out.cell 3 (.slice ka2 kn2 kc2) rfl
    have d4 := HBX2.out.cell 4 (.slice na2 nn2 nc2) rfl
    have d5 := HBX2.out.cell 5 (.slice la2 ln2 lc2) rfl
    go_wp2_with fail
    have HE6 := size_alloc w62 (.cells #[.int .i64 u.op, .int .i64 u.n, .string u.s, .slice uka ukn ukc, .slice una unn unc, .slice ula uln ulc] 28)
    generalize w62.alloc (.cells #[.int .i64 u.op, .int .i64 u.n, .string u.s, .slice uka ukn ukc, .slice una unn unc, .slice ula uln ulc] 28) = v62 at *
    clear c0 c1 c2 c3 c4 c5 d0 d1 d2 d3 d4 d5
    obtain ⟨hbx, hb⟩ := boxN_new v62 28 #[.int .i64 a.op, .int .i64 a.n, .string a.s, .slice ka2 kn2 kc2, .slice na2 nn2 nc2, .slice la2 ln2 lc2]
    replace HBX := Lib.hid (HBX.out.of_eq (hb.block _ HBX.out.lt))
    replace HBX2 := Lib.hid (HBX2.out.of_eq (hb.block _ HBX2.out.lt))
    replace HBS := Lib.hid (HBS.out.of_eq (hb.block _ HBS.out.lt))
    replace HBB := Lib.hid (HBB.out.of_eq (hb.block _ HBB.out.lt))
    replace HBD := Lib.hid (HBD.out.of_eq (hb.block _ HBD.out.lt))
    replace HBG := Lib.hid (HBG.out.of_eq (hb.block _ HBG.out.lt))
    replace HBU := Lib.hid (HBU.out.of_eq (hb.block _ HBU.out.lt))
    replace HTV := Lib.hid (HTV.out.grow hb)
    replace HUV := Lib.hid (HUV.out.grow hb)
    replace HSV := Lib.hid (HSV.out.grow hb)
    replace HBV := Lib.hid (HBV.out.grow hb)
    replace HDV := Lib.hid (HDV.out.grow hb)
    replace HGV := Lib.hid (HGV.out.grow hb)
    replace HPV := Lib.hid (HPV.out.grow hb)
    replace HB := Lib.hid (belowStep hb HB.out)
    have HONE := Lib.hid (cons_one (P := (· < (v62.alloc (.cells #[.int .i64 a.op, .int .i64 a.n, .string a.s, .slice ka2 kn2 kc2, .slice na2 nn2 nc2, .slice la2 ln2 lc2] 28)).heap.size)) hbx hbx.lt HUV.out)
    clear hbx hb
    generalize v62.alloc (.cells #[.int .i64 a.op, .int .i64 a.n, .string a.s, .slice ka2 kn2 kc2, .slice na2 nn2 nc2, .slice la2 ln2 lc2] 28) = v99 at *
    rw [HE6] at HONE
    have hc := HSU.out u [a] _ _ _ HPV.out HONE.out
    rw [HUP.out] at hc
    clear HONE
    refine hc.mono ?_
    rintro e w63 ⟨⟨y, rfl, hy⟩, hb⟩
    obtain ⟨fka, fkn, fkc, fna, fnn, fnc, fla, fln, flc, rfl, -, -, -⟩ := hy.shape
    replace HBX := Lib.hid (HBX.out.of_eq (hb.block _ HBX.out.lt))
    replace HBX2 := Lib.hid (HBX2.out.of_eq (hb.block _ HBX2.out.lt))
    replace HBS := Lib.hid (HBS.out.of_eq (hb.block _ HBS.out.lt))
    replace HBB := Lib.hid (HBB.out.of_eq (hb.block _ HBB.out.lt))
    replace HBD := Lib.hid (HBD.out.of_eq (hb.block _ HBD.out.lt))
    replace HBG := Lib.hid (HBG.out.of_eq (hb.block _ HBG.out.lt))
    replace HBU := Lib.hid (HBU.out.of_eq (hb.block _ HBU.out.lt))
    replace HTV := Lib.hid (HTV.out.grow hb)
    replace HUV := Lib.hid (HUV.out.grow hb)
    replace HSV := Lib.hid (HSV.out.grow hb)
    replace HBV := Lib.hid (HBV.out.grow hb)
    replace HDV := Lib.hid (HDV.out.grow hb)
    replace HGV := Lib.hid (HGV.out.grow hb)
    replace HPV := Lib.hid (HPV.out.grow hb)
    replace HB := Lib.hid (belowStep hb HB.out)
    have HFV := Lib.hid hy
    clear hb hy
    obtain ⟨hbx, hb⟩ := boxN_new w63 28 #[.int .i64 t.op, .int .i64 t.n, .string t.s, .slice fka fkn fkc, .slice fna fnn fnc, .slice fla fln flc]
    replace HBX := Lib.hid (HBX.out.of_eq (hb.block _ HBX.out.lt))
    replace HBX2 := Lib.hid (HBX2.out.of_eq (hb.block _ HBX2.out.lt))
    replace HBS := Lib.hid (HBS.out.of_eq (hb.block _ HBS.out.lt))
    replace HBB := Lib.hid (HBB.out.of_eq (hb.block _ HBB.out.lt))
    replace HBD := Lib.hid (HBD.out.of_eq (hb.block _ HBD.out.lt))
    replace HBG := Lib.hid (HBG.out.of_eq (hb.block _ HBG.out.lt))
    replace HBU := Lib.hid (HBU.out.of_eq (hb.block _ HBU.out.lt))
    replace HTV := Lib.hid (HTV.out.grow hb)
    replace HUV := Lib.hid (HUV.out.grow hb)
    replace HSV := Lib.hid (HSV.out.grow hb)
    replace HBV := Lib.hid (HBV.out.grow hb)
    replace HDV := Lib.hid (HDV.out.grow hb)
    replace HGV := Lib.hid (HGV.out.grow hb)
    replace HPV := Lib.hid (HPV.out.grow hb)
    replace HFV := Lib.hid (HFV.out.grow hb)
    replace HB := Lib.hid (belowStep hb HB.out)
    have HBF := Lib.hid hbx
    clear hbx hb
    have c0 := HBF.out.cell 0 (.int .i64 t.op) rfl
    have c1 := HBF.out.cell 1 (.int .i64 t.n) rfl
    have c2 := HBF.out.cell 2 (.string t.s) rfl
    have c3 := HBF.out.cell 3 (.slice fka fkn fkc) rfl
    have c4 := HBF.out.cell 4 (.slice fna fnn fnc) rfl
    have c5 := HBF.out.cell 5 (.slice fla fln flc) rfl
    have d0 := HBX.out.cell 0 (.int .i64 t.op) rfl
    have d1 := HBX.out.cell 1 (.int .i64 t.n) rfl
    have d2 := HBX.out.cell 2 (.string t.s) rfl
    have d3 := HBX.out.cell 3 (.slice ka kn kc) rfl
    have d4 := HBX.out.cell 4 (.slice na nn nc) rfl
    have d5 := HBX.out.cell 5 (.slice la ln lc) rfl
    go_wp2_with fail
    generalize w63.alloc (.cells #[.int .i64 t.op, .int .i64 t.n, .string t.s, .slice fka fkn fkc, .slice fna fnn fnc, .slice fla fln flc] 28) = v63 at *
    have hc := HCE.out _ _ t t _ _ _ (fun _ h => h) (fun _ h => h) HFV.out HTV.out
    rw [sameB_self] at hc
    clear c0 c1 c2 c3 c4 c5 d0 d1 d2 d3 d4 d5
    refine hc.mono ?_
    rintro e w64 ⟨rfl, hb⟩
    have HBE := Lib.hid (belowStep hb HB.out)
    clear hb
    go_wp2
    go_ret
    exact ⟨rfl, HBE.out⟩
  · have q8 : (ec == 0) = false := by simpa using hec
    clear HQ hec
    clear c0 c1 c2 c3 c4 c5 d0 d1 d2 d3 d4 d5
    have c0 := HBX.out.cell 0 (.int .i64 t.op) rfl
    have c1 := HBX.out.cell 1 (.int .i64 t.n) rfl
    have c2 := HBX.out.cell 2 (.string t.s) rfl
    have c3 := HBX.out.cell 3 (.slice ka kn kc) rfl
    have c4 := HBX.out.cell 4 (.slice na nn nc) rfl
    have c5 := HBX.out.cell 5 (.slice la ln lc) rfl
    go_wp2_with fail
    have hc := HSH.out t 1 0 _ _ HTV.out (by omega) (by omega) (by omega) (by omega)
    rw [shiftOut_up t 1 0 HVT.out (by omega) (by omega) (by omega)] at hc
    clear c0 c1 c2 c3 c4 c5
    rcases outB_cases (Con.shift 1 t 0) with ⟨hv1, ho⟩ | ⟨hv1, ho⟩
    rotate_left
    · rw [ho] at hc
      refine hc.mono ?_
      rintro e w81 ⟨⟨y, rfl, hy⟩, hb⟩
      obtain ⟨zka, zkn, zkc, zna, znn, znc, zla, zln, zlc, rfl, -, -, -⟩ := hy.shape
      have HBE := Lib.hid (below_new (o := .cells #[.int .i64 Con.none0.op, .int .i64 Con.none0.n, .string Con.none0.s, .slice zka zkn zkc, .slice zna znn znc, .slice zla zln zlc] 28) (belowStep hb HB.out))
      clear hb hy
      go_wp2
      go_ret
      exact ⟨rfl, HBE.out⟩
    rw [ho] at hc
    have HUP := Lib.hid (substOut_up t a HVT.out HVA.out hv1)
    clear hv1 ho
    obtain ⟨u, hu⟩ : ∃ u, u = Con.shift 1 t 0 := ⟨_, rfl⟩
    rw [← hu] at hc HUP
    clear hu
    refine hc.mono ?_
    rintro e w82 ⟨⟨y, rfl, hy⟩, hb⟩
    obtain ⟨uka, ukn, ukc, una, unn, unc, ula, uln, ulc, rfl, -, -, -⟩ := hy.shape
    replace HBX := Lib.hid (HBX.out.of_eq (hb.block _ HBX.out.lt))
    replace HBX2 := Lib.hid (HBX2.out.of_eq (hb.block _ HBX2.out.lt))
    replace HBS := Lib.hid (HBS.out.of_eq (hb.block _ HBS.out.lt))
    replace HBB := Lib.hid (HBB.out.of_eq (hb.block _ HBB.out.lt))
    replace HBD := Lib.hid (HBD.out.of_eq (hb.block _ HBD.out.lt))
    replace HBG := Lib.hid (HBG.out.of_eq (hb.block _ HBG.out.lt))
    replace HTV := Lib.hid (HTV.out.grow hb)
    replace HUV := Lib.hid (HUV.out.grow hb)
    replace HSV := Lib.hid (HSV.out.grow hb)
    replace HBV := Lib.hid (HBV.out.grow hb)
    replace HDV := Lib.hid (HDV.out.grow hb)
    replace HGV := Lib.hid (HGV.out.grow hb)
    replace HB := Lib.hid (belowStep hb HB.out)
    have HPV := Lib.hid hy
    clear hb hy
    obtain ⟨hbx, hb⟩ := boxN_new w82 28 #[.int .i64 u.op, .int .i64 u.n, .string u.s, .slice uka ukn ukc, .slice una unn unc, .slice ula uln ulc]
    replace HBX := Lib.hid (HBX.out.of_eq (hb.block _ HBX.out.lt))
    replace HBX2 := Lib.hid (HBX2.out.of_eq (hb.block _ HBX2.out.lt))
    replace HBS := Lib.hid (HBS.out.of_eq (hb.block _ HBS.out.lt))
    replace HBB := Lib.hid (HBB.out.of_eq (hb.block _ HBB.out.lt))
    replace HBD := Lib.hid (HBD.out.of_eq (hb.block _ HBD.out.lt))
    replace HBG := Lib.hid (HBG.out.of_eq (hb.block _ HBG.out.lt))
    replace HTV := Lib.hid (HTV.out.grow hb)
    replace HUV := Lib.hid (HUV.out.grow hb)
    replace HSV := Lib.hid (HSV.out.grow hb)
    replace HBV := Lib.hid (HBV.out.grow hb)
    replace HDV := Lib.hid (HDV.out.grow hb)
    replace HGV := Lib.hid (HGV.out.grow hb)
    replace HPV := Lib.hid (HPV.out.grow hb)
    replace HB := Lib.hid (belowStep hb HB.out)
    have HBU := Lib.hid hbx
    clear hbx hb
    have c0 := HBU.out.cell 0 (.int .i64 u.op) rfl
    have c1 := HBU.out.cell 1 (.int .i64 u.n) rfl
    have c2 := HBU.out.cell 2 (.string u.s) rfl
    have c3 := HBU.out.cell 3 (.slice uka ukn ukc) rfl
    have c4 := HBU.out.cell 4 (.slice una unn unc) rfl
    have c5 := HBU.out.cell 5 (.slice ula uln ulc) rfl
    have d0 := HBX2.out.cell 0 (.int .i64 a.op) rfl
    have d1 := HBX2.out.cell 1 (.int .i64 a.n) rfl
    have d2 := HBX2.out.cell 2 (.string a.s) rfl
    have d3 := HBX2.out.cell 3 (.slice ka2 kn2 kc2) rfl
    have d4 := HBX2.out.cell 4 (.slice na2 nn2 nc2) rfl
    have d5 := HBX2.out.cell 5 (.slice la2 ln2 lc2) rfl
    go_wp2_with fail
    have HE6 := size_alloc w82 (.cells #[.int .i64 u.op, .int .i64 u.n, .string u.s, .slice uka ukn ukc, .slice una unn unc, .slice ula uln ulc] 28)
    generalize w82.alloc (.cells #[.int .i64 u.op, .int .i64 u.n, .string u.s, .slice uka ukn ukc, .slice una unn unc, .slice ula uln ulc] 28) = v82 at *
    clear c0 c1 c2 c3 c4 c5 d0 d1 d2 d3 d4 d5
    obtain ⟨hbx, hb⟩ := boxN_new v82 28 #[.int .i64 a.op, .int .i64 a.n, .string a.s, .slice ka2 kn2 kc2, .slice na2 nn2 nc2, .slice la2 ln2 lc2]
    replace HBX := Lib.hid (HBX.out.of_eq (hb.block _ HBX.out.lt))
    replace HBX2 := Lib.hid (HBX2.out.of_eq (hb.block _ HBX2.out.lt))
    replace HBS := Lib.hid (HBS.out.of_eq (hb.block _ HBS.out.lt))
    replace HBB := Lib.hid (HBB.out.of_eq (hb.block _ HBB.out.lt))
    replace HBD := Lib.hid (HBD.out.of_eq (hb.block _ HBD.out.lt))
    replace HBG := Lib.hid (HBG.out.of_eq (hb.block _ HBG.out.lt))
    replace HBU := Lib.hid (HBU.out.of_eq (hb.block _ HBU.out.lt))
    replace HTV := Lib.hid (HTV.out.grow hb)
    replace HUV := Lib.hid (HUV.out.grow hb)
    replace HSV := Lib.hid (HSV.out.grow hb)
    replace HBV := Lib.hid (HBV.out.grow hb)
    replace HDV := Lib.hid (HDV.out.grow hb)
    replace HGV := Lib.hid (HGV.out.grow hb)
    replace HPV := Lib.hid (HPV.out.grow hb)
    replace HB := Lib.hid (belowStep hb HB.out)
    have HONE := Lib.hid (cons_one (P := (· < (v82.alloc (.cells #[.int .i64 a.op, .int .i64 a.n, .string a.s, .slice ka2 kn2 kc2, .slice na2 nn2 nc2, .slice la2 ln2 lc2] 28)).heap.size)) hbx hbx.lt HUV.out)
    clear hbx hb
    generalize v82.alloc (.cells #[.int .i64 a.op, .int .i64 a.n, .string a.s, .slice ka2 kn2 kc2, .slice na2 nn2 nc2, .slice la2 ln2 lc2] 28) = v99 at *
    rw [HE6] at HONE
    have hc := HSU.out u [a] _ _ _ HPV.out HONE.out
    rw [HUP.out] at hc
    clear HONE
    refine hc.mono ?_
    rintro e w83 ⟨⟨y, rfl, hy⟩, hb⟩
    obtain ⟨fka, fkn, fkc, fna, fnn, fnc, fla, fln, flc, rfl, -, -, -⟩ := hy.shape
    replace HBX := Lib.hid (HBX.out.of_eq (hb.block _ HBX.out.lt))
    replace HBX2 := Lib.hid (HBX2.out.of_eq (hb.block _ HBX2.out.lt))
    replace HBS := Lib.hid (HBS.out.of_eq (hb.block _ HBS.out.lt))
    replace HBB := Lib.hid (HBB.out.of_eq (hb.block _ HBB.out.lt))
    replace HBD := Lib.hid (HBD.out.of_eq (hb.block _ HBD.out.lt))
    replace HBG := Lib.hid (HBG.out.of_eq (hb.block _ HBG.out.lt))
    replace HBU := Lib.hid (HBU.out.of_eq (hb.block _ HBU.out.lt))
    replace HTV := Lib.hid (HTV.out.grow hb)
    replace HUV := Lib.hid (HUV.out.grow hb)
    replace HSV := Lib.hid (HSV.out.grow hb)
    replace HBV := Lib.hid (HBV.out.grow hb)
    replace HDV := Lib.hid (HDV.out.grow hb)
    replace HGV := Lib.hid (HGV.out.grow hb)
    replace HPV := Lib.hid (HPV.out.grow hb)
    replace HB := Lib.hid (belowStep hb HB.out)
    have HFV := Lib.hid hy
    clear hb hy
    obtain ⟨hbx, hb⟩ := boxN_new w83 28 #[.int .i64 t.op, .int .i64 t.n, .string t.s, .slice fka fkn fkc, .slice fna fnn fnc, .slice fla fln flc]
    replace HBX := Lib.hid (HBX.out.of_eq (hb.block _ HBX.out.lt))
    replace HBX2 := Lib.hid (HBX2.out.of_eq (hb.block _ HBX2.out.lt))
    replace HBS := Lib.hid (HBS.out.of_eq (hb.block _ HBS.out.lt))
    replace HBB := Lib.hid (HBB.out.of_eq (hb.block _ HBB.out.lt))
    replace HBD := Lib.hid (HBD.out.of_eq (hb.block _ HBD.out.lt))
    replace HBG := Lib.hid (HBG.out.of_eq (hb.block _ HBG.out.lt))
    replace HBU := Lib.hid (HBU.out.of_eq (hb.block _ HBU.out.lt))
    replace HTV := Lib.hid (HTV.out.grow hb)
    replace HUV := Lib.hid (HUV.out.grow hb)
    replace HSV := Lib.hid (HSV.out.grow hb)
    replace HBV := Lib.hid (HBV.out.grow hb)
    replace HDV := Lib.hid (HDV.out.grow hb)
    replace HGV := Lib.hid (HGV.out.grow hb)
    replace HPV := Lib.hid (HPV.out.grow hb)
    replace HFV := Lib.hid (HFV.out.grow hb)
    replace HB := Lib.hid (belowStep hb HB.out)
    have HBF := Lib.hid hbx
    clear hbx hb
    have c0 := HBF.out.cell 0 (.int .i64 t.op) rfl
    have c1 := HBF.out.cell 1 (.int .i64 t.n) rfl
    have c2 := HBF.out.cell 2 (.string t.s) rfl
    have c3 := HBF.out.cell 3 (.slice fka fkn fkc) rfl
    have c4 := HBF.out.cell 4 (.slice fna fnn fnc) rfl
    have c5 := HBF.out.cell 5 (.slice fla fln flc) rfl
    have d0 := HBX.out.cell 0 (.int .i64 t.op) rfl
    have d1 := HBX.out.cell 1 (.int .i64 t.n) rfl
    have d2 := HBX.out.cell 2 (.string t.s) rfl
    have d3 := HBX.out.cell 3 (.slice ka kn kc) rfl
    have d4 := HBX.out.cell 4 (.slice na nn nc) rfl
    have d5 := HBX.out.cell 5 (.slice la ln lc) rfl
    go_wp2_with fail
    generalize w83.alloc (.cells #[.int .i64 t.op, .int .i64 t.n, .string t.s, .slice fka fkn fkc, .slice fna fnn fnc, .slice fla fln flc] 28) = v83 at *
    have hc := HCE.out _ _ t t _ _ _ (fun _ h => h) (fun _ h => h) HFV.out HTV.out
    rw [sameB_self] at hc
    clear c0 c1 c2 c3 c4 c5 d0 d1 d2 d3 d4 d5
    refine hc.mono ?_
    rintro e w84 ⟨rfl, hb⟩
    have HBE := Lib.hid (belowStep hb HB.out)
    clear hb
    go_wp2
    go_ret
    exact ⟨rfl, HBE.out⟩
end Go.Proofs.YtigedbkifagfeaaGreat
namespace Go.Proofs.YtigedbkifagfeaaGreat
open Go Go.RowKit
open Pl (K Con)
set_option linter.unusedSimpArgs false

theorem depth_le_size (t : Con) : t.depth ≤ t.size := by
  induction t using Con.ind with
  | h t ih =>
    rw [Con.depth_eq, Con.size_eq]
    have : ∀ l : List Con, (∀ x ∈ l, x.depth ≤ x.size) → Con.depths l ≤ Con.sizes l := by
      intro l
      induction l with
      | nil => intro _; rw [Con.depths_nil]; exact Nat.zero_le _
      | cons x r ihr =>
        intro h
        rw [Con.depths_cons, Con.sizes_cons]
        have := h x List.mem_cons_self
        have := ihr (fun y hy => h y (List.mem_cons_of_mem _ hy))
        omega
    have := this t.l ih
    omega
/-- a function of constructors -/
def lam (t : Con) : Con := ⟨11, 0, ByteArray.empty, .mk [], [], [t]⟩
theorem lam_valid (t : Con) (h : Con.Tiny9 t) : Con.validB (lam t) = true := by
  obtain ⟨h1, h2⟩ := h
  have hs := size_le_wt t
  have hd := depth_le_size t
  unfold Con.validB at h2 ⊢
  rw [Bool.and_eq_true] at h2 ⊢
  constructor
  · unfold Con.small
    rw [Con.size_eq, Con.depth_eq]
    show (decide (1 + Con.sizes [t] ≤ 20000) && decide (1 + Con.depths [t] ≤ 400)) = true
    rw [Con.sizes_cons, Con.sizes_nil, Con.depths_cons, Con.depths_nil, decide_eq_true (by omega), decide_eq_true (by omega)]
    rfl
  · rw [allB_eq, Bool.and_eq_true]
    refine ⟨?_, ?_⟩
    · have hk : K.valid (.mk []) = true := by decide +kernel
      have he : ByteArray.empty.toList = [] := by rw [ByteArray.toList_eq]; rfl
      have e1 : Con.shapeB (lam t) = true := by simp [Con.shapeB, lam, Con.partsOf, Con.binder]
      have e2 : Con.numB (lam t) = true := by simp [Con.numB, lam]
      have e3 : Con.strB (lam t) = true := by simp [Con.strB, lam, he]
      have e4 : Con.kindB (lam t) = true := by simp [Con.kindB, lam, Con.binder, hk]
      have e5 : (decide (1 ≤ (lam t).op) && decide ((lam t).op ≤ 13)) = true := by simp [lam]
      unfold Con.nodeB
      rw [e1, e2, e3, e4, e5]
      rfl
    · show [t].all Con.allB = true
      rw [List.all_cons, h2.2]; rfl
theorem part_valid (t x : Con) (h : Con.validB t = true) (hx : x ∈ t.l) : Con.validB x = true := by
  unfold Con.validB at h ⊢
  rw [Bool.and_eq_true] at h ⊢
  have h1 := h.1
  unfold Con.small at h1 ⊢
  rw [Bool.and_eq_true, decide_eq_true_eq, decide_eq_true_eq, Con.size_eq, Con.depth_eq] at h1
  have hs := Con.mem_size hx
  have hd := Con.mem_depth hx
  refine ⟨by rw [decide_eq_true (by omega : x.size ≤ 20000), decide_eq_true (by omega : x.depth ≤ 400)]; rfl, ?_⟩
  have h2 := h.2
  rw [allB_eq, Bool.and_eq_true, List.all_eq_true] at h2
  exact h2.2 x hx
theorem substOut_ok (t : Con) (l : List Con) (h : Con.validB t = true) (hl : ∀ x ∈ l, Con.validB x = true) (hn : l.length ≤ 1000) : substOut t l = outB (Con.subst l t 0) := by
  unfold substOut
  rw [h, List.all_eq_true.2 hl, show (true && true) = true from rfl, if_pos rfl, if_neg (by omega)]
theorem subst_lam (t : Con) (l : List Con) : Con.subst l (lam t) 0 = lam (Con.subst l t 1) := by
  rw [Con.subst_node _ _ _ (show (lam t).op ≠ 1 from (by decide : (11 : Int) ≠ 1))]
  rfl
/-- both ways -/
theorem commute_out (t a : Con) (l : List Con) (h1 : Con.validB (Con.subst [a] t 0) = true) (h2 : Con.validB (Con.subst l a 0) = true) (h3 : Con.validB (lam (Con.subst l t 1)) = true) (hl : ∀ x ∈ l, Con.validB x = true) (hn : l.length ≤ 1000) :
    substOut (Con.subst [a] t 0) l = substOut (Con.subst l t 1) [Con.subst l a 0] := by
  have h4 : Con.validB (Con.subst l t 1) = true := part_valid _ _ h3 (by simp [lam])
  rw [substOut_ok _ l h1 hl hn, substOut_ok _ [Con.subst l a 0] h4 (fun x hx => by rw [List.mem_singleton.1 hx]; exact h2) (by simp), Con.subst_subst t a l 0 (Int.le_refl _)]
  rfl
set_option maxRecDepth 100000 in
theorem rbound_any (t : Con) (w : World) (v : Value) (ht : ConV w (· < w.heap.size) t v) :
    Calls Tryz.prog 49 #[.int .i64 11, .agg #[.slice none 0 0], v] w fun e w' => (∃ g, e = .returned (.agg #[.int .i64 11, .int .i64 0, .string ByteArray.empty, .slice none 0 0, .slice none 0 0, .slice (some ⟨g, 0, none⟩) 1 1]) ∧ ConV w' (· < w'.heap.size) (lam t) (.agg #[.int .i64 11, .int .i64 0, .string ByteArray.empty, .slice none 0 0, .slice none 0 0, .slice (some ⟨g, 0, none⟩) 1 1])) ∧ Below w.heap.size w w' := by
  have HT := Lib.hid (fun W (hW : Below w.heap.size w W) => ht.grow hW)
  obtain ⟨ka, kn, kc, na, nn, nc, la, ln, lc, rfl, -, -, -⟩ := ht.shape
  clear ht
  go_enter Tryz.func49, Tryz.ntmps49
  have hX : Below w.heap.size w (((w.alloc (.cells #[.slice none 0 0] 24)).alloc (.cells #[.int .i64 t.op, .int .i64 t.n, .string t.s, .slice ka kn kc, .slice na nn nc, .slice la ln lc] 28)).alloc (.cells #[.int .i64 11, .int .i64 0, .string ByteArray.empty, .slice none 0 0, .slice none 0 0, .slice (some ⟨w.heap.size + 1 + 1 + 1, 0, none⟩) 1 1] 28)) := below_new (below_new (below_new (Below.refl _ _)))
  have hs : (((w.alloc (.cells #[.slice none 0 0] 24)).alloc (.cells #[.int .i64 t.op, .int .i64 t.n, .string t.s, .slice ka kn kc, .slice na nn nc, .slice la ln lc] 28)).alloc (.cells #[.int .i64 11, .int .i64 0, .string ByteArray.empty, .slice none 0 0, .slice none 0 0, .slice (some ⟨w.heap.size + 1 + 1 + 1, 0, none⟩) 1 1] 28)).heap.size = w.heap.size + 1 + 1 + 1 := by rw [size_alloc, size_alloc, size_alloc]
  obtain ⟨hbx, hb⟩ := boxN_new (((w.alloc (.cells #[.slice none 0 0] 24)).alloc (.cells #[.int .i64 t.op, .int .i64 t.n, .string t.s, .slice ka kn kc, .slice na nn nc, .slice la ln lc] 28)).alloc (.cells #[.int .i64 11, .int .i64 0, .string ByteArray.empty, .slice none 0 0, .slice none 0 0, .slice (some ⟨w.heap.size + 1 + 1 + 1, 0, none⟩) 1 1] 28)) 28 #[.int .i64 t.op, .int .i64 t.n, .string t.s, .slice ka kn kc, .slice na nn nc, .slice la ln lc]
  have hr := (blk_new ((w.alloc (.cells #[.slice none 0 0] 24)).alloc (.cells #[.int .i64 t.op, .int .i64 t.n, .string t.s, .slice ka kn kc, .slice na nn nc, .slice la ln lc] 28)) #[.int .i64 11, .int .i64 0, .string ByteArray.empty, .slice none 0 0, .slice none 0 0, .slice (some ⟨w.heap.size + 1 + 1 + 1, 0, none⟩) 1 1] 28).alloc (.cells #[.int .i64 t.op, .int .i64 t.n, .string t.s, .slice ka kn kc, .slice na nn nc, .slice la ln lc] 28)
  rw [size_alloc, size_alloc] at hr
  have d0 := hr.cell 0 (.int .i64 11) rfl
  have d1 := hr.cell 1 (.int .i64 0) rfl
  have d2 := hr.cell 2 (.string ByteArray.empty) rfl
  have d3 := hr.cell 3 (.slice none 0 0) rfl
  have d4 := hr.cell 4 (.slice none 0 0) rfl
  have d5 := hr.cell 5 (.slice (some ⟨w.heap.size + 1 + 1 + 1, 0, none⟩) 1 1) rfl
  have HB := Lib.hid (belowStep hb hX)
  rw [hs] at hbx
  have HBX := Lib.hid hbx
  clear hbx hb hX hs hr
  go_wp2_with fail
  refine bodyPost_ret (v := .agg #[.int .i64 11, .int .i64 0, .string ByteArray.empty, .slice none 0 0, .slice none 0 0, .slice (some ⟨w.heap.size + 1 + 1 + 1, 0, none⟩) 1 1]) (by first | (simp [results, Tryz.results49, go_sem, d0, d1, d2, d3, d4, d5]; done) | (simp [results, Tryz.results49, go_sem, d0, d1, d2, d3, d4, d5]; rfl)) rfl ?_
  refine ⟨⟨w.heap.size + 1 + 1 + 1, rfl, ?_⟩, HB.out⟩
  rw [conV_iff]
  refine ⟨Nat.zero_le _, _, _, _, rfl, kidV_none _ _, ⟨none, 0, rfl, Nat.le_refl _, Nat.zero_le _, fun _ => rfl, (fun z hz => by cases hz), .inl rfl⟩, ?_⟩
  exact cons_one HBX.out HBX.out.lt (HT.out _ HB.out)
end Go.Proofs.YtigedbkifagfeaaGreat
