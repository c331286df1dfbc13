/-
  Layer 9: several texts in one (Um Un Up).
-/
import Derived.Test.YtmjkeejinagokaaGreatHg
import Derived.Test.YtmjkeejinagokaaGreatShelf
import Derived.Deep.RegionHeld3
namespace Go.Proofs.YtmjkeejinagokaaGreat
open Go Go.RowKit
open Pl (K Con KR KS kof kofs ownK inK appK)
set_option linter.unusedSimpArgs false
set_option linter.unusedVariables false

/-- a row of its own, as a slice -/
theorem row_form {w : World} {base n : Nat} {e : TypeId} {v : Value} {xs : List Value} (h : w.ownsRow base e 1 v n xs) : ∃ a c, v = .slice a n c ∧ n ≤ c ∧ c ≤ maxLen ∧ (a = none → n = 0 ∧ c = 0) ∧ ∀ (j : Nat), j < n → ∃ g, a = some ⟨g, 0, none⟩ ∧ g < w.heap.size ∧ w.cell? ⟨g, j, none⟩ = xs[j]? := by
  have hc := h
  rcases h.2 with ⟨rfl, rfl⟩ | ⟨g, cap, cu, rfl, hbg, hg, hnc, hcm, hcs, htake⟩
  · exact ⟨none, 0, rfl, Nat.le_refl _, Nat.zero_le _, fun _ => ⟨rfl, rfl⟩, fun j hj => absurd hj (Nat.not_lt_zero _)⟩
  · exact ⟨_, cap, rfl, hnc, hcm, (fun h => by cases h), fun j hj => ⟨g, rfl, (hc.lt g rfl).2, hc.cellAt j (by omega)⟩⟩
theorem pathV_at (p : List Nat) (j : Nat) (h : j < p.length) : (pathV p)[j]? = some (.int .i64 (p[j] : Int)) := by
  unfold pathV
  rw [List.getElem?_map, List.getElem?_eq_getElem h]
  rfl
set_option maxRecDepth 100000 in
theorem pathEq_any (p : List Nat) (b1 b2 n m : Nat) (w : World) (v x : Value) (h1 : w.ownsRow b1 3 1 v n (pathV p)) (h2 : w.ownsRow b2 3 1 x m (pathV p)) (hn : n = p.length) (hm : m = p.length) :
    Calls Tryz.prog 21 #[v, x] w fun e w' => e = .returned (.bool true) ∧ Below w.heap.size w w' := by
  subst hn hm
  obtain ⟨a1, c1, rfl, hc1, hm1, -, e1⟩ := row_form h1
  obtain ⟨a2, c2, rfl, hc2, hm2, -, e2⟩ := row_form h2
  by_cases h0 : p.length = 0
  · have hp : p = [] := List.eq_nil_of_length_eq_zero h0
    subst hp
    refine (Tryz.slices_Equal_int_empty a1 a2 c1 0 c2 w (by omega)).mono ?_
    rintro e w' ⟨rfl, rfl⟩
    exact ⟨rfl, Below.refl _ _⟩
  · obtain ⟨g1, rfl, -, -⟩ := e1 0 (by omega)
    obtain ⟨g2, rfl, -, -⟩ := e2 0 (by omega)
    have hx : ∀ (j : Nat) (hj : j < p.length), (p.map (fun i : Nat => (i : Int))).getD j 0 = (p[j] : Int) := by
      intro j hj
      rw [List.getD_eq_getElem?_getD, List.getElem?_map, List.getElem?_eq_getElem hj]
      rfl
    have hl : (p.map (fun i : Nat => (i : Int))).length = p.length := by simp
    have key := Tryz.slices_Equal_int g1 0 p.length c1 g2 0 p.length c2 (p.map (fun i : Nat => (i : Int))) (p.map (fun i : Nat => (i : Int))) w (by rw [hl]; exact Nat.le_refl _) (by rw [hl]; exact Nat.le_refl _) (by unfold maxLen at hm1; omega) (by unfold maxLen at hm2; omega) (fun j hj => by
      rw [hl] at hj
      obtain ⟨g, e, -, hc⟩ := e1 j hj
      injection e with e
      injection e with e
      subst e
      rw [Nat.zero_add, hc, hx j hj, pathV_at p j hj]) (fun j hj => by
      rw [hl] at hj
      obtain ⟨g, e, -, hc⟩ := e2 j hj
      injection e with e
      injection e with e
      subst e
      rw [Nat.zero_add, hc, hx j hj, pathV_at p j hj])
    refine key.mono ?_
    rintro e w' ⟨rfl, q, rfl⟩
    refine ⟨?_, below_drewN10 (Below.refl _ _) q⟩
    have : ((p.map (fun i : Nat => (i : Int))).take p.length == (p.map (fun i : Nat => (i : Int))).take p.length) = true := by simp
    rw [this]
theorem pathV_take (p : List Nat) (j : Nat) (h : j < p.length) : pathV (p.take (j + 1)) = pathV (p.take j) ++ [.int .i64 (p[j] : Int)] := by
  rw [List.take_succ_eq_append_getElem h]
  unfold pathV
  rw [List.map_append]
  rfl
end Go.Proofs.YtmjkeejinagokaaGreat
namespace Go.Proofs.YtmjkeejinagokaaGreat
open Go Go.RowKit
open Pl (K Con KR KS kof kofs ownK inK appK)
set_option linter.unusedSimpArgs false
set_option linter.unusedVariables false

def k10 (op n : Int) (l : List Con) : Con := ⟨op, n, ByteArray.empty, .mk [], [], l⟩
def exLam : Con := k10 11 0 [k10 6 0 [k10 1 0 [], k10 1 0 []]]
def exApp : Con := k10 12 0 [k10 4 0 [], k10 4 0 []]
def exArr : Con := k10 6 0 [k10 4 0 [], k10 1 0 []]
theorem ex_lam : ofOut [] exLam = .ok (K.arity 1) := by kernel_rfl
theorem ex_app : ofOut [] exApp = .bad 11 [] := by kernel_rfl
theorem ex_arr : whereOut [] exArr = ([1], 0) := by kernel_rfl
theorem conV_k10 {w : World} {P : Nat → Prop} {op n : Int} {l : List Con} {lv : Value} (h : ConSl w P lv l) : ConV w P (k10 op n l) (.agg #[.int .i64 op, .int .i64 n, .string ⟨#[]⟩, .slice none 0 0, .slice none 0 0, lv]) := by
  rw [conV_iff]
  exact ⟨Nat.zero_le _, _, _, _, rfl, kidV_none _ _, ⟨none, 0, rfl, Nat.le_refl _, Nat.zero_le _, fun _ => rfl, (fun z hz => by cases hz), .inl rfl⟩, h⟩
theorem conSl_none (w : World) (P : Nat → Prop) : ConSl w P (.slice none 0 0) [] := ⟨none, 0, rfl, Nat.le_refl _, Nat.zero_le _, fun _ => rfl, .inl rfl⟩
theorem cons_one10 {w : World} {P : Nat → Prop} {g : Nat} {t : Con} {x0 x1 x2 x3 x4 x5 : Value} (hb : Blk w g 28 #[x0, x1, x2, x3, x4, x5]) (hg : P g) (ht : ConV w P t (.agg #[x0, x1, x2, x3, x4, x5])) : ConSl w P (.slice (some ⟨g, 0, none⟩) 1 1) [t] := by
  refine ⟨_, 1, rfl, Nat.le_refl _, by unfold maxLen; omega, (fun h => by cases h), .inr ⟨g, 0, rfl, hg, ?_⟩⟩
  rw [ConsAt, ConsAt]
  exact ⟨⟨_, ⟨x0, x1, x2, x3, x4, x5, rfl, hb.cell 0 _ rfl, hb.cell 1 _ rfl, hb.cell 2 _ rfl, hb.cell 3 _ rfl, hb.cell 4 _ rfl, hb.cell 5 _ rfl⟩, ht⟩, trivial⟩
/-- two leaves side by side, newly made -/
theorem two_leaves (w : World) (o1 n1 o2 n2 : Int) : ConSl (w.alloc (.cells #[.int .i64 o1, .int .i64 n1, .string ⟨#[]⟩, .slice none 0 0, .slice none 0 0, .slice none 0 0, .int .i64 o2, .int .i64 n2, .string ⟨#[]⟩, .slice none 0 0, .slice none 0 0, .slice none 0 0] 28)) (fun q => q = w.heap.size) (.slice (some ⟨w.heap.size, 0, none⟩) 2 2) [k10 o1 n1 [], k10 o2 n2 []] :=
  cons_two (blk_new w _ _) rfl (conV_k10 (conSl_none _ _)) (conV_k10 (conSl_none _ _))
theorem lam_world (w : World) : ConV (((w.alloc (.cells #[.int .i64 1, .int .i64 0, .string ⟨#[]⟩, .slice none 0 0, .slice none 0 0, .slice none 0 0, .int .i64 1, .int .i64 0, .string ⟨#[]⟩, .slice none 0 0, .slice none 0 0, .slice none 0 0] 28)).alloc (.cells #[.int .i64 6, .int .i64 0, .string ⟨#[]⟩, .slice none 0 0, .slice none 0 0, .slice (some ⟨w.heap.size, 0, none⟩) 2 2] 28)).alloc (.cells #[.int .i64 11, .int .i64 0, .string ⟨#[]⟩, .slice none 0 0, .slice none 0 0, .slice (some ⟨w.heap.size + 1, 0, none⟩) 1 1] 28)) (fun q => q = w.heap.size ∨ q = w.heap.size + 1) exLam (.agg #[.int .i64 11, .int .i64 0, .string ⟨#[]⟩, .slice none 0 0, .slice none 0 0, .slice (some ⟨w.heap.size + 1, 0, none⟩) 1 1]) ∧ Blk (((w.alloc (.cells #[.int .i64 1, .int .i64 0, .string ⟨#[]⟩, .slice none 0 0, .slice none 0 0, .slice none 0 0, .int .i64 1, .int .i64 0, .string ⟨#[]⟩, .slice none 0 0, .slice none 0 0, .slice none 0 0] 28)).alloc (.cells #[.int .i64 6, .int .i64 0, .string ⟨#[]⟩, .slice none 0 0, .slice none 0 0, .slice (some ⟨w.heap.size, 0, none⟩) 2 2] 28)).alloc (.cells #[.int .i64 11, .int .i64 0, .string ⟨#[]⟩, .slice none 0 0, .slice none 0 0, .slice (some ⟨w.heap.size + 1, 0, none⟩) 1 1] 28)) (w.heap.size + 1 + 1) 28 #[.int .i64 11, .int .i64 0, .string ⟨#[]⟩, .slice none 0 0, .slice none 0 0, .slice (some ⟨w.heap.size + 1, 0, none⟩) 1 1] ∧ Below w.heap.size w (((w.alloc (.cells #[.int .i64 1, .int .i64 0, .string ⟨#[]⟩, .slice none 0 0, .slice none 0 0, .slice none 0 0, .int .i64 1, .int .i64 0, .string ⟨#[]⟩, .slice none 0 0, .slice none 0 0, .slice none 0 0] 28)).alloc (.cells #[.int .i64 6, .int .i64 0, .string ⟨#[]⟩, .slice none 0 0, .slice none 0 0, .slice (some ⟨w.heap.size, 0, none⟩) 2 2] 28)).alloc (.cells #[.int .i64 11, .int .i64 0, .string ⟨#[]⟩, .slice none 0 0, .slice none 0 0, .slice (some ⟨w.heap.size + 1, 0, none⟩) 1 1] 28)) := by
  have h1 := boxN_new w 28 #[.int .i64 1, .int .i64 0, .string ⟨#[]⟩, .slice none 0 0, .slice none 0 0, .slice none 0 0, .int .i64 1, .int .i64 0, .string ⟨#[]⟩, .slice none 0 0, .slice none 0 0, .slice none 0 0]
  have h2 := boxN_new (w.alloc (.cells #[.int .i64 1, .int .i64 0, .string ⟨#[]⟩, .slice none 0 0, .slice none 0 0, .slice none 0 0, .int .i64 1, .int .i64 0, .string ⟨#[]⟩, .slice none 0 0, .slice none 0 0, .slice none 0 0] 28)) 28 #[.int .i64 6, .int .i64 0, .string ⟨#[]⟩, .slice none 0 0, .slice none 0 0, .slice (some ⟨w.heap.size, 0, none⟩) 2 2]
  have h3 := boxN_new ((w.alloc (.cells #[.int .i64 1, .int .i64 0, .string ⟨#[]⟩, .slice none 0 0, .slice none 0 0, .slice none 0 0, .int .i64 1, .int .i64 0, .string ⟨#[]⟩, .slice none 0 0, .slice none 0 0, .slice none 0 0] 28)).alloc (.cells #[.int .i64 6, .int .i64 0, .string ⟨#[]⟩, .slice none 0 0, .slice none 0 0, .slice (some ⟨w.heap.size, 0, none⟩) 2 2] 28)) 28 #[.int .i64 11, .int .i64 0, .string ⟨#[]⟩, .slice none 0 0, .slice none 0 0, .slice (some ⟨w.heap.size + 1, 0, none⟩) 1 1]
  have e1 := h2.1
  have e2 := h3.1
  rw [size_alloc] at e1
  rw [size_alloc, size_alloc] at e2
  have hl := two_leaves w 1 0 1 0
  have hl3 : ConSl (((w.alloc (.cells #[.int .i64 1, .int .i64 0, .string ⟨#[]⟩, .slice none 0 0, .slice none 0 0, .slice none 0 0, .int .i64 1, .int .i64 0, .string ⟨#[]⟩, .slice none 0 0, .slice none 0 0, .slice none 0 0] 28)).alloc (.cells #[.int .i64 6, .int .i64 0, .string ⟨#[]⟩, .slice none 0 0, .slice none 0 0, .slice (some ⟨w.heap.size, 0, none⟩) 2 2] 28)).alloc (.cells #[.int .i64 11, .int .i64 0, .string ⟨#[]⟩, .slice none 0 0, .slice none 0 0, .slice (some ⟨w.heap.size + 1, 0, none⟩) 1 1] 28)) (fun q => q = w.heap.size ∨ q = w.heap.size + 1) (.slice (some ⟨w.heap.size, 0, none⟩) 2 2) [k10 1 0 [], k10 1 0 []] := ((hl.keep (Same.of_below h2.2 (fun q hq => by rw [hq, size_alloc]; omega))).keep (Same.of_below h3.2 (fun q hq => by rw [hq, size_alloc, size_alloc]; omega))).mono (fun q hq => .inl hq)
  have hb := belowStep h3.2 (belowStep h2.2 h1.2)
  exact ⟨conV_k10 (cons_one10 (e1.of_eq (h3.2.block _ e1.lt)) (.inr rfl) (conV_k10 hl3)), e2, hb⟩

set_option maxRecDepth 100000 in
set_option maxHeartbeats 2000000 in
theorem awake10 (w : World) : Calls Tryz.prog 5 #[] w fun e w' => e = .returned (.bool true) ∧ Below w.heap.size w w' := by
  obtain ⟨hc, hbx, hb⟩ := lam_world w
  have hsz : (((w.alloc (.cells #[.int .i64 1, .int .i64 0, .string ⟨#[]⟩, .slice none 0 0, .slice none 0 0, .slice none 0 0, .int .i64 1, .int .i64 0, .string ⟨#[]⟩, .slice none 0 0, .slice none 0 0, .slice none 0 0] 28)).alloc (.cells #[.int .i64 6, .int .i64 0, .string ⟨#[]⟩, .slice none 0 0, .slice none 0 0, .slice (some ⟨w.heap.size, 0, none⟩) 2 2] 28)).alloc (.cells #[.int .i64 11, .int .i64 0, .string ⟨#[]⟩, .slice none 0 0, .slice none 0 0, .slice (some ⟨w.heap.size + 1, 0, none⟩) 1 1] 28)).heap.size = w.heap.size + 3 := by rw [size_alloc, size_alloc, size_alloc]
  have HO := Lib.hid (of_any _ [] exLam (((w.alloc (.cells #[.int .i64 1, .int .i64 0, .string ⟨#[]⟩, .slice none 0 0, .slice none 0 0, .slice none 0 0, .int .i64 1, .int .i64 0, .string ⟨#[]⟩, .slice none 0 0, .slice none 0 0, .slice none 0 0] 28)).alloc (.cells #[.int .i64 6, .int .i64 0, .string ⟨#[]⟩, .slice none 0 0, .slice none 0 0, .slice (some ⟨w.heap.size, 0, none⟩) 2 2] 28)).alloc (.cells #[.int .i64 11, .int .i64 0, .string ⟨#[]⟩, .slice none 0 0, .slice none 0 0, .slice (some ⟨w.heap.size + 1, 0, none⟩) 1 1] 28)) (.slice none 0 0) _ (fun q hq => by rw [hsz]; rcases hq with hq | hq <;> omega) (kidV_none _ _) hc)
  rw [ex_lam] at HO
  have HB := Lib.hid hb
  have HSZ := Lib.hid hsz
  have c0 := hbx.cell 0 _ rfl
  have c1 := hbx.cell 1 _ rfl
  have c2 := hbx.cell 2 _ rfl
  have c3 := hbx.cell 3 _ rfl
  have c4 := hbx.cell 4 _ rfl
  have c5 := hbx.cell 5 _ rfl
  clear hc hbx hb hsz
  go_enter Tryz.func5, Tryz.ntmps5
  go_wp2_with fail
  clear c0 c1 c2 c3 c4 c5
  generalize (((w.alloc (.cells #[.int .i64 1, .int .i64 0, .string ⟨#[]⟩, .slice none 0 0, .slice none 0 0, .slice none 0 0, .int .i64 1, .int .i64 0, .string ⟨#[]⟩, .slice none 0 0, .slice none 0 0, .slice none 0 0] 28)).alloc (.cells #[.int .i64 6, .int .i64 0, .string ⟨#[]⟩, .slice none 0 0, .slice none 0 0, .slice (some ⟨w.heap.size, 0, none⟩) 2 2] 28)).alloc (.cells #[.int .i64 11, .int .i64 0, .string ⟨#[]⟩, .slice none 0 0, .slice none 0 0, .slice (some ⟨w.heap.size + 1, 0, none⟩) 1 1] 28)) = w1 at *
  refine HO.out.mono ?_
  rintro e w2 ⟨⟨ka, kn, kc, rfl, hk⟩, hb2⟩
  have qe : (KR.er (.ok (K.arity 1)) == 0) = true := rfl
  generalize KR.er (.ok (K.arity 1)) = er0 at *
  obtain rfl : er0 = 0 := by simpa using qe
  obtain ⟨hkb, hbk⟩ := boxN_new w2 24 #[.slice ka kn kc]
  have hlow : ∀ q, Ext (fun q => q = w.heap.size ∨ q = w.heap.size + 1) w1 w2 q → q < w2.heap.size := fun q hq => by
    have h1 := hb2.size
    have h2 := HSZ.out
    rcases hq with (hq | hq) | hq
    · omega
    · omega
    · exact hq.2
  have HK := Lib.hid ((hk.keep (Same.of_below hbk hlow)).mono (fun q hq => (show q < w2.heap.size from hlow q hq)))
  have HKB := Lib.hid hkb
  replace HB := Lib.hid (belowStep hbk (belowStep hb2 HB.out))
  have HLT := Lib.hid hbk.size
  clear hk hb2 HO qe hkb hbk hlow HSZ
  go_upto_region 3 with fail
  generalize w2.alloc (.cells #[.slice ka kn kc] 24) = w3 at *
  have HA := Lib.hid (show Calls Tryz.prog 19 #[.int .i64 1] w3 (ArityP 1 w3.heap.size w3) from arity_in 1 _ (by omega))
  go_wp2_with fail
  refine HA.out.mono ?_
  rintro e w4 ⟨⟨aa, an, ac, rfl, ha⟩, hb4⟩
  obtain ⟨hab, hba⟩ := boxN_new w4 24 #[.slice aa an ac]
  have hlow : ∀ q, q < w2.heap.size → q < w4.heap.size := fun q hq => by have := HLT.out; have := hb4.size; omega
  replace HK := Lib.hid (((HK.out.keep (Same.of_below hb4 (fun q hq => by have := HLT.out; omega))).keep (Same.of_below hba hlow)).mono (fun q hq => (show q < w4.heap.size from hlow q hq)))
  have HAA := Lib.hid ((ha.keep (Same.of_below hba (fun q hq => hq.2))).mono (fun q hq => (show q < w4.heap.size from hq.2)))
  replace HKB := Lib.hid ((HKB.out.of_eq (hb4.block _ HKB.out.lt)).alloc (.cells #[.slice aa an ac] 24))
  have HAB := Lib.hid hab
  replace HB := Lib.hid (belowStep hba (belowStep hb4 HB.out))
  replace HLT := Lib.hid hba.size
  clear ha hab hba hb4 HA hlow
  go_upto_region 4 with fail
  generalize w4.alloc (.cells #[.slice aa an ac] 24) = w5 at *
  have hbl := boxN_new w5 28 #[.int .i64 4, .int .i64 0, .string ⟨#[]⟩, .slice none 0 0, .slice none 0 0, .slice none 0 0, .int .i64 4, .int .i64 0, .string ⟨#[]⟩, .slice none 0 0, .slice none 0 0, .slice none 0 0]
  have HO2 := Lib.hid (of_any (fun q => q = w5.heap.size) [] exApp (w5.alloc (.cells #[.int .i64 4, .int .i64 0, .string ⟨#[]⟩, .slice none 0 0, .slice none 0 0, .slice none 0 0, .int .i64 4, .int .i64 0, .string ⟨#[]⟩, .slice none 0 0, .slice none 0 0, .slice none 0 0] 28)) (.slice none 0 0) _ (fun q hq => by rw [hq, size_alloc]; omega) (kidV_none _ _) (conV_k10 (two_leaves w5 4 0 4 0)))
  rw [ex_app] at HO2
  have HBL := Lib.hid hbl.2
  clear hbl
  go_wp2_with fail
  generalize w5.alloc (.cells #[.int .i64 4, .int .i64 0, .string ⟨#[]⟩, .slice none 0 0, .slice none 0 0, .slice none 0 0, .int .i64 4, .int .i64 0, .string ⟨#[]⟩, .slice none 0 0, .slice none 0 0, .slice none 0 0] 28) = w6 at *
  refine HO2.out.mono ?_
  rintro e w7 ⟨⟨ra, rn, rc, rfl, -⟩, hb7⟩
  have qe : (KR.er (.bad 11 []) == 11) = true := rfl
  generalize KR.er (.bad 11 []) = er1 at *
  obtain rfl : er1 = 11 := by simpa using qe
  have h8 := (boxN_new w7 24 #[.slice ra rn rc]).2
  have hbb : Below w5.heap.size w5 (w7.alloc (.cells #[.slice ra rn rc] 24)) := belowStep h8 (belowStep hb7 HBL.out)
  replace HK := Lib.hid (HK.out.keep (Same.of_below hbb (fun q hq => Nat.lt_of_lt_of_le hq HLT.out)))
  replace HAA := Lib.hid (HAA.out.keep (Same.of_below hbb (fun q hq => Nat.lt_of_lt_of_le hq HLT.out)))
  replace HKB := Lib.hid (HKB.out.of_eq (hbb.block _ HKB.out.lt))
  replace HAB := Lib.hid (HAB.out.of_eq (hbb.block _ HAB.out.lt))
  replace HB := Lib.hid (belowStep hbb HB.out)
  replace HLT := Lib.hid (Nat.le_trans HLT.out hbb.size)
  clear hb7 qe h8 hbb HO2 HBL
  go_upto_region 5 with fail
  generalize w7.alloc (.cells #[.slice ra rn rc] 24) = w8 at *
  have hbl := boxN_new w8 28 #[.int .i64 4, .int .i64 0, .string ⟨#[]⟩, .slice none 0 0, .slice none 0 0, .slice none 0 0, .int .i64 1, .int .i64 0, .string ⟨#[]⟩, .slice none 0 0, .slice none 0 0, .slice none 0 0]
  have HO3 := Lib.hid (where_any (fun q => q = w8.heap.size) [] exArr (w8.alloc (.cells #[.int .i64 4, .int .i64 0, .string ⟨#[]⟩, .slice none 0 0, .slice none 0 0, .slice none 0 0, .int .i64 1, .int .i64 0, .string ⟨#[]⟩, .slice none 0 0, .slice none 0 0, .slice none 0 0] 28)) (.slice none 0 0) _ (fun q hq => by rw [hq, size_alloc]; omega) (kidV_none _ _) (conV_k10 (two_leaves w8 4 0 1 0)))
  rw [ex_arr] at HO3
  have HBL := Lib.hid hbl.2
  clear hbl
  go_wp2_with fail
  generalize w8.alloc (.cells #[.int .i64 4, .int .i64 0, .string ⟨#[]⟩, .slice none 0 0, .slice none 0 0, .slice none 0 0, .int .i64 1, .int .i64 0, .string ⟨#[]⟩, .slice none 0 0, .slice none 0 0, .slice none 0 0] 28) = w9 at *
  refine HO3.out.mono ?_
  rintro e wa ⟨⟨pv, rfl, hp⟩, hba⟩
  have hbb := belowStep hba HBL.out
  replace HK := Lib.hid (HK.out.keep (Same.of_below hbb (fun q hq => Nat.lt_of_lt_of_le hq HLT.out)))
  replace HAA := Lib.hid (HAA.out.keep (Same.of_below hbb (fun q hq => Nat.lt_of_lt_of_le hq HLT.out)))
  replace HKB := Lib.hid (HKB.out.of_eq (hbb.block _ HKB.out.lt))
  replace HAB := Lib.hid (HAB.out.of_eq (hbb.block _ HAB.out.lt))
  replace HB := Lib.hid (belowStep hbb HB.out)
  have hlt : w4.heap.size ≤ wa.heap.size := Nat.le_trans HLT.out hbb.size
  have HSK := Lib.hid (rsameK_any (· < w4.heap.size) (· < w4.heap.size) (K.arity 1) (K.arity 1) wa (.agg #[.slice ka kn kc]) (.agg #[.slice aa an ac]) (fun q hq => Nat.lt_of_lt_of_le hq hlt) (fun q hq => Nat.lt_of_lt_of_le hq hlt) ⟨_, rfl, HK.out⟩ ⟨_, rfl, HAA.out⟩)
  have hp : wa.ownsRow w9.heap.size 3 1 pv 1 (pathV [1]) := hp
  have HP := Lib.hid hp
  have e1 := HKB.out.cell 0 (.slice ka kn kc) rfl
  have e2 := HAB.out.cell 0 (.slice aa an ac) rfl
  clear hba hbb hp hlt HO3 HBL HK HAA
  go_wp2_with fail
  clear e1 e2
  refine HSK.out.mono ?_
  rintro e wb ⟨rfl, hbb⟩
  have qk : K.eqv (K.arity 1) (K.arity 1) = true := (K.eqv_iff _ _).2 rfl
  rw [qk]
  have hp := HP.out.kept (row := none) ⟨hbb.os, hbb.tape, hbb.output, hbb.size, fun i hi _ => hbb.block i hi⟩ (by cases ho : pv.ownBlock with | none => exact .inl rfl | some k => exact .inr (by simp))
  have hlit := boxN_new wb 3 #[.int .i64 1]
  have HQ := Lib.hid (pathEq_any [1] w9.heap.size wb.heap.size 1 1 _ pv (.slice (some ⟨wb.heap.size, 0, none⟩) 1 1) (hp.alloc (.cells #[.int .i64 1] 3)) (World.ownsRow_lit (e := 3) (base := wb.heap.size) (size := 1) wb #[.int .i64 1] 1 (Nat.le_refl _) (by unfold maxLen; omega) rfl) rfl rfl)
  replace HB := Lib.hid (belowStep hlit.2 (belowStep hbb HB.out))
  clear hp hlit hbb HP HKB HAB HLT qk HSK
  go_wp2_with fail
  refine HQ.out.mono ?_
  rintro e wc ⟨rfl, hbc⟩
  replace HB := Lib.hid (belowStep hbc HB.out)
  clear hbc
  go_wp2
  go_ret
  exact ⟨rfl, HB.out⟩
end Go.Proofs.YtmjkeejinagokaaGreat
namespace Go.Proofs.YtmjkeejinagokaaGreat
open Go Go.RowKit
open Pl (K Con KR KS kof kofs ownK inK appK)
set_option linter.unusedSimpArgs false
set_option linter.unusedVariables false

set_option maxRecDepth 100000 in
set_option maxHeartbeats 1000000 in
theorem rcof_any (P : Nat → Prop) (g : List K) (t : Con) (w : World) (gv v : Value) (hP : ∀ b, P b → b < w.heap.size) (hg : KSl w P gv g) (ht : ConV w P t v) :
    Calls Tryz.prog 9 #[gv, v] w (KrP P (ofOut g t) w) := by
  have HAV := Lib.hid (fun W (hW : Below w.heap.size w W) => rgiven_any P g t W gv v (low_up hP hW) (hg.keep (Same.of_below hW hP)) (ht.keep (Same.of_below hW hP)))
  have HKO := Lib.hid (fun (hv : givenB g t = true) W (hW : Below w.heap.size w W) => rof_any t P g W gv v (low_up hP hW) (hg.keep (Same.of_below hW hP)) (ht.keep (Same.of_below hW hP)) (given_all hv).1 (given_all hv).2.1 (given_all hv).2.2)
  have HKV := Lib.hid (fun (hv : givenB g t = true) k (hk : kof g.reverse t = .ok k) => kof_valid t g.reverse k (given_all hv).1 (fun x hx => (given_all hv).2.1 x (List.mem_reverse.1 hx)) hk)
  have HKB := Lib.hid (fun e p (hk : kof g.reverse t = .bad e p) => kof_bad t g.reverse e p hk)
  obtain ⟨R, hV⟩ : ∃ R : KR, R = ofOut g t := ⟨_, rfl⟩
  rw [← hV]
  rw [ofOut_eq] at hV
  have HV0 := Lib.hid hV
  clear hV
  have HP := Lib.hid hP
  obtain ⟨ka, kn, kc, na, nn, nc, la, ln, lc, rfl, -, -, -⟩ := ht.shape
  obtain ⟨ga, gc, rfl, -⟩ := hg.each
  generalize kof g.reverse t = r at *
  generalize givenB g t = z at *
  generalize t.op = op at *
  generalize t.n = num at *
  generalize t.s = s at *
  generalize g.length = gn at *
  obtain ⟨hbx, hbx2, hb⟩ := twoN_new w 28 24 #[.int .i64 op, .int .i64 num, .string s, .slice ka kn kc, .slice na nn nc, .slice la ln lc] #[.slice none 0 0]
  have HB := Lib.hid hb
  have H1 := Lib.hid hbx
  have HR := Lib.hid hbx2
  have HG := Lib.hid (Nat.le_succ w.heap.size)
  clear hbx hbx2 hb hg ht hP
  have c0 := H1.out.cell 0 (.int .i64 op) rfl
  have c1 := H1.out.cell 1 (.int .i64 num) rfl
  have c2 := H1.out.cell 2 (.string s) rfl
  have c3 := H1.out.cell 3 (.slice ka kn kc) rfl
  have c4 := H1.out.cell 4 (.slice na nn nc) rfl
  have c5 := H1.out.cell 5 (.slice la ln lc) rfl
  go_enter Tryz.func9, Tryz.ntmps9
  go_wp2_with fail
  clear c0 c1 c2 c3 c4 c5
  generalize (w.alloc (.cells #[.int .i64 op, .int .i64 num, .string s, .slice ka kn kc, .slice na nn nc, .slice la ln lc] 28)).alloc (.cells #[.slice none 0 0] 24) = w2 at *
  refine (HAV.out _ HB.out).mono ?_
  rintro e w3 ⟨rfl, hb3⟩
  replace H1 := Lib.hid (H1.out.of_eq (hb3.block _ H1.out.lt))
  replace HR := Lib.hid (HR.out.of_eq (hb3.block _ HR.out.lt))
  replace HB := Lib.hid (belowStep hb3 HB.out)
  clear hb3 HAV
  cases z
  · have HV := Lib.hid (show R = .bad 1 [] from HV0.out)
    clear HKO HKV
    have hr9 := HR.out
    have c9 := hr9.cell 0 (.slice none 0 0) rfl
    have f9 := hr9.thaw 0
    have HE1 := Lib.hid (blk_one (y := .slice none 0 0) hr9)
    have HE := Lib.hid (krp_bad (P := P) HV.out (below_set HB.out HG.out (.slice none 0 0)))
    have HE0 := Lib.hid (krp_bad (P := P) HV.out HB.out)
    clear hr9
    go_wp2
    have d9 := HE1.out.cell 0 (.slice none 0 0) rfl
    refine bodyPost_ret (v := .tuple #[.agg #[.slice none 0 0], .int .i64 1]) (by first | (simp [results, Tryz.results9, go_sem, d9]; done) | (simp [results, Tryz.results9, go_sem, c9]; done)) rfl ?_
    first | exact HE.out | exact HE0.out
  have c0 := H1.out.cell 0 (.int .i64 op) rfl
  have c1 := H1.out.cell 1 (.int .i64 num) rfl
  have c2 := H1.out.cell 2 (.string s) rfl
  have c3 := H1.out.cell 3 (.slice ka kn kc) rfl
  have c4 := H1.out.cell 4 (.slice na nn nc) rfl
  have c5 := H1.out.cell 5 (.slice la ln lc) rfl
  have HC := Lib.hid (HKO.out (by first | exact rfl | trivial) w3 HB.out)
  have HV := Lib.hid (show R = r from HV0.out)
  clear HKO HKV HV0 HKB
  go_wp2_with fail
  clear c0 c1 c2 c3 c4 c5
  refine HC.out.mono ?_
  rintro e w4 ⟨⟨ra, rn, rc, pv, rfl, hk, -⟩, hb4⟩
  have hlw : ∀ q, Ext P w3 w4 q → q < w4.heap.size := Ext.lt (P := P) (fun q hq => by have := HP.out q hq; have := H1.out.lt; omega) hb4
  obtain ⟨hbx, hb5⟩ := boxN_new w4 24 #[.slice ra rn rc]
  have hk5 := hk.keep (Same.of_below hb5 hlw)
  have hs5 := hb5.size
  have hs4 := hb4.size
  have hgl := HR.out.lt
  have HX := Lib.hid (hk5.mono (fun q hq => (show Ext1 P w (w4.alloc (.cells #[.slice ra rn rc] 24)) (w.heap.size + 1) q from by
    rcases hq with hq | hq
    · exact ⟨.inl hq, by have := HP.out q hq; omega⟩
    · exact ⟨.inr ⟨by omega, by omega⟩, by omega⟩)))
  replace HR := Lib.hid ((HR.out.of_eq (hb4.block _ HR.out.lt)).alloc (.cells #[.slice ra rn rc] 24))
  replace HB := Lib.hid (belowStep hb5 (belowStep hb4 HB.out))
  have e0 := hbx.cell 0 (.slice ra rn rc) rfl
  obtain ⟨er, her⟩ : ∃ er, KR.er r = er := ⟨_, rfl⟩
  rw [her]
  clear hk hk5 hb4 hb5 hbx hlw HC H1 hs5 hs4 hgl
  go_upto_region 4 with fail
  generalize w4.alloc (.cells #[.slice ra rn rc] 24) = w5 at *
  have hr9 := HR.out
  have c9 := hr9.cell 0 (.slice none 0 0) rfl
  have f9 := hr9.thaw 0
  have HE1 := Lib.hid (blk_one (y := .slice ra rn rc) hr9)
  have HE := Lib.hid (krp_end (P := P) HV.out HG.out HB.out ⟨her, HX.out⟩)
  clear hr9
  go_wp2
  have d9 := HE1.out.cell 0 (.slice ra rn rc) rfl
  refine bodyPost_ret (v := .tuple #[.agg #[.slice ra rn rc], .int .i64 er]) (by simp [results, Tryz.results9, go_sem, d9]) rfl ?_
  exact HE.out
set_option maxRecDepth 100000 in
set_option maxHeartbeats 1000000 in
theorem rcheck_any (P : Nat → Prop) (g : List K) (t : Con) (k : K) (w : World) (gv v kv : Value) (hP : ∀ b, P b → b < w.heap.size) (hg : KSl w P gv g) (ht : ConV w P t v) (hk : KV w P k kv) :
    Calls Tryz.prog 12 #[gv, v, kv] w fun e w' => e = .returned (.int .i64 (checkOut g t k)) ∧ Below w.heap.size w w' := by
  have HAV := Lib.hid (fun W (hW : Below w.heap.size w W) => rgiven_any P g t W gv v (low_up hP hW) (hg.keep (Same.of_below hW hP)) (ht.keep (Same.of_below hW hP)))
  have HKO := Lib.hid (fun (hv : givenB g t = true) W (hW : Below w.heap.size w W) => (show Calls Tryz.prog 9 #[gv, v] W (KrP P (kof g.reverse t) W) from by
    have h := rcof_any P g t W gv v (low_up hP hW) (hg.keep (Same.of_below hW hP)) (ht.keep (Same.of_below hW hP))
    rw [ofOut_eq, if_pos hv] at h
    exact h))
  have HKV := Lib.hid (fun (hv : givenB g t = true) k (hk : kof g.reverse t = .ok k) => kof_valid t g.reverse k (given_all hv).1 (fun x hx => (given_all hv).2.1 x (List.mem_reverse.1 hx)) hk)
  have HKB := Lib.hid (fun e p (hk : kof g.reverse t = .bad e p) => kof_bad t g.reverse e p hk)
  have HVL := Lib.hid (fun W (hW : Below w.heap.size w W) => rvalid_any P k W kv (low_up hP hW) (hk.keep (Same.of_below hW hP)))
  have HEQ := Lib.hid (fun Q W x y (hW : Below w.heap.size w W) (hQ : ∀ b, Q b → b < W.heap.size) (hx : KV W Q x y) => requal_any Q P x k W y kv hQ (low_up hP hW) hx (hk.keep (Same.of_below hW hP)))
  obtain ⟨R, hV⟩ : ∃ R, R = checkOut g t k := ⟨_, rfl⟩
  rw [← hV]
  unfold checkOut at hV
  have HV0 := Lib.hid hV
  clear hV
  have HP := Lib.hid hP
  obtain ⟨k2, kc2, rfl⟩ := hk.form
  generalize k.l.length = kn2 at *
  obtain ⟨ka, kn, kc, na, nn, nc, la, ln, lc, rfl, -, -, -⟩ := ht.shape
  obtain ⟨ga, gc, rfl, -⟩ := hg.each
  generalize kof g.reverse t = r at *
  generalize givenB g t = z at *
  generalize t.op = op at *
  generalize t.n = num at *
  generalize t.s = s at *
  generalize g.length = gn at *
  generalize K.valid k = z2 at *
  obtain ⟨hbx, hbx2, hb⟩ := twoN_new w 28 24 #[.int .i64 op, .int .i64 num, .string s, .slice ka kn kc, .slice na nn nc, .slice la ln lc] #[.slice k2 kn2 kc2]
  have HB := Lib.hid hb
  have H1 := Lib.hid hbx
  have H2 := Lib.hid hbx2
  clear hbx hbx2 hb hg ht hP hk
  have c0 := H1.out.cell 0 (.int .i64 op) rfl
  have c1 := H1.out.cell 1 (.int .i64 num) rfl
  have c2 := H1.out.cell 2 (.string s) rfl
  have c3 := H1.out.cell 3 (.slice ka kn kc) rfl
  have c4 := H1.out.cell 4 (.slice na nn nc) rfl
  have c5 := H1.out.cell 5 (.slice la ln lc) rfl
  have e2 := H2.out.cell 0 (.slice k2 kn2 kc2) rfl
  go_enter Tryz.func12, Tryz.ntmps12
  go_wp2_with fail
  clear c0 c1 c2 c3 c4 c5 e2
  generalize (w.alloc (.cells #[.int .i64 op, .int .i64 num, .string s, .slice ka kn kc, .slice na nn nc, .slice la ln lc] 28)).alloc (.cells #[.slice k2 kn2 kc2] 24) = w2 at *
  refine (HAV.out _ HB.out).mono ?_
  rintro e w3 ⟨rfl, hb3⟩
  replace H1 := Lib.hid (H1.out.of_eq (hb3.block _ H1.out.lt))
  replace H2 := Lib.hid (H2.out.of_eq (hb3.block _ H2.out.lt))
  replace HB := Lib.hid (belowStep hb3 HB.out)
  clear hb3 HAV
  cases z
  · have HV := Lib.hid (show R = 1 from HV0.out)
    clear HKO HKV
    go_wp2
    go_ret
    exact ⟨by rw [HV.out]; rfl, HB.out⟩
  have e2 := H2.out.cell 0 (.slice k2 kn2 kc2) rfl
  go_wp2_with fail
  clear e2
  refine (HVL.out _ HB.out).mono ?_
  rintro e w4 ⟨rfl, hb3⟩
  replace H1 := Lib.hid (H1.out.of_eq (hb3.block _ H1.out.lt))
  replace H2 := Lib.hid (H2.out.of_eq (hb3.block _ H2.out.lt))
  replace HB := Lib.hid (belowStep hb3 HB.out)
  clear hb3 HVL
  cases z2
  · have HV := Lib.hid (show R = 1 from HV0.out)
    clear HKO HKV
    go_wp2
    go_ret
    exact ⟨by rw [HV.out]; rfl, HB.out⟩
  have c0 := H1.out.cell 0 (.int .i64 op) rfl
  have c1 := H1.out.cell 1 (.int .i64 num) rfl
  have c2 := H1.out.cell 2 (.string s) rfl
  have c3 := H1.out.cell 3 (.slice ka kn kc) rfl
  have c4 := H1.out.cell 4 (.slice na nn nc) rfl
  have c5 := H1.out.cell 5 (.slice la ln lc) rfl
  have HC := Lib.hid (HKO.out (by first | exact rfl | trivial) w4 HB.out)
  have HKV2 := Lib.hid (HKV.out (by first | exact rfl | trivial))
  clear HKO HKV
  go_wp2_with fail
  clear c0 c1 c2 c3 c4 c5
  refine HC.out.mono ?_
  rintro e w5 ⟨⟨ra, rn, rc, rfl, hkd⟩, hb5⟩
  have HLW := Lib.hid (Ext.lt (P := P) (fun q hq => by have := HP.out q hq; have := H1.out.lt; omega) hb5)
  obtain ⟨hbx, hb6⟩ := boxN_new w5 24 #[.slice ra rn rc]
  replace H2 := Lib.hid ((H2.out.of_eq (hb5.block _ H2.out.lt)).alloc (.cells #[.slice ra rn rc] 24))
  replace HB := Lib.hid (belowStep hb6 (belowStep hb5 HB.out))
  rcases r with x | ⟨er, p⟩
  · have HV := Lib.hid (show R = if K.eqv x k then 0 else 11 from HV0.out)
    have HQ := Lib.hid (HEQ.out _ _ x (.agg #[.slice ra rn rc]) HB.out (fun q hq => Nat.lt_of_lt_of_le (HLW.out q hq) hb6.size) ⟨_, rfl, hkd.keep (Same.of_below hb6 HLW.out)⟩)
    rw [HKV2.out x rfl, Bool.true_and] at HQ
    have e0 := hbx.cell 0 (.slice ra rn rc) rfl
    have e2 := H2.out.cell 0 (.slice k2 kn2 kc2) rfl
    have qe : (KR.er (.ok x) == 0) = true := rfl
    generalize KR.er (.ok x) = er0 at *
    obtain rfl : er0 = 0 := by simpa using qe
    generalize K.eqv x k = z3 at *
    clear hkd hbx hb5 hb6 qe HC HEQ H1 HKV2
    go_wp2_with fail
    clear e0 e2
    refine HQ.out.mono ?_
    rintro e w7 ⟨rfl, hb7⟩
    replace HB := Lib.hid (belowStep hb7 HB.out)
    clear hb7 HQ
    cases z3
    · replace HV := Lib.hid (show R = 11 from HV.out)
      go_wp2
      go_ret
      exact ⟨by rw [HV.out]; rfl, HB.out⟩
    · replace HV := Lib.hid (show R = 0 from HV.out)
      go_wp2
      go_ret
      exact ⟨by rw [HV.out]; rfl, HB.out⟩
  · have HV := Lib.hid (show R = er from HV0.out)
    have qe : (er == 0) = false := beq_eq_false_iff_ne.2 (HKB.out er p rfl)
    generalize hge : KR.er (.bad er p) = er1 at *
    obtain rfl : er1 = er := hge.symm
    clear hkd hbx hb5 hb6 HC HEQ H1 HKV2 hge
    go_wp2
    go_ret
    exact ⟨by rw [HV.out]; rfl, HB.out⟩
set_option maxRecDepth 100000 in
theorem rtype_any (P : Nat → Prop) (g : List K) (t : Con) (w : World) (gv v : Value) (hP : ∀ b, P b → b < w.heap.size) (hg : KSl w P gv g) (ht : ConV w P t v) :
    Calls Tryz.prog 14 #[gv, v] w fun e w' => e = .returned (.bool (checkOut g t (.mk []) == 0)) ∧ Below w.heap.size w w' := by
  have HC := Lib.hid (fun W (hW : Below w.heap.size w W) => rcheck_any P g t (.mk []) W gv v (.agg #[.slice none 0 0]) (low_up hP hW) (hg.keep (Same.of_below hW hP)) (ht.keep (Same.of_below hW hP)) (kV_none _ _))
  generalize checkOut g t (.mk []) = r at *
  obtain ⟨ka, kn, kc, na, nn, nc, la, ln, lc, rfl, -, -, -⟩ := ht.shape
  obtain ⟨ga, gc, rfl, -⟩ := hg.each
  generalize t.op = op at *
  generalize t.n = num at *
  generalize t.s = s at *
  generalize g.length = gn at *
  obtain ⟨hbx, hb⟩ := boxN_new w 28 #[.int .i64 op, .int .i64 num, .string s, .slice ka kn kc, .slice na nn nc, .slice la ln lc]
  have HB := Lib.hid hb
  have H1 := Lib.hid hbx
  clear hbx hb hg ht hP
  have c0 := H1.out.cell 0 (.int .i64 op) rfl
  have c1 := H1.out.cell 1 (.int .i64 num) rfl
  have c2 := H1.out.cell 2 (.string s) rfl
  have c3 := H1.out.cell 3 (.slice ka kn kc) rfl
  have c4 := H1.out.cell 4 (.slice na nn nc) rfl
  have c5 := H1.out.cell 5 (.slice la ln lc) rfl
  go_enter Tryz.func14, Tryz.ntmps14
  go_wp2_with fail
  clear c0 c1 c2 c3 c4 c5
  generalize w.alloc (.cells #[.int .i64 op, .int .i64 num, .string s, .slice ka kn kc, .slice na nn nc, .slice la ln lc] 28) = w2 at *
  refine (HC.out _ HB.out).mono ?_
  rintro e w3 ⟨rfl, hb3⟩
  replace HB := Lib.hid (belowStep hb3 HB.out)
  clear hb3
  go_wp2
  go_ret
  exact ⟨rfl, HB.out⟩
set_option maxRecDepth 100000 in
theorem ktype_any (P : Nat → Prop) (g : List K) (t : Con) (w : World) (gv v : Value) (hP : ∀ b, P b → b < w.heap.size) (hg : KSl w P gv g) (ht : ConV w P t v) :
    Calls Tryz.prog 13 #[gv, v] w fun e w' => e = .returned (.bool (checkOut g t (.mk []) == 0)) ∧ Below w.heap.size w w' := by
  have HC := Lib.hid (fun W (hW : Below w.heap.size w W) => check_any P g t (.mk []) W gv v (.agg #[.slice none 0 0]) (low_up hP hW) (hg.keep (Same.of_below hW hP)) (ht.keep (Same.of_below hW hP)) (kV_none _ _))
  generalize checkOut g t (.mk []) = r at *
  obtain ⟨ka, kn, kc, na, nn, nc, la, ln, lc, rfl, -, -, -⟩ := ht.shape
  obtain ⟨ga, gc, rfl, -⟩ := hg.each
  generalize t.op = op at *
  generalize t.n = num at *
  generalize t.s = s at *
  generalize g.length = gn at *
  obtain ⟨hbx, hb⟩ := boxN_new w 28 #[.int .i64 op, .int .i64 num, .string s, .slice ka kn kc, .slice na nn nc, .slice la ln lc]
  have HB := Lib.hid hb
  have H1 := Lib.hid hbx
  clear hbx hb hg ht hP
  go_enter Tryz.func13, Tryz.ntmps13
  go_upto_region 1 with fail
  generalize w.alloc (.cells #[.int .i64 op, .int .i64 num, .string s, .slice ka kn kc, .slice na nn nc, .slice la ln lc] 28) = w2 at *
  have c0 := H1.out.cell 0 (.int .i64 op) rfl
  have c1 := H1.out.cell 1 (.int .i64 num) rfl
  have c2 := H1.out.cell 2 (.string s) rfl
  have c3 := H1.out.cell 3 (.slice ka kn kc) rfl
  have c4 := H1.out.cell 4 (.slice na nn nc) rfl
  have c5 := H1.out.cell 5 (.slice la ln lc) rfl
  have HB2 := Lib.hid (show Below w.heap.size w w2.drew from HB.out.drew)
  have H12 := Lib.hid (show Blk w2.drew _ _ _ from H1.out.drew)
  go_region_law (first
    | (go_simp; go_at_call 36; refine (star_any _).mono ?_; rintro e w3 ⟨rfl, hb3⟩; have HB3 := Lib.hid (belowStep hb3 HB2.out); have h3 := H12.out.of_eq (hb3.block _ H12.out.lt); have d0 := h3.cell 0 (.int .i64 op) rfl; have d1 := h3.cell 1 (.int .i64 num) rfl; have d2 := h3.cell 2 (.string s) rfl; have d3 := h3.cell 3 (.slice ka kn kc) rfl; have d4 := h3.cell 4 (.slice na nn nc) rfl; have d5 := h3.cell 5 (.slice la ln lc) rfl; clear hb3 h3)
    | (go_simp; go_at_call 11; refine (HC.out _ HB3.out).mono ?_; rintro e w4 ⟨rfl, hb4⟩; have HB4 := Lib.hid (belowStep hb4 HB3.out); clear hb4)
    | fail)
  all_goals
    clear c0 c1 c2 c3 c4 c5 d0 d1 d2 d3 d4 d5
    go_wp2
    go_ret
    exact ⟨rfl, HB4.out⟩

set_option maxRecDepth 100000 in
set_option maxHeartbeats 8000000 in
theorem kof_law (g : List K) (t : Con) (k : K) (w : World) (gv v kv : Value) (hg : KSl w (· < w.heap.size) gv g) (ht : ConV w (· < w.heap.size) t v) (hk : KV w (· < w.heap.size) k kv) :
    Calls Tryz.prog 3 #[gv, v, kv] w fun e w' => e = .returned (.bool true) ∧ Below w.heap.size w w' := by
  have HUP := Lib.hid (fun W (hW : Below w.heap.size w W) => (show (∀ b, b < w.heap.size → b < W.heap.size) ∧ KSl W (· < w.heap.size) gv g ∧ ConV W (· < w.heap.size) t v ∧ KV W (· < w.heap.size) k kv from ⟨fun b h => Nat.lt_of_lt_of_le h hW.size, hg.keep (Same.of_below hW (fun _ h => h)), ht.keep (Same.of_below hW (fun _ h => h)), hk.keep (Same.of_below hW (fun _ h => h))⟩))
  have HA := Lib.hid awake10
  have HG := Lib.hid (fun W x (hW : Below w.heap.size w W) (hl : ConSl W (· < W.heap.size) x [t]) => great_any (· < W.heap.size) g [t] W gv x (fun _ h => h) ((HUP.out W hW).2.1.mono (fun q hq => Nat.lt_of_lt_of_le hq hW.size)) hl)
  have HN := Lib.hid (fun W (hW : Below w.heap.size w W) => (show Calls Tryz.prog 7 #[kv, .int .i64 30, .int .i64 40] W (Within (41 * (((30 : Nat) : Int) + 2)) W) from kindNodes_any (· < w.heap.size) k 30 W kv (HUP.out W hW).1 (HUP.out W hW).2.2.2 (by omega)))
  have H1 := Lib.hid (fun W (hW : Below w.heap.size w W) => of_any (· < w.heap.size) g t W gv v (HUP.out W hW).1 (HUP.out W hW).2.1 (HUP.out W hW).2.2.1)
  have H2 := Lib.hid (fun W (hW : Below w.heap.size w W) => rcof_any (· < w.heap.size) g t W gv v (HUP.out W hW).1 (HUP.out W hW).2.1 (HUP.out W hW).2.2.1)
  have H3 := Lib.hid (fun W (hW : Below w.heap.size w W) => check_any (· < w.heap.size) g t k W gv v kv (HUP.out W hW).1 (HUP.out W hW).2.1 (HUP.out W hW).2.2.1 (HUP.out W hW).2.2.2)
  have H4 := Lib.hid (fun W (hW : Below w.heap.size w W) => rcheck_any (· < w.heap.size) g t k W gv v kv (HUP.out W hW).1 (HUP.out W hW).2.1 (HUP.out W hW).2.2.1 (HUP.out W hW).2.2.2)
  have H5 := Lib.hid (fun W (hW : Below w.heap.size w W) => ktype_any (· < w.heap.size) g t W gv v (HUP.out W hW).1 (HUP.out W hW).2.1 (HUP.out W hW).2.2.1)
  have H6 := Lib.hid (fun W (hW : Below w.heap.size w W) => rtype_any (· < w.heap.size) g t W gv v (HUP.out W hW).1 (HUP.out W hW).2.1 (HUP.out W hW).2.2.1)
  have HCV := Lib.hid (fun W (hW : Below w.heap.size w W) => (HUP.out W hW).2.2.1)
  obtain ⟨ka, kn, kc, na, nn, nc, la, ln, lc, rfl, -, -, -⟩ := ht.shape
  obtain ⟨ga, gc, rfl, -⟩ := hg.each
  obtain ⟨k2, kc2, rfl⟩ := hk.form
  generalize ofOut g t = r at *
  generalize checkOut g t k = r3 at *
  generalize (checkOut g t (.mk []) == 0) = r5 at *
  generalize g.length = gn at *
  generalize k.l.length = kn2 at *
  obtain ⟨op, hop⟩ : ∃ op, op = t.op := ⟨_, rfl⟩
  obtain ⟨num, hnum⟩ : ∃ num, num = t.n := ⟨_, rfl⟩
  obtain ⟨s, hs⟩ : ∃ s, s = t.s := ⟨_, rfl⟩
  rw [← hop, ← hnum, ← hs] at HCV H1 H2 H3 H4 H5 H6 ⊢
  obtain ⟨hbx, hbk, hb⟩ := twoN_new w 28 24 #[.int .i64 op, .int .i64 num, .string s, .slice ka kn kc, .slice na nn nc, .slice la ln lc] #[.slice k2 kn2 kc2]
  have HB := Lib.hid hb
  have HBX := Lib.hid hbx
  have HBK := Lib.hid hbk
  clear hbx hbk hb hg ht hk HUP hop hnum hs
  go_enter Tryz.func3, Tryz.ntmps3
  go_upto_region 1 with fail
  generalize (w.alloc (.cells #[.int .i64 op, .int .i64 num, .string s, .slice ka kn kc, .slice na nn nc, .slice la ln lc] 28)).alloc (.cells #[.slice k2 kn2 kc2] 24) = w1 at *
  go_wp2_with fail
  refine (HA.out _).mono ?_
  rintro e w2 ⟨rfl, hb2⟩
  replace HB := Lib.hid (belowStep hb2 HB.out)
  replace HBX := Lib.hid (HBX.out.of_eq (hb2.block _ HBX.out.lt))
  replace HBK := Lib.hid (HBK.out.of_eq (hb2.block _ HBK.out.lt))
  clear hb2
  have c0 := HBX.out.cell 0 (.int .i64 op) rfl
  have c1 := HBX.out.cell 1 (.int .i64 num) rfl
  have c2 := HBX.out.cell 2 (.string s) rfl
  have c3 := HBX.out.cell 3 (.slice ka kn kc) rfl
  have c4 := HBX.out.cell 4 (.slice na nn nc) rfl
  have c5 := HBX.out.cell 5 (.slice la ln lc) rfl
  obtain ⟨hlit, hbl⟩ := boxN_new w2 28 #[.int .i64 op, .int .i64 num, .string s, .slice ka kn kc, .slice na nn nc, .slice la ln lc]
  have HGR := Lib.hid (HG.out _ _ (belowStep hbl HB.out) (cons_one10 (P := (· < (w2.alloc (.cells #[.int .i64 op, .int .i64 num, .string s, .slice ka kn kc, .slice na nn nc, .slice la ln lc] 28)).heap.size)) hlit hlit.lt ((HCV.out _ (belowStep hbl HB.out)).mono (fun q hq => Nat.lt_of_lt_of_le hq (Nat.le_trans HB.out.size hbl.size)))))
  replace HB := Lib.hid (belowStep hbl HB.out)
  replace HBX := Lib.hid (HBX.out.of_eq (hbl.block _ HBX.out.lt))
  replace HBK := Lib.hid (HBK.out.of_eq (hbl.block _ HBK.out.lt))
  clear hlit hbl HG HCV HA
  go_wp2_with fail
  clear c0 c1 c2 c3 c4 c5
  generalize w2.alloc (.cells #[.int .i64 op, .int .i64 num, .string s, .slice ka kn kc, .slice na nn nc, .slice la ln lc] 28) = w3 at *
  refine HGR.out.mono ?_
  rintro e w4 ⟨⟨z, rfl⟩, hb4⟩
  replace HB := Lib.hid (belowStep hb4 HB.out)
  replace HBX := Lib.hid (HBX.out.of_eq (hb4.block _ HBX.out.lt))
  replace HBK := Lib.hid (HBK.out.of_eq (hb4.block _ HBK.out.lt))
  clear hb4 HGR
  cases z
  rotate_left
  · go_wp2
    go_ret
    exact ⟨rfl, HB.out⟩
  have e2 := HBK.out.cell 0 (.slice k2 kn2 kc2) rfl
  go_wp2_with fail
  clear e2
  refine (HN.out _ HB.out).mono ?_
  rintro e w4' ⟨⟨z, rfl, hz0, hz1⟩, hb4⟩
  replace HB := Lib.hid (belowStep hb4 HB.out)
  replace HBX := Lib.hid (HBX.out.of_eq (hb4.block _ HBX.out.lt))
  replace HBK := Lib.hid (HBK.out.of_eq (hb4.block _ HBK.out.lt))
  clear hb4 HN
  by_cases hz : 40 < z
  · have q1 : decide ((40 : Int) < z) = true := decide_eq_true hz
    go_wp2
    go_ret
    exact ⟨rfl, HB.out⟩
  have q1 : decide ((40 : Int) < z) = false := decide_eq_false hz
  have c0 := HBX.out.cell 0 (.int .i64 op) rfl
  have c1 := HBX.out.cell 1 (.int .i64 num) rfl
  have c2 := HBX.out.cell 2 (.string s) rfl
  have c3 := HBX.out.cell 3 (.slice ka kn kc) rfl
  have c4 := HBX.out.cell 4 (.slice na nn nc) rfl
  have c5 := HBX.out.cell 5 (.slice la ln lc) rfl
  go_wp2_with fail
  clear c0 c1 c2 c3 c4 c5
  refine (H1.out _ HB.out).mono ?_
  rintro e w5 ⟨⟨xa, xn, xc, rfl, hx⟩, hb5⟩
  have hxl : ∀ q, Ext (· < w.heap.size) w4' w5 q → q < w5.heap.size := Ext.lt (P := (· < w.heap.size)) (fun q hq => Nat.lt_of_lt_of_le hq HB.out.size) hb5
  replace HB := Lib.hid (belowStep hb5 HB.out)
  replace HBX := Lib.hid (HBX.out.of_eq (hb5.block _ HBX.out.lt))
  replace HBK := Lib.hid (HBK.out.of_eq (hb5.block _ HBK.out.lt))
  obtain ⟨hx5, hb55⟩ := boxN_new w5 24 #[.slice xa xn xc]
  have HXK := Lib.hid ((hx.keep (Same.of_below hb55 hxl)).mono (fun q hq => (show q < w5.heap.size from hxl q hq)))
  have HX5 := Lib.hid hx5
  replace HB := Lib.hid (belowStep hb55 HB.out)
  replace HBX := Lib.hid (HBX.out.of_eq (hb55.block _ HBX.out.lt))
  replace HBK := Lib.hid (HBK.out.of_eq (hb55.block _ HBK.out.lt))
  have HL5 := Lib.hid hb55.size
  clear hb5 hx hxl hx5 hb55 H1 q1 hz hz0 hz1
  go_upto_region 6 with fail
  generalize w5.alloc (.cells #[.slice xa xn xc] 24) = w6 at *
  have c0 := HBX.out.cell 0 (.int .i64 op) rfl
  have c1 := HBX.out.cell 1 (.int .i64 num) rfl
  have c2 := HBX.out.cell 2 (.string s) rfl
  have c3 := HBX.out.cell 3 (.slice ka kn kc) rfl
  have c4 := HBX.out.cell 4 (.slice na nn nc) rfl
  have c5 := HBX.out.cell 5 (.slice la ln lc) rfl
  go_wp2_with fail
  clear c0 c1 c2 c3 c4 c5
  refine (H2.out _ HB.out).mono ?_
  rintro e w7 ⟨⟨ya, yn, yc, rfl, hy⟩, hb7⟩
  have hyl : ∀ q, Ext (· < w.heap.size) w6 w7 q → q < w7.heap.size := Ext.lt (P := (· < w.heap.size)) (fun q hq => Nat.lt_of_lt_of_le hq HB.out.size) hb7
  replace HB := Lib.hid (belowStep hb7 HB.out)
  replace HBX := Lib.hid (HBX.out.of_eq (hb7.block _ HBX.out.lt))
  replace HBK := Lib.hid (HBK.out.of_eq (hb7.block _ HBK.out.lt))
  replace HX5 := Lib.hid (HX5.out.of_eq (hb7.block _ HX5.out.lt))
  replace HXK := Lib.hid (HXK.out.keep (Same.of_below hb7 (fun q hq => Nat.lt_of_lt_of_le hq HL5.out)))
  replace HL5 := Lib.hid (Nat.le_trans HL5.out hb7.size)
  obtain ⟨hx7, hb77⟩ := boxN_new w7 24 #[.slice ya yn yc]
  have HYK := Lib.hid ((hy.keep (Same.of_below hb77 hyl)).mono (fun q hq => (show q < w7.heap.size from hyl q hq)))
  replace HXK := Lib.hid (HXK.out.keep (Same.of_below hb77 (fun q hq => Nat.lt_of_lt_of_le hq HL5.out)))
  have HX7 := Lib.hid hx7
  replace HB := Lib.hid (belowStep hb77 HB.out)
  replace HBX := Lib.hid (HBX.out.of_eq (hb77.block _ HBX.out.lt))
  replace HBK := Lib.hid (HBK.out.of_eq (hb77.block _ HBK.out.lt))
  replace HX5 := Lib.hid (HX5.out.of_eq (hb77.block _ HX5.out.lt))
  replace HL5 := Lib.hid (Nat.le_trans HL5.out hb77.size)
  have HL7 := Lib.hid hb77.size
  clear hb7 hy hyl hx7 hb77 H2
  go_upto_region 7 with fail
  generalize w7.alloc (.cells #[.slice ya yn yc] 24) = w9 at *
  have HSK := Lib.hid (fun W (hW : Below w9.heap.size w9 W) => rsameK_any (· < w5.heap.size) (· < w7.heap.size) r.kd r.kd W (.agg #[.slice xa xn xc]) (.agg #[.slice ya yn yc]) (fun q hq => Nat.lt_of_lt_of_le (Nat.lt_of_lt_of_le hq HL5.out) hW.size) (fun q hq => Nat.lt_of_lt_of_le (Nat.lt_of_lt_of_le hq HL7.out) hW.size) ⟨_, rfl, HXK.out.keep (Same.of_below hW (fun q hq => Nat.lt_of_lt_of_le hq HL5.out))⟩ ⟨_, rfl, HYK.out.keep (Same.of_below hW (fun q hq => Nat.lt_of_lt_of_le hq HL7.out))⟩)
  rw [(K.eqv_iff r.kd r.kd).2 rfl] at HSK
  have G3 := Lib.hid (fun W (hW : Below w9.heap.size w9 W) => H3.out W (belowStep hW HB.out))
  have G4 := Lib.hid (fun W (hW : Below w9.heap.size w9 W) => H4.out W (belowStep hW HB.out))
  have G5 := Lib.hid (fun W (hW : Below w9.heap.size w9 W) => H5.out W (belowStep hW HB.out))
  have G6 := Lib.hid (fun W (hW : Below w9.heap.size w9 W) => H6.out W (belowStep hW HB.out))
  have HSS := Lib.hid (fun W (hW : Below w9.heap.size w9 W) => (show Below w9.heap.size w9 W ∧ W.cell? ⟨w.heap.size, 0, none⟩ = some (.int .i64 op) ∧ W.cell? ⟨w.heap.size, 1, none⟩ = some (.int .i64 num) ∧ W.cell? ⟨w.heap.size, 2, none⟩ = some (.string s) ∧ W.cell? ⟨w.heap.size, 3, none⟩ = some (.slice ka kn kc) ∧ W.cell? ⟨w.heap.size, 4, none⟩ = some (.slice na nn nc) ∧ W.cell? ⟨w.heap.size, 5, none⟩ = some (.slice la ln lc) ∧ W.cell? ⟨w.heap.size + 1, 0, none⟩ = some (.slice k2 kn2 kc2) ∧ W.cell? ⟨w5.heap.size, 0, none⟩ = some (.slice xa xn xc) ∧ W.cell? ⟨w7.heap.size, 0, none⟩ = some (.slice ya yn yc) from ⟨hW, (HBX.out.of_eq (hW.block _ HBX.out.lt)).cell 0 _ rfl, (HBX.out.of_eq (hW.block _ HBX.out.lt)).cell 1 _ rfl, (HBX.out.of_eq (hW.block _ HBX.out.lt)).cell 2 _ rfl, (HBX.out.of_eq (hW.block _ HBX.out.lt)).cell 3 _ rfl, (HBX.out.of_eq (hW.block _ HBX.out.lt)).cell 4 _ rfl, (HBX.out.of_eq (hW.block _ HBX.out.lt)).cell 5 _ rfl, (HBK.out.of_eq (hW.block _ HBK.out.lt)).cell 0 _ rfl, (HX5.out.of_eq (hW.block _ HX5.out.lt)).cell 0 _ rfl, (HX7.out.of_eq (hW.block _ HX7.out.lt)).cell 0 _ rfl⟩))
  have HD0 := Lib.hid (Below.refl w9.heap.size w9).drew
  have qe : (r.er == r.er) = true := by simp
  have q3 : (r3 == r3) = true := by simp
  have q5 : (r5 == r5) = true := by simp
  generalize r.er = er at *
  clear H3 H4 H5 H6 HXK HYK HL5 HL7 HBX HBK HX5 HX7
  go_region_held3 (fun W => Below w9.heap.size w9 W ∧ W.cell? ⟨w.heap.size, 0, none⟩ = some (.int .i64 op) ∧ W.cell? ⟨w.heap.size, 1, none⟩ = some (.int .i64 num) ∧ W.cell? ⟨w.heap.size, 2, none⟩ = some (.string s) ∧ W.cell? ⟨w.heap.size, 3, none⟩ = some (.slice ka kn kc) ∧ W.cell? ⟨w.heap.size, 4, none⟩ = some (.slice na nn nc) ∧ W.cell? ⟨w.heap.size, 5, none⟩ = some (.slice la ln lc) ∧ W.cell? ⟨w.heap.size + 1, 0, none⟩ = some (.slice k2 kn2 kc2) ∧ W.cell? ⟨w5.heap.size, 0, none⟩ = some (.slice xa xn xc) ∧ W.cell? ⟨w7.heap.size, 0, none⟩ = some (.slice ya yn yc))
      (exact HSS.out _ (by with_reducible (repeat (first | exact Below.refl _ _ | exact HD0.out | refine Below.drew ?_ | refine below_new ?_ | refine belowStep (by assumption) ?_ | exact Nat.le_refl _))))
      (first
      | (go_at_call 10; (with_reducible refine Calls.mono (HSK.out _ ?_) ?_); (focus with_reducible (repeat (first | exact Below.refl _ _ | exact HD0.out | refine Below.drew ?_ | refine below_new ?_ | refine belowStep (by assumption) ?_ | exact Nat.le_refl _))); rintro e m0 ⟨rfl, hbk0⟩)
      | (go_at_call 11; (with_reducible refine Calls.mono (G3.out _ ?_) ?_); (focus with_reducible (repeat (first | exact Below.refl _ _ | exact HD0.out | refine Below.drew ?_ | refine below_new ?_ | refine belowStep (by assumption) ?_ | exact Nat.le_refl _))); rintro e m1 ⟨rfl, hbk1⟩)
      | (go_at_call 12; (with_reducible refine Calls.mono (G4.out _ ?_) ?_); (focus with_reducible (repeat (first | exact Below.refl _ _ | exact HD0.out | refine Below.drew ?_ | refine below_new ?_ | refine belowStep (by assumption) ?_ | exact Nat.le_refl _))); rintro e m2 ⟨rfl, hbk2⟩)
      | (go_at_call 13; (with_reducible refine Calls.mono (G5.out _ ?_) ?_); (focus with_reducible (repeat (first | exact Below.refl _ _ | exact HD0.out | refine Below.drew ?_ | refine below_new ?_ | refine belowStep (by assumption) ?_ | exact Nat.le_refl _))); rintro e m3 ⟨rfl, hbk3⟩)
      | (go_at_call 14; (with_reducible refine Calls.mono (G6.out _ ?_) ?_); (focus with_reducible (repeat (first | exact Below.refl _ _ | exact HD0.out | refine Below.drew ?_ | refine below_new ?_ | refine belowStep (by assumption) ?_ | exact Nat.le_refl _))); rintro e m4 ⟨rfl, hbk4⟩)
      | fail)
  all_goals
    rename_i hHeld
    have HBE := Lib.hid (belowStep hHeld.1 HB.out)
    go_wp2
    go_ret
    exact ⟨rfl, HBE.out⟩
end Go.Proofs.YtmjkeejinagokaaGreat
