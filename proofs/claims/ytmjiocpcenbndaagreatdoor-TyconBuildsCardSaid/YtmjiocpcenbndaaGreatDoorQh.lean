/-
  Walks of layer 9: which nodes are right.
-/
import Derived.Test.YtmjiocpcenbndaaGreatDoorQg
import Derived.Deep.CutRange
namespace Go.Proofs.YtmjiocpcenbndaaGreatDoor
open Go Go.RowKit
open Pl (K Con)
set_option linter.unusedSimpArgs false

/-- what makes a node right -/
def Con.shapeB (t : Con) : Bool := if 0 ≤ Con.partsOf t.op then decide ((t.l.length : Int) = Con.partsOf t.op) && decide (t.names.length = 0) else decide (t.l.length = t.names.length) && Con.labelsOk t.names
def Con.numB (t : Con) : Bool := if t.op = 1 ∨ t.op = 3 then decide (0 ≤ t.n) && decide (t.n ≤ 20000) else decide (t.n = 0)
def Con.strB (t : Con) : Bool := if t.op = 2 then Pl.cname t.s.toList else decide (t.s.toList = [])
def Con.kindB (t : Con) : Bool := if t.op = 2 ∨ Con.binder t.op = true then K.valid t.kind else decide (t.kind.l.length = 0)
def Con.nodeB (t : Con) : Bool := (decide (1 ≤ t.op) && decide (t.op ≤ 13)) && (Con.shapeB t && (Con.numB t && (Con.strB t && Con.kindB t)))
set_option maxRecDepth 100000 in
set_option maxHeartbeats 8000000 in
theorem rnode_any (P : Nat → Prop) (t : Con) (w : World) (v : Value) (hP : ∀ b, P b → b < w.heap.size) (ht : ConV w P t v) :
    Calls Tryz.prog 59 #[v] w fun e w' => e = .returned (.bool (Con.nodeB t)) ∧ Below w.heap.size w w' := by
  obtain ⟨hsz, kv, nv, lv, rfl, hk, hs, hl⟩ := (conV_iff _ _ _ _).1 ht
  have HVK := Lib.hid (fun W (hW : Below w.heap.size w W) => rvalid_any P t.kind W (.agg #[kv]) (fun b h => Nat.lt_of_lt_of_le (hP b h) hW.size) ⟨_, rfl, hk.keep (Same.of_below hW hP)⟩)
  have HLB := Lib.hid (fun W (hW : Below w.heap.size w W) => rlabels_any P t.names W nv (fun b h => Nat.lt_of_lt_of_le (hP b h) hW.size) (hs.keep (Same.of_below hW hP)))
  have HCN := Lib.hid (fun W => rcname_any t.s W hsz)
  have HPA := Lib.hid (fun W => rparts_any t.op W)
  have HBI := Lib.hid (fun W => rbinder_any t.op W)
  obtain ⟨la, lc, rfl, hlc, hcm, -⟩ := hl.each
  obtain ⟨ka, kc, rfl⟩ := hk.shape
  obtain ⟨na, nc, rfl, -, hnm⟩ := strs_len hs
  have HSH := Lib.hid (show Con.shapeB t = if 0 ≤ Con.partsOf t.op then decide ((t.l.length : Int) = Con.partsOf t.op) && decide (t.names.length = 0) else decide (t.l.length = t.names.length) && Con.labelsOk t.names from rfl)
  have HNU := Lib.hid (show Con.numB t = if t.op = 1 ∨ t.op = 3 then decide (0 ≤ t.n) && decide (t.n ≤ 20000) else decide (t.n = 0) from rfl)
  have HST := Lib.hid (show Con.strB t = if t.op = 2 then Pl.cname t.s.toList else decide (t.s.toList = []) from rfl)
  have HKI := Lib.hid (show Con.kindB t = if t.op = 2 ∨ Con.binder t.op = true then K.valid t.kind else decide (t.kind.l.length = 0) from rfl)
  have HNB := Lib.hid (show Con.nodeB t = ((decide (1 ≤ t.op) && decide (t.op ≤ 13)) && (Con.shapeB t && (Con.numB t && (Con.strB t && Con.kindB t)))) from rfl)
  obtain ⟨hbx, hb⟩ := boxN_new w 28 #[.int .i64 t.op, .int .i64 t.n, .string t.s, .slice ka t.kind.l.length kc, .slice na t.names.length nc, .slice la t.l.length lc]
  have hn63 : t.l.length ≤ 9223372036854775807 := by unfold maxLen at hcm; omega
  have hm63 : t.names.length ≤ 9223372036854775807 := by
    obtain ⟨_, _, _, h1, h2, -⟩ := hs
    unfold maxLen at h2; omega
  generalize Con.labelsOk t.names = rl at *
  generalize Pl.cname t.s.toList = rc at *
  generalize K.valid t.kind = rk at *
  generalize Con.partsOf t.op = p at *
  generalize Con.binder t.op = rb at *
  generalize t.kind.l.length = kn at *
  generalize t.names.length = nn at *
  generalize t.l.length = n at *
  generalize Con.nodeB t = R at *
  generalize Con.shapeB t = r1 at *
  generalize Con.numB t = r2 at *
  generalize Con.strB t = r3 at *
  generalize Con.kindB t = r4 at *
  generalize t.op = op at *
  generalize t.n = num at *
  generalize t.s = s at *
  have c0 := hbx.cell 0 (.int .i64 op) rfl
  have HB := Lib.hid hb
  have HBX := Lib.hid hbx
  clear hbx hb ht hl hk hs hP hlc hcm hsz hnm
  by_cases ho1 : op < 1
  · have q1 : decide (op < 1) = true := decide_eq_true ho1
    have HF := Lib.hid (show R = false from by rw [HNB.out, decide_eq_false (by omega : ¬ 1 ≤ op)]; rfl)
    go_enter Tryz.func59, Tryz.ntmps59
    go_wp2_with fail
    go_ret
    exact ⟨by rw [HF.out]; rfl, HB.out⟩
  have q1 : decide (op < 1) = false := decide_eq_false ho1
  by_cases ho2 : 13 < op
  · have q2 : decide (13 < op) = true := decide_eq_true ho2
    have HF := Lib.hid (show R = false from by rw [HNB.out, decide_eq_false (by omega : ¬ op ≤ 13), Bool.and_false]; rfl)
    go_enter Tryz.func59, Tryz.ntmps59
    go_wp2_with fail
    go_ret
    exact ⟨by rw [HF.out]; rfl, HB.out⟩
  have q2 : decide (13 < op) = false := decide_eq_false ho2
  have HR := Lib.hid (show R = (r1 && (r2 && (r3 && r4))) from by rw [HNB.out, decide_eq_true (by omega : 1 ≤ op), decide_eq_true (by omega : op ≤ 13)]; rfl)
  clear HNB
  go_enter Tryz.func59, Tryz.ntmps59
  go_wp2_with fail
  generalize w.alloc (.cells #[.int .i64 op, .int .i64 num, .string s, .slice ka kn kc, .slice na nn nc, .slice la n lc] 28) = w2 at *
  refine (HPA.out _).mono ?_
  rintro e w' ⟨rfl, rfl⟩
  clear HPA q1 q2 ho1 ho2 c0
  have c4 := HBX.out.cell 4 (.slice na nn nc) rfl
  have c5 := HBX.out.cell 5 (.slice la n lc) rfl
  go_upto_region 4 with fail
  go_cut [48] from 15 to 48 (fun s48 W => s48 = .bool (!r1) ∧ Below w2.heap.size w2 W)
  case first =>
    by_cases hp : 0 ≤ p
    · have q1 : decide (0 ≤ p) = true := decide_eq_true hp
      have q2 : decide (p < 0) = false := decide_eq_false (by omega)
      have HE := Lib.hid (show r1 = (decide ((n : Int) = p) && decide (nn = 0)) from by rw [HSH.out, if_pos hp])
      by_cases h1 : (n : Int) = p
      · have q3 : ((n : Int) != p) = false := by simpa using h1
        by_cases h2 : nn = 0
        · subst h2
          have HE2 := Lib.hid (show r1 = true from by rw [HE.out, decide_eq_true h1]; rfl)
          clear h1 hp
          go_wp2
          go_meet
          exact ⟨by rw [HE2.out]; rfl, Below.refl _ _⟩
        · have q4 : ((nn : Int) != 0) = true := by simp; omega
          have HE2 := Lib.hid (show r1 = false from by rw [HE.out, decide_eq_false h2, Bool.and_false])
          clear h1 h2 hp
          go_wp2
          go_meet
          exact ⟨by rw [HE2.out]; rfl, Below.refl _ _⟩
      · have q3 : ((n : Int) != p) = true := by simpa using h1
        have HE2 := Lib.hid (show r1 = false from by rw [HE.out, decide_eq_false h1, Bool.false_and])
        clear h1 hp
        go_wp2
        go_meet
        exact ⟨by rw [HE2.out]; rfl, Below.refl _ _⟩
    · have q1 : decide (0 ≤ p) = false := decide_eq_false hp
      have q2 : decide (p < 0) = true := decide_eq_true (by omega)
      have HE := Lib.hid (show r1 = (decide (n = nn) && rl) from by rw [HSH.out, if_neg hp])
      by_cases h1 : n = nn
      · subst h1
        have q3 : ((n : Int) != (n : Int)) = false := by simp
        have HE2 := Lib.hid (show r1 = rl from by rw [HE.out, decide_eq_true rfl]; rfl)
        clear hp
        go_wp2_with fail
        refine (HLB.out _ HB.out).mono ?_
        rintro e w' ⟨rfl, hb⟩
        have HW := Lib.hid hb
        clear hb
        go_wp2
        go_meet
        exact ⟨by rw [HE2.out], HW.out⟩
      · have q3 : ((n : Int) != (nn : Int)) = true := by simp; omega
        have HE2 := Lib.hid (show r1 = false from by rw [HE.out, decide_eq_false h1]; rfl)
        clear h1 hp
        go_wp2
        go_meet
        exact ⟨by rw [HE2.out]; rfl, Below.refl _ _⟩
  case rest =>
    obtain ⟨rfl, hw⟩ := hcut
    have HW := Lib.hid hw
    clear hw c4 c5
    cases r1
    · have HF := Lib.hid (show R = false from by rw [HR.out]; rfl)
      go_wp2
      go_ret
      exact ⟨by rw [HF.out]; rfl, belowStep HW.out HB.out⟩
    have c0 := (HBX.out.of_eq (HW.out.block _ HBX.out.lt)).cell 0 (.int .i64 op) rfl
    have c1 := (HBX.out.of_eq (HW.out.block _ HBX.out.lt)).cell 1 (.int .i64 num) rfl
    by_cases h13 : op = 1 ∨ op = 3
    · have HE := Lib.hid (show r2 = (decide (0 ≤ num) && decide (num ≤ 20000)) from by rw [HNU.out, if_pos h13])
      by_cases hn1 : num < 0
      · have q3 : decide (num < 0) = true := decide_eq_true hn1
        have HE2 := Lib.hid (show r2 = false from by rw [HE.out, decide_eq_false (by omega : ¬ 0 ≤ num), Bool.false_and])
        have HF := Lib.hid (show R = false from by rw [HR.out, HE2.out]; simp)
        rcases h13 with rfl | rfl
        · go_wp2
          go_ret
          exact ⟨by rw [HF.out]; rfl, belowStep HW.out HB.out⟩
        · go_wp2
          go_ret
          exact ⟨by rw [HF.out]; rfl, belowStep HW.out HB.out⟩
      have q3 : decide (num < 0) = false := decide_eq_false hn1
      by_cases hn2 : 20000 < num
      · have q4 : decide (20000 < num) = true := decide_eq_true hn2
        have HE2 := Lib.hid (show r2 = false from by rw [HE.out, decide_eq_false (by omega : ¬ num ≤ 20000), Bool.and_false])
        have HF := Lib.hid (show R = false from by rw [HR.out, HE2.out]; simp)
        rcases h13 with rfl | rfl
        · go_wp2
          go_ret
          exact ⟨by rw [HF.out]; rfl, belowStep HW.out HB.out⟩
        · go_wp2
          go_ret
          exact ⟨by rw [HF.out]; rfl, belowStep HW.out HB.out⟩
      have q4 : decide (20000 < num) = false := decide_eq_false hn2
      have HE2 := Lib.hid (show r2 = true from by rw [HE.out, decide_eq_true (by omega : 0 ≤ num), decide_eq_true (by omega : num ≤ 20000)]; rfl)
      replace HR := Lib.hid (show R = (r3 && r4) from by rw [HR.out, HE2.out]; simp)
      go_upto_region 6 with fail
      go_cut [56] from 49 to 56 (fun s56 W => s56 = .bool true ∧ Below w2.heap.size w2 W)
      case first =>
        rcases h13 with rfl | rfl
        · go_wp2
          go_meet
          exact ⟨rfl, HW.out⟩
        · go_wp2
          go_meet
          exact ⟨rfl, HW.out⟩
      case rest =>
        obtain ⟨rfl, hw⟩ := hcut
        replace HW := Lib.hid hw
        clear hw c0 c1 hn1 hn2 h13
        have c1 := (HBX.out.of_eq (HW.out.block _ HBX.out.lt)).cell 1 (.int .i64 num) rfl
        go_upto_region 11 with fail
        go_cut [86] from 68 to 86 (fun s86 W => s86 = .bool (!r3) ∧ Below w2.heap.size w2 W)
        case first =>
          have c0 := (HBX.out.of_eq (HW.out.block _ HBX.out.lt)).cell 0 (.int .i64 op) rfl
          have c2 := (HBX.out.of_eq (HW.out.block _ HBX.out.lt)).cell 2 (.string s) rfl
          by_cases h2 : op = 2
          · have q1 : (op == 2) = true := by simpa using h2
            have q2 : (op != 2) = false := by simpa using h2
            have HE := Lib.hid (show r3 = rc from by rw [HST.out, if_pos h2])
            clear h2
            go_wp2_with fail
            refine (HCN.out _).mono ?_
            rintro e w' ⟨rfl, rfl⟩
            cases rc
            · go_wp2
              go_meet
              exact ⟨by rw [HE.out]; rfl, HW.out⟩
            · go_wp2
              go_meet
              exact ⟨by rw [HE.out]; rfl, HW.out⟩
          · have q1 : (op == 2) = false := by simpa using h2
            have q2 : (op != 2) = true := by simpa using h2
            have HE := Lib.hid (show r3 = decide (s.toList = []) from by rw [HST.out, if_neg h2])
            clear h2
            by_cases hs0 : s.toList = []
            · have q3 : (s.toList == []) = true := by simpa using hs0
              have HE2 := Lib.hid (show r3 = true from by rw [HE.out, decide_eq_true hs0])
              clear hs0
              go_wp2
              go_meet
              exact ⟨by rw [HE2.out]; rfl, HW.out⟩
            · have q3 : (s.toList == []) = false := beq_eq_false_iff_ne.2 hs0
              have HE2 := Lib.hid (show r3 = false from by rw [HE.out, decide_eq_false hs0])
              clear hs0
              go_wp2
              go_meet
              exact ⟨by rw [HE2.out]; rfl, HW.out⟩
        case rest =>
          obtain ⟨rfl, hw⟩ := hcut
          replace HW := Lib.hid hw
          clear hw
          cases r3
          · have HF := Lib.hid (show R = false from by rw [HR.out]; first | rfl | simp)
            go_wp2
            go_ret
            exact ⟨by rw [HF.out]; rfl, belowStep HW.out HB.out⟩
          have c0 := (HBX.out.of_eq (HW.out.block _ HBX.out.lt)).cell 0 (.int .i64 op) rfl
          have c3 := (HBX.out.of_eq (HW.out.block _ HBX.out.lt)).cell 3 (.slice ka kn kc) rfl
          have HF := Lib.hid (show R = r4 from by rw [HR.out]; first | rfl | simp)
          by_cases h2 : op = 2
          · have q1 : (op == 2) = true := by simpa using h2
            have HE := Lib.hid (show r4 = rk from by rw [HKI.out, if_pos (.inl h2)])
            clear h2
            go_wp2_with fail
            refine (HVK.out _ (belowStep HW.out HB.out)).mono ?_
            rintro e w' ⟨rfl, hb⟩
            have HW2 := Lib.hid (belowStep hb (belowStep HW.out HB.out))
            clear hb
            go_wp2
            go_ret
            exact ⟨by rw [HF.out, HE.out]; rfl, HW2.out⟩
          · have q1 : (op == 2) = false := by simpa using h2
            cases rb
            · have HE := Lib.hid (show r4 = decide (kn = 0) from by rw [HKI.out, if_neg (by simpa using h2)])
              clear h2
              go_wp2_with fail
              refine (HBI.out _).mono ?_
              rintro e w' ⟨rfl, rfl⟩
              by_cases hk0 : kn = 0
              · subst hk0
                go_wp2
                go_ret
                exact ⟨by rw [HF.out, HE.out]; rfl, belowStep HW.out HB.out⟩
              · have q3 : ((kn : Int) == 0) = false := by simp; omega
                have HE2 := Lib.hid (show r4 = false from by rw [HE.out, decide_eq_false hk0])
                clear hk0
                go_wp2
                go_ret
                exact ⟨by rw [HF.out, HE2.out]; rfl, belowStep HW.out HB.out⟩
            · have HE := Lib.hid (show r4 = rk from by rw [HKI.out, if_pos (.inr rfl)])
              clear h2
              go_wp2_with fail
              refine (HBI.out _).mono ?_
              rintro e w' ⟨rfl, rfl⟩
              go_wp2_with fail
              refine (HVK.out _ (belowStep HW.out HB.out)).mono ?_
              rintro e w' ⟨rfl, hb⟩
              have HW2 := Lib.hid (belowStep hb (belowStep HW.out HB.out))
              clear hb
              go_wp2
              go_ret
              exact ⟨by rw [HF.out, HE.out]; rfl, HW2.out⟩
    · have HE := Lib.hid (show r2 = decide (num = 0) from by rw [HNU.out, if_neg h13])
      have q5 : (op == 1) = false := by simp; omega
      have q6 : (op == 3) = false := by simp; omega
      by_cases hn1 : num = 0
      rotate_left
      · have q3 : (num != 0) = true := by simpa using hn1
        have HE2 := Lib.hid (show r2 = false from by rw [HE.out, decide_eq_false hn1])
        have HF := Lib.hid (show R = false from by rw [HR.out, HE2.out]; simp)
        clear hn1 h13
        go_wp2
        go_ret
        exact ⟨by rw [HF.out]; rfl, belowStep HW.out HB.out⟩
      have q3 : (num != 0) = false := by simpa using hn1
      have HE2 := Lib.hid (show r2 = true from by rw [HE.out, decide_eq_true hn1])
      replace HR := Lib.hid (show R = (r3 && r4) from by rw [HR.out, HE2.out]; simp)
      clear hn1 h13
      go_upto_region 11 with fail
      go_cut [86] from 68 to 86 (fun s86 W => s86 = .bool (!r3) ∧ Below w2.heap.size w2 W)
      case first =>
        have c0 := (HBX.out.of_eq (HW.out.block _ HBX.out.lt)).cell 0 (.int .i64 op) rfl
        have c2 := (HBX.out.of_eq (HW.out.block _ HBX.out.lt)).cell 2 (.string s) rfl
        by_cases h2 : op = 2
        · have q1 : (op == 2) = true := by simpa using h2
          have q2 : (op != 2) = false := by simpa using h2
          have HE := Lib.hid (show r3 = rc from by rw [HST.out, if_pos h2])
          clear h2
          go_wp2_with fail
          refine (HCN.out _).mono ?_
          rintro e w' ⟨rfl, rfl⟩
          cases rc
          · go_wp2
            go_meet
            exact ⟨by rw [HE.out]; rfl, HW.out⟩
          · go_wp2
            go_meet
            exact ⟨by rw [HE.out]; rfl, HW.out⟩
        · have q1 : (op == 2) = false := by simpa using h2
          have q2 : (op != 2) = true := by simpa using h2
          have HE := Lib.hid (show r3 = decide (s.toList = []) from by rw [HST.out, if_neg h2])
          clear h2
          by_cases hs0 : s.toList = []
          · have q3 : (s.toList == []) = true := by simpa using hs0
            have HE2 := Lib.hid (show r3 = true from by rw [HE.out, decide_eq_true hs0])
            clear hs0
            go_wp2
            go_meet
            exact ⟨by rw [HE2.out]; rfl, HW.out⟩
          · have q3 : (s.toList == []) = false := beq_eq_false_iff_ne.2 hs0
            have HE2 := Lib.hid (show r3 = false from by rw [HE.out, decide_eq_false hs0])
            clear hs0
            go_wp2
            go_meet
            exact ⟨by rw [HE2.out]; rfl, HW.out⟩
      case rest =>
        obtain ⟨rfl, hw⟩ := hcut
        replace HW := Lib.hid hw
        clear hw
        cases r3
        · have HF := Lib.hid (show R = false from by rw [HR.out]; first | rfl | simp)
          go_wp2
          go_ret
          exact ⟨by rw [HF.out]; rfl, belowStep HW.out HB.out⟩
        have c0 := (HBX.out.of_eq (HW.out.block _ HBX.out.lt)).cell 0 (.int .i64 op) rfl
        have c3 := (HBX.out.of_eq (HW.out.block _ HBX.out.lt)).cell 3 (.slice ka kn kc) rfl
        have HF := Lib.hid (show R = r4 from by rw [HR.out]; first | rfl | simp)
        by_cases h2 : op = 2
        · have q1 : (op == 2) = true := by simpa using h2
          have HE := Lib.hid (show r4 = rk from by rw [HKI.out, if_pos (.inl h2)])
          clear h2
          go_wp2_with fail
          refine (HVK.out _ (belowStep HW.out HB.out)).mono ?_
          rintro e w' ⟨rfl, hb⟩
          have HW2 := Lib.hid (belowStep hb (belowStep HW.out HB.out))
          clear hb
          go_wp2
          go_ret
          exact ⟨by rw [HF.out, HE.out]; rfl, HW2.out⟩
        · have q1 : (op == 2) = false := by simpa using h2
          cases rb
          · have HE := Lib.hid (show r4 = decide (kn = 0) from by rw [HKI.out, if_neg (by simpa using h2)])
            clear h2
            go_wp2_with fail
            refine (HBI.out _).mono ?_
            rintro e w' ⟨rfl, rfl⟩
            by_cases hk0 : kn = 0
            · subst hk0
              go_wp2
              go_ret
              exact ⟨by rw [HF.out, HE.out]; rfl, belowStep HW.out HB.out⟩
            · have q3 : ((kn : Int) == 0) = false := by simp; omega
              have HE2 := Lib.hid (show r4 = false from by rw [HE.out, decide_eq_false hk0])
              clear hk0
              go_wp2
              go_ret
              exact ⟨by rw [HF.out, HE2.out]; rfl, belowStep HW.out HB.out⟩
          · have HE := Lib.hid (show r4 = rk from by rw [HKI.out, if_pos (.inr rfl)])
            clear h2
            go_wp2_with fail
            refine (HBI.out _).mono ?_
            rintro e w' ⟨rfl, rfl⟩
            go_wp2_with fail
            refine (HVK.out _ (belowStep HW.out HB.out)).mono ?_
            rintro e w' ⟨rfl, hb⟩
            have HW2 := Lib.hid (belowStep hb (belowStep HW.out HB.out))
            clear hb
            go_wp2
            go_ret
            exact ⟨by rw [HF.out, HE.out]; rfl, HW2.out⟩
end Go.Proofs.YtmjiocpcenbndaaGreatDoor
