/-
  Layer 9: several texts in one (Um Un Uo).
-/
import Derived.Test.YtmjkeejinagokaaHg
import Derived.Test.YtmjkeejinagokaaShelf
namespace Go.Proofs.Ytmjkeejinagokaa
open Go Go.RowKit
open Pl (K Con KR KS kof kofs ownK inK appK)
set_option linter.unusedSimpArgs false
set_option linter.unusedVariables false

/-- a row of its own, as a slice -/
theorem row_form {w : World} {base n : Nat} {e : TypeId} {v : Value} {xs : List Value} (h : w.ownsRow base e 1 v n xs) : ∃ a c, v = .slice a n c ∧ n ≤ c ∧ c ≤ maxLen ∧ (a = none → n = 0 ∧ c = 0) ∧ ∀ (j : Nat), j < n → ∃ g, a = some ⟨g, 0, none⟩ ∧ g < w.heap.size ∧ w.cell? ⟨g, j, none⟩ = xs[j]? := by
  have hc := h
  rcases h.2 with ⟨rfl, rfl⟩ | ⟨g, cap, cu, rfl, hbg, hg, hnc, hcm, hcs, htake⟩
  · exact ⟨none, 0, rfl, Nat.le_refl _, Nat.zero_le _, fun _ => ⟨rfl, rfl⟩, fun j hj => absurd hj (Nat.not_lt_zero _)⟩
  · exact ⟨_, cap, rfl, hnc, hcm, (fun h => by cases h), fun j hj => ⟨g, rfl, (hc.lt g rfl).2, hc.cellAt j (by omega)⟩⟩
theorem pathV_at (p : List Nat) (j : Nat) (h : j < p.length) : (pathV p)[j]? = some (.int .i64 (p[j] : Int)) := by
  unfold pathV
  rw [List.getElem?_map, List.getElem?_eq_getElem h]
  rfl
set_option maxRecDepth 100000 in
theorem pathEq_any (p : List Nat) (b1 b2 n m : Nat) (w : World) (v x : Value) (h1 : w.ownsRow b1 3 1 v n (pathV p)) (h2 : w.ownsRow b2 3 1 x m (pathV p)) (hn : n = p.length) (hm : m = p.length) :
    Calls Try.prog 11 #[v, x] w fun e w' => e = .returned (.bool true) ∧ Below w.heap.size w w' := by
  subst hn hm
  obtain ⟨a1, c1, rfl, hc1, hm1, -, e1⟩ := row_form h1
  obtain ⟨a2, c2, rfl, hc2, hm2, -, e2⟩ := row_form h2
  by_cases h0 : p.length = 0
  · have hp : p = [] := List.eq_nil_of_length_eq_zero h0
    subst hp
    refine (Try.slices_Equal_int_empty a1 a2 c1 0 c2 w (by omega)).mono ?_
    rintro e w' ⟨rfl, rfl⟩
    exact ⟨rfl, Below.refl _ _⟩
  · obtain ⟨g1, rfl, -, -⟩ := e1 0 (by omega)
    obtain ⟨g2, rfl, -, -⟩ := e2 0 (by omega)
    have hx : ∀ (j : Nat) (hj : j < p.length), (p.map (fun i : Nat => (i : Int))).getD j 0 = (p[j] : Int) := by
      intro j hj
      rw [List.getD_eq_getElem?_getD, List.getElem?_map, List.getElem?_eq_getElem hj]
      rfl
    have hl : (p.map (fun i : Nat => (i : Int))).length = p.length := by simp
    have key := Try.slices_Equal_int g1 0 p.length c1 g2 0 p.length c2 (p.map (fun i : Nat => (i : Int))) (p.map (fun i : Nat => (i : Int))) w (by rw [hl]; exact Nat.le_refl _) (by rw [hl]; exact Nat.le_refl _) (by unfold maxLen at hm1; omega) (by unfold maxLen at hm2; omega) (fun j hj => by
      rw [hl] at hj
      obtain ⟨g, e, -, hc⟩ := e1 j hj
      injection e with e
      injection e with e
      subst e
      rw [Nat.zero_add, hc, hx j hj, pathV_at p j hj]) (fun j hj => by
      rw [hl] at hj
      obtain ⟨g, e, -, hc⟩ := e2 j hj
      injection e with e
      injection e with e
      subst e
      rw [Nat.zero_add, hc, hx j hj, pathV_at p j hj])
    refine key.mono ?_
    rintro e w' ⟨rfl, q, rfl⟩
    refine ⟨?_, below_drewN10 (Below.refl _ _) q⟩
    have : ((p.map (fun i : Nat => (i : Int))).take p.length == (p.map (fun i : Nat => (i : Int))).take p.length) = true := by simp
    rw [this]
theorem pathV_take (p : List Nat) (j : Nat) (h : j < p.length) : pathV (p.take (j + 1)) = pathV (p.take j) ++ [.int .i64 (p[j] : Int)] := by
  rw [List.take_succ_eq_append_getElem h]
  unfold pathV
  rw [List.map_append]
  rfl
set_option maxRecDepth 100000 in
set_option maxHeartbeats 2000000 in
theorem rwhere_any (P : Nat → Prop) (g : List K) (t : Con) (w : World) (gv v : Value) (hP : ∀ b, P b → b < w.heap.size) (hg : KSl w P gv g) (ht : ConV w P t v) :
    Calls Try.prog 10 #[gv, v] w (WhP (whereOut g t) w) := by
  have HAV := Lib.hid (fun W (hW : Below w.heap.size w W) => rgiven_any P g t W gv v (low_up hP hW) (hg.keep (Same.of_below hW hP)) (ht.keep (Same.of_below hW hP)))
  have HKO := Lib.hid (fun (hv : givenB g t = true) W (hW : Below w.heap.size w W) => rof_any t P g W gv v (low_up hP hW) (hg.keep (Same.of_below hW hP)) (ht.keep (Same.of_below hW hP)) (given_all hv).1 (given_all hv).2.1 (given_all hv).2.2)
  have HKB := Lib.hid (fun e p (hk : kof g.reverse t = .bad e p) => kof_bad t g.reverse e p hk)
  have HKL := Lib.hid (fun (hv : givenB g t = true) e p (hk : kof g.reverse t = .bad e p) => (show p.length ≤ 100000 from by
    have := kof_len t g.reverse e p hk
    have := (given_all hv).2.2
    omega))
  obtain ⟨R, hV⟩ : ∃ R, R = whereOut g t := ⟨_, rfl⟩
  rw [← hV]
  unfold whereOut at hV
  have HV0 := Lib.hid hV
  clear hV
  obtain ⟨ka, kn, kc, na, nn, nc, la, ln, lc, rfl, -, -, -⟩ := ht.shape
  obtain ⟨ga, gc, rfl, -⟩ := hg.each
  generalize kof g.reverse t = r at *
  generalize givenB g t = z at *
  generalize t.op = op at *
  generalize t.n = num at *
  generalize t.s = s at *
  generalize g.length = gn at *
  obtain ⟨hbx, hb⟩ := boxN_new w 28 #[.int .i64 op, .int .i64 num, .string s, .slice ka kn kc, .slice na nn nc, .slice la ln lc]
  have HB := Lib.hid hb
  have H1 := Lib.hid hbx
  clear hbx hb hg ht hP
  have c0 := H1.out.cell 0 (.int .i64 op) rfl
  have c1 := H1.out.cell 1 (.int .i64 num) rfl
  have c2 := H1.out.cell 2 (.string s) rfl
  have c3 := H1.out.cell 3 (.slice ka kn kc) rfl
  have c4 := H1.out.cell 4 (.slice na nn nc) rfl
  have c5 := H1.out.cell 5 (.slice la ln lc) rfl
  go_enter Try.func10, Try.ntmps10
  go_wp2_with fail
  clear c0 c1 c2 c3 c4 c5
  generalize w.alloc (.cells #[.int .i64 op, .int .i64 num, .string s, .slice ka kn kc, .slice na nn nc, .slice la ln lc] 28) = w2 at *
  refine (HAV.out _ HB.out).mono ?_
  rintro e w3 ⟨rfl, hb3⟩
  replace H1 := Lib.hid (H1.out.of_eq (hb3.block _ H1.out.lt))
  replace HB := Lib.hid (belowStep hb3 HB.out)
  clear hb3 HAV
  cases z
  · have HE := Lib.hid (whp_nil (show R = ([], 1) from HV0.out) HB.out)
    clear HKO HKL
    go_wp2
    refine bodyPost_ret (v := .tuple #[.slice none 0 0, .int .i64 1]) (by simp [results, Try.results10, go_sem]) rfl ?_
    exact HE.out
  have c0 := H1.out.cell 0 (.int .i64 op) rfl
  have c1 := H1.out.cell 1 (.int .i64 num) rfl
  have c2 := H1.out.cell 2 (.string s) rfl
  have c3 := H1.out.cell 3 (.slice ka kn kc) rfl
  have c4 := H1.out.cell 4 (.slice na nn nc) rfl
  have c5 := H1.out.cell 5 (.slice la ln lc) rfl
  have HC := Lib.hid (HKO.out (by first | exact rfl | trivial) w3 HB.out)
  replace HKL := Lib.hid (HKL.out (by first | exact rfl | trivial))
  clear HKO
  go_wp2_with fail
  clear c0 c1 c2 c3 c4 c5
  refine HC.out.mono ?_
  rintro e w4 ⟨⟨ra, rn, rc, pv, rfl, -, hp⟩, hb4⟩
  have hb5 := (boxN_new w4 24 #[.slice ra rn rc]).2
  have hbf := belowStep hb5 (belowStep hb4 HB.out)
  have hss := HB.out.size
  rcases r with k | ⟨er, p⟩
  · have HE := Lib.hid (whp_nil (show R = ([], 8) from HV0.out) hbf)
    have qe : (KR.er (.ok k) == 0) = true := rfl
    generalize KR.er (.ok k) = er0 at *
    obtain rfl : er0 = 0 := by simpa using qe
    clear hp hb4 hb5 hbf qe HC H1
    go_wp2
    refine bodyPost_ret (v := .tuple #[.slice none 0 0, .int .i64 8]) (by simp [results, Try.results10, go_sem]) rfl ?_
    exact HE.out
  · have hp : w4.ownsRow w3.heap.size 3 1 pv p.length (pathV p.reverse) := hp
    have HV := Lib.hid (show R = (p, 0) from HV0.out)
    have hpl := HKL.out er p (by first | exact rfl | trivial)
    have hp5 := hp.alloc (.cells #[.slice ra rn rc] 24)
    have qe : (er == 0) = false := beq_eq_false_iff_ne.2 (HKB.out er p rfl)
    generalize hge : KR.er (.bad er p) = er1 at *
    obtain rfl : er1 = er := hge.symm
    have HBF := Lib.hid hbf
    obtain ⟨m, hm⟩ : ∃ m, m = p.length := ⟨_, rfl⟩
    have HM := Lib.hid hm
    rw [← hm] at hp5 hpl
    obtain ⟨pa, pc, hpv, -, -, -, hcell⟩ := row_form hp5
    subst hpv
    have HCELL := Lib.hid (show ∀ (j : Nat) (hj : j < m) (hj2 : j < p.length) (q : Nat), q = m - 1 - j → ∃ g, pa = some ⟨g, 0, none⟩ ∧ g < (w4.alloc (.cells #[.slice ra rn rc] 24)).heap.size ∧ (w4.alloc (.cells #[.slice ra rn rc] 24)).cell? ⟨g, q, none⟩ = some (.int .i64 (p[j] : Int)) from fun j hj hj2 q hq => by
      obtain ⟨g, h1, h2, h3⟩ := hcell q (by omega)
      refine ⟨g, h1, h2, h3.trans ?_⟩
      rw [pathV_at _ _ (by rw [List.length_reverse]; omega), List.getElem_reverse]
      congr 4
      omega)
    obtain ⟨i3, hi3, hy0, hy1, hy2⟩ := info3 infoInt10
    have hs5 := hbf.size
    have w1 : wrap64 ((m : Int) - 1) = (m : Int) - 1 := by rw [wrap64]; omega
    clear hp hp5 hb4 hb5 hbf HC H1 hge hcell HKB HKL HV0 hm
    go_wp2_with fail
    generalize w4.alloc (.cells #[.slice ra rn rc] 24) = w5 at *
    go_loopg [9, 10] (m + 1) (fun gk o i wr => ∃ (q j : Nat), q + j = m ∧ i = .int .i64 ((q : Int) - 1) ∧ gk = q + 1 ∧ wr.ownsRow w5.heap.size 3 1 o j (pathV (p.take j)) ∧ Below w5.heap.size w5 wr)
    case atStart => exact ⟨m, 0, by omega, rfl, by omega, by rw [List.take_zero]; exact World.ownsRow_nil _ _ _ _, Below.refl _ _⟩
    case round =>
      obtain ⟨q, j, hqj, rfl, hgk, hrow, hbw⟩ := hrel
      have HROW := Lib.hid hrow
      have HBW := Lib.hid hbw
      rcases q with _ | q
      · have q1 : decide ((0 : Int) ≤ ((0 : Nat) : Int) - 1) = false := rfl
        have hjm : j = p.length := by have := HM.out; omega
        have HE := Lib.hid (show WhP R w (.returned (.tuple #[u9, .int .i64 0])) wr from by
          have hv : R = (p, 0) := HV.out
          subst hv
          rw [hjm, List.take_length] at hrow
          exact ⟨⟨u9, rfl, hrow.mono hs5⟩, belowStep hbw HBF.out⟩)
        clear hrow hbw HROW HBW hjm
        go_wp2
        refine bodyPost_ret (v := .tuple #[u9, .int .i64 0]) (by simp [results, Try.results10, go_sem]) rfl ?_
        exact HE.out
      · have e1 : ((q + 1 : Nat) : Int) - 1 = (q : Int) := by omega
        rw [e1]
        have q1 : decide ((0 : Int) ≤ (q : Int)) = true := decide_eq_true (by omega)
        have w2' : wrap64 ((q : Int) - 1) = (q : Int) - 1 := by rw [wrap64]; omega
        have hjl : j < p.length := by have := HM.out; omega
        obtain ⟨g, hpa, hgl, hcl⟩ := HCELL.out j (by omega) hjl q (by omega)
        subst hpa
        have f0 := (hbw.cell (p := ⟨g, q, none⟩) hgl).trans hcl
        have hqm : q < m := by omega
        have hlit := boxN_new wr 3 #[.int .i64 (p[j] : Int)]
        have HROW7 := Lib.hid (hrow.alloc (.cells #[.int .i64 (p[j] : Int)] 3))
        have HNEW := Lib.hid (show ∀ i u, [Value.int .i64 (p[j] : Int)][i]? = some u → (wr.alloc (.cells #[.int .i64 (p[j] : Int)] 3)).cell? ((⟨wr.heap.size, 0, none⟩ : Addr).add i) = some u from World.news_of_block (cs := #[.int .i64 (p[j] : Int)]) (t := 3) (fr := (0, 0)) hlit.1)
        have HT := Lib.hid (pathV_take p j hjl)
        have HB7 := Lib.hid (belowStep hlit.2 hbw)
        have hs7 := hbw.size
        generalize (p[j] : Int) = pj at *
        clear hrow hbw hlit hcl HCELL e1 HROW HBW
        go_wp2_with (at_builtin; refine wpList_append_own _ rfl _ _ 31 rfl w5.heap.size 3 i3 (.int .i64 0) 1 8 Try.underlying31 hi3 hy0 hy1 hy2 rfl (by decide) _ j (pathV (p.take j)) rfl HROW7.out ⟨wr.heap.size, 0, none⟩ 1 1 [.int .i64 pj] rfl rfl ?c1 ?c2 ?c3 ?c4 ?c5 ?_)
        case c1 => exact HNEW.out
        case c2 => simp [Value.oneCell']
        case c3 => unfold maxLen; omega
        case c4 => omega
        case c5 => rw [size_alloc]; omega
        intro v' w8 hown hgrow _
        have HB8 := Lib.hid (show Below w5.heap.size w5 w8 from HB7.out.grown hgrow (by rw [size_alloc]; omega) (fun q hq => (HROW7.out.lt q hq).1))
        rw [← HT.out] at hown
        have HOWN := Lib.hid hown
        clear hown hgrow HROW7 HNEW HB7 HT f0
        go_wp2
        go_roundg (gk - 1)
        case measure => omega
        case rel => exact ⟨q, j + 1, by omega, by first | rfl | go_num, by omega, HOWN.out, HB8.out⟩
end Go.Proofs.Ytmjkeejinagokaa
namespace Go.Proofs.Ytmjkeejinagokaa
open Go Go.RowKit
open Pl (K Con KR KS kof kofs ownK inK appK)
set_option linter.unusedSimpArgs false
set_option linter.unusedVariables false

def k10 (op n : Int) (l : List Con) : Con := ⟨op, n, ByteArray.empty, .mk [], [], l⟩
def exLam : Con := k10 11 0 [k10 6 0 [k10 1 0 [], k10 1 0 []]]
def exApp : Con := k10 12 0 [k10 4 0 [], k10 4 0 []]
def exArr : Con := k10 6 0 [k10 4 0 [], k10 1 0 []]
theorem ex_lam : ofOut [] exLam = .ok (K.arity 1) := by kernel_rfl
theorem ex_app : ofOut [] exApp = .bad 11 [] := by kernel_rfl
theorem ex_arr : whereOut [] exArr = ([1], 0) := by kernel_rfl
theorem conV_k10 {w : World} {P : Nat → Prop} {op n : Int} {l : List Con} {lv : Value} (h : ConSl w P lv l) : ConV w P (k10 op n l) (.agg #[.int .i64 op, .int .i64 n, .string ⟨#[]⟩, .slice none 0 0, .slice none 0 0, lv]) := by
  rw [conV_iff]
  exact ⟨Nat.zero_le _, _, _, _, rfl, kidV_none _ _, ⟨none, 0, rfl, Nat.le_refl _, Nat.zero_le _, fun _ => rfl, (fun z hz => by cases hz), .inl rfl⟩, h⟩
theorem conSl_none (w : World) (P : Nat → Prop) : ConSl w P (.slice none 0 0) [] := ⟨none, 0, rfl, Nat.le_refl _, Nat.zero_le _, fun _ => rfl, .inl rfl⟩
theorem cons_one10 {w : World} {P : Nat → Prop} {g : Nat} {t : Con} {x0 x1 x2 x3 x4 x5 : Value} (hb : Blk w g 28 #[x0, x1, x2, x3, x4, x5]) (hg : P g) (ht : ConV w P t (.agg #[x0, x1, x2, x3, x4, x5])) : ConSl w P (.slice (some ⟨g, 0, none⟩) 1 1) [t] := by
  refine ⟨_, 1, rfl, Nat.le_refl _, by unfold maxLen; omega, (fun h => by cases h), .inr ⟨g, 0, rfl, hg, ?_⟩⟩
  rw [ConsAt, ConsAt]
  exact ⟨⟨_, ⟨x0, x1, x2, x3, x4, x5, rfl, hb.cell 0 _ rfl, hb.cell 1 _ rfl, hb.cell 2 _ rfl, hb.cell 3 _ rfl, hb.cell 4 _ rfl, hb.cell 5 _ rfl⟩, ht⟩, trivial⟩
/-- two leaves side by side, newly made -/
theorem two_leaves (w : World) (o1 n1 o2 n2 : Int) : ConSl (w.alloc (.cells #[.int .i64 o1, .int .i64 n1, .string ⟨#[]⟩, .slice none 0 0, .slice none 0 0, .slice none 0 0, .int .i64 o2, .int .i64 n2, .string ⟨#[]⟩, .slice none 0 0, .slice none 0 0, .slice none 0 0] 28)) (fun q => q = w.heap.size) (.slice (some ⟨w.heap.size, 0, none⟩) 2 2) [k10 o1 n1 [], k10 o2 n2 []] :=
  cons_two (blk_new w _ _) rfl (conV_k10 (conSl_none _ _)) (conV_k10 (conSl_none _ _))
theorem lam_world (w : World) : ConV (((w.alloc (.cells #[.int .i64 1, .int .i64 0, .string ⟨#[]⟩, .slice none 0 0, .slice none 0 0, .slice none 0 0, .int .i64 1, .int .i64 0, .string ⟨#[]⟩, .slice none 0 0, .slice none 0 0, .slice none 0 0] 28)).alloc (.cells #[.int .i64 6, .int .i64 0, .string ⟨#[]⟩, .slice none 0 0, .slice none 0 0, .slice (some ⟨w.heap.size, 0, none⟩) 2 2] 28)).alloc (.cells #[.int .i64 11, .int .i64 0, .string ⟨#[]⟩, .slice none 0 0, .slice none 0 0, .slice (some ⟨w.heap.size + 1, 0, none⟩) 1 1] 28)) (fun q => q = w.heap.size ∨ q = w.heap.size + 1) exLam (.agg #[.int .i64 11, .int .i64 0, .string ⟨#[]⟩, .slice none 0 0, .slice none 0 0, .slice (some ⟨w.heap.size + 1, 0, none⟩) 1 1]) ∧ Blk (((w.alloc (.cells #[.int .i64 1, .int .i64 0, .string ⟨#[]⟩, .slice none 0 0, .slice none 0 0, .slice none 0 0, .int .i64 1, .int .i64 0, .string ⟨#[]⟩, .slice none 0 0, .slice none 0 0, .slice none 0 0] 28)).alloc (.cells #[.int .i64 6, .int .i64 0, .string ⟨#[]⟩, .slice none 0 0, .slice none 0 0, .slice (some ⟨w.heap.size, 0, none⟩) 2 2] 28)).alloc (.cells #[.int .i64 11, .int .i64 0, .string ⟨#[]⟩, .slice none 0 0, .slice none 0 0, .slice (some ⟨w.heap.size + 1, 0, none⟩) 1 1] 28)) (w.heap.size + 1 + 1) 28 #[.int .i64 11, .int .i64 0, .string ⟨#[]⟩, .slice none 0 0, .slice none 0 0, .slice (some ⟨w.heap.size + 1, 0, none⟩) 1 1] ∧ Below w.heap.size w (((w.alloc (.cells #[.int .i64 1, .int .i64 0, .string ⟨#[]⟩, .slice none 0 0, .slice none 0 0, .slice none 0 0, .int .i64 1, .int .i64 0, .string ⟨#[]⟩, .slice none 0 0, .slice none 0 0, .slice none 0 0] 28)).alloc (.cells #[.int .i64 6, .int .i64 0, .string ⟨#[]⟩, .slice none 0 0, .slice none 0 0, .slice (some ⟨w.heap.size, 0, none⟩) 2 2] 28)).alloc (.cells #[.int .i64 11, .int .i64 0, .string ⟨#[]⟩, .slice none 0 0, .slice none 0 0, .slice (some ⟨w.heap.size + 1, 0, none⟩) 1 1] 28)) := by
  have h1 := boxN_new w 28 #[.int .i64 1, .int .i64 0, .string ⟨#[]⟩, .slice none 0 0, .slice none 0 0, .slice none 0 0, .int .i64 1, .int .i64 0, .string ⟨#[]⟩, .slice none 0 0, .slice none 0 0, .slice none 0 0]
  have h2 := boxN_new (w.alloc (.cells #[.int .i64 1, .int .i64 0, .string ⟨#[]⟩, .slice none 0 0, .slice none 0 0, .slice none 0 0, .int .i64 1, .int .i64 0, .string ⟨#[]⟩, .slice none 0 0, .slice none 0 0, .slice none 0 0] 28)) 28 #[.int .i64 6, .int .i64 0, .string ⟨#[]⟩, .slice none 0 0, .slice none 0 0, .slice (some ⟨w.heap.size, 0, none⟩) 2 2]
  have h3 := boxN_new ((w.alloc (.cells #[.int .i64 1, .int .i64 0, .string ⟨#[]⟩, .slice none 0 0, .slice none 0 0, .slice none 0 0, .int .i64 1, .int .i64 0, .string ⟨#[]⟩, .slice none 0 0, .slice none 0 0, .slice none 0 0] 28)).alloc (.cells #[.int .i64 6, .int .i64 0, .string ⟨#[]⟩, .slice none 0 0, .slice none 0 0, .slice (some ⟨w.heap.size, 0, none⟩) 2 2] 28)) 28 #[.int .i64 11, .int .i64 0, .string ⟨#[]⟩, .slice none 0 0, .slice none 0 0, .slice (some ⟨w.heap.size + 1, 0, none⟩) 1 1]
  have e1 := h2.1
  have e2 := h3.1
  rw [size_alloc] at e1
  rw [size_alloc, size_alloc] at e2
  have hl := two_leaves w 1 0 1 0
  have hl3 : ConSl (((w.alloc (.cells #[.int .i64 1, .int .i64 0, .string ⟨#[]⟩, .slice none 0 0, .slice none 0 0, .slice none 0 0, .int .i64 1, .int .i64 0, .string ⟨#[]⟩, .slice none 0 0, .slice none 0 0, .slice none 0 0] 28)).alloc (.cells #[.int .i64 6, .int .i64 0, .string ⟨#[]⟩, .slice none 0 0, .slice none 0 0, .slice (some ⟨w.heap.size, 0, none⟩) 2 2] 28)).alloc (.cells #[.int .i64 11, .int .i64 0, .string ⟨#[]⟩, .slice none 0 0, .slice none 0 0, .slice (some ⟨w.heap.size + 1, 0, none⟩) 1 1] 28)) (fun q => q = w.heap.size ∨ q = w.heap.size + 1) (.slice (some ⟨w.heap.size, 0, none⟩) 2 2) [k10 1 0 [], k10 1 0 []] := ((hl.keep (Same.of_below h2.2 (fun q hq => by rw [hq, size_alloc]; omega))).keep (Same.of_below h3.2 (fun q hq => by rw [hq, size_alloc, size_alloc]; omega))).mono (fun q hq => .inl hq)
  have hb := belowStep h3.2 (belowStep h2.2 h1.2)
  exact ⟨conV_k10 (cons_one10 (e1.of_eq (h3.2.block _ e1.lt)) (.inr rfl) (conV_k10 hl3)), e2, hb⟩

set_option maxRecDepth 100000 in
set_option maxHeartbeats 2000000 in
theorem awake10 (w : World) : Calls Try.prog 7 #[] w fun e w' => e = .returned (.bool true) ∧ Below w.heap.size w w' := by
  obtain ⟨hc, hbx, hb⟩ := lam_world w
  have hsz : (((w.alloc (.cells #[.int .i64 1, .int .i64 0, .string ⟨#[]⟩, .slice none 0 0, .slice none 0 0, .slice none 0 0, .int .i64 1, .int .i64 0, .string ⟨#[]⟩, .slice none 0 0, .slice none 0 0, .slice none 0 0] 28)).alloc (.cells #[.int .i64 6, .int .i64 0, .string ⟨#[]⟩, .slice none 0 0, .slice none 0 0, .slice (some ⟨w.heap.size, 0, none⟩) 2 2] 28)).alloc (.cells #[.int .i64 11, .int .i64 0, .string ⟨#[]⟩, .slice none 0 0, .slice none 0 0, .slice (some ⟨w.heap.size + 1, 0, none⟩) 1 1] 28)).heap.size = w.heap.size + 3 := by rw [size_alloc, size_alloc, size_alloc]
  have HO := Lib.hid (of_any _ [] exLam (((w.alloc (.cells #[.int .i64 1, .int .i64 0, .string ⟨#[]⟩, .slice none 0 0, .slice none 0 0, .slice none 0 0, .int .i64 1, .int .i64 0, .string ⟨#[]⟩, .slice none 0 0, .slice none 0 0, .slice none 0 0] 28)).alloc (.cells #[.int .i64 6, .int .i64 0, .string ⟨#[]⟩, .slice none 0 0, .slice none 0 0, .slice (some ⟨w.heap.size, 0, none⟩) 2 2] 28)).alloc (.cells #[.int .i64 11, .int .i64 0, .string ⟨#[]⟩, .slice none 0 0, .slice none 0 0, .slice (some ⟨w.heap.size + 1, 0, none⟩) 1 1] 28)) (.slice none 0 0) _ (fun q hq => by rw [hsz]; rcases hq with hq | hq <;> omega) (kidV_none _ _) hc)
  rw [ex_lam] at HO
  have HB := Lib.hid hb
  have HSZ := Lib.hid hsz
  have c0 := hbx.cell 0 _ rfl
  have c1 := hbx.cell 1 _ rfl
  have c2 := hbx.cell 2 _ rfl
  have c3 := hbx.cell 3 _ rfl
  have c4 := hbx.cell 4 _ rfl
  have c5 := hbx.cell 5 _ rfl
  clear hc hbx hb hsz
  go_enter Try.func7, Try.ntmps7
  go_wp2_with fail
  clear c0 c1 c2 c3 c4 c5
  generalize (((w.alloc (.cells #[.int .i64 1, .int .i64 0, .string ⟨#[]⟩, .slice none 0 0, .slice none 0 0, .slice none 0 0, .int .i64 1, .int .i64 0, .string ⟨#[]⟩, .slice none 0 0, .slice none 0 0, .slice none 0 0] 28)).alloc (.cells #[.int .i64 6, .int .i64 0, .string ⟨#[]⟩, .slice none 0 0, .slice none 0 0, .slice (some ⟨w.heap.size, 0, none⟩) 2 2] 28)).alloc (.cells #[.int .i64 11, .int .i64 0, .string ⟨#[]⟩, .slice none 0 0, .slice none 0 0, .slice (some ⟨w.heap.size + 1, 0, none⟩) 1 1] 28)) = w1 at *
  refine HO.out.mono ?_
  rintro e w2 ⟨⟨ka, kn, kc, rfl, hk⟩, hb2⟩
  have qe : (KR.er (.ok (K.arity 1)) == 0) = true := rfl
  generalize KR.er (.ok (K.arity 1)) = er0 at *
  obtain rfl : er0 = 0 := by simpa using qe
  obtain ⟨hkb, hbk⟩ := boxN_new w2 24 #[.slice ka kn kc]
  have hlow : ∀ q, Ext (fun q => q = w.heap.size ∨ q = w.heap.size + 1) w1 w2 q → q < w2.heap.size := fun q hq => by
    have h1 := hb2.size
    have h2 := HSZ.out
    rcases hq with (hq | hq) | hq
    · omega
    · omega
    · exact hq.2
  have HK := Lib.hid ((hk.keep (Same.of_below hbk hlow)).mono (fun q hq => (show q < w2.heap.size from hlow q hq)))
  have HKB := Lib.hid hkb
  replace HB := Lib.hid (belowStep hbk (belowStep hb2 HB.out))
  have HLT := Lib.hid hbk.size
  clear hk hb2 HO qe hkb hbk hlow HSZ
  go_upto_region 3 with fail
  generalize w2.alloc (.cells #[.slice ka kn kc] 24) = w3 at *
  have HA := Lib.hid (show Calls Try.prog 25 #[.int .i64 1] w3 (ArityP 1 w3.heap.size w3) from arity_in 1 _ (by omega))
  go_wp2_with fail
  refine HA.out.mono ?_
  rintro e w4 ⟨⟨aa, an, ac, rfl, ha⟩, hb4⟩
  obtain ⟨hab, hba⟩ := boxN_new w4 24 #[.slice aa an ac]
  have hlow : ∀ q, q < w2.heap.size → q < w4.heap.size := fun q hq => by have := HLT.out; have := hb4.size; omega
  replace HK := Lib.hid (((HK.out.keep (Same.of_below hb4 (fun q hq => by have := HLT.out; omega))).keep (Same.of_below hba hlow)).mono (fun q hq => (show q < w4.heap.size from hlow q hq)))
  have HAA := Lib.hid ((ha.keep (Same.of_below hba (fun q hq => hq.2))).mono (fun q hq => (show q < w4.heap.size from hq.2)))
  replace HKB := Lib.hid ((HKB.out.of_eq (hb4.block _ HKB.out.lt)).alloc (.cells #[.slice aa an ac] 24))
  have HAB := Lib.hid hab
  replace HB := Lib.hid (belowStep hba (belowStep hb4 HB.out))
  replace HLT := Lib.hid hba.size
  clear ha hab hba hb4 HA hlow
  go_upto_region 4 with fail
  generalize w4.alloc (.cells #[.slice aa an ac] 24) = w5 at *
  have hbl := boxN_new w5 28 #[.int .i64 4, .int .i64 0, .string ⟨#[]⟩, .slice none 0 0, .slice none 0 0, .slice none 0 0, .int .i64 4, .int .i64 0, .string ⟨#[]⟩, .slice none 0 0, .slice none 0 0, .slice none 0 0]
  have HO2 := Lib.hid (of_any (fun q => q = w5.heap.size) [] exApp (w5.alloc (.cells #[.int .i64 4, .int .i64 0, .string ⟨#[]⟩, .slice none 0 0, .slice none 0 0, .slice none 0 0, .int .i64 4, .int .i64 0, .string ⟨#[]⟩, .slice none 0 0, .slice none 0 0, .slice none 0 0] 28)) (.slice none 0 0) _ (fun q hq => by rw [hq, size_alloc]; omega) (kidV_none _ _) (conV_k10 (two_leaves w5 4 0 4 0)))
  rw [ex_app] at HO2
  have HBL := Lib.hid hbl.2
  clear hbl
  go_wp2_with fail
  generalize w5.alloc (.cells #[.int .i64 4, .int .i64 0, .string ⟨#[]⟩, .slice none 0 0, .slice none 0 0, .slice none 0 0, .int .i64 4, .int .i64 0, .string ⟨#[]⟩, .slice none 0 0, .slice none 0 0, .slice none 0 0] 28) = w6 at *
  refine HO2.out.mono ?_
  rintro e w7 ⟨⟨ra, rn, rc, rfl, -⟩, hb7⟩
  have qe : (KR.er (.bad 11 []) == 11) = true := rfl
  generalize KR.er (.bad 11 []) = er1 at *
  obtain rfl : er1 = 11 := by simpa using qe
  have h8 := (boxN_new w7 24 #[.slice ra rn rc]).2
  have hbb : Below w5.heap.size w5 (w7.alloc (.cells #[.slice ra rn rc] 24)) := belowStep h8 (belowStep hb7 HBL.out)
  replace HK := Lib.hid (HK.out.keep (Same.of_below hbb (fun q hq => Nat.lt_of_lt_of_le hq HLT.out)))
  replace HAA := Lib.hid (HAA.out.keep (Same.of_below hbb (fun q hq => Nat.lt_of_lt_of_le hq HLT.out)))
  replace HKB := Lib.hid (HKB.out.of_eq (hbb.block _ HKB.out.lt))
  replace HAB := Lib.hid (HAB.out.of_eq (hbb.block _ HAB.out.lt))
  replace HB := Lib.hid (belowStep hbb HB.out)
  replace HLT := Lib.hid (Nat.le_trans HLT.out hbb.size)
  clear hb7 qe h8 hbb HO2 HBL
  go_upto_region 5 with fail
  generalize w7.alloc (.cells #[.slice ra rn rc] 24) = w8 at *
  have hbl := boxN_new w8 28 #[.int .i64 4, .int .i64 0, .string ⟨#[]⟩, .slice none 0 0, .slice none 0 0, .slice none 0 0, .int .i64 1, .int .i64 0, .string ⟨#[]⟩, .slice none 0 0, .slice none 0 0, .slice none 0 0]
  have HO3 := Lib.hid (where_any (fun q => q = w8.heap.size) [] exArr (w8.alloc (.cells #[.int .i64 4, .int .i64 0, .string ⟨#[]⟩, .slice none 0 0, .slice none 0 0, .slice none 0 0, .int .i64 1, .int .i64 0, .string ⟨#[]⟩, .slice none 0 0, .slice none 0 0, .slice none 0 0] 28)) (.slice none 0 0) _ (fun q hq => by rw [hq, size_alloc]; omega) (kidV_none _ _) (conV_k10 (two_leaves w8 4 0 1 0)))
  rw [ex_arr] at HO3
  have HBL := Lib.hid hbl.2
  clear hbl
  go_wp2_with fail
  generalize w8.alloc (.cells #[.int .i64 4, .int .i64 0, .string ⟨#[]⟩, .slice none 0 0, .slice none 0 0, .slice none 0 0, .int .i64 1, .int .i64 0, .string ⟨#[]⟩, .slice none 0 0, .slice none 0 0, .slice none 0 0] 28) = w9 at *
  refine HO3.out.mono ?_
  rintro e wa ⟨⟨pv, rfl, hp⟩, hba⟩
  have hbb := belowStep hba HBL.out
  replace HK := Lib.hid (HK.out.keep (Same.of_below hbb (fun q hq => Nat.lt_of_lt_of_le hq HLT.out)))
  replace HAA := Lib.hid (HAA.out.keep (Same.of_below hbb (fun q hq => Nat.lt_of_lt_of_le hq HLT.out)))
  replace HKB := Lib.hid (HKB.out.of_eq (hbb.block _ HKB.out.lt))
  replace HAB := Lib.hid (HAB.out.of_eq (hbb.block _ HAB.out.lt))
  replace HB := Lib.hid (belowStep hbb HB.out)
  have hlt : w4.heap.size ≤ wa.heap.size := Nat.le_trans HLT.out hbb.size
  have HSK := Lib.hid (rsameK_any (· < w4.heap.size) (· < w4.heap.size) (K.arity 1) (K.arity 1) wa (.agg #[.slice ka kn kc]) (.agg #[.slice aa an ac]) (fun q hq => Nat.lt_of_lt_of_le hq hlt) (fun q hq => Nat.lt_of_lt_of_le hq hlt) ⟨_, rfl, HK.out⟩ ⟨_, rfl, HAA.out⟩)
  have hp : wa.ownsRow w9.heap.size 3 1 pv 1 (pathV [1]) := hp
  have HP := Lib.hid hp
  have e1 := HKB.out.cell 0 (.slice ka kn kc) rfl
  have e2 := HAB.out.cell 0 (.slice aa an ac) rfl
  clear hba hbb hp hlt HO3 HBL HK HAA
  go_wp2_with fail
  clear e1 e2
  refine HSK.out.mono ?_
  rintro e wb ⟨rfl, hbb⟩
  have qk : K.eqv (K.arity 1) (K.arity 1) = true := (K.eqv_iff _ _).2 rfl
  rw [qk]
  have hp := HP.out.kept (row := none) ⟨hbb.os, hbb.tape, hbb.output, hbb.size, fun i hi _ => hbb.block i hi⟩ (by cases ho : pv.ownBlock with | none => exact .inl rfl | some k => exact .inr (by simp))
  have hlit := boxN_new wb 3 #[.int .i64 1]
  have HQ := Lib.hid (pathEq_any [1] w9.heap.size wb.heap.size 1 1 _ pv (.slice (some ⟨wb.heap.size, 0, none⟩) 1 1) (hp.alloc (.cells #[.int .i64 1] 3)) (World.ownsRow_lit (e := 3) (base := wb.heap.size) (size := 1) wb #[.int .i64 1] 1 (Nat.le_refl _) (by unfold maxLen; omega) rfl) rfl rfl)
  replace HB := Lib.hid (belowStep hlit.2 (belowStep hbb HB.out))
  clear hp hlit hbb HP HKB HAB HLT qk HSK
  go_wp2_with fail
  refine HQ.out.mono ?_
  rintro e wc ⟨rfl, hbc⟩
  replace HB := Lib.hid (belowStep hbc HB.out)
  clear hbc
  go_wp2
  go_ret
  exact ⟨rfl, HB.out⟩
end Go.Proofs.Ytmjkeejinagokaa
namespace Go.Proofs.Ytmjkeejinagokaa
open Go Go.RowKit
open Pl (K Con KR KS kof kofs ownK inK appK)
set_option linter.unusedSimpArgs false
set_option linter.unusedVariables false

set_option maxRecDepth 100000 in
set_option maxHeartbeats 2000000 in
theorem kwhere_any (g : List K) (t : Con) (w : World) (gv v : Value) (hg : KSl w (· < w.heap.size) gv g) (ht : ConV w (· < w.heap.size) t v) :
    Calls Try.prog 3 #[gv, v] w fun e w' => e = .returned (.bool true) ∧ Below w.heap.size w w' := by
  have HUP := Lib.hid (fun W (hW : Below w.heap.size w W) => (show (∀ b, b < w.heap.size → b < W.heap.size) ∧ KSl W (· < w.heap.size) gv g ∧ ConV W (· < w.heap.size) t v from ⟨fun b h => Nat.lt_of_lt_of_le h hW.size, hg.keep (Same.of_below hW (fun _ h => h)), ht.keep (Same.of_below hW (fun _ h => h))⟩))
  have HA := Lib.hid awake10
  have HG := Lib.hid (fun W x (hW : Below w.heap.size w W) (hl : ConSl W (· < W.heap.size) x [t]) => great_any (· < W.heap.size) g [t] W gv x (fun _ h => h) ((HUP.out W hW).2.1.mono (fun q hq => Nat.lt_of_lt_of_le hq hW.size)) hl)
  have H1 := Lib.hid (fun W (hW : Below w.heap.size w W) => where_any (· < w.heap.size) g t W gv v (HUP.out W hW).1 (HUP.out W hW).2.1 (HUP.out W hW).2.2)
  have H2 := Lib.hid (fun W (hW : Below w.heap.size w W) => rwhere_any (· < w.heap.size) g t W gv v (HUP.out W hW).1 (HUP.out W hW).2.1 (HUP.out W hW).2.2)
  obtain ⟨ka, kn, kc, na, nn, nc, la, ln, lc, rfl, -, -, -⟩ := ht.shape
  obtain ⟨ga, gc, rfl, -⟩ := hg.each
  have HCV := Lib.hid (fun W (hW : Below w.heap.size w W) => (HUP.out W hW).2.2)
  generalize whereOut g t = r at *
  generalize g.length = gn at *
  obtain ⟨hbx, hb⟩ := boxN_new w 28 #[.int .i64 t.op, .int .i64 t.n, .string t.s, .slice ka kn kc, .slice na nn nc, .slice la ln lc]
  have HB := Lib.hid hb
  have HBX := Lib.hid hbx
  clear hbx hb hg ht HUP
  go_enter Try.func3, Try.ntmps3
  go_upto_region 1 with fail
  generalize w.alloc (.cells #[.int .i64 t.op, .int .i64 t.n, .string t.s, .slice ka kn kc, .slice na nn nc, .slice la ln lc] 28) = w1 at *
  go_wp2_with fail
  refine (HA.out _).mono ?_
  rintro e w2 ⟨rfl, hb2⟩
  replace HB := Lib.hid (belowStep hb2 HB.out)
  replace HBX := Lib.hid (HBX.out.of_eq (hb2.block _ HBX.out.lt))
  clear hb2
  have c0 := HBX.out.cell 0 (.int .i64 t.op) rfl
  have c1 := HBX.out.cell 1 (.int .i64 t.n) rfl
  have c2 := HBX.out.cell 2 (.string t.s) rfl
  have c3 := HBX.out.cell 3 (.slice ka kn kc) rfl
  have c4 := HBX.out.cell 4 (.slice na nn nc) rfl
  have c5 := HBX.out.cell 5 (.slice la ln lc) rfl
  obtain ⟨hlit, hbl⟩ := boxN_new w2 28 #[.int .i64 t.op, .int .i64 t.n, .string t.s, .slice ka kn kc, .slice na nn nc, .slice la ln lc]
  have HGR := Lib.hid (HG.out _ _ (belowStep hbl HB.out) (cons_one10 (P := (· < (w2.alloc (.cells #[.int .i64 t.op, .int .i64 t.n, .string t.s, .slice ka kn kc, .slice na nn nc, .slice la ln lc] 28)).heap.size)) hlit hlit.lt ((HCV.out _ (belowStep hbl HB.out)).mono (fun q hq => Nat.lt_of_lt_of_le hq (Nat.le_trans HB.out.size hbl.size)))))
  replace HB := Lib.hid (belowStep hbl HB.out)
  replace HBX := Lib.hid (HBX.out.of_eq (hbl.block _ HBX.out.lt))
  clear hlit hbl HG HCV HA
  go_wp2_with fail
  clear c0 c1 c2 c3 c4 c5
  generalize w2.alloc (.cells #[.int .i64 t.op, .int .i64 t.n, .string t.s, .slice ka kn kc, .slice na nn nc, .slice la ln lc] 28) = w3 at *
  refine HGR.out.mono ?_
  rintro e w4 ⟨⟨z, rfl⟩, hb4⟩
  replace HB := Lib.hid (belowStep hb4 HB.out)
  replace HBX := Lib.hid (HBX.out.of_eq (hb4.block _ HBX.out.lt))
  clear hb4 HGR
  cases z
  rotate_left
  · go_wp2
    go_ret
    exact ⟨rfl, HB.out⟩
  have c0 := HBX.out.cell 0 (.int .i64 t.op) rfl
  have c1 := HBX.out.cell 1 (.int .i64 t.n) rfl
  have c2 := HBX.out.cell 2 (.string t.s) rfl
  have c3 := HBX.out.cell 3 (.slice ka kn kc) rfl
  have c4 := HBX.out.cell 4 (.slice na nn nc) rfl
  have c5 := HBX.out.cell 5 (.slice la ln lc) rfl
  go_wp2_with fail
  clear c0 c1 c2 c3 c4 c5
  refine (H1.out _ HB.out).mono ?_
  rintro e w5 ⟨⟨p1, rfl, hp1⟩, hb5⟩
  replace HB := Lib.hid (belowStep hb5 HB.out)
  replace HBX := Lib.hid (HBX.out.of_eq (hb5.block _ HBX.out.lt))
  have HP1 := Lib.hid hp1
  clear hb5 hp1 H1
  have c0 := HBX.out.cell 0 (.int .i64 t.op) rfl
  have c1 := HBX.out.cell 1 (.int .i64 t.n) rfl
  have c2 := HBX.out.cell 2 (.string t.s) rfl
  have c3 := HBX.out.cell 3 (.slice ka kn kc) rfl
  have c4 := HBX.out.cell 4 (.slice na nn nc) rfl
  have c5 := HBX.out.cell 5 (.slice la ln lc) rfl
  go_wp2_with fail
  clear c0 c1 c2 c3 c4 c5
  refine (H2.out _ HB.out).mono ?_
  rintro e w6 ⟨⟨p2, rfl, hp2⟩, hb6⟩
  have HQ := Lib.hid (pathEq_any r.1 _ _ _ _ w6 p1 p2 (HP1.out.kept (row := none) ⟨hb6.os, hb6.tape, hb6.output, hb6.size, fun i hi _ => hb6.block i hi⟩ (by cases ho : p1.ownBlock with | none => exact .inl rfl | some k => exact .inr (by simp))) hp2 rfl rfl)
  replace HB := Lib.hid (belowStep hb6 HB.out)
  clear hb6 hp2 H2 HBX HP1
  have qe : (r.2 == r.2) = true := by simp
  generalize r.2 = e0 at *
  go_wp2_with fail
  refine HQ.out.mono ?_
  rintro e w7 ⟨rfl, hb7⟩
  replace HB := Lib.hid (belowStep hb7 HB.out)
  clear hb7
  go_wp2
  go_ret
  exact ⟨rfl, HB.out⟩
end Go.Proofs.Ytmjkeejinagokaa
