/-
  Layer 9: several texts in one (Um Un Uq Ur Uu Uv).
-/
import Derived.Test.YtmjkeejinagokaaHg
import Derived.Test.YtmjkeejinagokaaShelf
import Derived.Test.YtmjkeejinagokaaHl
namespace Go.Proofs.Ytmjkeejinagokaa
open Go Go.RowKit
open Pl (K Con KR KS kof kofs ownK inK appK)
set_option linter.unusedSimpArgs false
set_option linter.unusedVariables false

/-- a row of its own, as a slice -/
theorem row_form {w : World} {base n : Nat} {e : TypeId} {v : Value} {xs : List Value} (h : w.ownsRow base e 1 v n xs) : ∃ a c, v = .slice a n c ∧ n ≤ c ∧ c ≤ maxLen ∧ (a = none → n = 0 ∧ c = 0) ∧ ∀ (j : Nat), j < n → ∃ g, a = some ⟨g, 0, none⟩ ∧ g < w.heap.size ∧ w.cell? ⟨g, j, none⟩ = xs[j]? := by
  have hc := h
  rcases h.2 with ⟨rfl, rfl⟩ | ⟨g, cap, cu, rfl, hbg, hg, hnc, hcm, hcs, htake⟩
  · exact ⟨none, 0, rfl, Nat.le_refl _, Nat.zero_le _, fun _ => ⟨rfl, rfl⟩, fun j hj => absurd hj (Nat.not_lt_zero _)⟩
  · exact ⟨_, cap, rfl, hnc, hcm, (fun h => by cases h), fun j hj => ⟨g, rfl, (hc.lt g rfl).2, hc.cellAt j (by omega)⟩⟩
theorem pathV_at (p : List Nat) (j : Nat) (h : j < p.length) : (pathV p)[j]? = some (.int .i64 (p[j] : Int)) := by
  unfold pathV
  rw [List.getElem?_map, List.getElem?_eq_getElem h]
  rfl
set_option maxRecDepth 100000 in
theorem pathEq_any (p : List Nat) (b1 b2 n m : Nat) (w : World) (v x : Value) (h1 : w.ownsRow b1 3 1 v n (pathV p)) (h2 : w.ownsRow b2 3 1 x m (pathV p)) (hn : n = p.length) (hm : m = p.length) :
    Calls Try.prog 11 #[v, x] w fun e w' => e = .returned (.bool true) ∧ Below w.heap.size w w' := by
  subst hn hm
  obtain ⟨a1, c1, rfl, hc1, hm1, -, e1⟩ := row_form h1
  obtain ⟨a2, c2, rfl, hc2, hm2, -, e2⟩ := row_form h2
  by_cases h0 : p.length = 0
  · have hp : p = [] := List.eq_nil_of_length_eq_zero h0
    subst hp
    refine (Try.slices_Equal_int_empty a1 a2 c1 0 c2 w (by omega)).mono ?_
    rintro e w' ⟨rfl, rfl⟩
    exact ⟨rfl, Below.refl _ _⟩
  · obtain ⟨g1, rfl, -, -⟩ := e1 0 (by omega)
    obtain ⟨g2, rfl, -, -⟩ := e2 0 (by omega)
    have hx : ∀ (j : Nat) (hj : j < p.length), (p.map (fun i : Nat => (i : Int))).getD j 0 = (p[j] : Int) := by
      intro j hj
      rw [List.getD_eq_getElem?_getD, List.getElem?_map, List.getElem?_eq_getElem hj]
      rfl
    have hl : (p.map (fun i : Nat => (i : Int))).length = p.length := by simp
    have key := Try.slices_Equal_int g1 0 p.length c1 g2 0 p.length c2 (p.map (fun i : Nat => (i : Int))) (p.map (fun i : Nat => (i : Int))) w (by rw [hl]; exact Nat.le_refl _) (by rw [hl]; exact Nat.le_refl _) (by unfold maxLen at hm1; omega) (by unfold maxLen at hm2; omega) (fun j hj => by
      rw [hl] at hj
      obtain ⟨g, e, -, hc⟩ := e1 j hj
      injection e with e
      injection e with e
      subst e
      rw [Nat.zero_add, hc, hx j hj, pathV_at p j hj]) (fun j hj => by
      rw [hl] at hj
      obtain ⟨g, e, -, hc⟩ := e2 j hj
      injection e with e
      injection e with e
      subst e
      rw [Nat.zero_add, hc, hx j hj, pathV_at p j hj])
    refine key.mono ?_
    rintro e w' ⟨rfl, q, rfl⟩
    refine ⟨?_, below_drewN10 (Below.refl _ _) q⟩
    have : ((p.map (fun i : Nat => (i : Int))).take p.length == (p.map (fun i : Nat => (i : Int))).take p.length) = true := by simp
    rw [this]
theorem pathV_take (p : List Nat) (j : Nat) (h : j < p.length) : pathV (p.take (j + 1)) = pathV (p.take j) ++ [.int .i64 (p[j] : Int)] := by
  rw [List.take_succ_eq_append_getElem h]
  unfold pathV
  rw [List.map_append]
  rfl
set_option maxRecDepth 100000 in
set_option maxHeartbeats 2000000 in
theorem rwhere_any (P : Nat → Prop) (g : List K) (t : Con) (w : World) (gv v : Value) (hP : ∀ b, P b → b < w.heap.size) (hg : KSl w P gv g) (ht : ConV w P t v) :
    Calls Try.prog 10 #[gv, v] w (WhP (whereOut g t) w) := by
  have HAV := Lib.hid (fun W (hW : Below w.heap.size w W) => rgiven_any P g t W gv v (low_up hP hW) (hg.keep (Same.of_below hW hP)) (ht.keep (Same.of_below hW hP)))
  have HKO := Lib.hid (fun (hv : givenB g t = true) W (hW : Below w.heap.size w W) => rof_any t P g W gv v (low_up hP hW) (hg.keep (Same.of_below hW hP)) (ht.keep (Same.of_below hW hP)) (given_all hv).1 (given_all hv).2.1 (given_all hv).2.2)
  have HKB := Lib.hid (fun e p (hk : kof g.reverse t = .bad e p) => kof_bad t g.reverse e p hk)
  have HKL := Lib.hid (fun (hv : givenB g t = true) e p (hk : kof g.reverse t = .bad e p) => (show p.length ≤ 100000 from by
    have := kof_len t g.reverse e p hk
    have := (given_all hv).2.2
    omega))
  obtain ⟨R, hV⟩ : ∃ R, R = whereOut g t := ⟨_, rfl⟩
  rw [← hV]
  unfold whereOut at hV
  have HV0 := Lib.hid hV
  clear hV
  obtain ⟨ka, kn, kc, na, nn, nc, la, ln, lc, rfl, -, -, -⟩ := ht.shape
  obtain ⟨ga, gc, rfl, -⟩ := hg.each
  generalize kof g.reverse t = r at *
  generalize givenB g t = z at *
  generalize t.op = op at *
  generalize t.n = num at *
  generalize t.s = s at *
  generalize g.length = gn at *
  obtain ⟨hbx, hb⟩ := boxN_new w 28 #[.int .i64 op, .int .i64 num, .string s, .slice ka kn kc, .slice na nn nc, .slice la ln lc]
  have HB := Lib.hid hb
  have H1 := Lib.hid hbx
  clear hbx hb hg ht hP
  have c0 := H1.out.cell 0 (.int .i64 op) rfl
  have c1 := H1.out.cell 1 (.int .i64 num) rfl
  have c2 := H1.out.cell 2 (.string s) rfl
  have c3 := H1.out.cell 3 (.slice ka kn kc) rfl
  have c4 := H1.out.cell 4 (.slice na nn nc) rfl
  have c5 := H1.out.cell 5 (.slice la ln lc) rfl
  go_enter Try.func10, Try.ntmps10
  go_wp2_with fail
  clear c0 c1 c2 c3 c4 c5
  generalize w.alloc (.cells #[.int .i64 op, .int .i64 num, .string s, .slice ka kn kc, .slice na nn nc, .slice la ln lc] 28) = w2 at *
  refine (HAV.out _ HB.out).mono ?_
  rintro e w3 ⟨rfl, hb3⟩
  replace H1 := Lib.hid (H1.out.of_eq (hb3.block _ H1.out.lt))
  replace HB := Lib.hid (belowStep hb3 HB.out)
  clear hb3 HAV
  cases z
  · have HE := Lib.hid (whp_nil (show R = ([], 1) from HV0.out) HB.out)
    clear HKO HKL
    go_wp2
    refine bodyPost_ret (v := .tuple #[.slice none 0 0, .int .i64 1]) (by simp [results, Try.results10, go_sem]) rfl ?_
    exact HE.out
  have c0 := H1.out.cell 0 (.int .i64 op) rfl
  have c1 := H1.out.cell 1 (.int .i64 num) rfl
  have c2 := H1.out.cell 2 (.string s) rfl
  have c3 := H1.out.cell 3 (.slice ka kn kc) rfl
  have c4 := H1.out.cell 4 (.slice na nn nc) rfl
  have c5 := H1.out.cell 5 (.slice la ln lc) rfl
  have HC := Lib.hid (HKO.out (by first | exact rfl | trivial) w3 HB.out)
  replace HKL := Lib.hid (HKL.out (by first | exact rfl | trivial))
  clear HKO
  go_wp2_with fail
  clear c0 c1 c2 c3 c4 c5
  refine HC.out.mono ?_
  rintro e w4 ⟨⟨ra, rn, rc, pv, rfl, -, hp⟩, hb4⟩
  have hb5 := (boxN_new w4 24 #[.slice ra rn rc]).2
  have hbf := belowStep hb5 (belowStep hb4 HB.out)
  have hss := HB.out.size
  rcases r with k | ⟨er, p⟩
  · have HE := Lib.hid (whp_nil (show R = ([], 8) from HV0.out) hbf)
    have qe : (KR.er (.ok k) == 0) = true := rfl
    generalize KR.er (.ok k) = er0 at *
    obtain rfl : er0 = 0 := by simpa using qe
    clear hp hb4 hb5 hbf qe HC H1
    go_wp2
    refine bodyPost_ret (v := .tuple #[.slice none 0 0, .int .i64 8]) (by simp [results, Try.results10, go_sem]) rfl ?_
    exact HE.out
  · have hp : w4.ownsRow w3.heap.size 3 1 pv p.length (pathV p.reverse) := hp
    have HV := Lib.hid (show R = (p, 0) from HV0.out)
    have hpl := HKL.out er p (by first | exact rfl | trivial)
    have hp5 := hp.alloc (.cells #[.slice ra rn rc] 24)
    have qe : (er == 0) = false := beq_eq_false_iff_ne.2 (HKB.out er p rfl)
    generalize hge : KR.er (.bad er p) = er1 at *
    obtain rfl : er1 = er := hge.symm
    have HBF := Lib.hid hbf
    obtain ⟨m, hm⟩ : ∃ m, m = p.length := ⟨_, rfl⟩
    have HM := Lib.hid hm
    rw [← hm] at hp5 hpl
    obtain ⟨pa, pc, hpv, -, -, -, hcell⟩ := row_form hp5
    subst hpv
    have HCELL := Lib.hid (show ∀ (j : Nat) (hj : j < m) (hj2 : j < p.length) (q : Nat), q = m - 1 - j → ∃ g, pa = some ⟨g, 0, none⟩ ∧ g < (w4.alloc (.cells #[.slice ra rn rc] 24)).heap.size ∧ (w4.alloc (.cells #[.slice ra rn rc] 24)).cell? ⟨g, q, none⟩ = some (.int .i64 (p[j] : Int)) from fun j hj hj2 q hq => by
      obtain ⟨g, h1, h2, h3⟩ := hcell q (by omega)
      refine ⟨g, h1, h2, h3.trans ?_⟩
      rw [pathV_at _ _ (by rw [List.length_reverse]; omega), List.getElem_reverse]
      congr 4
      omega)
    obtain ⟨i3, hi3, hy0, hy1, hy2⟩ := info3 infoInt10
    have hs5 := hbf.size
    have w1 : wrap64 ((m : Int) - 1) = (m : Int) - 1 := by rw [wrap64]; omega
    clear hp hp5 hb4 hb5 hbf HC H1 hge hcell HKB HKL HV0 hm
    go_wp2_with fail
    generalize w4.alloc (.cells #[.slice ra rn rc] 24) = w5 at *
    go_loopg [9, 10] (m + 1) (fun gk o i wr => ∃ (q j : Nat), q + j = m ∧ i = .int .i64 ((q : Int) - 1) ∧ gk = q + 1 ∧ wr.ownsRow w5.heap.size 3 1 o j (pathV (p.take j)) ∧ Below w5.heap.size w5 wr)
    case atStart => exact ⟨m, 0, by omega, rfl, by omega, by rw [List.take_zero]; exact World.ownsRow_nil _ _ _ _, Below.refl _ _⟩
    case round =>
      obtain ⟨q, j, hqj, rfl, hgk, hrow, hbw⟩ := hrel
      have HROW := Lib.hid hrow
      have HBW := Lib.hid hbw
      rcases q with _ | q
      · have q1 : decide ((0 : Int) ≤ ((0 : Nat) : Int) - 1) = false := rfl
        have hjm : j = p.length := by have := HM.out; omega
        have HE := Lib.hid (show WhP R w (.returned (.tuple #[u9, .int .i64 0])) wr from by
          have hv : R = (p, 0) := HV.out
          subst hv
          rw [hjm, List.take_length] at hrow
          exact ⟨⟨u9, rfl, hrow.mono hs5⟩, belowStep hbw HBF.out⟩)
        clear hrow hbw HROW HBW hjm
        go_wp2
        refine bodyPost_ret (v := .tuple #[u9, .int .i64 0]) (by simp [results, Try.results10, go_sem]) rfl ?_
        exact HE.out
      · have e1 : ((q + 1 : Nat) : Int) - 1 = (q : Int) := by omega
        rw [e1]
        have q1 : decide ((0 : Int) ≤ (q : Int)) = true := decide_eq_true (by omega)
        have w2' : wrap64 ((q : Int) - 1) = (q : Int) - 1 := by rw [wrap64]; omega
        have hjl : j < p.length := by have := HM.out; omega
        obtain ⟨g, hpa, hgl, hcl⟩ := HCELL.out j (by omega) hjl q (by omega)
        subst hpa
        have f0 := (hbw.cell (p := ⟨g, q, none⟩) hgl).trans hcl
        have hqm : q < m := by omega
        have hlit := boxN_new wr 3 #[.int .i64 (p[j] : Int)]
        have HROW7 := Lib.hid (hrow.alloc (.cells #[.int .i64 (p[j] : Int)] 3))
        have HNEW := Lib.hid (show ∀ i u, [Value.int .i64 (p[j] : Int)][i]? = some u → (wr.alloc (.cells #[.int .i64 (p[j] : Int)] 3)).cell? ((⟨wr.heap.size, 0, none⟩ : Addr).add i) = some u from World.news_of_block (cs := #[.int .i64 (p[j] : Int)]) (t := 3) (fr := (0, 0)) hlit.1)
        have HT := Lib.hid (pathV_take p j hjl)
        have HB7 := Lib.hid (belowStep hlit.2 hbw)
        have hs7 := hbw.size
        generalize (p[j] : Int) = pj at *
        clear hrow hbw hlit hcl HCELL e1 HROW HBW
        go_wp2_with (at_builtin; refine wpList_append_own _ rfl _ _ 31 rfl w5.heap.size 3 i3 (.int .i64 0) 1 8 Try.underlying31 hi3 hy0 hy1 hy2 rfl (by decide) _ j (pathV (p.take j)) rfl HROW7.out ⟨wr.heap.size, 0, none⟩ 1 1 [.int .i64 pj] rfl rfl ?c1 ?c2 ?c3 ?c4 ?c5 ?_)
        case c1 => exact HNEW.out
        case c2 => simp [Value.oneCell']
        case c3 => unfold maxLen; omega
        case c4 => omega
        case c5 => rw [size_alloc]; omega
        intro v' w8 hown hgrow _
        have HB8 := Lib.hid (show Below w5.heap.size w5 w8 from HB7.out.grown hgrow (by rw [size_alloc]; omega) (fun q hq => (HROW7.out.lt q hq).1))
        rw [← HT.out] at hown
        have HOWN := Lib.hid hown
        clear hown hgrow HROW7 HNEW HB7 HT f0
        go_wp2
        go_roundg (gk - 1)
        case measure => omega
        case rel => exact ⟨q, j + 1, by omega, by first | rfl | go_num, by omega, HOWN.out, HB8.out⟩
end Go.Proofs.Ytmjkeejinagokaa
namespace Go.Proofs.Ytmjkeejinagokaa
open Go Go.RowKit
open Pl (K Con KR KS kof kofs ownK inK appK)
set_option linter.unusedSimpArgs false
set_option linter.unusedVariables false

def k10 (op n : Int) (l : List Con) : Con := ⟨op, n, ByteArray.empty, .mk [], [], l⟩
def exLam : Con := k10 11 0 [k10 6 0 [k10 1 0 [], k10 1 0 []]]
def exApp : Con := k10 12 0 [k10 4 0 [], k10 4 0 []]
def exArr : Con := k10 6 0 [k10 4 0 [], k10 1 0 []]
theorem ex_lam : ofOut [] exLam = .ok (K.arity 1) := by kernel_rfl
theorem ex_app : ofOut [] exApp = .bad 11 [] := by kernel_rfl
theorem ex_arr : whereOut [] exArr = ([1], 0) := by kernel_rfl
theorem conV_k10 {w : World} {P : Nat → Prop} {op n : Int} {l : List Con} {lv : Value} (h : ConSl w P lv l) : ConV w P (k10 op n l) (.agg #[.int .i64 op, .int .i64 n, .string ⟨#[]⟩, .slice none 0 0, .slice none 0 0, lv]) := by
  rw [conV_iff]
  exact ⟨Nat.zero_le _, _, _, _, rfl, kidV_none _ _, ⟨none, 0, rfl, Nat.le_refl _, Nat.zero_le _, fun _ => rfl, (fun z hz => by cases hz), .inl rfl⟩, h⟩
theorem conSl_none (w : World) (P : Nat → Prop) : ConSl w P (.slice none 0 0) [] := ⟨none, 0, rfl, Nat.le_refl _, Nat.zero_le _, fun _ => rfl, .inl rfl⟩
theorem cons_one10 {w : World} {P : Nat → Prop} {g : Nat} {t : Con} {x0 x1 x2 x3 x4 x5 : Value} (hb : Blk w g 28 #[x0, x1, x2, x3, x4, x5]) (hg : P g) (ht : ConV w P t (.agg #[x0, x1, x2, x3, x4, x5])) : ConSl w P (.slice (some ⟨g, 0, none⟩) 1 1) [t] := by
  refine ⟨_, 1, rfl, Nat.le_refl _, by unfold maxLen; omega, (fun h => by cases h), .inr ⟨g, 0, rfl, hg, ?_⟩⟩
  rw [ConsAt, ConsAt]
  exact ⟨⟨_, ⟨x0, x1, x2, x3, x4, x5, rfl, hb.cell 0 _ rfl, hb.cell 1 _ rfl, hb.cell 2 _ rfl, hb.cell 3 _ rfl, hb.cell 4 _ rfl, hb.cell 5 _ rfl⟩, ht⟩, trivial⟩
/-- two leaves side by side, newly made -/
theorem two_leaves (w : World) (o1 n1 o2 n2 : Int) : ConSl (w.alloc (.cells #[.int .i64 o1, .int .i64 n1, .string ⟨#[]⟩, .slice none 0 0, .slice none 0 0, .slice none 0 0, .int .i64 o2, .int .i64 n2, .string ⟨#[]⟩, .slice none 0 0, .slice none 0 0, .slice none 0 0] 28)) (fun q => q = w.heap.size) (.slice (some ⟨w.heap.size, 0, none⟩) 2 2) [k10 o1 n1 [], k10 o2 n2 []] :=
  cons_two (blk_new w _ _) rfl (conV_k10 (conSl_none _ _)) (conV_k10 (conSl_none _ _))
theorem lam_world (w : World) : ConV (((w.alloc (.cells #[.int .i64 1, .int .i64 0, .string ⟨#[]⟩, .slice none 0 0, .slice none 0 0, .slice none 0 0, .int .i64 1, .int .i64 0, .string ⟨#[]⟩, .slice none 0 0, .slice none 0 0, .slice none 0 0] 28)).alloc (.cells #[.int .i64 6, .int .i64 0, .string ⟨#[]⟩, .slice none 0 0, .slice none 0 0, .slice (some ⟨w.heap.size, 0, none⟩) 2 2] 28)).alloc (.cells #[.int .i64 11, .int .i64 0, .string ⟨#[]⟩, .slice none 0 0, .slice none 0 0, .slice (some ⟨w.heap.size + 1, 0, none⟩) 1 1] 28)) (fun q => q = w.heap.size ∨ q = w.heap.size + 1) exLam (.agg #[.int .i64 11, .int .i64 0, .string ⟨#[]⟩, .slice none 0 0, .slice none 0 0, .slice (some ⟨w.heap.size + 1, 0, none⟩) 1 1]) ∧ Blk (((w.alloc (.cells #[.int .i64 1, .int .i64 0, .string ⟨#[]⟩, .slice none 0 0, .slice none 0 0, .slice none 0 0, .int .i64 1, .int .i64 0, .string ⟨#[]⟩, .slice none 0 0, .slice none 0 0, .slice none 0 0] 28)).alloc (.cells #[.int .i64 6, .int .i64 0, .string ⟨#[]⟩, .slice none 0 0, .slice none 0 0, .slice (some ⟨w.heap.size, 0, none⟩) 2 2] 28)).alloc (.cells #[.int .i64 11, .int .i64 0, .string ⟨#[]⟩, .slice none 0 0, .slice none 0 0, .slice (some ⟨w.heap.size + 1, 0, none⟩) 1 1] 28)) (w.heap.size + 1 + 1) 28 #[.int .i64 11, .int .i64 0, .string ⟨#[]⟩, .slice none 0 0, .slice none 0 0, .slice (some ⟨w.heap.size + 1, 0, none⟩) 1 1] ∧ Below w.heap.size w (((w.alloc (.cells #[.int .i64 1, .int .i64 0, .string ⟨#[]⟩, .slice none 0 0, .slice none 0 0, .slice none 0 0, .int .i64 1, .int .i64 0, .string ⟨#[]⟩, .slice none 0 0, .slice none 0 0, .slice none 0 0] 28)).alloc (.cells #[.int .i64 6, .int .i64 0, .string ⟨#[]⟩, .slice none 0 0, .slice none 0 0, .slice (some ⟨w.heap.size, 0, none⟩) 2 2] 28)).alloc (.cells #[.int .i64 11, .int .i64 0, .string ⟨#[]⟩, .slice none 0 0, .slice none 0 0, .slice (some ⟨w.heap.size + 1, 0, none⟩) 1 1] 28)) := by
  have h1 := boxN_new w 28 #[.int .i64 1, .int .i64 0, .string ⟨#[]⟩, .slice none 0 0, .slice none 0 0, .slice none 0 0, .int .i64 1, .int .i64 0, .string ⟨#[]⟩, .slice none 0 0, .slice none 0 0, .slice none 0 0]
  have h2 := boxN_new (w.alloc (.cells #[.int .i64 1, .int .i64 0, .string ⟨#[]⟩, .slice none 0 0, .slice none 0 0, .slice none 0 0, .int .i64 1, .int .i64 0, .string ⟨#[]⟩, .slice none 0 0, .slice none 0 0, .slice none 0 0] 28)) 28 #[.int .i64 6, .int .i64 0, .string ⟨#[]⟩, .slice none 0 0, .slice none 0 0, .slice (some ⟨w.heap.size, 0, none⟩) 2 2]
  have h3 := boxN_new ((w.alloc (.cells #[.int .i64 1, .int .i64 0, .string ⟨#[]⟩, .slice none 0 0, .slice none 0 0, .slice none 0 0, .int .i64 1, .int .i64 0, .string ⟨#[]⟩, .slice none 0 0, .slice none 0 0, .slice none 0 0] 28)).alloc (.cells #[.int .i64 6, .int .i64 0, .string ⟨#[]⟩, .slice none 0 0, .slice none 0 0, .slice (some ⟨w.heap.size, 0, none⟩) 2 2] 28)) 28 #[.int .i64 11, .int .i64 0, .string ⟨#[]⟩, .slice none 0 0, .slice none 0 0, .slice (some ⟨w.heap.size + 1, 0, none⟩) 1 1]
  have e1 := h2.1
  have e2 := h3.1
  rw [size_alloc] at e1
  rw [size_alloc, size_alloc] at e2
  have hl := two_leaves w 1 0 1 0
  have hl3 : ConSl (((w.alloc (.cells #[.int .i64 1, .int .i64 0, .string ⟨#[]⟩, .slice none 0 0, .slice none 0 0, .slice none 0 0, .int .i64 1, .int .i64 0, .string ⟨#[]⟩, .slice none 0 0, .slice none 0 0, .slice none 0 0] 28)).alloc (.cells #[.int .i64 6, .int .i64 0, .string ⟨#[]⟩, .slice none 0 0, .slice none 0 0, .slice (some ⟨w.heap.size, 0, none⟩) 2 2] 28)).alloc (.cells #[.int .i64 11, .int .i64 0, .string ⟨#[]⟩, .slice none 0 0, .slice none 0 0, .slice (some ⟨w.heap.size + 1, 0, none⟩) 1 1] 28)) (fun q => q = w.heap.size ∨ q = w.heap.size + 1) (.slice (some ⟨w.heap.size, 0, none⟩) 2 2) [k10 1 0 [], k10 1 0 []] := ((hl.keep (Same.of_below h2.2 (fun q hq => by rw [hq, size_alloc]; omega))).keep (Same.of_below h3.2 (fun q hq => by rw [hq, size_alloc, size_alloc]; omega))).mono (fun q hq => .inl hq)
  have hb := belowStep h3.2 (belowStep h2.2 h1.2)
  exact ⟨conV_k10 (cons_one10 (e1.of_eq (h3.2.block _ e1.lt)) (.inr rfl) (conV_k10 hl3)), e2, hb⟩

set_option maxRecDepth 100000 in
set_option maxHeartbeats 2000000 in
theorem awake10 (w : World) : Calls Try.prog 7 #[] w fun e w' => e = .returned (.bool true) ∧ Below w.heap.size w w' := by
  obtain ⟨hc, hbx, hb⟩ := lam_world w
  have hsz : (((w.alloc (.cells #[.int .i64 1, .int .i64 0, .string ⟨#[]⟩, .slice none 0 0, .slice none 0 0, .slice none 0 0, .int .i64 1, .int .i64 0, .string ⟨#[]⟩, .slice none 0 0, .slice none 0 0, .slice none 0 0] 28)).alloc (.cells #[.int .i64 6, .int .i64 0, .string ⟨#[]⟩, .slice none 0 0, .slice none 0 0, .slice (some ⟨w.heap.size, 0, none⟩) 2 2] 28)).alloc (.cells #[.int .i64 11, .int .i64 0, .string ⟨#[]⟩, .slice none 0 0, .slice none 0 0, .slice (some ⟨w.heap.size + 1, 0, none⟩) 1 1] 28)).heap.size = w.heap.size + 3 := by rw [size_alloc, size_alloc, size_alloc]
  have HO := Lib.hid (of_any _ [] exLam (((w.alloc (.cells #[.int .i64 1, .int .i64 0, .string ⟨#[]⟩, .slice none 0 0, .slice none 0 0, .slice none 0 0, .int .i64 1, .int .i64 0, .string ⟨#[]⟩, .slice none 0 0, .slice none 0 0, .slice none 0 0] 28)).alloc (.cells #[.int .i64 6, .int .i64 0, .string ⟨#[]⟩, .slice none 0 0, .slice none 0 0, .slice (some ⟨w.heap.size, 0, none⟩) 2 2] 28)).alloc (.cells #[.int .i64 11, .int .i64 0, .string ⟨#[]⟩, .slice none 0 0, .slice none 0 0, .slice (some ⟨w.heap.size + 1, 0, none⟩) 1 1] 28)) (.slice none 0 0) _ (fun q hq => by rw [hsz]; rcases hq with hq | hq <;> omega) (kidV_none _ _) hc)
  rw [ex_lam] at HO
  have HB := Lib.hid hb
  have HSZ := Lib.hid hsz
  have c0 := hbx.cell 0 _ rfl
  have c1 := hbx.cell 1 _ rfl
  have c2 := hbx.cell 2 _ rfl
  have c3 := hbx.cell 3 _ rfl
  have c4 := hbx.cell 4 _ rfl
  have c5 := hbx.cell 5 _ rfl
  clear hc hbx hb hsz
  go_enter Try.func7, Try.ntmps7
  go_wp2_with fail
  clear c0 c1 c2 c3 c4 c5
  generalize (((w.alloc (.cells #[.int .i64 1, .int .i64 0, .string ⟨#[]⟩, .slice none 0 0, .slice none 0 0, .slice none 0 0, .int .i64 1, .int .i64 0, .string ⟨#[]⟩, .slice none 0 0, .slice none 0 0, .slice none 0 0] 28)).alloc (.cells #[.int .i64 6, .int .i64 0, .string ⟨#[]⟩, .slice none 0 0, .slice none 0 0, .slice (some ⟨w.heap.size, 0, none⟩) 2 2] 28)).alloc (.cells #[.int .i64 11, .int .i64 0, .string ⟨#[]⟩, .slice none 0 0, .slice none 0 0, .slice (some ⟨w.heap.size + 1, 0, none⟩) 1 1] 28)) = w1 at *
  refine HO.out.mono ?_
  rintro e w2 ⟨⟨ka, kn, kc, rfl, hk⟩, hb2⟩
  have qe : (KR.er (.ok (K.arity 1)) == 0) = true := rfl
  generalize KR.er (.ok (K.arity 1)) = er0 at *
  obtain rfl : er0 = 0 := by simpa using qe
  obtain ⟨hkb, hbk⟩ := boxN_new w2 24 #[.slice ka kn kc]
  have hlow : ∀ q, Ext (fun q => q = w.heap.size ∨ q = w.heap.size + 1) w1 w2 q → q < w2.heap.size := fun q hq => by
    have h1 := hb2.size
    have h2 := HSZ.out
    rcases hq with (hq | hq) | hq
    · omega
    · omega
    · exact hq.2
  have HK := Lib.hid ((hk.keep (Same.of_below hbk hlow)).mono (fun q hq => (show q < w2.heap.size from hlow q hq)))
  have HKB := Lib.hid hkb
  replace HB := Lib.hid (belowStep hbk (belowStep hb2 HB.out))
  have HLT := Lib.hid hbk.size
  clear hk hb2 HO qe hkb hbk hlow HSZ
  go_upto_region 3 with fail
  generalize w2.alloc (.cells #[.slice ka kn kc] 24) = w3 at *
  have HA := Lib.hid (show Calls Try.prog 25 #[.int .i64 1] w3 (ArityP 1 w3.heap.size w3) from arity_in 1 _ (by omega))
  go_wp2_with fail
  refine HA.out.mono ?_
  rintro e w4 ⟨⟨aa, an, ac, rfl, ha⟩, hb4⟩
  obtain ⟨hab, hba⟩ := boxN_new w4 24 #[.slice aa an ac]
  have hlow : ∀ q, q < w2.heap.size → q < w4.heap.size := fun q hq => by have := HLT.out; have := hb4.size; omega
  replace HK := Lib.hid (((HK.out.keep (Same.of_below hb4 (fun q hq => by have := HLT.out; omega))).keep (Same.of_below hba hlow)).mono (fun q hq => (show q < w4.heap.size from hlow q hq)))
  have HAA := Lib.hid ((ha.keep (Same.of_below hba (fun q hq => hq.2))).mono (fun q hq => (show q < w4.heap.size from hq.2)))
  replace HKB := Lib.hid ((HKB.out.of_eq (hb4.block _ HKB.out.lt)).alloc (.cells #[.slice aa an ac] 24))
  have HAB := Lib.hid hab
  replace HB := Lib.hid (belowStep hba (belowStep hb4 HB.out))
  replace HLT := Lib.hid hba.size
  clear ha hab hba hb4 HA hlow
  go_upto_region 4 with fail
  generalize w4.alloc (.cells #[.slice aa an ac] 24) = w5 at *
  have hbl := boxN_new w5 28 #[.int .i64 4, .int .i64 0, .string ⟨#[]⟩, .slice none 0 0, .slice none 0 0, .slice none 0 0, .int .i64 4, .int .i64 0, .string ⟨#[]⟩, .slice none 0 0, .slice none 0 0, .slice none 0 0]
  have HO2 := Lib.hid (of_any (fun q => q = w5.heap.size) [] exApp (w5.alloc (.cells #[.int .i64 4, .int .i64 0, .string ⟨#[]⟩, .slice none 0 0, .slice none 0 0, .slice none 0 0, .int .i64 4, .int .i64 0, .string ⟨#[]⟩, .slice none 0 0, .slice none 0 0, .slice none 0 0] 28)) (.slice none 0 0) _ (fun q hq => by rw [hq, size_alloc]; omega) (kidV_none _ _) (conV_k10 (two_leaves w5 4 0 4 0)))
  rw [ex_app] at HO2
  have HBL := Lib.hid hbl.2
  clear hbl
  go_wp2_with fail
  generalize w5.alloc (.cells #[.int .i64 4, .int .i64 0, .string ⟨#[]⟩, .slice none 0 0, .slice none 0 0, .slice none 0 0, .int .i64 4, .int .i64 0, .string ⟨#[]⟩, .slice none 0 0, .slice none 0 0, .slice none 0 0] 28) = w6 at *
  refine HO2.out.mono ?_
  rintro e w7 ⟨⟨ra, rn, rc, rfl, -⟩, hb7⟩
  have qe : (KR.er (.bad 11 []) == 11) = true := rfl
  generalize KR.er (.bad 11 []) = er1 at *
  obtain rfl : er1 = 11 := by simpa using qe
  have h8 := (boxN_new w7 24 #[.slice ra rn rc]).2
  have hbb : Below w5.heap.size w5 (w7.alloc (.cells #[.slice ra rn rc] 24)) := belowStep h8 (belowStep hb7 HBL.out)
  replace HK := Lib.hid (HK.out.keep (Same.of_below hbb (fun q hq => Nat.lt_of_lt_of_le hq HLT.out)))
  replace HAA := Lib.hid (HAA.out.keep (Same.of_below hbb (fun q hq => Nat.lt_of_lt_of_le hq HLT.out)))
  replace HKB := Lib.hid (HKB.out.of_eq (hbb.block _ HKB.out.lt))
  replace HAB := Lib.hid (HAB.out.of_eq (hbb.block _ HAB.out.lt))
  replace HB := Lib.hid (belowStep hbb HB.out)
  replace HLT := Lib.hid (Nat.le_trans HLT.out hbb.size)
  clear hb7 qe h8 hbb HO2 HBL
  go_upto_region 5 with fail
  generalize w7.alloc (.cells #[.slice ra rn rc] 24) = w8 at *
  have hbl := boxN_new w8 28 #[.int .i64 4, .int .i64 0, .string ⟨#[]⟩, .slice none 0 0, .slice none 0 0, .slice none 0 0, .int .i64 1, .int .i64 0, .string ⟨#[]⟩, .slice none 0 0, .slice none 0 0, .slice none 0 0]
  have HO3 := Lib.hid (where_any (fun q => q = w8.heap.size) [] exArr (w8.alloc (.cells #[.int .i64 4, .int .i64 0, .string ⟨#[]⟩, .slice none 0 0, .slice none 0 0, .slice none 0 0, .int .i64 1, .int .i64 0, .string ⟨#[]⟩, .slice none 0 0, .slice none 0 0, .slice none 0 0] 28)) (.slice none 0 0) _ (fun q hq => by rw [hq, size_alloc]; omega) (kidV_none _ _) (conV_k10 (two_leaves w8 4 0 1 0)))
  rw [ex_arr] at HO3
  have HBL := Lib.hid hbl.2
  clear hbl
  go_wp2_with fail
  generalize w8.alloc (.cells #[.int .i64 4, .int .i64 0, .string ⟨#[]⟩, .slice none 0 0, .slice none 0 0, .slice none 0 0, .int .i64 1, .int .i64 0, .string ⟨#[]⟩, .slice none 0 0, .slice none 0 0, .slice none 0 0] 28) = w9 at *
  refine HO3.out.mono ?_
  rintro e wa ⟨⟨pv, rfl, hp⟩, hba⟩
  have hbb := belowStep hba HBL.out
  replace HK := Lib.hid (HK.out.keep (Same.of_below hbb (fun q hq => Nat.lt_of_lt_of_le hq HLT.out)))
  replace HAA := Lib.hid (HAA.out.keep (Same.of_below hbb (fun q hq => Nat.lt_of_lt_of_le hq HLT.out)))
  replace HKB := Lib.hid (HKB.out.of_eq (hbb.block _ HKB.out.lt))
  replace HAB := Lib.hid (HAB.out.of_eq (hbb.block _ HAB.out.lt))
  replace HB := Lib.hid (belowStep hbb HB.out)
  have hlt : w4.heap.size ≤ wa.heap.size := Nat.le_trans HLT.out hbb.size
  have HSK := Lib.hid (rsameK_any (· < w4.heap.size) (· < w4.heap.size) (K.arity 1) (K.arity 1) wa (.agg #[.slice ka kn kc]) (.agg #[.slice aa an ac]) (fun q hq => Nat.lt_of_lt_of_le hq hlt) (fun q hq => Nat.lt_of_lt_of_le hq hlt) ⟨_, rfl, HK.out⟩ ⟨_, rfl, HAA.out⟩)
  have hp : wa.ownsRow w9.heap.size 3 1 pv 1 (pathV [1]) := hp
  have HP := Lib.hid hp
  have e1 := HKB.out.cell 0 (.slice ka kn kc) rfl
  have e2 := HAB.out.cell 0 (.slice aa an ac) rfl
  clear hba hbb hp hlt HO3 HBL HK HAA
  go_wp2_with fail
  clear e1 e2
  refine HSK.out.mono ?_
  rintro e wb ⟨rfl, hbb⟩
  have qk : K.eqv (K.arity 1) (K.arity 1) = true := (K.eqv_iff _ _).2 rfl
  rw [qk]
  have hp := HP.out.kept (row := none) ⟨hbb.os, hbb.tape, hbb.output, hbb.size, fun i hi _ => hbb.block i hi⟩ (by cases ho : pv.ownBlock with | none => exact .inl rfl | some k => exact .inr (by simp))
  have hlit := boxN_new wb 3 #[.int .i64 1]
  have HQ := Lib.hid (pathEq_any [1] w9.heap.size wb.heap.size 1 1 _ pv (.slice (some ⟨wb.heap.size, 0, none⟩) 1 1) (hp.alloc (.cells #[.int .i64 1] 3)) (World.ownsRow_lit (e := 3) (base := wb.heap.size) (size := 1) wb #[.int .i64 1] 1 (Nat.le_refl _) (by unfold maxLen; omega) rfl) rfl rfl)
  replace HB := Lib.hid (belowStep hlit.2 (belowStep hbb HB.out))
  clear hp hlit hbb HP HKB HAB HLT qk HSK
  go_wp2_with fail
  refine HQ.out.mono ?_
  rintro e wc ⟨rfl, hbc⟩
  replace HB := Lib.hid (belowStep hbc HB.out)
  clear hbc
  go_wp2
  go_ret
  exact ⟨rfl, HB.out⟩
end Go.Proofs.Ytmjkeejinagokaa
namespace Go.Proofs.Ytmjkeejinagokaa
open Go Go.RowKit
open Pl (K Con KR KS kof kofs ownK inK appK)
set_option linter.unusedSimpArgs false
set_option linter.unusedVariables false

/-- six cells are written -/
def put6x (cur : Array Value) (o : Nat) (x0 x1 x2 x3 x4 x5 : Value) : Array Value := (((((cur.setIfInBounds o x0).setIfInBounds (o + 1) x1).setIfInBounds (o + 2) x2).setIfInBounds (o + 3) x3).setIfInBounds (o + 4) x4).setIfInBounds (o + 5) x5
def store6x (w : World) (g o : Nat) (x0 x1 x2 x3 x4 x5 : Value) : World := (((((w.setCell ⟨g, o, none⟩ x0).setCell ⟨g, o + 1, none⟩ x1).setCell ⟨g, o + 2, none⟩ x2).setCell ⟨g, o + 3, none⟩ x3).setCell ⟨g, o + 4, none⟩ x4).setCell ⟨g, o + 5, none⟩ x5
theorem store6x_blk {w : World} {g : Nat} {T : TypeId} {cur : Array Value} (h : Blk w g T cur) (o : Nat) (x0 x1 x2 x3 x4 x5 : Value) : Blk (store6x w g o x0 x1 x2 x3 x4 x5) g T (put6x cur o x0 x1 x2 x3 x4 x5) :=
  (((((h.set o x0).set (o + 1) x1).set (o + 2) x2).set (o + 3) x3).set (o + 4) x4).set (o + 5) x5
theorem store6x_size (w : World) (g o : Nat) (x0 x1 x2 x3 x4 x5 : Value) : (store6x w g o x0 x1 x2 x3 x4 x5).heap.size = w.heap.size := by
  unfold store6x
  rw [size_set, size_set, size_set, size_set, size_set, size_set]
theorem store6x_other (w : World) (g o : Nat) (x0 x1 x2 x3 x4 x5 : Value) (b : Nat) (h : b ≠ g) : (store6x w g o x0 x1 x2 x3 x4 x5).heap[b]? = w.heap[b]? := by
  unfold store6x
  rw [Below.heap_setCell _ _ _ _ h, Below.heap_setCell _ _ _ _ h, Below.heap_setCell _ _ _ _ h, Below.heap_setCell _ _ _ _ h, Below.heap_setCell _ _ _ _ h, Below.heap_setCell _ _ _ _ h]
theorem store6x_only {G : Nat} {a w : World} (h : Only G a w) (g o : Nat) (x0 x1 x2 x3 x4 x5 : Value) (hg : g = G ∨ a.heap.size ≤ g) : Only G a (store6x w g o x0 x1 x2 x3 x4 x5) :=
  (((((h.setCell (p := ⟨g, o, none⟩) hg x0).setCell (p := ⟨g, o + 1, none⟩) hg x1).setCell (p := ⟨g, o + 2, none⟩) hg x2).setCell (p := ⟨g, o + 3, none⟩) hg x3).setCell (p := ⟨g, o + 4, none⟩) hg x4).setCell (p := ⟨g, o + 5, none⟩) hg x5
theorem store6x_below {B : Nat} {a w : World} (h : Below B a w) (g o : Nat) (x0 x1 x2 x3 x4 x5 : Value) (hB : B ≤ g) : Below B a (store6x w g o x0 x1 x2 x3 x4 x5) :=
  (((((h.setCell (p := ⟨g, o, none⟩) hB x0).setCell (p := ⟨g, o + 1, none⟩) hB x1).setCell (p := ⟨g, o + 2, none⟩) hB x2).setCell (p := ⟨g, o + 3, none⟩) hB x3).setCell (p := ⟨g, o + 4, none⟩) hB x4).setCell (p := ⟨g, o + 5, none⟩) hB x5
theorem put6x_all (y0 y1 y2 y3 y4 y5 x0 x1 x2 x3 x4 x5 : Value) : put6x #[y0, y1, y2, y3, y4, y5] 0 x0 x1 x2 x3 x4 x5 = #[x0, x1, x2, x3, x4, x5] := by simp [put6x]
theorem idxF_any (f : Nat) (cap : Array Value) (hen : ∀ (W : World) (args : Array Value), Sem.run Try.prog (callFunc f args) W = .ok (.enter f args) W) (w : World)
    (P : Nat → Prop) (l : List Con) (hk : ∀ t ∈ l, ∀ (W : World) (v : Value), Below w.heap.size w W → ConV W P t v → Calls Try.prog f (#[v] ++ cap) W fun e w' => e = .returned (.bool false) ∧ Below W.heap.size W w')
    (v : Value) (hP : ∀ b, P b → b < w.heap.size) (hl : ConSl w P v l) :
    Calls Try.prog 50 #[v, .func (.func f) #[] cap] w fun e w' => e = .returned (.int .i64 (-1)) ∧ Below w.heap.size w w' := by
  have HKK := Lib.hid hk
  have HP := Lib.hid hP
  have HSL := Lib.hid (fun W (hW : Below w.heap.size w W) => hl.keep (Same.of_below hW hP))
  obtain ⟨la, lc, rfl, hlc, hcm, -⟩ := hl.each
  obtain ⟨n, hn⟩ : ∃ n, n = l.length := ⟨_, rfl⟩
  have HN := Lib.hid hn
  rw [← hn] at HSL ⊢
  have hn63 : n ≤ 9223372036854775807 := by unfold maxLen at hcm; omega
  clear hl hn hcm hlc hP hk
  go_enter Try.func50, Try.ntmps50
  go_wp2_with fail
  go_loopg [8] (n + 1) (fun g i wr => ∃ k : Nat, k ≤ n ∧ i = .int .i64 k ∧ g = n + 1 - k ∧ Below w.heap.size w wr)
  case atStart => exact ⟨0, by omega, rfl, by omega, Below.refl _ _⟩
  case round =>
    obtain ⟨k, hk, rfl, hg, hbw⟩ := hrel
    have HBW := Lib.hid hbw
    by_cases hlt : k < n
    · have q5 : decide ((k : Int) < (n : Int)) = true := decide_eq_true (by omega)
      have hkl : k < l.length := by rw [← HN.out]; exact hlt
      obtain ⟨b, off, c', xa, xn, xc, ya, yn, yc, za, zn, zc, e, -, f0, f1, f2, f3, f4, f5, hx⟩ := (HSL.out wr hbw).part k hkl
      injection e with e1 e2 e3
      subst e1 e3
      clear e2
      have HC := Lib.hid (HKK.out _ (List.getElem_mem hkl) wr _ hbw hx)
      generalize l[k] = x at *
      clear hbw hx
      go_wp2_with fail
      refine HC.out.mono ?_
      rintro e w3 ⟨rfl, hb3⟩
      have HB3 := Lib.hid (belowStep hb3 HBW.out)
      clear hb3 f0 f1 f2 f3 f4 f5
      go_wp2
      go_roundg (gk - 1)
      case measure => omega
      case rel => exact ⟨k + 1, by omega, by go_num, by omega, HB3.out⟩
    · have q5 : decide ((k : Int) < (n : Int)) = false := decide_eq_false (by omega)
      clear hbw
      go_wp2
      go_ret
      exact ⟨rfl, HBW.out⟩
theorem containsF_any (f : Nat) (cap : Array Value) (hen : ∀ (W : World) (args : Array Value), Sem.run Try.prog (callFunc f args) W = .ok (.enter f args) W) (w : World)
    (P : Nat → Prop) (l : List Con) (hk : ∀ t ∈ l, ∀ (W : World) (v : Value), Below w.heap.size w W → ConV W P t v → Calls Try.prog f (#[v] ++ cap) W fun e w' => e = .returned (.bool false) ∧ Below W.heap.size W w')
    (v : Value) (hP : ∀ b, P b → b < w.heap.size) (hl : ConSl w P v l) :
    Calls Try.prog 23 #[v, .func (.func f) #[] cap] w fun e w' => e = .returned (.bool false) ∧ Below w.heap.size w w' := by
  have HC := Lib.hid (idxF_any f cap hen w P l hk v hP hl)
  obtain ⟨a, c, rfl, -⟩ := hl.each
  clear hl hP hk hen
  generalize l.length = n at *
  go_enter Try.func23, Try.ntmps23
  go_wp2_with fail
  refine HC.out.mono ?_
  rintro e w2 ⟨rfl, hb2⟩
  have HB := Lib.hid hb2
  clear hb2
  go_wp2
  go_ret
  exact ⟨rfl, HB.out⟩
/-- a row of its own that holds these kinds -/
def ClP (P : Nat → Prop) (l : List K) (n : Nat) (w : World) (e : Ending) (w' : World) : Prop := (∃ v' us, e = .returned v' ∧ w'.ownsRow w.heap.size 24 1 v' n us ∧ KindRow w' P us l) ∧ Below w.heap.size w w'
set_option maxRecDepth 100000 in
set_option maxHeartbeats 1000000 in
theorem kclone_any (P : Nat → Prop) (l : List K) (w : World) (v : Value) (hP : ∀ b, P b → b < w.heap.size) (h : KSl w P v l) (hbig : l.length ≤ 100000) :
    Calls Try.prog 16 #[v] w (ClP P l l.length w) := by
  obtain ⟨i28, hi0, hz0, hz1, hz2⟩ := info3 infoKind
  have HB := Lib.hid (show Below w.heap.size w (w.alloc (.cells #[] 24)) from (Below.refl _ _).alloc (Nat.le_refl _) _)
  have HO := Lib.hid (own_empty (base := w.heap.size) (blk_new w #[] 24) (Nat.le_refl _))
  obtain ⟨a, c, rfl, -⟩ := h.each
  obtain ⟨n, hn⟩ : ∃ n, n = l.length := ⟨_, rfl⟩
  rw [← hn] at h hbig ⊢
  obtain ⟨-, hnc, hcm, hnone, us, hul, hcells, hone, hrow⟩ := kinds_us h
  have HROW := Lib.hid hrow
  have HP := Lib.hid hP
  have HN := Lib.hid hn
  have HONE := Lib.hid hone
  cases a with
  | none =>
    obtain ⟨rfl, rfl⟩ := hnone rfl
    obtain rfl : us = [] := List.eq_nil_of_length_eq_zero hul
    have he : ∀ W : World, (binOp .eql 22 (.slice none 0 0) (.slice none 0 0)).run Try.prog W = .ok (.bool true) W := fun _ => rfl
    clear h hP hn hrow hcells hone
    go_enter Try.func16, Try.ntmps16
    go_wp2
    go_ret
    exact ⟨⟨_, [], rfl, World.ownsRow_nil _ _ _ _, HROW.out⟩, Below.refl _ _⟩
  | some ad =>
    have he : ∀ W : World, (binOp .eql 22 (.slice (some ad) n c) (.slice none 0 0)).run Try.prog W = .ok (.bool false) W := fun _ => rfl
    have HCL := Lib.hid (cells_keep HB.out hcells)
    clear h hP hn hrow hcells hone hnone
    go_enter Try.func16, Try.ntmps16
    go_wp2_with (at_builtin; refine wpList_append_own _ rfl _ _ 22 rfl w.heap.size 24 i28 (.agg #[.slice none 0 0]) 1 24 Try.underlying22 hi0 hz0 hz1 hz2 rfl (by decide) _ 0 [] rfl HO.out ad n c us rfl ?c0 ?c1 ?c2 ?c3 ?c4 ?c5 ?_)
    case c0 => rw [hul, Nat.mul_one]
    case c1 => exact HCL.out ad rfl
    case c2 => exact HONE.out
    case c3 => unfold maxLen; omega
    case c4 => omega
    case c5 => exact HB.out.size
    intro v' w1 hown hgrow _
    have HB1 := Lib.hid (HB.out.grown hgrow HB.out.size (fun j hj => (HO.out.lt j hj).1))
    have HO1 := Lib.hid (show w1.ownsRow w.heap.size 24 1 v' n us from by simpa using hown)
    clear hown hgrow
    go_wp2
    go_ret
    exact ⟨⟨v', us, rfl, HO1.out, HROW.out.keep (Same.of_below HB1.out HP.out)⟩, HB1.out⟩
end Go.Proofs.Ytmjkeejinagokaa
namespace Go.Proofs.Ytmjkeejinagokaa
open Go Go.RowKit
open Pl (K Con KR KS kof kofs ownK inK appK)
set_option linter.unusedSimpArgs false
set_option linter.unusedVariables false

theorem only_grown {b : Nat} {a w w' : World} {row : Option Nat} (h : Only b a w) (hg : w.grownBy w' row) (hr : ∀ k, row = some k → a.heap.size ≤ k) : Only b a w' :=
  ⟨hg.os.trans h.os, hg.tape.trans h.tape, hg.output.trans h.output, Nat.le_trans h.size hg.size, fun k hk hn => (hg.block k (Nat.lt_of_lt_of_le hk h.size) (fun e => by have := hr k e.symm; omega)).trans (h.block k hk hn)⟩
theorem part_valid10 (u : Con) (i : Nat) (h : i < u.l.length) (hv : Con.validB u = true) : Con.validB u.l[i] = true ∧ u.l[i].depth + 1 ≤ u.depth := by
  have hd := depth_part10 u i h
  have hs := Con.mem_size (List.getElem_mem h)
  refine ⟨?_, hd⟩
  unfold Con.validB Con.small at hv ⊢
  simp only [Bool.and_eq_true, decide_eq_true_eq] at hv ⊢
  obtain ⟨⟨h1, h2⟩, h3⟩ := hv
  rw [allB_eq, Bool.and_eq_true, List.all_eq_true] at h3
  rw [Con.size_eq] at h1
  exact ⟨⟨by omega, by omega⟩, h3.2 _ (List.getElem_mem h)⟩
theorem node_of_valid (u : Con) (hv : Con.validB u = true) : Con.nodeB u = true := by
  unfold Con.validB at hv
  rw [Bool.and_eq_true, allB_eq, Bool.and_eq_true] at hv
  exact hv.2.1
theorem given_of {s : List K} {u : Con} (hl : s.length ≤ 1000) (hs : ∀ k ∈ s, K.valid k = true) (hu : Con.validB u = true) : ofOut s u = kof s.reverse u := by
  rw [ofOut_eq, if_pos]
  unfold givenB scopeB
  rw [decide_eq_true hl, List.all_eq_true.2 hs, hu]
  rfl
/-- what the boxes of the loop hold -/
structure FB (w W7 wr : World) (B9 : Nat) (s : List K) (u : Con) (us : List Value) (sv y0 y1 y2 y3 y4 y5 : Value) : Prop where
  con : ConV wr (· < w.heap.size) u (.agg #[y0, y1, y2, y3, y4, y5])
  box : Blk wr w.heap.size 28 #[y0, y1, y2, y3, y4, y5]
  scb : Blk wr B9 22 #[sv]
  row : wr.ownsRow W7.heap.size 24 1 sv s.length us
  kids : KindRow wr (· < w.heap.size) us s
  only : Only w.heap.size W7 wr
  low : w.heap.size < W7.heap.size ∧ W7.heap.size ≤ B9
  off : sv.ownBlock ≠ some B9
theorem FB.below {w W7 wr W : World} {B9 : Nat} {s : List K} {u : Con} {us : List Value} {sv y0 y1 y2 y3 y4 y5 : Value} (h : FB w W7 wr B9 s u us sv y0 y1 y2 y3 y4 y5) (hb : Below wr.heap.size wr W) : FB w W7 W B9 s u us sv y0 y1 y2 y3 y4 y5 := by
  have hlow : ∀ q, q < w.heap.size → q < wr.heap.size := fun q hq => by have := h.box.lt; omega
  exact ⟨h.con.keep (Same.of_below hb hlow), h.box.of_eq (hb.block _ h.box.lt), h.scb.of_eq (hb.block _ h.scb.lt), h.row.kept (row := none) ⟨hb.os, hb.tape, hb.output, hb.size, fun i hi _ => hb.block i hi⟩ (by cases ho : sv.ownBlock with | none => exact .inl rfl | some k => exact .inr (by simp)), h.kids.keep (Same.of_below hb hlow), h.only.below hb h.only.size, h.low, h.off⟩
theorem FB.down {w W7 wr : World} {B9 : Nat} {s : List K} {u : Con} {us : List Value} {sv y0 y1 y2 y3 y4 y5 x0 x1 x2 x3 x4 x5 : Value} {u' : Con} (h : FB w W7 wr B9 s u us sv y0 y1 y2 y3 y4 y5) (hx : ConV wr (· < w.heap.size) u' (.agg #[x0, x1, x2, x3, x4, x5])) : FB w W7 (store6x wr w.heap.size 0 x0 x1 x2 x3 x4 x5) B9 s u' us sv x0 x1 x2 x3 x4 x5 := by
  have hl := h.low
  have hs : Same (· < w.heap.size) wr (store6x wr w.heap.size 0 x0 x1 x2 x3 x4 x5) := fun q hq => store6x_other _ _ _ _ _ _ _ _ _ q (by have : q < w.heap.size := hq; omega)
  have hb := store6x_blk h.box 0 x0 x1 x2 x3 x4 x5
  rw [put6x_all] at hb
  have hgr : wr.grownBy (store6x wr w.heap.size 0 x0 x1 x2 x3 x4 x5) (some w.heap.size) := store6x_only (Only.refl w.heap.size wr) w.heap.size 0 x0 x1 x2 x3 x4 x5 (.inl rfl)
  refine ⟨hx.keep hs, hb, h.scb.of_eq (store6x_other _ _ _ _ _ _ _ _ _ B9 (by omega)), h.row.kept (row := some w.heap.size) hgr (.inr fun e => by have := (h.row.lt _ e).1; omega), h.kids.keep hs, store6x_only h.only _ _ _ _ _ _ _ _ (.inl rfl), hl, h.off⟩
theorem FB.push {w W7 wr w1 : World} {B9 gg cap : Nat} {s : List K} {u : Con} {us : List Value} {sv y0 y1 y2 y3 y4 y5 kx : Value} {k : K} (h : FB w W7 wr B9 s u us sv y0 y1 y2 y3 y4 y5) (hk : KidV wr (· < w.heap.size) k kx)
    (hown : w1.ownsRow W7.heap.size 24 1 (.slice (some ⟨gg, 0, none⟩) (s.length + 1) cap) (s.length + 1) (us ++ [.slice none 0 0])) (hgrow : (wr.alloc (.cells #[.slice none 0 0] 24)).grownBy w1 sv.ownBlock) (hat : sv.ownBlock = some gg ∨ gg = wr.heap.size + 1) :
    FB w W7 ((w1.setCell ⟨gg, s.length, none⟩ kx).setCell ⟨B9, 0, none⟩ (.slice (some ⟨gg, 0, none⟩) (s.length + 1) cap)) B9 (s ++ [k]) u (us ++ [kx]) (.slice (some ⟨gg, 0, none⟩) (s.length + 1) cap) y0 y1 y2 y3 y4 y5 := by
  have hl := h.low
  have hbl := h.scb.lt
  have hos := h.only.size
  have hold : ∀ q, sv.ownBlock = some q → W7.heap.size ≤ q ∧ q < wr.heap.size := h.row.lt
  have hgg : W7.heap.size ≤ gg := (hown.lt gg rfl).1
  have hgB : gg ≠ B9 := by
    rcases hat with h5 | h5
    · intro e; rw [e] at h5; exact h.off h5
    · omega
  have hsame : ∀ q, q < wr.heap.size → sv.ownBlock ≠ some q → w1.heap[q]? = wr.heap[q]? := fun q ha hb => (hgrow.block q (by rw [size_alloc]; omega) (fun e => hb e.symm)).trans (Below.heap_alloc wr _ q ha)
  have hS : Same (· < w.heap.size) wr ((w1.setCell ⟨gg, s.length, none⟩ kx).setCell ⟨B9, 0, none⟩ (.slice (some ⟨gg, 0, none⟩) (s.length + 1) cap)) := fun q (hq : q < w.heap.size) =>
    ((Below.heap_setCell _ ⟨B9, 0, none⟩ _ q (by show q ≠ B9; omega)).trans (Below.heap_setCell _ ⟨gg, s.length, none⟩ _ q (by show q ≠ gg; omega))).trans (hsame q (by omega) (fun e => by have := (hold q e).1; omega))
  have hus : us.length = s.length := by have := h.row.1; rw [Nat.mul_one] at this; exact this
  have hset : (us ++ [Value.slice none 0 0]).set s.length kx = us ++ [kx] := by
    rw [List.set_append_right _ _ (by omega), hus, Nat.sub_self]
    rfl
  have hst := (hown.stored s.length kx).1
  rw [hset] at hst
  refine ⟨h.con.keep hS, ?_, ?_, ?_, (h.kids.keep hS).push (hk.keep hS), ?_, hl, ?_⟩
  · exact ((h.box.of_eq (hsame _ h.box.lt (fun e => by have := (hold _ e).1; omega))).other ⟨gg, s.length, none⟩ kx (by show w.heap.size ≠ gg; omega)).other ⟨B9, 0, none⟩ _ (by show w.heap.size ≠ B9; omega)
  · exact blk_one ((h.scb.of_eq (hsame _ hbl h.off)).other ⟨gg, s.length, none⟩ kx (by show B9 ≠ gg; exact fun e => hgB e.symm))
  · rw [List.length_append]
    exact hst.kept (row := some B9) ⟨rfl, rfl, rfl, Nat.le_of_eq (size_set _ _ _).symm, fun q hq hn => Below.heap_setCell _ ⟨B9, 0, none⟩ _ q (fun e => hn (by rw [e]))⟩ (.inr fun e => by
      have e : (some gg : Option Nat) = some B9 := e
      injection e with e
      exact hgB e)
  · exact ((only_grown (h.only.alloc _) hgrow (fun q hq => (hold q hq).1)).setCell (p := ⟨gg, s.length, none⟩) (.inr hgg) _).setCell (p := ⟨B9, 0, none⟩) (.inr hl.2) _
  · intro e
    have e : (some gg : Option Nat) = some B9 := e
    injection e with e
    exact hgB e
/-- the scope, as a slice -/
theorem FB.scope {w W7 wr : World} {B9 : Nat} {s : List K} {u : Con} {us : List Value} {sv y0 y1 y2 y3 y4 y5 : Value} (h : FB w W7 wr B9 s u us sv y0 y1 y2 y3 y4 y5) : KSl wr (· < wr.heap.size) sv s :=
  row_ksl h.row rfl h.kids (fun b hb => by have : b < w.heap.size := hb; have := h.box.lt; omega) (fun b h1 h2 => h2)
set_option maxRecDepth 100000 in
/-- the closure: a part that has a kind in the scope -/
theorem faultF_any (B9 : Nat) (s : List K) (x : Con) (k : K) (sv : Value) (w : World) (v : Value) (hB : Blk w B9 22 #[sv]) (hs : KSl w (· < w.heap.size) sv s) (ht : ConV w (· < w.heap.size) x v) (ho : ofOut s x = .ok k) :
    Calls Try.prog 24 #[v, .pointer (some ⟨B9, 0, none⟩)] w fun e w' => e = .returned (.bool false) ∧ Below w.heap.size w w' := by
  have HO := Lib.hid (fun W (hW : Below w.heap.size w W) => of_any (· < w.heap.size) s x W sv v (fun b h => Nat.lt_of_lt_of_le h hW.size) (hs.keep (Same.of_below hW (fun _ h => h))) (ht.keep (Same.of_below hW (fun _ h => h))))
  rw [ho] at HO
  obtain ⟨ka, kn, kc, na, nn, nc, la, ln, lc, rfl, -, -, -⟩ := ht.shape
  obtain ⟨sa, sc, rfl, -⟩ := hs.each
  generalize s.length = sn at *
  generalize x.op = op at *
  generalize x.n = num at *
  generalize x.s = str at *
  obtain ⟨hbx, hb⟩ := boxN_new w 28 #[.int .i64 op, .int .i64 num, .string str, .slice ka kn kc, .slice na nn nc, .slice la ln lc]
  have HB := Lib.hid hb
  have c0 := hbx.cell 0 (.int .i64 op) rfl
  have c1 := hbx.cell 1 (.int .i64 num) rfl
  have c2 := hbx.cell 2 (.string str) rfl
  have c3 := hbx.cell 3 (.slice ka kn kc) rfl
  have c4 := hbx.cell 4 (.slice na nn nc) rfl
  have c5 := hbx.cell 5 (.slice la ln lc) rfl
  have b0 := (hB.of_eq (hb.block _ hB.lt)).cell 0 (.slice sa sn sc) rfl
  clear hbx hb hs ht hB ho
  go_enter Try.func24, Try.ntmps24
  go_wp2_with fail
  clear c0 c1 c2 c3 c4 c5 b0
  generalize w.alloc (.cells #[.int .i64 op, .int .i64 num, .string str, .slice ka kn kc, .slice na nn nc, .slice la ln lc] 28) = w2 at *
  refine (HO.out _ HB.out).mono ?_
  rintro e w3 ⟨⟨ra, rn, rc, rfl, -⟩, hb3⟩
  have HB3 := Lib.hid (belowStep (boxN_new w3 24 #[.slice ra rn rc]).2 (belowStep hb3 HB.out))
  have qe : (KR.er (.ok k) == 0) = true := rfl
  generalize KR.er (.ok k) = er0 at *
  obtain rfl : er0 = 0 := by simpa using qe
  clear hb3 qe HO
  go_wp2
  go_ret
  exact ⟨rfl, HB3.out⟩
end Go.Proofs.Ytmjkeejinagokaa
namespace Go.Proofs.Ytmjkeejinagokaa
open Go Go.RowKit
open Pl (K Con KR KS kof kofs ownK inK appK)
set_option linter.unusedSimpArgs false
set_option linter.unusedVariables false

theorem check_selfS {g : List K} {t : Con} {x : K} (hg : givenB g t = true) (h : kof g.reverse t = .ok x) : checkOut g t x = 0 := by
  have hv := kof_valid t g.reverse x (given_all hg).1 (fun y hy => (given_all hg).2.1 y (List.mem_reverse.1 hy)) h
  unfold checkOut
  rw [hg, hv, h]
  show (if K.eqv x x then (0 : Int) else 11) = 0
  rw [(K.eqv_iff x x).2 rfl]
  rfl
/-- the loop's scope: the kinds of the constructors from the k-th on, behind g's -/
def SP (g : List K) (l : List Con) (k : Nat) (s : List K) : Prop := ∃ rs : List K, s = g ++ rs.reverse ∧ rs.length + k = l.length ∧ ∀ j (h : j < rs.length) (h2 : k + j < l.length), ofOut g l[k + j] = .ok rs[j]
theorem SP.start (g : List K) (l : List Con) : SP g l l.length g := ⟨[], by simp, by simp, fun j h => absurd h (by simp)⟩
theorem SP.push {g s : List K} {l : List Con} {k : Nat} {x : K} (h : SP g l (k + 1) s) (hk : k < l.length) (hx : ofOut g l[k] = .ok x) : SP g l k (s ++ [x]) := by
  obtain ⟨rs, hs, hn, ha⟩ := h
  refine ⟨x :: rs, by rw [hs, List.reverse_cons, List.append_assoc], by rw [List.length_cons]; omega, fun j hj h2 => ?_⟩
  cases j with
  | zero => exact hx
  | succ j =>
    have := ha j (by rw [List.length_cons] at hj; omega) (by omega)
    have e : k + 1 + j = k + (j + 1) := by omega
    simp only [e] at this
    exact this
theorem SP.len {g s : List K} {l : List Con} {k : Nat} (h : SP g l k s) : s.length + k = g.length + l.length := by
  obtain ⟨rs, hs, hn, -⟩ := h
  rw [hs, List.length_append, List.length_reverse]
  omega
theorem of_ok {g : List K} {t : Con} {x : K} (h : ofOut g t = .ok x) : givenB g t = true ∧ kof g.reverse t = .ok x := by
  rw [ofOut_eq] at h
  cases hg : givenB g t with
  | false => rw [hg, if_neg (by simp)] at h; cases h
  | true => rw [hg, if_pos rfl] at h; exact ⟨rfl, h⟩
theorem of_er {g : List K} {t : Con} (h : (ofOut g t).er ≠ 0) : (ofOut g t).kd = .mk [] := by
  cases hr : ofOut g t with
  | ok x => rw [hr] at h; exact absurd rfl h
  | bad e p => rfl
theorem of_er0 {g : List K} {t : Con} (h : (ofOut g t).er = 0) : ∃ x, ofOut g t = .ok x := by
  cases hr : ofOut g t with
  | ok x => exact ⟨x, rfl⟩
  | bad e p =>
    rw [hr] at h
    rw [ofOut_eq] at hr
    have h : e = 0 := h
    cases hg : givenB g t with
    | false =>
      rw [hg, if_neg (by simp)] at hr
      injection hr with h1 h2
      rw [← h1] at h
      cases h
    | true =>
      rw [hg, if_pos rfl] at hr
      exact absurd h (kof_bad t g.reverse e p hr)
/-- SUBSTITUTION KEEPS KINDS -/
theorem subst_keeps {g s : List K} {l : List Con} {t : Con} {y : K} (hs : SP g l 0 s) (hy : ofOut s t = .ok y) (hl : l.length ≤ 8) (h6 : (substOut t l).2 ≠ 6) : (substOut t l).2 = 0 ∧ ofOut g (substOut t l).1 = .ok y ∧ checkOut g (substOut t l).1 y = 0 := by
  obtain ⟨hg, hk⟩ := of_ok hy
  obtain ⟨rs, he, hn, ha⟩ := hs
  have hn : rs.length = l.length := by omega
  have hgv := hg
  unfold givenB at hgv
  rw [Bool.and_eq_true] at hgv
  have hv := hgv.2
  have hsc := hgv.1
  unfold scopeB at hsc
  rw [Bool.and_eq_true, decide_eq_true_eq, List.all_eq_true, he, List.length_append] at hsc
  have hgl : g.length ≤ 1000 := by omega
  have hgk : ∀ k ∈ g, K.valid k = true := fun k hk => hsc.2 k (List.mem_append.2 (.inl hk))
  have hlv : ∀ x ∈ l, Con.validB x = true := by
    intro x hx
    obtain ⟨i, hi, rfl⟩ := List.getElem_of_mem hx
    have h1 := ha i (by omega) (by omega)
    have h2 := (of_ok h1).1
    unfold givenB at h2
    rw [Bool.and_eq_true] at h2
    have h3 := h2.2
    simp only [Nat.zero_add] at h3
    exact h3
  have hso := substOut_ok t l hv hlv (by omega)
  rw [hso] at h6 ⊢
  rcases outB_cases (Con.subst l t 0) with ⟨h1, h2⟩ | ⟨h1, h2⟩
  · rw [h2]
    have hks : kof g.reverse (Con.subst l t ((([] : List K).length : Nat) : Int)) = .ok y := by
      refine kof_subst l rs g.reverse hn.symm (fun x hx => valid_all x (hlv x hx)) (fun i hi hi2 => ?_) t [] y (valid_all t hv) ?_
      · have h3 := (of_ok (ha i hi2 (by omega))).2
        simp only [Nat.zero_add] at h3
        exact h3
      · rw [List.nil_append, ← hk, he, List.reverse_append, List.reverse_reverse]
    have hks : kof g.reverse (Con.subst l t 0) = .ok y := hks
    have hgo := given_of hgl hgk h1
    have hgi : givenB g (Con.subst l t 0) = true := by
      unfold givenB scopeB
      rw [decide_eq_true hgl, List.all_eq_true.2 hgk, h1]
      rfl
    exact ⟨rfl, by rw [hgo]; exact hks, check_selfS hgi hks⟩
  · rw [h2] at h6
    exact absurd rfl h6
/-- what the loop holds: the scope is a row of its own -/
structure SB (B : Nat) (wr : World) (s : List K) (us : List Value) (sv : Value) : Prop where
  row : wr.ownsRow B 24 1 sv s.length us
  kids : KindRow wr (fun b => b < wr.heap.size ∧ sv.ownBlock ≠ some b) us s
theorem SB.below {B : Nat} {wr W : World} {s : List K} {us : List Value} {sv : Value} (h : SB B wr s us sv) (hb : Below wr.heap.size wr W) : SB B W s us sv :=
  ⟨h.row.kept (row := none) ⟨hb.os, hb.tape, hb.output, hb.size, fun i hi _ => hb.block i hi⟩ (by cases ho : sv.ownBlock with | none => exact .inl rfl | some k => exact .inr (by simp)), (h.kids.keep (Same.of_below hb (fun q hq => hq.1))).mono (fun q hq => ⟨Nat.lt_of_lt_of_le hq.1 hb.size, hq.2⟩)⟩
theorem SB.scope {B : Nat} {wr : World} {s : List K} {us : List Value} {sv : Value} (h : SB B wr s us sv) : KSl wr (· < wr.heap.size) sv s :=
  row_ksl h.row rfl h.kids (fun b hb => hb.1) (fun b h1 h2 => h2)
theorem SB.push {B gg cap n : Nat} {wr w1 : World} {s : List K} {us : List Value} {sv kx : Value} {k : K} (h : SB B wr s us sv) (hn : n = s.length) (hk : KidV wr (fun b => b < wr.heap.size ∧ sv.ownBlock ≠ some b) k kx)
    (hown : w1.ownsRow B 24 1 (.slice (some ⟨gg, 0, none⟩) (n + 1) cap) (n + 1) (us ++ [kx])) (hgrow : (wr.alloc (.cells #[kx] 24)).grownBy w1 sv.ownBlock) (hat : sv.ownBlock = some gg ∨ gg = wr.heap.size + 1) :
    SB B w1 (s ++ [k]) (us ++ [kx]) (.slice (some ⟨gg, 0, none⟩) (n + 1) cap) := by
  subst hn
  have hgB : ∀ b, b < wr.heap.size ∧ sv.ownBlock ≠ some b → b ≠ gg := by
    rintro b ⟨h1, h2⟩ rfl
    rcases hat with h5 | h5
    · exact h2 h5
    · omega
  have hs1 : wr.heap.size ≤ w1.heap.size := by have h1 := hgrow.size; rw [size_alloc] at h1; omega
  have hS : Same (fun b => b < wr.heap.size ∧ sv.ownBlock ≠ some b) wr w1 := fun q hq =>
    (hgrow.block q (by rw [size_alloc]; have := hq.1; omega) (fun e => hq.2 e.symm)).trans (Below.heap_alloc wr _ q hq.1)
  refine ⟨by rw [List.length_append]; exact hown, ((h.kids.keep hS).push (hk.keep hS)).mono (fun q hq => ⟨by have := hq.1; omega, fun e => ?_⟩)⟩
  have e : (some gg : Option Nat) = some q := e
  injection e with e
  exact hgB q hq e.symm
end Go.Proofs.Ytmjkeejinagokaa
namespace Go.Proofs.Ytmjkeejinagokaa
open Go Go.RowKit
open Pl (K Con KR KS kof kofs ownK inK appK)
set_option linter.unusedSimpArgs false
set_option linter.unusedVariables false

set_option maxRecDepth 100000 in
set_option maxHeartbeats 2000000 in
theorem ksubst_any (g : List K) (t : Con) (l : List Con) (w : World) (gv v xv : Value) (hg : KSl w (· < w.heap.size) gv g) (ht : ConV w (· < w.heap.size) t v) (hl : ConSl w (· < w.heap.size) xv l) :
    Calls Try.prog 5 #[gv, v, xv] w fun e w' => e = .returned (.bool true) ∧ Below w.heap.size w w' := by
  have HUP := Lib.hid (fun W (hW : Below w.heap.size w W) => (show (∀ b, b < w.heap.size → b < W.heap.size) ∧ KSl W (· < w.heap.size) gv g ∧ ConV W (· < w.heap.size) t v ∧ ConSl W (· < w.heap.size) xv l from ⟨fun b h => Nat.lt_of_lt_of_le h hW.size, hg.keep (Same.of_below hW (fun _ h => h)), ht.keep (Same.of_below hW (fun _ h => h)), hl.keep (Same.of_below hW (fun _ h => h))⟩))
  have HA := Lib.hid awake10
  have HG1 := Lib.hid (fun W (hW : Below w.heap.size w W) => great_any (· < w.heap.size) g l W gv xv (HUP.out W hW).1 (HUP.out W hW).2.1 (HUP.out W hW).2.2.2)
  have HG := Lib.hid (fun W x (hW : Below w.heap.size w W) (hl : ConSl W (· < W.heap.size) x [t]) => great_any (· < W.heap.size) g [t] W gv x (fun _ h => h) ((HUP.out W hW).2.1.mono (fun q hq => Nat.lt_of_lt_of_le hq hW.size)) hl)
  have H1 := Lib.hid (fun W (hW : Below w.heap.size w W) x y (hx : ConV W (· < w.heap.size) x y) => of_any (· < w.heap.size) g x W gv y (HUP.out W hW).1 (HUP.out W hW).2.1 hx)
  have H2 := Lib.hid (fun W (hW : Below w.heap.size w W) s sv (hs : KSl W (· < W.heap.size) sv s) => of_any (· < W.heap.size) s t W sv v (fun _ h => h) hs ((HUP.out W hW).2.2.1.mono (fun q hq => Nat.lt_of_lt_of_le hq hW.size)))
  have H3 := Lib.hid (fun W (hW : Below w.heap.size w W) => csubst_any t l W v xv ((HUP.out W hW).2.2.1.mono (fun q hq => Nat.lt_of_lt_of_le hq hW.size)) ((HUP.out W hW).2.2.2.mono (fun q hq => Nat.lt_of_lt_of_le hq hW.size)))
  have H4 := Lib.hid (fun W (hW : Below w.heap.size w W) (hl : g.length ≤ 100000) => kclone_any (· < w.heap.size) g W gv (HUP.out W hW).1 (HUP.out W hW).2.1 hl)
  have H5 := Lib.hid (fun W (hW : Below w.heap.size w W) u y (hu : ConV W (· < W.heap.size) u y) => of_any (· < W.heap.size) g u W gv y (fun _ h => h) ((HUP.out W hW).2.1.mono (fun q hq => Nat.lt_of_lt_of_le hq hW.size)) hu)
  have H6 := Lib.hid (fun W (hW : Below w.heap.size w W) u y x z (hu : ConV W (· < W.heap.size) u y) (hx : KV W (· < W.heap.size) x z) => check_any (· < W.heap.size) g u x W gv y z (fun _ h => h) ((HUP.out W hW).2.1.mono (fun q hq => Nat.lt_of_lt_of_le hq hW.size)) hu hx)
  have HCV := Lib.hid (fun W (hW : Below w.heap.size w W) => (HUP.out W hW).2.2.1)
  have HLV := Lib.hid (fun W (hW : Below w.heap.size w W) => (HUP.out W hW).2.2.2)
  obtain ⟨ka, kn, kc, na, nn, nc, la, ln, lc, rfl, -, -, -⟩ := ht.shape
  obtain ⟨ga, gc, rfl, -⟩ := hg.each
  obtain ⟨xa, xc, rfl, -, hxm, -⟩ := hl.each
  have hgl63 : g.length ≤ 9223372036854775807 := by
    obtain ⟨a', c', e, h1, h2, -⟩ := hg.each
    injection e with e1 e2 e3
    unfold maxLen at h2; omega
  have hll63 : l.length ≤ 9223372036854775807 := by
    obtain ⟨a', c', e, h1, h2, -⟩ := hl.each
    injection e with e1 e2 e3
    unfold maxLen at h2; omega
  obtain ⟨gn, hgn⟩ : ∃ gn, gn = g.length := ⟨_, rfl⟩
  obtain ⟨n, hn⟩ : ∃ n, n = l.length := ⟨_, rfl⟩
  have HS0 := Lib.hid (SP.start g l)
  rw [← hgn] at HG1 HG H1 H4 H5 H6 hgl63 ⊢
  rw [← hn] at HG1 H3 HLV HS0 hll63 ⊢
  have HGN := Lib.hid hgn
  have HN := Lib.hid hn
  obtain ⟨op, hop⟩ : ∃ op, op = t.op := ⟨_, rfl⟩
  obtain ⟨num, hnum⟩ : ∃ num, num = t.n := ⟨_, rfl⟩
  obtain ⟨s, hs⟩ : ∃ s, s = t.s := ⟨_, rfl⟩
  rw [← hop, ← hnum, ← hs] at HCV H2 H3 ⊢
  obtain ⟨hbx, hb⟩ := boxN_new w 28 #[.int .i64 op, .int .i64 num, .string s, .slice ka kn kc, .slice na nn nc, .slice la ln lc]
  have HB := Lib.hid hb
  have HBX := Lib.hid hbx
  clear hbx hb hg ht hl HUP hop hnum hs hgn hn hxm
  go_enter Try.func5, Try.ntmps5
  go_upto_region 1 with fail
  generalize w.alloc (.cells #[.int .i64 op, .int .i64 num, .string s, .slice ka kn kc, .slice na nn nc, .slice la ln lc] 28) = w1 at *
  go_wp2_with fail
  refine (HA.out _).mono ?_
  rintro e w2 ⟨rfl, hb2⟩
  replace HB := Lib.hid (belowStep hb2 HB.out)
  replace HBX := Lib.hid (HBX.out.of_eq (hb2.block _ HBX.out.lt))
  clear hb2 HA
  by_cases h40 : 40 < gn
  · have q0 : decide ((40 : Int) < (gn : Int)) = true := decide_eq_true (by omega)
    go_wp2
    go_ret
    exact ⟨rfl, HB.out⟩
  have q0 : decide ((40 : Int) < (gn : Int)) = false := decide_eq_false (by omega)
  by_cases h8 : 8 < n
  · have q1 : decide ((8 : Int) < (n : Int)) = true := decide_eq_true (by omega)
    go_wp2
    go_ret
    exact ⟨rfl, HB.out⟩
  have q1 : decide ((8 : Int) < (n : Int)) = false := decide_eq_false (by omega)
  go_wp2_with fail
  refine (HG1.out _ HB.out).mono ?_
  rintro e w3 ⟨⟨z, rfl⟩, hb3⟩
  replace HB := Lib.hid (belowStep hb3 HB.out)
  replace HBX := Lib.hid (HBX.out.of_eq (hb3.block _ HBX.out.lt))
  clear hb3 HG1
  cases z
  rotate_left
  · go_wp2
    go_ret
    exact ⟨rfl, HB.out⟩
  have c0 := HBX.out.cell 0 (.int .i64 op) rfl
  have c1 := HBX.out.cell 1 (.int .i64 num) rfl
  have c2 := HBX.out.cell 2 (.string s) rfl
  have c3 := HBX.out.cell 3 (.slice ka kn kc) rfl
  have c4 := HBX.out.cell 4 (.slice na nn nc) rfl
  have c5 := HBX.out.cell 5 (.slice la ln lc) rfl
  obtain ⟨hlit, hbl⟩ := boxN_new w3 28 #[.int .i64 op, .int .i64 num, .string s, .slice ka kn kc, .slice na nn nc, .slice la ln lc]
  have HGR := Lib.hid (HG.out _ _ (belowStep hbl HB.out) (cons_one10 (P := (· < (w3.alloc (.cells #[.int .i64 op, .int .i64 num, .string s, .slice ka kn kc, .slice na nn nc, .slice la ln lc] 28)).heap.size)) hlit hlit.lt ((HCV.out _ (belowStep hbl HB.out)).mono (fun q hq => Nat.lt_of_lt_of_le hq (Nat.le_trans HB.out.size hbl.size)))))
  replace HB := Lib.hid (belowStep hbl HB.out)
  replace HBX := Lib.hid (HBX.out.of_eq (hbl.block _ HBX.out.lt))
  clear hlit hbl HG
  go_wp2_with fail
  clear c0 c1 c2 c3 c4 c5
  generalize w3.alloc (.cells #[.int .i64 op, .int .i64 num, .string s, .slice ka kn kc, .slice na nn nc, .slice la ln lc] 28) = w4 at *
  refine HGR.out.mono ?_
  rintro e w5 ⟨⟨z, rfl⟩, hb5⟩
  replace HB := Lib.hid (belowStep hb5 HB.out)
  replace HBX := Lib.hid (HBX.out.of_eq (hb5.block _ HBX.out.lt))
  clear hb5 HGR
  cases z
  rotate_left
  · go_wp2
    go_ret
    exact ⟨rfl, HB.out⟩
  clear q0 q1
  have HCL := Lib.hid (H4.out w5 HB.out (by have := HGN.out; omega))
  have HL5 := Lib.hid (show w.heap.size < w5.heap.size from HBX.out.lt)
  clear H4
  go_wp2_with fail
  refine HCL.out.mono ?_
  rintro e w6 ⟨⟨sv, us, rfl, hrow, hkids⟩, hb6⟩
  obtain ⟨va, vc, hvf, -⟩ := row_form hrow
  subst hvf
  have HSB0 := Lib.hid (show SB w5.heap.size w6 g us (.slice va gn vc) from ⟨by rw [← HGN.out]; exact hrow, hkids.mono (fun q hq => by
    have hq : q < w.heap.size := hq
    have h1 := hb6.size
    have h2 := HL5.out
    exact ⟨by omega, fun e => by have := (hrow.lt _ e).1; omega⟩)⟩)
  have hgl1 : w.heap.size < w6.heap.size := by have := hb6.size; have := HL5.out; omega
  have HB50 := Lib.hid (show w5.heap.size ≤ w6.heap.size from hb6.size)
  replace HB := Lib.hid (belowStep hb6 HB.out)
  replace HBX := Lib.hid (HBX.out.of_eq (hb6.block _ HBX.out.lt))
  clear hrow hkids hb6 HCL hgl1
  have hm1 : ((n : Int) - 1) = ((n : Int) - 1) := rfl
  go_wp2
  go_loopg [7, 8] (n + 1) (fun gk sl i wr => ∃ (k : Nat) (s2 : List K) (us2 : List Value), k ≤ n ∧ i = .int .i64 ((k : Int) - 1) ∧ gk = k + 1 ∧ SP g l k s2 ∧ SB w5.heap.size wr s2 us2 sl ∧ Below w.heap.size w wr ∧ Blk wr w.heap.size 28 #[.int .i64 op, .int .i64 num, .string s, .slice ka kn kc, .slice na nn nc, .slice la ln lc] ∧ w5.heap.size ≤ wr.heap.size)
  case atStart => exact ⟨n, g, us, Nat.le_refl _, rfl, rfl, HS0.out, HSB0.out, HB.out, HBX.out, HB50.out⟩
  case round =>
    obtain ⟨k, s2, us2, hkn, rfl, hgk, hsp, hsb, hbw, hbx, hlw⟩ := hrel
    clear HSB0 HS0 HB HBX
    have HB := Lib.hid hbw
    have HBX := Lib.hid hbx
    have HSB := Lib.hid hsb
    have HSP := Lib.hid hsp
    have HLR := Lib.hid (show w5.heap.size ≤ wr.heap.size from hlw)
    clear hm1 hlw
    obtain ⟨z, hz⟩ : ∃ z : Int, z = (k : Int) - 1 := ⟨_, rfl⟩
    rw [← hz]
    cases k with
    | succ k =>
      obtain rfl : z = (k : Int) := by rw [hz]; push_cast; omega
      clear hz hbx
      have q5 : decide ((0 : Int) ≤ (k : Int)) = true := decide_eq_true (by omega)
      have q6 : decide ((k : Int) < 0) = false := decide_eq_false (by omega)
      have q7 : decide ((n : Int) ≤ (k : Int)) = false := decide_eq_false (by omega)
      have hkl : k < l.length := by rw [← HN.out]; omega
      have hkn1 : k < n := hkn
      obtain ⟨b, off, c', ya, yn, yc, za, zn, zc, pa, pn, pc, e, -, f0, f1, f2, f3, f4, f5, hx⟩ := (HLV.out wr hbw).part k hkl
      injection e with e1 e2 e3
      subst e1 e3
      clear e2
      have HC := Lib.hid (H1.out wr hbw _ _ hx)
      have HSPL := Lib.hid hsp.len
      have HPU := Lib.hid (fun x (h : ofOut g l[k] = .ok x) => hsp.push hkl h)
      obtain ⟨u, hu⟩ : ∃ u, u = l[k] := ⟨_, rfl⟩
      rw [← hu] at HC HPU f0 f1 f2
      clear hu
      clear hbw hx hsb hsp HSP
      generalize u.op = op2 at *
      generalize u.n = num2 at *
      generalize u.s = str2 at *
      go_wp2_with fail
      clear f0 f1 f2 f3 f4 f5 q6 q7
      refine HC.out.mono ?_
      rintro e wO ⟨⟨ra, rn, rc, rfl, hr⟩, hbO⟩
      obtain ⟨r, hrr⟩ : ∃ r, r = ofOut g u := ⟨_, rfl⟩
      rw [← hrr] at hr ⊢
      have hE0 : r.er = 0 → ∃ x, r = .ok x := by rw [hrr]; exact of_er0
      have hE1 : r.er ≠ 0 → r.kd = .mk [] := by rw [hrr]; exact of_er
      rw [← hrr] at HPU
      clear hrr
      obtain ⟨sa, sc, hsv2, -⟩ := row_form HSB.out.row
      subst hsv2
      obtain ⟨sn, hsn⟩ : ∃ sn, sn = s2.length := ⟨_, rfl⟩
      rw [← hsn] at HSB ⊢
      have HSL := Lib.hid hsn
      have HSN := Lib.hid (show sn ≤ 441 from by have h1 := HSPL.out; have := HGN.out; have := HN.out; omega)
      have hown : ∀ q, (Value.slice sa sn sc).ownBlock = some q → w5.heap.size ≤ q ∧ q < wr.heap.size := HSB.out.row.lt
      have hlt : ∀ q, Ext (fun x => x < w.heap.size) wr wO q → q < wO.heap.size := fun q hq => by
        have h1 := hbO.size
        have h2 := HBX.out.lt
        rcases hq with hq | hq
        · have hq : q < w.heap.size := hq
          omega
        · exact hq.2
      obtain ⟨hbk, hbk2⟩ := boxN_new wO 24 #[.slice ra rn rc]
      have hkx : KidV (wO.alloc (.cells #[.slice ra rn rc] 24)) (fun b => b < (wO.alloc (.cells #[.slice ra rn rc] 24)).heap.size ∧ (Value.slice sa sn sc).ownBlock ≠ some b) r.kd (.slice ra rn rc) :=
        (hr.keep (Same.of_below hbk2 hlt)).mono (fun q hq => ⟨by rw [size_alloc]; have := hlt q hq; omega, fun e => by
          have h1 := hown q e
          have h2 := HL5.out
          rcases hq with hq | hq
          · have hq : q < w.heap.size := hq
            omega
          · have := hq.1
            omega⟩)
      have hkn : rn = r.kd.l.length := by
        obtain ⟨a', c', e⟩ := KV.form (t := r.kd) (v := .agg #[.slice ra rn rc]) ⟨_, rfl, hr⟩
        injection e with e
        have e : #[Value.slice ra rn rc] = #[.slice a' r.kd.l.length c'] := e
        simp only [Array.mk.injEq, List.cons.injEq, Value.slice.injEq, and_true] at e
        exact e.2.1
      have HKN := Lib.hid hkn
      have HKX := Lib.hid hkx
      have HBK := Lib.hid hbk
      have HOFF := Lib.hid (show (Value.slice sa sn sc).ownBlock ≠ some wO.heap.size from fun e => by have := hown _ e; have := hbO.size; omega)
      replace HSB := Lib.hid ((HSB.out.below hbO).below hbk2)
      replace HB := Lib.hid (belowStep hbk2 (belowStep hbO HB.out))
      replace HBX := Lib.hid (HBX.out.of_eq ((hbk2.block _ (Nat.lt_of_lt_of_le HBX.out.lt hbO.size)).trans (hbO.block _ HBX.out.lt)))
      have HLC := Lib.hid (show w5.heap.size ≤ (wO.alloc (.cells #[.slice ra rn rc] 24)).heap.size from by have := HLR.out; have := hbO.size; rw [size_alloc]; omega)
      clear hbk hbk2 hkx hown hlt hr hbO HC hsn hkn
      go_upto_region 10 with fail
      generalize wO.alloc (.cells #[.slice ra rn rc] 24) = wC at *
      generalize wO.heap.size = BK at *
      by_cases he : r.er = 0
      rotate_left
      · have hk0 := hE1 he
        have hkn := HKN.out
        rw [hk0] at hkn
        obtain rfl : rn = 0 := hkn
        have qe : (r.er == 0) = false := beq_eq_false_iff_ne.2 he
        have e0 := HBK.out.cell 0 (.slice ra 0 rc) rfl
        clear hE0 hE1 HPU hk0 HKN hkn
        generalize r.er = er at *
        go_wp2
        go_ret
        exact ⟨rfl, HB.out⟩
      · obtain ⟨x, rfl⟩ := hE0 he
        have HSP := Lib.hid (HPU.out x rfl)
        clear hE0 hE1 HPU HKN
        replace he : (0 : Int) = KR.er (.ok x) := he.symm
        have HKX' := Lib.hid (show KidV wC (fun b => b < wC.heap.size ∧ (Value.slice sa sn sc).ownBlock ≠ some b) x (.slice ra rn rc) from HKX.out)
        clear HKX
        rw [← he]
        clear he
        obtain ⟨i28, hi0, hz0, hz1, hz2⟩ := info3 infoKind
        obtain ⟨h7, h72⟩ := boxN_new wC 24 #[.slice ra rn rc]
        have hown : ∀ q, (Value.slice sa sn sc).ownBlock = some q → w5.heap.size ≤ q ∧ q < wC.heap.size := HSB.out.row.lt
        have HOWN := Lib.hid hown
        have HROW7 := Lib.hid (show (wC.alloc (.cells #[.slice ra rn rc] 24)).ownsRow w5.heap.size 24 1 (.slice sa sn sc) sn us2 from by
          have h := HSB.out.row
          rw [← HSL.out] at h
          exact h.alloc _)
        have HNEW := Lib.hid (show ∀ j u, [Value.slice ra rn rc][j]? = some u → (wC.alloc (.cells #[.slice ra rn rc] 24)).cell? ((⟨wC.heap.size, 0, none⟩ : Addr).add j) = some u from World.news_of_block (cs := #[.slice ra rn rc]) (t := 24) (fr := (0, 0)) h7)
        have hsz7 : (wC.alloc (.cells #[.slice ra rn rc] 24)).heap.size = wC.heap.size + 1 := size_alloc _ _
        have HB7 := Lib.hid (belowStep h72 HB.out)
        have HX7 := Lib.hid (HBX.out.of_eq (h72.block _ HBX.out.lt))
        have hsn63 : sn ≤ 441 := HSN.out
        have hlc := HLC.out
        have e6 := HBK.out.cell 0 (.slice ra rn rc) rfl
        clear h7 h72 hown
        go_wp2_with (at_builtin; refine wpList_append_lies _ rfl _ _ 22 rfl w5.heap.size 24 i28 (.agg #[.slice none 0 0]) 1 24 Try.underlying22 hi0 hz0 hz1 hz2 rfl (by decide) _ _ _ rfl HROW7.out ⟨wC.heap.size, 0, none⟩ 1 1 [.slice ra rn rc] rfl rfl ?c1 ?c2 (by decide) ?c3 ?c4 ?c5 (wC.heap.size + 1) (by simp) ?_)
        case c1 => exact HNEW.out
        case c2 => simp [Value.oneCell']
        case c3 => unfold maxLen; omega
        case c4 => omega
        case c5 => rw [hsz7]; omega
        intro gg cap w8 hown hgrow hat hlt8
        have HSB2 := Lib.hid (HSB.out.push HSL.out HKX'.out hown hgrow hat)
        have HBW := Lib.hid (HB7.out.grown hgrow HB7.out.size (fun j hj => by have := (HOWN.out j hj).1; have := HL5.out; omega))
        have HX8 := Lib.hid (HX7.out.of_eq (hgrow.block _ HX7.out.lt (fun e => by have := (HOWN.out _ e.symm).1; have := HL5.out; omega)))
        have HL8 := Lib.hid (show w5.heap.size ≤ w8.heap.size from by have := hgrow.size; omega)
        clear hown hgrow hat hlt8 HROW7 HNEW HSB e6 HB7 HX7
        go_wp2
        go_roundg (gk - 1)
        case measure => omega
        case rel => exact ⟨k, s2 ++ [x], _, by omega, by go_num, by omega, HSP.out, HSB2.out, HBW.out, HX8.out, HL8.out⟩
    | zero =>
      obtain rfl : z = -1 := by rw [hz]; rfl
      clear hz hbx
      have q5 : decide ((0 : Int) ≤ -1) = false := by decide
      obtain ⟨sa, sc, hsv2, -⟩ := row_form HSB.out.row
      subst hsv2
      have HO := Lib.hid (H2.out wr hbw s2 _ HSB.out.scope)
      obtain ⟨sn, hsn⟩ : ∃ sn, sn = s2.length := ⟨_, rfl⟩
      rw [← hsn] at HO ⊢
      clear hbw hsb hsp hsn
      have c0 := HBX.out.cell 0 (.int .i64 op) rfl
      have c1 := HBX.out.cell 1 (.int .i64 num) rfl
      have c2 := HBX.out.cell 2 (.string s) rfl
      have c3 := HBX.out.cell 3 (.slice ka kn kc) rfl
      have c4 := HBX.out.cell 4 (.slice na nn nc) rfl
      have c5 := HBX.out.cell 5 (.slice la ln lc) rfl
      go_wp2_with fail
      clear c0 c1 c2 c3 c4 c5
      refine HO.out.mono ?_
      rintro e wO ⟨⟨ra, rn, rc, rfl, hr⟩, hbO⟩
      have HKE := Lib.hid (fun y (h : ofOut s2 t = .ok y) h6 => subst_keeps HSP.out h (by have := HN.out; omega) h6)
      obtain ⟨r, hrr⟩ : ∃ r, r = ofOut s2 t := ⟨_, rfl⟩
      rw [← hrr] at hr ⊢
      have hE0 : r.er = 0 → ∃ x, r = .ok x := by rw [hrr]; exact of_er0
      have hE1 : r.er ≠ 0 → r.kd = .mk [] := by rw [hrr]; exact of_er
      rw [← hrr] at HKE
      clear hrr
      have hlt : ∀ q, Ext (fun x => x < wr.heap.size) wr wO q → q < wO.heap.size := fun q hq => by
        have h1 := hbO.size
        rcases hq with hq | hq
        · have hq : q < wr.heap.size := hq
          omega
        · exact hq.2
      obtain ⟨hbk, hbk2⟩ := boxN_new wO 24 #[.slice ra rn rc]
      have hkx : KidV (wO.alloc (.cells #[.slice ra rn rc] 24)) (fun b => b < (wO.alloc (.cells #[.slice ra rn rc] 24)).heap.size) r.kd (.slice ra rn rc) :=
        (hr.keep (Same.of_below hbk2 hlt)).mono (fun q hq => by rw [size_alloc]; have := hlt q hq; omega)
      have hkn : rn = r.kd.l.length := by
        obtain ⟨a', c', e⟩ := KV.form (t := r.kd) (v := .agg #[.slice ra rn rc]) ⟨_, rfl, hr⟩
        injection e with e
        have e : #[Value.slice ra rn rc] = #[.slice a' r.kd.l.length c'] := e
        simp only [Array.mk.injEq, List.cons.injEq, Value.slice.injEq, and_true] at e
        exact e.2.1
      have HKN := Lib.hid hkn
      have HKX := Lib.hid hkx
      have HBK := Lib.hid hbk
      replace HB := Lib.hid (belowStep hbk2 (belowStep hbO HB.out))
      replace HBX := Lib.hid (HBX.out.of_eq ((hbk2.block _ (Nat.lt_of_lt_of_le HBX.out.lt hbO.size)).trans (hbO.block _ HBX.out.lt)))
      clear hbk hbk2 hkx hlt hr hbO HO hkn HSB HSP
      go_upto_region 14 with fail
      generalize wO.alloc (.cells #[.slice ra rn rc] 24) = wC at *
      generalize wO.heap.size = BK at *
      by_cases he : r.er = 0
      rotate_left
      · have hk0 := hE1 he
        have hkn := HKN.out
        rw [hk0] at hkn
        obtain rfl : rn = 0 := hkn
        have qe : (r.er == 0) = false := beq_eq_false_iff_ne.2 he
        have e0 := HBK.out.cell 0 (.slice ra 0 rc) rfl
        clear hE0 hE1 HKE hk0 HKN hkn
        generalize r.er = er at *
        go_wp2
        go_ret
        exact ⟨rfl, HB.out⟩
      obtain ⟨y, rfl⟩ := hE0 he
      replace HKE := Lib.hid (HKE.out y rfl)
      clear hE0 hE1 HKN
      replace he : (0 : Int) = KR.er (.ok y) := he.symm
      have HKX' := Lib.hid (show KidV wC (fun b => b < wC.heap.size) y (.slice ra rn rc) from HKX.out)
      clear HKX
      rw [← he]
      clear he
      have HSU := Lib.hid (H3.out _ HB.out)
      obtain ⟨d, hd⟩ : ∃ d, d = substOut t l := ⟨_, rfl⟩
      rw [← hd] at HSU HKE
      clear hd
      have c0 := HBX.out.cell 0 (.int .i64 op) rfl
      have c1 := HBX.out.cell 1 (.int .i64 num) rfl
      have c2 := HBX.out.cell 2 (.string s) rfl
      have c3 := HBX.out.cell 3 (.slice ka kn kc) rfl
      have c4 := HBX.out.cell 4 (.slice na nn nc) rfl
      have c5 := HBX.out.cell 5 (.slice la ln lc) rfl
      go_wp2_with fail
      clear c0 c1 c2 c3 c4 c5
      refine HSU.out.mono ?_
      rintro e wS ⟨⟨yv, rfl, hy⟩, hbS⟩
      obtain ⟨ya, yn, yc, za, zn, zc, pa, pn, pc, rfl, -, -, -⟩ := hy.shape
      obtain ⟨d1, f⟩ := d
      have hy : ConV wS (· < wS.heap.size) d1 (.agg #[.int .i64 d1.op, .int .i64 d1.n, .string d1.s, .slice ya yn yc, .slice za zn zc, .slice pa pn pc]) := hy
      have HKE2 := Lib.hid (show f ≠ 6 → f = 0 ∧ ofOut g d1 = .ok y ∧ checkOut g d1 y = 0 from HKE.out)
      clear HKE
      obtain ⟨op3, hop3⟩ : ∃ op3, op3 = d1.op := ⟨_, rfl⟩
      obtain ⟨num3, hnum3⟩ : ∃ num3, num3 = d1.n := ⟨_, rfl⟩
      obtain ⟨str3, hstr3⟩ : ∃ str3, str3 = d1.s := ⟨_, rfl⟩
      show _
      simp only [← hop3, ← hnum3, ← hstr3] at hy ⊢
      clear hop3 hnum3 hstr3
      obtain ⟨hdx, hdb⟩ := boxN_new wS 28 #[.int .i64 op3, .int .i64 num3, .string str3, .slice ya yn yc, .slice za zn zc, .slice pa pn pc]
      have HDX := Lib.hid hdx
      have HDV := Lib.hid ((hy.keep (Same.of_below hdb (fun _ h => h))).mono (fun q hq => (show q < (wS.alloc (.cells #[.int .i64 op3, .int .i64 num3, .string str3, .slice ya yn yc, .slice za zn zc, .slice pa pn pc] 28)).heap.size from Nat.lt_of_lt_of_le hq hdb.size)))
      have hbD := belowStep hdb hbS
      replace HKX := Lib.hid ((HKX'.out.keep (Same.of_below hbD (fun _ h => h))).mono (fun q hq => (show q < (wS.alloc (.cells #[.int .i64 op3, .int .i64 num3, .string str3, .slice ya yn yc, .slice za zn zc, .slice pa pn pc] 28)).heap.size from Nat.lt_of_lt_of_le hq hbD.size)))
      replace HBK := Lib.hid (HBK.out.of_eq (hbD.block _ HBK.out.lt))
      replace HB := Lib.hid (belowStep hbD HB.out)
      clear hdx hdb hy hbD hbS HSU HKX' HBX
      go_upto_region 17 with fail
      generalize wS.alloc (.cells #[.int .i64 op3, .int .i64 num3, .string str3, .slice ya yn yc, .slice za zn zc, .slice pa pn pc] 28) = wD at *
      generalize wS.heap.size = BD at *
      by_cases h6 : f = 6
      · subst h6
        go_wp2
        go_ret
        exact ⟨rfl, HB.out⟩
      obtain ⟨rfl, ho, hc⟩ := HKE2.out h6
      have HC := Lib.hid (fun W (hW : Below w.heap.size w W) v z (h1 : ConV W (· < W.heap.size) d1 v) (h2 : KV W (· < W.heap.size) y z) => H6.out W hW d1 v y z h1 h2)
      rw [hc] at HC
      have HO2 := Lib.hid (H5.out _ HB.out _ _ HDV.out)
      rw [ho] at HO2
      clear HKE2 h6 ho hc H6 H5
      have d0 := HDX.out.cell 0 (.int .i64 op3) rfl
      have d1 := HDX.out.cell 1 (.int .i64 num3) rfl
      have d2 := HDX.out.cell 2 (.string str3) rfl
      have d3 := HDX.out.cell 3 (.slice ya yn yc) rfl
      have d4 := HDX.out.cell 4 (.slice za zn zc) rfl
      have d5 := HDX.out.cell 5 (.slice pa pn pc) rfl
      go_wp2_with fail
      refine HO2.out.mono ?_
      rintro e wE ⟨⟨ta, tn, tc, rfl, hk2⟩, hbE⟩
      have hk2 : KidV wE (Ext (fun x => x < wD.heap.size) wD wE) y (.slice ta tn tc) := hk2
      have qe : (KR.er (.ok y) == 0) = true := rfl
      generalize KR.er (.ok y) = er0 at *
      obtain rfl : er0 = 0 := by simpa using qe
      have hlt : ∀ q, Ext (fun x => x < wD.heap.size) wD wE q → q < wE.heap.size := fun q hq => by
        have h1 := hbE.size
        rcases hq with hq | hq
        · have hq : q < wD.heap.size := hq
          omega
        · exact hq.2
      obtain ⟨hbk, hbk2⟩ := boxN_new wE 24 #[.slice ta tn tc]
      have hbF := belowStep hbk2 hbE
      have HK2 := Lib.hid ((hk2.keep (Same.of_below hbk2 hlt)).mono (fun q hq => (show q < (wE.alloc (.cells #[.slice ta tn tc] 24)).heap.size from by rw [size_alloc]; have := hlt q hq; omega)))
      have HBK2 := Lib.hid hbk
      replace HKX := Lib.hid ((HKX.out.keep (Same.of_below hbF (fun _ h => h))).mono (fun q hq => (show q < (wE.alloc (.cells #[.slice ta tn tc] 24)).heap.size from Nat.lt_of_lt_of_le hq hbF.size)))
      replace HDV := Lib.hid ((HDV.out.keep (Same.of_below hbF (fun _ h => h))).mono (fun q hq => (show q < (wE.alloc (.cells #[.slice ta tn tc] 24)).heap.size from Nat.lt_of_lt_of_le hq hbF.size)))
      replace HBK := Lib.hid (HBK.out.of_eq (hbF.block _ HBK.out.lt))
      replace HDX := Lib.hid (HDX.out.of_eq (hbF.block _ HDX.out.lt))
      replace HB := Lib.hid (belowStep hbF HB.out)
      clear hbk hbk2 hbF hbE hlt hk2 qe HO2 d0 d1 d2 d3 d4 d5
      go_upto_region 20 with fail
      generalize wE.alloc (.cells #[.slice ta tn tc] 24) = wF at *
      generalize wE.heap.size = BE at *
      have HSK := Lib.hid (rsameK_any (· < wF.heap.size) (· < wF.heap.size) y y wF (.agg #[.slice ta tn tc]) (.agg #[.slice ra rn rc]) (fun _ h => h) (fun _ h => h) ⟨_, rfl, HK2.out⟩ ⟨_, rfl, HKX.out⟩)
      rw [(K.eqv_iff y y).2 rfl] at HSK
      have a0 := HBK2.out.cell 0 (.slice ta tn tc) rfl
      have b0 := HBK.out.cell 0 (.slice ra rn rc) rfl
      go_wp2_with fail
      clear a0 b0
      refine HSK.out.mono ?_
      rintro e wG ⟨rfl, hbG⟩
      have b0 := (HBK.out.of_eq (hbG.block _ HBK.out.lt)).cell 0 (.slice ra rn rc) rfl
      have hdx := HDX.out.of_eq (hbG.block _ HDX.out.lt)
      have d0 := hdx.cell 0 (.int .i64 op3) rfl
      have d1 := hdx.cell 1 (.int .i64 num3) rfl
      have d2 := hdx.cell 2 (.string str3) rfl
      have d3 := hdx.cell 3 (.slice ya yn yc) rfl
      have d4 := hdx.cell 4 (.slice za zn zc) rfl
      have d5 := hdx.cell 5 (.slice pa pn pc) rfl
      replace HB := Lib.hid (belowStep hbG HB.out)
      have HCH := Lib.hid (HC.out wG HB.out _ (.agg #[.slice ra rn rc]) ((HDV.out.keep (Same.of_below hbG (fun _ h => h))).mono (fun q hq => Nat.lt_of_lt_of_le hq hbG.size)) ⟨_, rfl, (HKX.out.keep (Same.of_below hbG (fun _ h => h))).mono (fun q hq => Nat.lt_of_lt_of_le hq hbG.size)⟩)
      clear hbG hdx HSK HC HDV HKX HK2 HBK HBK2 HDX
      go_wp2_with fail
      clear b0 d0 d1 d2 d3 d4 d5
      refine HCH.out.mono ?_
      rintro e wH ⟨rfl, hbH⟩
      replace HB := Lib.hid (belowStep hbH HB.out)
      clear hbH HCH
      go_wp2
      go_ret
      exact ⟨rfl, HB.out⟩
end Go.Proofs.Ytmjkeejinagokaa
