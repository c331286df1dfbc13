/-
  Layer 9: several texts in one (Uj Uk Ul).
-/
import Derived.Test.YtmjkeejinagokaaHf
namespace Go.Proofs.Ytmjkeejinagokaa
open Go Go.RowKit
open Pl (K Con KR KS kof kofs ownK inK appK)
set_option linter.unusedSimpArgs false
set_option linter.unusedVariables false

set_option maxRecDepth 100000 in
set_option maxHeartbeats 1000000 in
theorem rscope_any (P : Nat → Prop) (l : List K) (w : World) (v : Value) (hP : ∀ b, P b → b < w.heap.size) (ht : KSl w P v l) :
    Calls Try.prog 48 #[v] w fun e w' => e = .returned (.bool (scopeB l)) ∧ Below w.heap.size w w' := by
  obtain ⟨a, c, rfl, hlc, hcm, hka⟩ := ht.each
  clear ht
  have HP := Lib.hid hP
  have HKA := Lib.hid hka
  obtain ⟨R, hV⟩ : ∃ R, R = scopeB l := ⟨_, rfl⟩
  rw [← hV]
  unfold scopeB at hV
  obtain ⟨n, hn⟩ : ∃ n, n = l.length := ⟨_, rfl⟩
  have HN := Lib.hid hn
  rw [← hn] at hlc hV ⊢
  have hn63 : n ≤ 9223372036854775807 := by unfold maxLen at hcm; omega
  by_cases hbig : 1000 < n
  · have q1 : decide ((1000 : Int) < (n : Int)) = true := decide_eq_true (by omega)
    have HV := Lib.hid (show R = false from by rw [hV, decide_eq_false (by omega : ¬ n ≤ 1000)]; rfl)
    clear hV hka hn hP
    go_enter Try.func48, Try.ntmps48
    go_wp2
    go_ret
    exact ⟨by rw [HV.out]; rfl, Below.refl _ _⟩
  have q1 : decide ((1000 : Int) < (n : Int)) = false := decide_eq_false (by omega)
  rw [decide_eq_true (by omega : n ≤ 1000), Bool.true_and] at hV
  have HV := Lib.hid hV
  clear hka hn hcm hlc hV hP hbig
  go_enter Try.func48, Try.ntmps48
  go_wp2_with fail
  go_loopg [3] (n + 1) (fun g i wr => ∃ k : Nat, k ≤ n ∧ i = .int .i64 k ∧ g = n + 1 - k ∧ R = (l.drop k).all K.valid ∧ Below w.heap.size w wr)
  case atStart => exact ⟨0, by omega, rfl, by omega, by rw [List.drop_zero]; exact HV.out, Below.refl _ _⟩
  case round =>
    obtain ⟨k, hk, rfl, hg, hrk, hbw⟩ := hrel
    have HBW := Lib.hid hbw
    have HK := Lib.hid hrk
    by_cases hlt : k < n
    · have q5 : decide ((k : Int) < (n : Int)) = true := decide_eq_true (by omega)
      have hkl : k < l.length := by rw [← HN.out]; exact hlt
      obtain ⟨b, off, x, e, hPb, hx, hkx⟩ := HKA.out k hkl
      subst e
      obtain ⟨a7, c7, rfl⟩ := hkx.form
      have f0 := (HBW.out.cell (p := ⟨b, off + k, none⟩) (HP.out b hPb)).trans hx
      have HC := Lib.hid (rvalid_any P l[k] wr (.agg #[.slice a7 l[k].l.length c7]) (fun q hq => Nat.lt_of_lt_of_le (HP.out q hq) HBW.out.size) ⟨_, rfl, hkx.keep (Same.of_below HBW.out HP.out)⟩)
      have HST := Lib.hid (hrk.trans (all_step l k hkl))
      have HBN := HBW
      clear hrk hbw hx hkx hPb HK
      generalize K.valid l[k] = z at *
      generalize l[k].l.length = n7 at *
      go_wp2_with fail
      refine HC.out.mono ?_
      rintro e w3 ⟨rfl, hb3⟩
      replace HBN := Lib.hid (belowStep hb3 HBN.out)
      clear hb3 f0 HC
      cases z
      · have HF := Lib.hid (show R = false from HST.out)
        go_wp2
        go_ret
        exact ⟨by rw [HF.out]; rfl, HBN.out⟩
      · have HF := Lib.hid (show R = (l.drop (k + 1)).all K.valid from HST.out)
        go_wp2
        go_roundg (gk - 1)
        case measure => omega
        case rel => exact ⟨k + 1, by omega, by go_num, by omega, HF.out, HBN.out⟩
    · have q5 : decide ((k : Int) < (n : Int)) = false := decide_eq_false (by omega)
      have HF := Lib.hid (show R = true from by rw [HK.out, List.drop_of_length_le (by rw [← HN.out]; omega)]; rfl)
      clear hrk hbw
      go_wp2
      go_ret
      exact ⟨by rw [HF.out]; rfl, HBW.out⟩
set_option maxRecDepth 100000 in
theorem rgiven_any (P : Nat → Prop) (g : List K) (t : Con) (w : World) (gv v : Value) (hP : ∀ b, P b → b < w.heap.size) (hg : KSl w P gv g) (ht : ConV w P t v) :
    Calls Try.prog 21 #[gv, v] w fun e w' => e = .returned (.bool (givenB g t)) ∧ Below w.heap.size w w' := by
  have HS := Lib.hid (fun W (hW : Below w.heap.size w W) => rscope_any P g W gv (low_up hP hW) (hg.keep (Same.of_below hW hP)))
  have HT := Lib.hid (fun W (hW : Below w.heap.size w W) => rvalid9_any P t W v (low_up hP hW) (ht.keep (Same.of_below hW hP)))
  unfold givenB
  generalize scopeB g = r1 at *
  generalize Con.validB t = r2 at *
  obtain ⟨ka, kn, kc, na, nn, nc, la, ln, lc, rfl, -, -, -⟩ := ht.shape
  obtain ⟨ga, gc, rfl, -⟩ := hg.each
  generalize t.op = op at *
  generalize t.n = num at *
  generalize t.s = s at *
  generalize g.length = gn at *
  obtain ⟨hbx, hb⟩ := boxN_new w 28 #[.int .i64 op, .int .i64 num, .string s, .slice ka kn kc, .slice na nn nc, .slice la ln lc]
  have HB := Lib.hid hb
  have H1 := Lib.hid hbx
  clear hbx hb hg ht hP
  go_enter Try.func21, Try.ntmps21
  go_wp2_with fail
  generalize w.alloc (.cells #[.int .i64 op, .int .i64 num, .string s, .slice ka kn kc, .slice na nn nc, .slice la ln lc] 28) = w2 at *
  refine (HS.out _ HB.out).mono ?_
  rintro e w3 ⟨rfl, hb3⟩
  replace H1 := Lib.hid (H1.out.of_eq (hb3.block _ H1.out.lt))
  replace HB := Lib.hid (belowStep hb3 HB.out)
  clear hb3
  cases r1
  · go_wp2
    go_ret
    exact ⟨rfl, HB.out⟩
  have c0 := H1.out.cell 0 (.int .i64 op) rfl
  have c1 := H1.out.cell 1 (.int .i64 num) rfl
  have c2 := H1.out.cell 2 (.string s) rfl
  have c3 := H1.out.cell 3 (.slice ka kn kc) rfl
  have c4 := H1.out.cell 4 (.slice na nn nc) rfl
  have c5 := H1.out.cell 5 (.slice la ln lc) rfl
  go_wp2_with fail
  refine (HT.out _ HB.out).mono ?_
  rintro e w4 ⟨rfl, hb4⟩
  replace HB := Lib.hid (belowStep hb4 HB.out)
  clear hb4 c0 c1 c2 c3 c4 c5
  go_wp2
  go_ret
  exact ⟨rfl, HB.out⟩
theorem step_append_own {P : Program} {w : World} {ops : Array Oper} {o : Oper} {a : Act} {K : Act → World → Prop} {Q : Exit → Act → World → Prop} {E : Prop} (hgd : o.guard = none) (s x : Operand) (t : TypeId)
    (ho : o.op = .call { callee := .builtin .append, args := #[s, x], argTypes := #[t, t] })
    (base : Nat) (e : TypeId) (i : TypeInfo) (z : Value) (size bytes : Nat) (ht : P.underlying t = some (.slice e)) (hi : P.info? e = some i) (hz : i.zero = some z)
    (hsize : i.size = size) (hby : i.bytes = bytes) (hzs : z.cells.size = size) (hsz : 0 < size)
    (v : Value) (n : Nat) (xs : List Value) (hs : a.eval s = v) (hown : w.ownsRow base e size v n xs) (oa : Option Addr) (m c : Nat) (news : List Value) (hx : a.eval x = .slice oa m c) (hnone : oa = none → m = 0 ∧ c = 0) (hl : news.length = m * size) (hnews : ∀ ad, oa = some ad → ∀ j u, news[j]? = some u → w.cell? (ad.add j) = some u) (h1 : ∀ u ∈ news, u.oneCell' = true)
    (h63 : n + m ≤ maxLen) (hbytes : (n + m) * bytes ≤ 140737488355328) (hbase : base ≤ w.heap.size)
    (h : ∀ v' w', w'.ownsRow base e size v' (n + m) (xs ++ news) → w.grownBy w' v.ownBlock → K (a.put o.dst v') w') :
    if Region.wanted o (yielded ops a.tmps) = true then Oper.wp P o a w K Q else E := by
  have hw : Region.wanted o (yielded ops a.tmps) = true := by simp [Region.wanted, hgd]
  rw [if_pos hw]
  cases oa with
  | none =>
    obtain ⟨rfl, rfl⟩ := hnone rfl
    have hn : news = [] := List.eq_nil_of_length_eq_zero (by omega)
    subst hn
    have hh := h v w (by rw [Nat.add_zero, List.append_nil]; exact hown) ⟨rfl, rfl, rfl, Nat.le_refl _, fun _ _ _ => rfl⟩
    have hrun := run_append_owned_none (P := P) (w := w) base t o.type e i size ht hi v n xs hown
    unfold Oper.wp
    simp [execOp, ho, resolve, invoke, builtin, hs, hx, hrun, Result.andThen]
    exact hh
  | some ad => exact wp_append_own w s x t ho base e i z size bytes ht hi hz hsize hby hzs hsz v n xs hs hown ad m c news hx hl (hnews ad rfl) h1 h63 hbytes hbase fun v' w' h2 h3 _ => h v' w' h2 h3
/-- an empty row, at a block of its own -/
theorem own_empty {W : World} {base B : Nat} (h : Blk W B 24 #[]) (hB : base ≤ B) : W.ownsRow base 24 1 (.slice (some ⟨B, 0, none⟩) 0 0) 0 [] :=
  ⟨rfl, .inr ⟨B, 0, #[], rfl, hB, h, Nat.le_refl _, Nat.zero_le _, rfl, rfl⟩⟩
theorem cells_keep {w W : World} {ga : Option Addr} {us : List Value} (hb : Below w.heap.size w W) (h : ∀ ad, ga = some ad → ∀ j u, us[j]? = some u → w.cell? (ad.add j) = some u) : ∀ ad, ga = some ad → ∀ j u, us[j]? = some u → W.cell? (ad.add j) = some u := fun ad had j u hu => by
  have h := h ad had j u hu
  have hlt := World.block_lt_of_cell? _ _ h
  have := hb.block (ad.add j).block hlt
  simp only [World.cell?] at h ⊢
  rw [this]
  exact h
/-- one cell, in a block of its own -/
theorem lit_keep {W W' : World} {B : Nat} {x : Value} {row : Option Nat} (h : Blk W B 24 #[x]) (hg : W.grownBy W' row) (hn : row ≠ some B) : Blk W' B 24 #[x] := h.of_eq (hg.block _ h.lt (fun e => hn e.symm))
theorem lit_news {W : World} {B : Nat} {x : Value} (h : Blk W B 24 #[x]) : ∀ ad, (some (⟨B, 0, none⟩ : Addr)) = some ad → ∀ j u, [x][j]? = some u → W.cell? (ad.add j) = some u := fun ad had => by
  injection had with had
  subst had
  exact World.news_of_block (cs := #[x]) (t := 24) (fr := (0, 0)) h
theorem below_own10 {B : Nat} {a w w' W : World} {e : TypeId} {size n : Nat} {v : Value} {xs : List Value} (h : Below B a w') (ho : W.ownsRow B e size v n xs) (hg : w'.grownBy w v.ownBlock) (hs : B ≤ w'.heap.size) : Below B a w := h.grown hg hs (fun k hk => (ho.lt k hk).1)
set_option maxRecDepth 100000 in
set_option maxHeartbeats 2000000 in
theorem rwith_any (P : Nat → Prop) (g : List K) (k : K) (w : World) (v x : Value) (hP : ∀ b, P b → b < w.heap.size) (hg : KSl w P v g) (hk : KV w P k x) (hl : g.length ≤ 100000) :
    Calls Try.prog 57 #[v, x] w (ScP P (g ++ [k]) w) := by
  obtain ⟨ka, kc, rfl⟩ := hk.form
  obtain ⟨ga, gc, rfl, -⟩ := hg.each
  generalize hkn : k.l.length = kn at *
  obtain ⟨hbx, hb⟩ := boxN_new w 24 #[.slice ka kn kc]
  have HP := Lib.hid hP
  have HB := Lib.hid hb
  have H1 := Lib.hid hbx
  have hkk := hk.kid.keep (Same.of_below hb hP)
  have hgg := hg.keep (Same.of_below hb hP)
  obtain ⟨gn, hgn⟩ : ∃ gn, gn = g.length := ⟨_, rfl⟩
  rw [← hgn] at hgg hl ⊢
  have HGN := Lib.hid hgn
  clear hg hk hb hbx hgn hP hkn
  go_enter Try.func57, Try.ntmps57
  go_upto_region 1 with fail
  generalize w.alloc (.cells #[.slice ka kn kc] 24) = w2 at *
  obtain ⟨i28, hi0, hz0, hz1, hz2⟩ := info3 infoKind
  obtain ⟨-, hgc, hcm, hnone, us, hul, hcells, hone, hrow⟩ := kinds_us hgg
  have hlow : ∀ b, P b → b < w2.heap.size := fun b h => Nat.lt_of_lt_of_le (HP.out b h) HB.out.size
  have c3 := H1.out.cell 0 (.slice ka kn kc) rfl
  have hbE : Below w2.heap.size w2 (w2.alloc (.cells #[] 24)).drew := ((Below.refl w2.heap.size w2).alloc (Nat.le_refl _) _).drew
  have hbEL : Below w2.heap.size w2 ((w2.alloc (.cells #[] 24)).alloc (.cells #[.slice ka kn kc] 24)).drew := (below_new (below_new (Below.refl _ _))).drew
  have hbLE : Below w2.heap.size w2 ((w2.alloc (.cells #[.slice ka kn kc] 24)).alloc (.cells #[] 24)).drew := (below_new (below_new (Below.refl _ _))).drew
  have e1 := twoN_new w2 24 24 #[] #[.slice ka kn kc]
  have e2 := twoN_new w2 24 24 #[.slice ka kn kc] #[]
  have HO1 := Lib.hid (own_empty (base := w2.heap.size) (blk_new w2 #[] 24).drew (Nat.le_refl _))
  have HO2 := Lib.hid (own_empty (base := w2.heap.size) e1.1.drew (Nat.le_refl _))
  have HO3 := Lib.hid (own_empty (base := w2.heap.size) e2.2.1.drew (Nat.le_succ _))
  have HL2 := Lib.hid e1.2.1.drew
  have HL3 := Lib.hid e2.1.drew
  have HC1 := Lib.hid (cells_keep hbE hcells)
  have HC2 := Lib.hid (cells_keep hbEL hcells)
  have HC3 := Lib.hid (cells_keep hbLE hcells)
  have HBE := Lib.hid hbE
  have HBEL := Lib.hid hbEL
  have HBLE := Lib.hid hbLE
  have HROW := Lib.hid hrow
  have HKK := Lib.hid hkk
  have HLOW := Lib.hid hlow
  have HONE := Lib.hid hone
  have HFIN := Lib.hid (fun (W : World) (v' : Value) (hown : W.ownsRow w2.heap.size 24 1 v' (0 + gn + 1) ([] ++ us ++ [.slice ka kn kc])) (hsame : Same P w2 W) (hbw : Below w.heap.size w W) => (show ScP P (g ++ [k]) w (.returned v') W from by
    have hr : KindRow W P us g := HROW.out.keep hsame
    have hx : KidV W P k (.slice ka kn kc) := HKK.out.keep hsame
    have hs := HB.out.size
    rw [List.nil_append] at hown
    have hk := row_ksl hown (by rw [List.length_append, HGN.out]; simp) (hr.push hx) (S := Ext P w W) (fun b hb => .inl hb) (fun b h1 h2 => .inr ⟨by omega, h2⟩)
    obtain ⟨ra, rc, hv', -⟩ := hk.each
    subst hv'
    exact ⟨⟨_, _, _, rfl, hk⟩, hbw⟩))
  clear hcells hrow hbE hbEL hbLE e1 e2 hkk hgg hlow hone
  have HS1 := Lib.hid H1.out.lt
  have cE : (w2.alloc (.cells #[] 24)).cell? ⟨w.heap.size, 0, none⟩ = some (.slice ka kn kc) := (HBE.out.cell (p := ⟨w.heap.size, 0, none⟩) HS1.out).trans c3
  go_region_law (first
    | (refine step_append_own rfl (.tmp 5) (.tmp 6) 22 rfl w2.heap.size 24 i28 (.agg #[.slice none 0 0]) 1 24 Try.underlying22 hi0 hz0 hz1 hz2 rfl (by decide) (.slice (some ⟨w2.heap.size, 0, none⟩) 0 0) 0 [] (by simp [Act.eval, Act.put]) HO1.out ga gn gc us (by simp [Act.eval, Act.put]) hnone (by rw [hul, Nat.mul_one]) HC1.out HONE.out (by unfold maxLen; omega) (by omega) HBE.out.size ?_; intro v' w' hown hgrow; have HB1 := Lib.hid (HBE.out.grown hgrow HBE.out.size (fun q hq => by simp [Value.ownBlock] at hq; omega)); have c4 := ((HB1.out.cell (p := ⟨w.heap.size, 0, none⟩) HS1.out)).trans c3; have HOWN1 := Lib.hid hown; have HN1 := Lib.hid (blk_new w' #[.slice ka kn kc] 24); clear hown hgrow)
    | (refine step_append_own rfl (.tmp 5) (.tmp 6) 22 rfl w2.heap.size 24 i28 (.agg #[.slice none 0 0]) 1 24 Try.underlying22 hi0 hz0 hz1 hz2 rfl (by decide) (.slice (some ⟨w2.heap.size, 0, none⟩) 0 0) 0 [] (by simp [Act.eval, Act.put]) HO2.out ga gn gc us (by simp [Act.eval, Act.put]) hnone (by rw [hul, Nat.mul_one]) HC2.out HONE.out (by unfold maxLen; omega) (by omega) HBEL.out.size ?_; intro v' w' hown hgrow; have HB2 := Lib.hid (HBEL.out.grown hgrow HBEL.out.size (fun q hq => by simp [Value.ownBlock] at hq; omega)); have c4 := ((HB2.out.cell (p := ⟨w.heap.size, 0, none⟩) HS1.out)).trans c3; have HOWN2 := Lib.hid hown; have HN2 := Lib.hid (lit_keep HL2.out hgrow (by simp [Value.ownBlock])); clear hown hgrow)
    | (refine step_append_own rfl (.tmp 5) (.tmp 6) 22 rfl w2.heap.size 24 i28 (.agg #[.slice none 0 0]) 1 24 Try.underlying22 hi0 hz0 hz1 hz2 rfl (by decide) (.slice (some ⟨w2.heap.size + 1, 0, none⟩) 0 0) 0 [] (by simp [Act.eval, Act.put]) HO3.out ga gn gc us (by simp [Act.eval, Act.put]) hnone (by rw [hul, Nat.mul_one]) HC3.out HONE.out (by unfold maxLen; omega) (by omega) HBLE.out.size ?_; intro v' w' hown hgrow; have HB3 := Lib.hid (HBLE.out.grown hgrow HBLE.out.size (fun q hq => by simp [Value.ownBlock] at hq; omega)); have c4 := ((HB3.out.cell (p := ⟨w.heap.size, 0, none⟩) HS1.out)).trans c3; have HOWN3 := Lib.hid hown; have HN3 := Lib.hid (lit_keep HL3.out hgrow (by simp [Value.ownBlock])); clear hown hgrow)
    | (refine step_append_own rfl (.tmp 7) (.tmp 9) 22 rfl w2.heap.size 24 i28 (.agg #[.slice none 0 0]) 1 24 Try.underlying22 hi0 hz0 hz1 hz2 rfl (by decide) v' (0 + gn) ([] ++ us) (by simp [Act.eval, Act.put]) (HOWN1.out.alloc _) (some ⟨w'.heap.size, 0, none⟩) 1 1 [.slice ka kn kc] (by simp [Act.eval, Act.put]) (fun h => by cases h) rfl (lit_news HN1.out) (by simp [Value.oneCell']) (by unfold maxLen; omega) (by omega) (by have := HB1.out.size; simp; omega) ?_; intro v2 w9 hown hgrow; have HBF := Lib.hid (below_own10 (below_new HB1.out) HOWN1.out hgrow (below_new HB1.out).size); have HOWF := Lib.hid hown; clear hown hgrow)
    | (refine step_append_own rfl (.tmp 7) (.tmp 9) 22 rfl w2.heap.size 24 i28 (.agg #[.slice none 0 0]) 1 24 Try.underlying22 hi0 hz0 hz1 hz2 rfl (by decide) v' (0 + gn) ([] ++ us) (by simp [Act.eval, Act.put]) HOWN2.out (some ⟨w2.heap.size + 1, 0, none⟩) 1 1 [.slice ka kn kc] (by simp [Act.eval, Act.put]) (fun h => by cases h) rfl (lit_news HN2.out) (by simp [Value.oneCell']) (by unfold maxLen; omega) (by omega) (by have := HB2.out.size; simp; omega) ?_; intro v2 w9 hown hgrow; have HBF := Lib.hid (below_own10 HB2.out HOWN2.out hgrow HB2.out.size); have HOWF := Lib.hid hown; clear hown hgrow)
    | (refine step_append_own rfl (.tmp 7) (.tmp 9) 22 rfl w2.heap.size 24 i28 (.agg #[.slice none 0 0]) 1 24 Try.underlying22 hi0 hz0 hz1 hz2 rfl (by decide) v' (0 + gn) ([] ++ us) (by simp [Act.eval, Act.put]) HOWN3.out (some ⟨w2.heap.size, 0, none⟩) 1 1 [.slice ka kn kc] (by simp [Act.eval, Act.put]) (fun h => by cases h) rfl (lit_news HN3.out) (by simp [Value.oneCell']) (by unfold maxLen; omega) (by omega) (by have := HB3.out.size; simp; omega) ?_; intro v2 w9 hown hgrow; have HBF := Lib.hid (below_own10 HB3.out HOWN3.out hgrow HB3.out.size); have HOWF := Lib.hid hown; clear hown hgrow)
    | fail)
  all_goals
    have HEND := Lib.hid (HFIN.out _ _ HOWF.out (Same.of_below HBF.out HLOW.out) (belowStep HBF.out HB.out))
    clear HFIN HOWF HBF
    go_wp2
    go_ret
    exact HEND.out
end Go.Proofs.Ytmjkeejinagokaa
namespace Go.Proofs.Ytmjkeejinagokaa
open Go Go.RowKit
open Pl (K Con KR KS kof kofs ownK inK appK)
set_option linter.unusedSimpArgs false
set_option linter.unusedVariables false

theorem eqv_comm (a b : K) : K.eqv a b = K.eqv b a := by
  rw [Bool.eq_iff_iff, K.eqv_iff, K.eqv_iff]
  exact ⟨Eq.symm, Eq.symm⟩
theorem pair_form {w : World} {P : Nat → Prop} {t u : K} {y : Value} (h : KV w P (.mk [t, u]) y) : ∃ a c, y = .agg #[.slice a 2 c] := by
  obtain ⟨a, c, rfl⟩ := h.form
  exact ⟨a, c, rfl⟩
/-- a pair in a box of its own, made ahead of it or behind -/
def PairAt (P : Nat → Prop) (k : K) (w2 W : World) (s : Value) : Prop := ∃ b ya yc, s = .pointer (some ⟨b, 0, none⟩) ∧ Blk W b 24 #[.slice ya 2 yc] ∧ KidV W (fun q => (P q ∨ (w2.heap.size ≤ q ∧ q < W.heap.size)) ∧ q ≠ b) k (.slice ya 2 yc) ∧ Below w2.heap.size w2 W ∧ w2.heap.size ≤ b
theorem pair1 {P : Nat → Prop} {k : K} {w2 w3 : World} {ya : Option Addr} {yc : Nat} (hP : ∀ b, P b → b < w2.heap.size) (hb : Below w2.drew.heap.size w2.drew w3) (hy : KV w3 (Ext P w2.drew w3) k (.agg #[.slice ya 2 yc])) : PairAt P k w2 (w3.alloc (.cells #[.slice ya 2 yc] 24)) (.pointer (some ⟨w3.heap.size, 0, none⟩)) := by
  have hb' : Below w2.heap.size w2 w3 := (Below.refl w2.heap.size w2).drew.trans hb
  have hs := hb'.size
  obtain ⟨h1, h2⟩ := boxN_new w3 24 #[.slice ya 2 yc]
  have hss := h2.size
  refine ⟨_, ya, yc, rfl, h1, (hy.kid.keep (Same.of_below h2 (fun q hq => ?_))).mono (fun q hq => ?_), belowStep h2 hb', hs⟩
  · rcases hq with hq | hq
    · have := hP q hq; omega
    · exact hq.2
  · rcases hq with hq | hq
    · exact ⟨.inl hq, by have := hP q hq; omega⟩
    · have h5 : w2.heap.size ≤ q := hq.1
      have h6 := hq.2
      exact ⟨.inr ⟨h5, by omega⟩, by omega⟩
theorem pair2 {P : Nat → Prop} {k : K} {w2 w3 : World} {ya : Option Addr} {yc : Nat} (hP : ∀ b, P b → b < w2.heap.size) (hb : Below (w2.alloc (.cells #[.slice none 0 0] 24)).drew.heap.size (w2.alloc (.cells #[.slice none 0 0] 24)).drew w3) (hy : KV w3 (Ext P (w2.alloc (.cells #[.slice none 0 0] 24)).drew w3) k (.agg #[.slice ya 2 yc])) : PairAt P k w2 (w3.setCell ⟨w2.heap.size, 0, none⟩ (.slice ya 2 yc)) (.pointer (some ⟨w2.heap.size, 0, none⟩)) := by
  obtain ⟨h1, h2⟩ := boxN_new w2 24 #[.slice none 0 0]
  have hb' : Below w2.heap.size w2 w3 := belowStep hb h2.drew
  have hz : Blk w3 w2.heap.size 24 #[.slice none 0 0] := (h1.drew).of_eq (hb.block _ h1.drew.lt)
  have hs := hb'.size
  refine ⟨_, ya, yc, rfl, blk_one hz, (hy.kid.keep (Same.set (w := w3) ⟨w2.heap.size, 0, none⟩ (.slice ya 2 yc) (fun q hq e => ?_))).mono (fun q hq => ?_), below_set hb' (Nat.le_refl _) _, Nat.le_refl _⟩
  · have e : q = w2.heap.size := e
    rcases hq with hq | hq
    · have := hP q hq; omega
    · have h5 : (w2.alloc (.cells #[.slice none 0 0] 24)).heap.size ≤ q := hq.1
      rw [size_alloc] at h5
      omega
  · rcases hq with hq | hq
    · exact ⟨.inl hq, by have := hP q hq; omega⟩
    · have h5 : (w2.alloc (.cells #[.slice none 0 0] 24)).heap.size ≤ q := hq.1
      rw [size_alloc] at h5
      exact ⟨.inr ⟨by omega, by rw [size_set]; exact hq.2⟩, by omega⟩
theorem none_len (t : Con) (h : Con.nodeB t = true) (ho : t.op = 3 ∨ t.op = 4 ∨ t.op = 5) : t.l.length = 0 := by
  unfold Con.nodeB at h
  simp only [Bool.and_eq_true] at h
  obtain ⟨-, hs, -⟩ := h
  unfold Con.shapeB at hs
  have hp : Con.partsOf t.op = 0 := by rcases ho with ho | ho | ho <;> rw [ho] <;> rfl
  rw [hp, if_pos (by decide), Bool.and_eq_true, decide_eq_true_eq] at hs
  omega
theorem below_drewN10 {B : Nat} {a w : World} (h : Below B a w) (n : Nat) : Below B a (w.drewN n) := ⟨h.os, h.tape, h.output, h.size, h.block⟩
theorem KidV.drew {w : World} {P : Nat → Prop} {t : K} {v : Value} (h : KidV w P t v) : KidV w.drew P t v := h.keep (show Same P w w.drew from fun _ _ => rfl)
theorem op_range (t : Con) (h : Con.nodeB t = true) : 1 ≤ t.op ∧ t.op ≤ 13 := by
  unfold Con.nodeB at h
  simp only [Bool.and_eq_true, decide_eq_true_eq] at h
  exact h.1

set_option maxRecDepth 100000 in
set_option maxHeartbeats 4000000 in
theorem own_var (P : Nat → Prop) (g ks : List K) (t : Con) (w : World) (v x y : Value) (hP : ∀ b, P b → b < w.heap.size) (hg : KSl w P v g) (ht : ConV w P t x) (hs : KSl w P y ks) (hn : Con.nodeB t = true) (hl : ks.length = t.l.length) (hv : ∀ k ∈ ks, K.valid k = true) (hcase : t.op = 1) :
    Calls Try.prog 58 #[v, x, y] w (KrP P (ownK g.reverse t.op t.n t.kind ks) w) := by
  have hkv := kind_valid t hn
  have hnb := nodeB_n t hn
  have hsl := shape_len t hn
  have hsl0 := none_len t hn
  obtain ⟨R, hV⟩ : ∃ R : KR, R = ownK g.reverse t.op t.n t.kind ks := ⟨_, rfl⟩
  rw [← hV]
  obtain ⟨ka, kn, kc, na, nn, nc, la, ln, lc, rfl, -, -, -⟩ := ht.shape
  have hkd : KidV w P t.kind (.slice ka kn kc) := by
    obtain ⟨hs, kv', nv', lv', e, hk, hn, hl⟩ := (conV_iff _ _ _ _).1 ht
    simp only [Value.agg.injEq, Array.mk.injEq, List.cons.injEq, and_true, true_and] at e
    obtain ⟨rfl, rfl, rfl⟩ := e
    exact hk
  obtain ⟨ya, yc, rfl, -, hycm, -⟩ := hs.each
  obtain ⟨ga, gc, rfl, -, hgcm, -⟩ := hg.each
  have hm63 : ks.length ≤ 9223372036854775807 := by
    obtain ⟨a', c', e, h1, h2, -⟩ := hs.each
    injection e with e1 e2 e3
    unfold maxLen at h2; omega
  have hg63 : g.length ≤ 9223372036854775807 := by
    obtain ⟨a', c', e, h1, h2, -⟩ := hg.each
    injection e with e1 e2 e3
    unfold maxLen at h2; omega
  have HS := Lib.hid (fun W (hW : Below w.heap.size w W) => hs.keep (Same.of_below hW hP))
  have HGG := Lib.hid (fun W (hW : Below w.heap.size w W) => hg.keep (Same.of_below hW hP))
  have HK := Lib.hid (fun W (hW : Below w.heap.size w W) => hkd.keep (Same.of_below hW hP))
  have HLO := Lib.hid (fun W (hW : Below w.heap.size w W) => low_up hP hW)
  obtain ⟨yn, hyn⟩ : ∃ yn, yn = ks.length := ⟨_, rfl⟩
  rw [← hyn] at HS hm63 ⊢
  obtain ⟨gn, hgn⟩ : ∃ gn, gn = g.length := ⟨_, rfl⟩
  rw [← hgn] at HGG hg63 ⊢
  generalize t.n = num at *
  generalize t.s = s at *
  obtain ⟨op, hop⟩ : ∃ op, op = t.op := ⟨_, rfl⟩
  rw [← hop] at hV hsl hsl0 hcase ⊢
  obtain ⟨hbx, hbx2, hb⟩ := twoN_new w 28 24 #[.int .i64 op, .int .i64 num, .string s, .slice ka kn kc, .slice na nn nc, .slice la ln lc] #[.slice none 0 0]
  have HP := Lib.hid hP
  have HB := Lib.hid hb
  have H1 := Lib.hid hbx
  have HR := Lib.hid hbx2
  have HG := Lib.hid (Nat.le_succ w.heap.size)
  have HRL := Lib.hid hbx2.lt
  have HCASE := Lib.hid hcase
  have HV0 := Lib.hid hV
  have HYN := Lib.hid hyn
  have HGN := Lib.hid hgn
  have HLL := Lib.hid hl
  have HSL := Lib.hid hsl
  have HSL0 := Lib.hid hsl0
  have HVK := Lib.hid hv
  have HNB := Lib.hid hnb
  have HKV := Lib.hid hkv
  clear hP hs hg ht hkd hb hbx hbx2 hn hop hcase hV hyn hgn hl hsl hsl0 hv hnb hycm hgcm hkv
  go_enter Try.func58, Try.ntmps58
  go_upto_region 1 with fail
  generalize (w.alloc (.cells #[.int .i64 op, .int .i64 num, .string s, .slice ka kn kc, .slice na nn nc, .slice la ln lc] 28)).alloc (.cells #[.slice none 0 0] 24) = w2 at *
  go_wp2_with fail
  go_loopg [9, 10] (yn + 1) (fun g st i wr => ∃ k : Nat, k ≤ yn ∧ i = .int .i64 k ∧ st = .bool ((ks.take k).all (fun k => k.l.length == 0)) ∧ g = yn + 1 - k ∧ wr = w2)
  case atStart => exact ⟨0, by omega, rfl, by rw [List.take_zero]; rfl, by omega, rfl⟩
  case round =>
    obtain ⟨k, hk, rfl, rfl, hgk, rfl⟩ := hrel
    by_cases hlt : k < yn
    · have q5 : decide ((k : Int) < (yn : Int)) = true := decide_eq_true (by omega)
      have hkl : k < ks.length := by rw [← HYN.out]; exact hlt
      have hst := all_take_step (fun k : K => k.l.length == 0) ks k hkl
      obtain ⟨r1, hr1⟩ : ∃ r1, r1 = (ks.take k).all (fun k => k.l.length == 0) := ⟨_, rfl⟩
      rw [← hr1] at hst ⊢
      clear hr1
      cases r1
      · have HF := Lib.hid (show (ks.take (k + 1)).all (fun k => k.l.length == 0) = false from by rw [hst]; rfl)
        clear hst
        go_wp2
        go_roundg (gk - 1)
        case measure => omega
        case rel => exact ⟨k + 1, by omega, by go_num, by rw [HF.out], by omega, rfl⟩
      · obtain ⟨-, b, off, e, hPb, hke⟩ := ksl_at (HS.out wr HB.out) (by omega)
        subst e
        obtain ⟨a5, c5, e5, -, -, hea⟩ := (HS.out wr HB.out).each
        injection e5 with e5 e6 e7
        subst e5 e7
        obtain ⟨b7, o7, x7, e8, -, f0, hk7⟩ := hea k hkl
        injection e8 with e8
        injection e8 with e8 e9 e10
        subst e8 e9
        obtain ⟨a7, c7, rfl⟩ := hk7.form
        have hz : ((ks[k].l.length : Int) == 0) = (ks[k].l.length == 0) := by cases ks[k].l.length <;> rfl
        have HF := Lib.hid (show (ks.take (k + 1)).all (fun k => k.l.length == 0) = (ks[k].l.length == 0) from by rw [hst]; rfl)
        generalize ks[k].l.length = n7 at HF hz f0
        have HZ := Lib.hid hz
        clear hst hea hke hk7 hz e6
        go_wp2
        go_roundg (gk - 1)
        case measure => omega
        case rel => exact ⟨k + 1, by omega, by go_num, by rw [HF.out]; first | rfl | (rw [HZ.out]; done) | (rw [← HZ.out]; done) | (congr 1; exact HZ.out) | (congr 1; exact HZ.out.symm), by omega, rfl⟩
    · have q5 : decide ((k : Int) < (yn : Int)) = false := decide_eq_false (by omega)
      obtain rfl : k = yn := by omega
      have hst : (ks.take k).all (fun k => k.l.length == 0) = ks.all (fun k => k.l.length == 0) := by rw [HYN.out, List.take_length]
      rw [hst]
      obtain ⟨st, hst2⟩ : ∃ st, st = ks.all (fun k => k.l.length == 0) := ⟨_, rfl⟩
      rw [← hst2]
      have HST := Lib.hid hst2
      clear hst hst2
      have c0 := H1.out.cell 0 (.int .i64 op) rfl
      have c1 := H1.out.cell 1 (.int .i64 num) rfl
      have c3 := H1.out.cell 3 (.slice ka kn kc) rfl
      have hV := HV0.out
      unfold ownK at hV
      have hcase := HCASE.out
      subst hcase
      rw [if_pos rfl] at hV
      replace hV : R = varK g.reverse num := hV
      clear c3
      by_cases hc : (gn : Int) ≤ num
      · have q1 : decide ((gn : Int) ≤ num) = true := decide_eq_true hc
        have HV := Lib.hid (show R = .bad 10 [] from hV.trans (varK_out g num (by have := HGN.out; omega)))
        clear hV
        have hr9 := HR.out
        have c9 := hr9.cell 0 (.slice none 0 0) rfl
        have f9 := hr9.thaw 0
        have HE1 := Lib.hid (blk_one (y := .slice none 0 0) hr9)
        have HE := Lib.hid (krp_bad (P := P) HV.out (below_set HB.out HG.out (.slice none 0 0)))
        have HE0 := Lib.hid (krp_bad (P := P) HV.out HB.out)
        clear hr9
        go_wp2
        have d9 := HE1.out.cell 0 (.slice none 0 0) rfl
        refine bodyPost_ret (v := .tuple #[.agg #[.slice none 0 0], .int .i64 10]) (by first | (simp [results, Try.results58, go_sem, d9]; done) | (simp [results, Try.results58, go_sem, c9]; done)) rfl ?_
        first | exact HE.out | exact HE0.out
      · have q1 : decide ((gn : Int) ≤ num) = false := decide_eq_false hc
        obtain ⟨j, hj⟩ : ∃ j : Nat, (gn : Int) - 1 - num = j := ⟨((gn : Int) - 1 - num).toNat, by omega⟩
        have hnn := HNB.out
        have hjn : j < gn := by omega
        have hjl : j < g.length := by rw [← HGN.out]; exact hjn
        have HV := Lib.hid (show R = .ok g[j] from hV.trans (varK_in g num hnn.1 (by have := HGN.out; omega) j (by have := HGN.out; omega) hjl))
        obtain ⟨a5, c5, e5, -, -, hea⟩ := (HGG.out wr HB.out).each
        injection e5 with e5 e6 e7
        subst e5 e7
        obtain ⟨b, off, x, e, hPb, f0, hkx⟩ := hea j hjl
        subst e
        obtain ⟨a7, c7, rfl⟩ := hkx.form
        have w1 : wrap64 ((gn : Int) - 1) = (gn : Int) - 1 := by rw [wrap64]; omega
        have w2' : wrap64 ((gn : Int) - 1 - num) = (j : Int) := by rw [wrap64, hj]; omega
        have HX := Lib.hid (hkx.mono (fun q hq => (show Ext1 P w wr (w.heap.size + 1) q from ⟨.inl hq, by have := HP.out q hq; omega⟩)))
        generalize g[j].l.length = n7 at HX f0
        clear hkx hPb hea hV e6
        have hr9 := HR.out
        have c9 := hr9.cell 0 (.slice none 0 0) rfl
        have f9 := hr9.thaw 0
        have HE1 := Lib.hid (blk_one (y := .slice a7 n7 c7) hr9)
        have HE := Lib.hid (krp_end (P := P) HV.out HG.out HB.out ⟨rfl, HX.out⟩)
        clear hr9
        go_wp2
        have d9 := HE1.out.cell 0 (.slice a7 n7 c7) rfl
        refine bodyPost_ret (v := .tuple #[.agg #[.slice a7 n7 c7], .int .i64 0]) (by simp [results, Try.results58, go_sem, d9]) rfl ?_
        exact HE.out
set_option maxRecDepth 100000 in
set_option maxHeartbeats 4000000 in
theorem own_const (P : Nat → Prop) (g ks : List K) (t : Con) (w : World) (v x y : Value) (hP : ∀ b, P b → b < w.heap.size) (hg : KSl w P v g) (ht : ConV w P t x) (hs : KSl w P y ks) (hn : Con.nodeB t = true) (hl : ks.length = t.l.length) (hv : ∀ k ∈ ks, K.valid k = true) (hcase : t.op = 2) :
    Calls Try.prog 58 #[v, x, y] w (KrP P (ownK g.reverse t.op t.n t.kind ks) w) := by
  have hkv := kind_valid t hn
  have hnb := nodeB_n t hn
  have hsl := shape_len t hn
  have hsl0 := none_len t hn
  obtain ⟨R, hV⟩ : ∃ R : KR, R = ownK g.reverse t.op t.n t.kind ks := ⟨_, rfl⟩
  rw [← hV]
  obtain ⟨ka, kn, kc, na, nn, nc, la, ln, lc, rfl, -, -, -⟩ := ht.shape
  have hkd : KidV w P t.kind (.slice ka kn kc) := by
    obtain ⟨hs, kv', nv', lv', e, hk, hn, hl⟩ := (conV_iff _ _ _ _).1 ht
    simp only [Value.agg.injEq, Array.mk.injEq, List.cons.injEq, and_true, true_and] at e
    obtain ⟨rfl, rfl, rfl⟩ := e
    exact hk
  obtain ⟨ya, yc, rfl, -, hycm, -⟩ := hs.each
  obtain ⟨ga, gc, rfl, -, hgcm, -⟩ := hg.each
  have hm63 : ks.length ≤ 9223372036854775807 := by
    obtain ⟨a', c', e, h1, h2, -⟩ := hs.each
    injection e with e1 e2 e3
    unfold maxLen at h2; omega
  have hg63 : g.length ≤ 9223372036854775807 := by
    obtain ⟨a', c', e, h1, h2, -⟩ := hg.each
    injection e with e1 e2 e3
    unfold maxLen at h2; omega
  have HS := Lib.hid (fun W (hW : Below w.heap.size w W) => hs.keep (Same.of_below hW hP))
  have HGG := Lib.hid (fun W (hW : Below w.heap.size w W) => hg.keep (Same.of_below hW hP))
  have HK := Lib.hid (fun W (hW : Below w.heap.size w W) => hkd.keep (Same.of_below hW hP))
  have HLO := Lib.hid (fun W (hW : Below w.heap.size w W) => low_up hP hW)
  obtain ⟨yn, hyn⟩ : ∃ yn, yn = ks.length := ⟨_, rfl⟩
  rw [← hyn] at HS hm63 ⊢
  obtain ⟨gn, hgn⟩ : ∃ gn, gn = g.length := ⟨_, rfl⟩
  rw [← hgn] at HGG hg63 ⊢
  generalize t.n = num at *
  generalize t.s = s at *
  obtain ⟨op, hop⟩ : ∃ op, op = t.op := ⟨_, rfl⟩
  rw [← hop] at hV hsl hsl0 hcase ⊢
  obtain ⟨hbx, hbx2, hb⟩ := twoN_new w 28 24 #[.int .i64 op, .int .i64 num, .string s, .slice ka kn kc, .slice na nn nc, .slice la ln lc] #[.slice none 0 0]
  have HP := Lib.hid hP
  have HB := Lib.hid hb
  have H1 := Lib.hid hbx
  have HR := Lib.hid hbx2
  have HG := Lib.hid (Nat.le_succ w.heap.size)
  have HRL := Lib.hid hbx2.lt
  have HCASE := Lib.hid hcase
  have HV0 := Lib.hid hV
  have HYN := Lib.hid hyn
  have HGN := Lib.hid hgn
  have HLL := Lib.hid hl
  have HSL := Lib.hid hsl
  have HSL0 := Lib.hid hsl0
  have HVK := Lib.hid hv
  have HNB := Lib.hid hnb
  have HKV := Lib.hid hkv
  clear hP hs hg ht hkd hb hbx hbx2 hn hop hcase hV hyn hgn hl hsl hsl0 hv hnb hycm hgcm hkv
  go_enter Try.func58, Try.ntmps58
  go_upto_region 1 with fail
  generalize (w.alloc (.cells #[.int .i64 op, .int .i64 num, .string s, .slice ka kn kc, .slice na nn nc, .slice la ln lc] 28)).alloc (.cells #[.slice none 0 0] 24) = w2 at *
  go_wp2_with fail
  go_loopg [9, 10] (yn + 1) (fun g st i wr => ∃ k : Nat, k ≤ yn ∧ i = .int .i64 k ∧ st = .bool ((ks.take k).all (fun k => k.l.length == 0)) ∧ g = yn + 1 - k ∧ wr = w2)
  case atStart => exact ⟨0, by omega, rfl, by rw [List.take_zero]; rfl, by omega, rfl⟩
  case round =>
    obtain ⟨k, hk, rfl, rfl, hgk, rfl⟩ := hrel
    by_cases hlt : k < yn
    · have q5 : decide ((k : Int) < (yn : Int)) = true := decide_eq_true (by omega)
      have hkl : k < ks.length := by rw [← HYN.out]; exact hlt
      have hst := all_take_step (fun k : K => k.l.length == 0) ks k hkl
      obtain ⟨r1, hr1⟩ : ∃ r1, r1 = (ks.take k).all (fun k => k.l.length == 0) := ⟨_, rfl⟩
      rw [← hr1] at hst ⊢
      clear hr1
      cases r1
      · have HF := Lib.hid (show (ks.take (k + 1)).all (fun k => k.l.length == 0) = false from by rw [hst]; rfl)
        clear hst
        go_wp2
        go_roundg (gk - 1)
        case measure => omega
        case rel => exact ⟨k + 1, by omega, by go_num, by rw [HF.out], by omega, rfl⟩
      · obtain ⟨-, b, off, e, hPb, hke⟩ := ksl_at (HS.out wr HB.out) (by omega)
        subst e
        obtain ⟨a5, c5, e5, -, -, hea⟩ := (HS.out wr HB.out).each
        injection e5 with e5 e6 e7
        subst e5 e7
        obtain ⟨b7, o7, x7, e8, -, f0, hk7⟩ := hea k hkl
        injection e8 with e8
        injection e8 with e8 e9 e10
        subst e8 e9
        obtain ⟨a7, c7, rfl⟩ := hk7.form
        have hz : ((ks[k].l.length : Int) == 0) = (ks[k].l.length == 0) := by cases ks[k].l.length <;> rfl
        have HF := Lib.hid (show (ks.take (k + 1)).all (fun k => k.l.length == 0) = (ks[k].l.length == 0) from by rw [hst]; rfl)
        generalize ks[k].l.length = n7 at HF hz f0
        have HZ := Lib.hid hz
        clear hst hea hke hk7 hz e6
        go_wp2
        go_roundg (gk - 1)
        case measure => omega
        case rel => exact ⟨k + 1, by omega, by go_num, by rw [HF.out]; first | rfl | (rw [HZ.out]; done) | (rw [← HZ.out]; done) | (congr 1; exact HZ.out) | (congr 1; exact HZ.out.symm), by omega, rfl⟩
    · have q5 : decide ((k : Int) < (yn : Int)) = false := decide_eq_false (by omega)
      obtain rfl : k = yn := by omega
      have hst : (ks.take k).all (fun k => k.l.length == 0) = ks.all (fun k => k.l.length == 0) := by rw [HYN.out, List.take_length]
      rw [hst]
      obtain ⟨st, hst2⟩ : ∃ st, st = ks.all (fun k => k.l.length == 0) := ⟨_, rfl⟩
      rw [← hst2]
      have HST := Lib.hid hst2
      clear hst hst2
      have c0 := H1.out.cell 0 (.int .i64 op) rfl
      have c1 := H1.out.cell 1 (.int .i64 num) rfl
      have c3 := H1.out.cell 3 (.slice ka kn kc) rfl
      have hV := HV0.out
      unfold ownK at hV
      have hcase := HCASE.out
      rw [if_neg (by omega)] at hV
      subst hcase
      rw [if_pos rfl] at hV
      have HV := Lib.hid hV
      have HX := Lib.hid ((HK.out wr HB.out).mono (fun q hq => (show Ext1 P w wr (w.heap.size + 1) q from ⟨.inl hq, by have := HP.out q hq; omega⟩)))
      clear hV c1
      have hr9 := HR.out
      have c9 := hr9.cell 0 (.slice none 0 0) rfl
      have f9 := hr9.thaw 0
      have HE1 := Lib.hid (blk_one (y := .slice ka kn kc) hr9)
      have HE := Lib.hid (krp_end (P := P) HV.out HG.out HB.out ⟨rfl, HX.out⟩)
      clear hr9
      go_wp2
      have d9 := HE1.out.cell 0 (.slice ka kn kc) rfl
      refine bodyPost_ret (v := .tuple #[.agg #[.slice ka kn kc], .int .i64 0]) (by simp [results, Try.results58, go_sem, d9]) rfl ?_
      exact HE.out
set_option maxRecDepth 100000 in
set_option maxHeartbeats 4000000 in
theorem own_3 (P : Nat → Prop) (g ks : List K) (t : Con) (w : World) (v x y : Value) (hP : ∀ b, P b → b < w.heap.size) (hg : KSl w P v g) (ht : ConV w P t x) (hs : KSl w P y ks) (hn : Con.nodeB t = true) (hl : ks.length = t.l.length) (hv : ∀ k ∈ ks, K.valid k = true) (hcase : t.op = 3) :
    Calls Try.prog 58 #[v, x, y] w (KrP P (ownK g.reverse t.op t.n t.kind ks) w) := by
  have hkv := kind_valid t hn
  have hnb := nodeB_n t hn
  have hsl := shape_len t hn
  have hsl0 := none_len t hn
  obtain ⟨R, hV⟩ : ∃ R : KR, R = ownK g.reverse t.op t.n t.kind ks := ⟨_, rfl⟩
  rw [← hV]
  obtain ⟨ka, kn, kc, na, nn, nc, la, ln, lc, rfl, -, -, -⟩ := ht.shape
  have hkd : KidV w P t.kind (.slice ka kn kc) := by
    obtain ⟨hs, kv', nv', lv', e, hk, hn, hl⟩ := (conV_iff _ _ _ _).1 ht
    simp only [Value.agg.injEq, Array.mk.injEq, List.cons.injEq, and_true, true_and] at e
    obtain ⟨rfl, rfl, rfl⟩ := e
    exact hk
  obtain ⟨ya, yc, rfl, -, hycm, -⟩ := hs.each
  obtain ⟨ga, gc, rfl, -, hgcm, -⟩ := hg.each
  have hm63 : ks.length ≤ 9223372036854775807 := by
    obtain ⟨a', c', e, h1, h2, -⟩ := hs.each
    injection e with e1 e2 e3
    unfold maxLen at h2; omega
  have hg63 : g.length ≤ 9223372036854775807 := by
    obtain ⟨a', c', e, h1, h2, -⟩ := hg.each
    injection e with e1 e2 e3
    unfold maxLen at h2; omega
  have HS := Lib.hid (fun W (hW : Below w.heap.size w W) => hs.keep (Same.of_below hW hP))
  have HGG := Lib.hid (fun W (hW : Below w.heap.size w W) => hg.keep (Same.of_below hW hP))
  have HK := Lib.hid (fun W (hW : Below w.heap.size w W) => hkd.keep (Same.of_below hW hP))
  have HLO := Lib.hid (fun W (hW : Below w.heap.size w W) => low_up hP hW)
  obtain ⟨yn, hyn⟩ : ∃ yn, yn = ks.length := ⟨_, rfl⟩
  rw [← hyn] at HS hm63 ⊢
  obtain ⟨gn, hgn⟩ : ∃ gn, gn = g.length := ⟨_, rfl⟩
  rw [← hgn] at HGG hg63 ⊢
  generalize t.n = num at *
  generalize t.s = s at *
  obtain ⟨op, hop⟩ : ∃ op, op = t.op := ⟨_, rfl⟩
  rw [← hop] at hV hsl hsl0 hcase ⊢
  obtain ⟨hbx, hbx2, hb⟩ := twoN_new w 28 24 #[.int .i64 op, .int .i64 num, .string s, .slice ka kn kc, .slice na nn nc, .slice la ln lc] #[.slice none 0 0]
  have HP := Lib.hid hP
  have HB := Lib.hid hb
  have H1 := Lib.hid hbx
  have HR := Lib.hid hbx2
  have HG := Lib.hid (Nat.le_succ w.heap.size)
  have HRL := Lib.hid hbx2.lt
  have HCASE := Lib.hid hcase
  have HV0 := Lib.hid hV
  have HYN := Lib.hid hyn
  have HGN := Lib.hid hgn
  have HLL := Lib.hid hl
  have HSL := Lib.hid hsl
  have HSL0 := Lib.hid hsl0
  have HVK := Lib.hid hv
  have HNB := Lib.hid hnb
  have HKV := Lib.hid hkv
  clear hP hs hg ht hkd hb hbx hbx2 hn hop hcase hV hyn hgn hl hsl hsl0 hv hnb hycm hgcm hkv
  go_enter Try.func58, Try.ntmps58
  go_upto_region 1 with fail
  generalize (w.alloc (.cells #[.int .i64 op, .int .i64 num, .string s, .slice ka kn kc, .slice na nn nc, .slice la ln lc] 28)).alloc (.cells #[.slice none 0 0] 24) = w2 at *
  go_wp2_with fail
  go_loopg [9, 10] (yn + 1) (fun g st i wr => ∃ k : Nat, k ≤ yn ∧ i = .int .i64 k ∧ st = .bool ((ks.take k).all (fun k => k.l.length == 0)) ∧ g = yn + 1 - k ∧ wr = w2)
  case atStart => exact ⟨0, by omega, rfl, by rw [List.take_zero]; rfl, by omega, rfl⟩
  case round =>
    obtain ⟨k, hk, rfl, rfl, hgk, rfl⟩ := hrel
    by_cases hlt : k < yn
    · have q5 : decide ((k : Int) < (yn : Int)) = true := decide_eq_true (by omega)
      have hkl : k < ks.length := by rw [← HYN.out]; exact hlt
      have hst := all_take_step (fun k : K => k.l.length == 0) ks k hkl
      obtain ⟨r1, hr1⟩ : ∃ r1, r1 = (ks.take k).all (fun k => k.l.length == 0) := ⟨_, rfl⟩
      rw [← hr1] at hst ⊢
      clear hr1
      cases r1
      · have HF := Lib.hid (show (ks.take (k + 1)).all (fun k => k.l.length == 0) = false from by rw [hst]; rfl)
        clear hst
        go_wp2
        go_roundg (gk - 1)
        case measure => omega
        case rel => exact ⟨k + 1, by omega, by go_num, by rw [HF.out], by omega, rfl⟩
      · obtain ⟨-, b, off, e, hPb, hke⟩ := ksl_at (HS.out wr HB.out) (by omega)
        subst e
        obtain ⟨a5, c5, e5, -, -, hea⟩ := (HS.out wr HB.out).each
        injection e5 with e5 e6 e7
        subst e5 e7
        obtain ⟨b7, o7, x7, e8, -, f0, hk7⟩ := hea k hkl
        injection e8 with e8
        injection e8 with e8 e9 e10
        subst e8 e9
        obtain ⟨a7, c7, rfl⟩ := hk7.form
        have hz : ((ks[k].l.length : Int) == 0) = (ks[k].l.length == 0) := by cases ks[k].l.length <;> rfl
        have HF := Lib.hid (show (ks.take (k + 1)).all (fun k => k.l.length == 0) = (ks[k].l.length == 0) from by rw [hst]; rfl)
        generalize ks[k].l.length = n7 at HF hz f0
        have HZ := Lib.hid hz
        clear hst hea hke hk7 hz e6
        go_wp2
        go_roundg (gk - 1)
        case measure => omega
        case rel => exact ⟨k + 1, by omega, by go_num, by rw [HF.out]; first | rfl | (rw [HZ.out]; done) | (rw [← HZ.out]; done) | (congr 1; exact HZ.out) | (congr 1; exact HZ.out.symm), by omega, rfl⟩
    · have q5 : decide ((k : Int) < (yn : Int)) = false := decide_eq_false (by omega)
      obtain rfl : k = yn := by omega
      have hst : (ks.take k).all (fun k => k.l.length == 0) = ks.all (fun k => k.l.length == 0) := by rw [HYN.out, List.take_length]
      rw [hst]
      obtain ⟨st, hst2⟩ : ∃ st, st = ks.all (fun k => k.l.length == 0) := ⟨_, rfl⟩
      rw [← hst2]
      have HST := Lib.hid hst2
      clear hst hst2
      have c0 := H1.out.cell 0 (.int .i64 op) rfl
      have c1 := H1.out.cell 1 (.int .i64 num) rfl
      have c3 := H1.out.cell 3 (.slice ka kn kc) rfl
      have hV := HV0.out
      unfold ownK at hV
      have hcase := HCASE.out
      rw [if_neg (by omega)] at hV
      rw [if_neg (by omega)] at hV
      rw [if_neg (by omega)] at hV
      rw [if_neg (by omega)] at hV
      rw [if_neg (by omega)] at hV
      subst hcase
      have hst : (ks.all fun k => k.l.length == 0) = true := by
        have h := HSL0.out (by decide)
        rw [← HLL.out] at h
        rw [List.eq_nil_of_length_eq_zero h]
        rfl
      rw [hst, if_pos rfl] at hV
      have HV := Lib.hid hV
      clear hV hst c1 c3
      have hr9 := HR.out
      have c9 := hr9.cell 0 (.slice none 0 0) rfl
      have f9 := hr9.thaw 0
      have HE1 := Lib.hid (blk_one (y := .slice none 0 0) hr9)
      have HE := Lib.hid (krp_star (P := P) HV.out (below_set HB.out HG.out (.slice none 0 0)))
      have HE0 := Lib.hid (krp_star (P := P) HV.out HB.out)
      clear hr9
      go_wp2
      have d9 := HE1.out.cell 0 (.slice none 0 0) rfl
      refine bodyPost_ret (v := .tuple #[.agg #[.slice none 0 0], .int .i64 0]) (by first | (simp [results, Try.results58, go_sem, d9]; done) | (simp [results, Try.results58, go_sem, c9]; done)) rfl ?_
      first | exact HE.out | exact HE0.out
set_option maxRecDepth 100000 in
set_option maxHeartbeats 4000000 in
theorem own_4 (P : Nat → Prop) (g ks : List K) (t : Con) (w : World) (v x y : Value) (hP : ∀ b, P b → b < w.heap.size) (hg : KSl w P v g) (ht : ConV w P t x) (hs : KSl w P y ks) (hn : Con.nodeB t = true) (hl : ks.length = t.l.length) (hv : ∀ k ∈ ks, K.valid k = true) (hcase : t.op = 4) :
    Calls Try.prog 58 #[v, x, y] w (KrP P (ownK g.reverse t.op t.n t.kind ks) w) := by
  have hkv := kind_valid t hn
  have hnb := nodeB_n t hn
  have hsl := shape_len t hn
  have hsl0 := none_len t hn
  obtain ⟨R, hV⟩ : ∃ R : KR, R = ownK g.reverse t.op t.n t.kind ks := ⟨_, rfl⟩
  rw [← hV]
  obtain ⟨ka, kn, kc, na, nn, nc, la, ln, lc, rfl, -, -, -⟩ := ht.shape
  have hkd : KidV w P t.kind (.slice ka kn kc) := by
    obtain ⟨hs, kv', nv', lv', e, hk, hn, hl⟩ := (conV_iff _ _ _ _).1 ht
    simp only [Value.agg.injEq, Array.mk.injEq, List.cons.injEq, and_true, true_and] at e
    obtain ⟨rfl, rfl, rfl⟩ := e
    exact hk
  obtain ⟨ya, yc, rfl, -, hycm, -⟩ := hs.each
  obtain ⟨ga, gc, rfl, -, hgcm, -⟩ := hg.each
  have hm63 : ks.length ≤ 9223372036854775807 := by
    obtain ⟨a', c', e, h1, h2, -⟩ := hs.each
    injection e with e1 e2 e3
    unfold maxLen at h2; omega
  have hg63 : g.length ≤ 9223372036854775807 := by
    obtain ⟨a', c', e, h1, h2, -⟩ := hg.each
    injection e with e1 e2 e3
    unfold maxLen at h2; omega
  have HS := Lib.hid (fun W (hW : Below w.heap.size w W) => hs.keep (Same.of_below hW hP))
  have HGG := Lib.hid (fun W (hW : Below w.heap.size w W) => hg.keep (Same.of_below hW hP))
  have HK := Lib.hid (fun W (hW : Below w.heap.size w W) => hkd.keep (Same.of_below hW hP))
  have HLO := Lib.hid (fun W (hW : Below w.heap.size w W) => low_up hP hW)
  obtain ⟨yn, hyn⟩ : ∃ yn, yn = ks.length := ⟨_, rfl⟩
  rw [← hyn] at HS hm63 ⊢
  obtain ⟨gn, hgn⟩ : ∃ gn, gn = g.length := ⟨_, rfl⟩
  rw [← hgn] at HGG hg63 ⊢
  generalize t.n = num at *
  generalize t.s = s at *
  obtain ⟨op, hop⟩ : ∃ op, op = t.op := ⟨_, rfl⟩
  rw [← hop] at hV hsl hsl0 hcase ⊢
  obtain ⟨hbx, hbx2, hb⟩ := twoN_new w 28 24 #[.int .i64 op, .int .i64 num, .string s, .slice ka kn kc, .slice na nn nc, .slice la ln lc] #[.slice none 0 0]
  have HP := Lib.hid hP
  have HB := Lib.hid hb
  have H1 := Lib.hid hbx
  have HR := Lib.hid hbx2
  have HG := Lib.hid (Nat.le_succ w.heap.size)
  have HRL := Lib.hid hbx2.lt
  have HCASE := Lib.hid hcase
  have HV0 := Lib.hid hV
  have HYN := Lib.hid hyn
  have HGN := Lib.hid hgn
  have HLL := Lib.hid hl
  have HSL := Lib.hid hsl
  have HSL0 := Lib.hid hsl0
  have HVK := Lib.hid hv
  have HNB := Lib.hid hnb
  have HKV := Lib.hid hkv
  clear hP hs hg ht hkd hb hbx hbx2 hn hop hcase hV hyn hgn hl hsl hsl0 hv hnb hycm hgcm hkv
  go_enter Try.func58, Try.ntmps58
  go_upto_region 1 with fail
  generalize (w.alloc (.cells #[.int .i64 op, .int .i64 num, .string s, .slice ka kn kc, .slice na nn nc, .slice la ln lc] 28)).alloc (.cells #[.slice none 0 0] 24) = w2 at *
  go_wp2_with fail
  go_loopg [9, 10] (yn + 1) (fun g st i wr => ∃ k : Nat, k ≤ yn ∧ i = .int .i64 k ∧ st = .bool ((ks.take k).all (fun k => k.l.length == 0)) ∧ g = yn + 1 - k ∧ wr = w2)
  case atStart => exact ⟨0, by omega, rfl, by rw [List.take_zero]; rfl, by omega, rfl⟩
  case round =>
    obtain ⟨k, hk, rfl, rfl, hgk, rfl⟩ := hrel
    by_cases hlt : k < yn
    · have q5 : decide ((k : Int) < (yn : Int)) = true := decide_eq_true (by omega)
      have hkl : k < ks.length := by rw [← HYN.out]; exact hlt
      have hst := all_take_step (fun k : K => k.l.length == 0) ks k hkl
      obtain ⟨r1, hr1⟩ : ∃ r1, r1 = (ks.take k).all (fun k => k.l.length == 0) := ⟨_, rfl⟩
      rw [← hr1] at hst ⊢
      clear hr1
      cases r1
      · have HF := Lib.hid (show (ks.take (k + 1)).all (fun k => k.l.length == 0) = false from by rw [hst]; rfl)
        clear hst
        go_wp2
        go_roundg (gk - 1)
        case measure => omega
        case rel => exact ⟨k + 1, by omega, by go_num, by rw [HF.out], by omega, rfl⟩
      · obtain ⟨-, b, off, e, hPb, hke⟩ := ksl_at (HS.out wr HB.out) (by omega)
        subst e
        obtain ⟨a5, c5, e5, -, -, hea⟩ := (HS.out wr HB.out).each
        injection e5 with e5 e6 e7
        subst e5 e7
        obtain ⟨b7, o7, x7, e8, -, f0, hk7⟩ := hea k hkl
        injection e8 with e8
        injection e8 with e8 e9 e10
        subst e8 e9
        obtain ⟨a7, c7, rfl⟩ := hk7.form
        have hz : ((ks[k].l.length : Int) == 0) = (ks[k].l.length == 0) := by cases ks[k].l.length <;> rfl
        have HF := Lib.hid (show (ks.take (k + 1)).all (fun k => k.l.length == 0) = (ks[k].l.length == 0) from by rw [hst]; rfl)
        generalize ks[k].l.length = n7 at HF hz f0
        have HZ := Lib.hid hz
        clear hst hea hke hk7 hz e6
        go_wp2
        go_roundg (gk - 1)
        case measure => omega
        case rel => exact ⟨k + 1, by omega, by go_num, by rw [HF.out]; first | rfl | (rw [HZ.out]; done) | (rw [← HZ.out]; done) | (congr 1; exact HZ.out) | (congr 1; exact HZ.out.symm), by omega, rfl⟩
    · have q5 : decide ((k : Int) < (yn : Int)) = false := decide_eq_false (by omega)
      obtain rfl : k = yn := by omega
      have hst : (ks.take k).all (fun k => k.l.length == 0) = ks.all (fun k => k.l.length == 0) := by rw [HYN.out, List.take_length]
      rw [hst]
      obtain ⟨st, hst2⟩ : ∃ st, st = ks.all (fun k => k.l.length == 0) := ⟨_, rfl⟩
      rw [← hst2]
      have HST := Lib.hid hst2
      clear hst hst2
      have c0 := H1.out.cell 0 (.int .i64 op) rfl
      have c1 := H1.out.cell 1 (.int .i64 num) rfl
      have c3 := H1.out.cell 3 (.slice ka kn kc) rfl
      have hV := HV0.out
      unfold ownK at hV
      have hcase := HCASE.out
      rw [if_neg (by omega)] at hV
      rw [if_neg (by omega)] at hV
      rw [if_neg (by omega)] at hV
      rw [if_neg (by omega)] at hV
      rw [if_neg (by omega)] at hV
      subst hcase
      have hst : (ks.all fun k => k.l.length == 0) = true := by
        have h := HSL0.out (by decide)
        rw [← HLL.out] at h
        rw [List.eq_nil_of_length_eq_zero h]
        rfl
      rw [hst, if_pos rfl] at hV
      have HV := Lib.hid hV
      clear hV hst c1 c3
      have hr9 := HR.out
      have c9 := hr9.cell 0 (.slice none 0 0) rfl
      have f9 := hr9.thaw 0
      have HE1 := Lib.hid (blk_one (y := .slice none 0 0) hr9)
      have HE := Lib.hid (krp_star (P := P) HV.out (below_set HB.out HG.out (.slice none 0 0)))
      have HE0 := Lib.hid (krp_star (P := P) HV.out HB.out)
      clear hr9
      go_wp2
      have d9 := HE1.out.cell 0 (.slice none 0 0) rfl
      refine bodyPost_ret (v := .tuple #[.agg #[.slice none 0 0], .int .i64 0]) (by first | (simp [results, Try.results58, go_sem, d9]; done) | (simp [results, Try.results58, go_sem, c9]; done)) rfl ?_
      first | exact HE.out | exact HE0.out
set_option maxRecDepth 100000 in
set_option maxHeartbeats 4000000 in
theorem own_5 (P : Nat → Prop) (g ks : List K) (t : Con) (w : World) (v x y : Value) (hP : ∀ b, P b → b < w.heap.size) (hg : KSl w P v g) (ht : ConV w P t x) (hs : KSl w P y ks) (hn : Con.nodeB t = true) (hl : ks.length = t.l.length) (hv : ∀ k ∈ ks, K.valid k = true) (hcase : t.op = 5) :
    Calls Try.prog 58 #[v, x, y] w (KrP P (ownK g.reverse t.op t.n t.kind ks) w) := by
  have hkv := kind_valid t hn
  have hnb := nodeB_n t hn
  have hsl := shape_len t hn
  have hsl0 := none_len t hn
  obtain ⟨R, hV⟩ : ∃ R : KR, R = ownK g.reverse t.op t.n t.kind ks := ⟨_, rfl⟩
  rw [← hV]
  obtain ⟨ka, kn, kc, na, nn, nc, la, ln, lc, rfl, -, -, -⟩ := ht.shape
  have hkd : KidV w P t.kind (.slice ka kn kc) := by
    obtain ⟨hs, kv', nv', lv', e, hk, hn, hl⟩ := (conV_iff _ _ _ _).1 ht
    simp only [Value.agg.injEq, Array.mk.injEq, List.cons.injEq, and_true, true_and] at e
    obtain ⟨rfl, rfl, rfl⟩ := e
    exact hk
  obtain ⟨ya, yc, rfl, -, hycm, -⟩ := hs.each
  obtain ⟨ga, gc, rfl, -, hgcm, -⟩ := hg.each
  have hm63 : ks.length ≤ 9223372036854775807 := by
    obtain ⟨a', c', e, h1, h2, -⟩ := hs.each
    injection e with e1 e2 e3
    unfold maxLen at h2; omega
  have hg63 : g.length ≤ 9223372036854775807 := by
    obtain ⟨a', c', e, h1, h2, -⟩ := hg.each
    injection e with e1 e2 e3
    unfold maxLen at h2; omega
  have HS := Lib.hid (fun W (hW : Below w.heap.size w W) => hs.keep (Same.of_below hW hP))
  have HGG := Lib.hid (fun W (hW : Below w.heap.size w W) => hg.keep (Same.of_below hW hP))
  have HK := Lib.hid (fun W (hW : Below w.heap.size w W) => hkd.keep (Same.of_below hW hP))
  have HLO := Lib.hid (fun W (hW : Below w.heap.size w W) => low_up hP hW)
  obtain ⟨yn, hyn⟩ : ∃ yn, yn = ks.length := ⟨_, rfl⟩
  rw [← hyn] at HS hm63 ⊢
  obtain ⟨gn, hgn⟩ : ∃ gn, gn = g.length := ⟨_, rfl⟩
  rw [← hgn] at HGG hg63 ⊢
  generalize t.n = num at *
  generalize t.s = s at *
  obtain ⟨op, hop⟩ : ∃ op, op = t.op := ⟨_, rfl⟩
  rw [← hop] at hV hsl hsl0 hcase ⊢
  obtain ⟨hbx, hbx2, hb⟩ := twoN_new w 28 24 #[.int .i64 op, .int .i64 num, .string s, .slice ka kn kc, .slice na nn nc, .slice la ln lc] #[.slice none 0 0]
  have HP := Lib.hid hP
  have HB := Lib.hid hb
  have H1 := Lib.hid hbx
  have HR := Lib.hid hbx2
  have HG := Lib.hid (Nat.le_succ w.heap.size)
  have HRL := Lib.hid hbx2.lt
  have HCASE := Lib.hid hcase
  have HV0 := Lib.hid hV
  have HYN := Lib.hid hyn
  have HGN := Lib.hid hgn
  have HLL := Lib.hid hl
  have HSL := Lib.hid hsl
  have HSL0 := Lib.hid hsl0
  have HVK := Lib.hid hv
  have HNB := Lib.hid hnb
  have HKV := Lib.hid hkv
  clear hP hs hg ht hkd hb hbx hbx2 hn hop hcase hV hyn hgn hl hsl hsl0 hv hnb hycm hgcm hkv
  go_enter Try.func58, Try.ntmps58
  go_upto_region 1 with fail
  generalize (w.alloc (.cells #[.int .i64 op, .int .i64 num, .string s, .slice ka kn kc, .slice na nn nc, .slice la ln lc] 28)).alloc (.cells #[.slice none 0 0] 24) = w2 at *
  go_wp2_with fail
  go_loopg [9, 10] (yn + 1) (fun g st i wr => ∃ k : Nat, k ≤ yn ∧ i = .int .i64 k ∧ st = .bool ((ks.take k).all (fun k => k.l.length == 0)) ∧ g = yn + 1 - k ∧ wr = w2)
  case atStart => exact ⟨0, by omega, rfl, by rw [List.take_zero]; rfl, by omega, rfl⟩
  case round =>
    obtain ⟨k, hk, rfl, rfl, hgk, rfl⟩ := hrel
    by_cases hlt : k < yn
    · have q5 : decide ((k : Int) < (yn : Int)) = true := decide_eq_true (by omega)
      have hkl : k < ks.length := by rw [← HYN.out]; exact hlt
      have hst := all_take_step (fun k : K => k.l.length == 0) ks k hkl
      obtain ⟨r1, hr1⟩ : ∃ r1, r1 = (ks.take k).all (fun k => k.l.length == 0) := ⟨_, rfl⟩
      rw [← hr1] at hst ⊢
      clear hr1
      cases r1
      · have HF := Lib.hid (show (ks.take (k + 1)).all (fun k => k.l.length == 0) = false from by rw [hst]; rfl)
        clear hst
        go_wp2
        go_roundg (gk - 1)
        case measure => omega
        case rel => exact ⟨k + 1, by omega, by go_num, by rw [HF.out], by omega, rfl⟩
      · obtain ⟨-, b, off, e, hPb, hke⟩ := ksl_at (HS.out wr HB.out) (by omega)
        subst e
        obtain ⟨a5, c5, e5, -, -, hea⟩ := (HS.out wr HB.out).each
        injection e5 with e5 e6 e7
        subst e5 e7
        obtain ⟨b7, o7, x7, e8, -, f0, hk7⟩ := hea k hkl
        injection e8 with e8
        injection e8 with e8 e9 e10
        subst e8 e9
        obtain ⟨a7, c7, rfl⟩ := hk7.form
        have hz : ((ks[k].l.length : Int) == 0) = (ks[k].l.length == 0) := by cases ks[k].l.length <;> rfl
        have HF := Lib.hid (show (ks.take (k + 1)).all (fun k => k.l.length == 0) = (ks[k].l.length == 0) from by rw [hst]; rfl)
        generalize ks[k].l.length = n7 at HF hz f0
        have HZ := Lib.hid hz
        clear hst hea hke hk7 hz e6
        go_wp2
        go_roundg (gk - 1)
        case measure => omega
        case rel => exact ⟨k + 1, by omega, by go_num, by rw [HF.out]; first | rfl | (rw [HZ.out]; done) | (rw [← HZ.out]; done) | (congr 1; exact HZ.out) | (congr 1; exact HZ.out.symm), by omega, rfl⟩
    · have q5 : decide ((k : Int) < (yn : Int)) = false := decide_eq_false (by omega)
      obtain rfl : k = yn := by omega
      have hst : (ks.take k).all (fun k => k.l.length == 0) = ks.all (fun k => k.l.length == 0) := by rw [HYN.out, List.take_length]
      rw [hst]
      obtain ⟨st, hst2⟩ : ∃ st, st = ks.all (fun k => k.l.length == 0) := ⟨_, rfl⟩
      rw [← hst2]
      have HST := Lib.hid hst2
      clear hst hst2
      have c0 := H1.out.cell 0 (.int .i64 op) rfl
      have c1 := H1.out.cell 1 (.int .i64 num) rfl
      have c3 := H1.out.cell 3 (.slice ka kn kc) rfl
      have hV := HV0.out
      unfold ownK at hV
      have hcase := HCASE.out
      rw [if_neg (by omega)] at hV
      rw [if_neg (by omega)] at hV
      rw [if_neg (by omega)] at hV
      rw [if_neg (by omega)] at hV
      rw [if_neg (by omega)] at hV
      subst hcase
      have hst : (ks.all fun k => k.l.length == 0) = true := by
        have h := HSL0.out (by decide)
        rw [← HLL.out] at h
        rw [List.eq_nil_of_length_eq_zero h]
        rfl
      rw [hst, if_pos rfl] at hV
      have HV := Lib.hid hV
      clear hV hst c1 c3
      have hr9 := HR.out
      have c9 := hr9.cell 0 (.slice none 0 0) rfl
      have f9 := hr9.thaw 0
      have HE1 := Lib.hid (blk_one (y := .slice none 0 0) hr9)
      have HE := Lib.hid (krp_star (P := P) HV.out (below_set HB.out HG.out (.slice none 0 0)))
      have HE0 := Lib.hid (krp_star (P := P) HV.out HB.out)
      clear hr9
      go_wp2
      have d9 := HE1.out.cell 0 (.slice none 0 0) rfl
      refine bodyPost_ret (v := .tuple #[.agg #[.slice none 0 0], .int .i64 0]) (by first | (simp [results, Try.results58, go_sem, d9]; done) | (simp [results, Try.results58, go_sem, c9]; done)) rfl ?_
      first | exact HE.out | exact HE0.out
set_option maxRecDepth 100000 in
set_option maxHeartbeats 4000000 in
theorem own_6 (P : Nat → Prop) (g ks : List K) (t : Con) (w : World) (v x y : Value) (hP : ∀ b, P b → b < w.heap.size) (hg : KSl w P v g) (ht : ConV w P t x) (hs : KSl w P y ks) (hn : Con.nodeB t = true) (hl : ks.length = t.l.length) (hv : ∀ k ∈ ks, K.valid k = true) (hcase : t.op = 6) :
    Calls Try.prog 58 #[v, x, y] w (KrP P (ownK g.reverse t.op t.n t.kind ks) w) := by
  have hkv := kind_valid t hn
  have hnb := nodeB_n t hn
  have hsl := shape_len t hn
  have hsl0 := none_len t hn
  obtain ⟨R, hV⟩ : ∃ R : KR, R = ownK g.reverse t.op t.n t.kind ks := ⟨_, rfl⟩
  rw [← hV]
  obtain ⟨ka, kn, kc, na, nn, nc, la, ln, lc, rfl, -, -, -⟩ := ht.shape
  have hkd : KidV w P t.kind (.slice ka kn kc) := by
    obtain ⟨hs, kv', nv', lv', e, hk, hn, hl⟩ := (conV_iff _ _ _ _).1 ht
    simp only [Value.agg.injEq, Array.mk.injEq, List.cons.injEq, and_true, true_and] at e
    obtain ⟨rfl, rfl, rfl⟩ := e
    exact hk
  obtain ⟨ya, yc, rfl, -, hycm, -⟩ := hs.each
  obtain ⟨ga, gc, rfl, -, hgcm, -⟩ := hg.each
  have hm63 : ks.length ≤ 9223372036854775807 := by
    obtain ⟨a', c', e, h1, h2, -⟩ := hs.each
    injection e with e1 e2 e3
    unfold maxLen at h2; omega
  have hg63 : g.length ≤ 9223372036854775807 := by
    obtain ⟨a', c', e, h1, h2, -⟩ := hg.each
    injection e with e1 e2 e3
    unfold maxLen at h2; omega
  have HS := Lib.hid (fun W (hW : Below w.heap.size w W) => hs.keep (Same.of_below hW hP))
  have HGG := Lib.hid (fun W (hW : Below w.heap.size w W) => hg.keep (Same.of_below hW hP))
  have HK := Lib.hid (fun W (hW : Below w.heap.size w W) => hkd.keep (Same.of_below hW hP))
  have HLO := Lib.hid (fun W (hW : Below w.heap.size w W) => low_up hP hW)
  obtain ⟨yn, hyn⟩ : ∃ yn, yn = ks.length := ⟨_, rfl⟩
  rw [← hyn] at HS hm63 ⊢
  obtain ⟨gn, hgn⟩ : ∃ gn, gn = g.length := ⟨_, rfl⟩
  rw [← hgn] at HGG hg63 ⊢
  generalize t.n = num at *
  generalize t.s = s at *
  obtain ⟨op, hop⟩ : ∃ op, op = t.op := ⟨_, rfl⟩
  rw [← hop] at hV hsl hsl0 hcase ⊢
  obtain ⟨hbx, hbx2, hb⟩ := twoN_new w 28 24 #[.int .i64 op, .int .i64 num, .string s, .slice ka kn kc, .slice na nn nc, .slice la ln lc] #[.slice none 0 0]
  have HP := Lib.hid hP
  have HB := Lib.hid hb
  have H1 := Lib.hid hbx
  have HR := Lib.hid hbx2
  have HG := Lib.hid (Nat.le_succ w.heap.size)
  have HRL := Lib.hid hbx2.lt
  have HCASE := Lib.hid hcase
  have HV0 := Lib.hid hV
  have HYN := Lib.hid hyn
  have HGN := Lib.hid hgn
  have HLL := Lib.hid hl
  have HSL := Lib.hid hsl
  have HSL0 := Lib.hid hsl0
  have HVK := Lib.hid hv
  have HNB := Lib.hid hnb
  have HKV := Lib.hid hkv
  clear hP hs hg ht hkd hb hbx hbx2 hn hop hcase hV hyn hgn hl hsl hsl0 hv hnb hycm hgcm hkv
  go_enter Try.func58, Try.ntmps58
  go_upto_region 1 with fail
  generalize (w.alloc (.cells #[.int .i64 op, .int .i64 num, .string s, .slice ka kn kc, .slice na nn nc, .slice la ln lc] 28)).alloc (.cells #[.slice none 0 0] 24) = w2 at *
  go_wp2_with fail
  go_loopg [9, 10] (yn + 1) (fun g st i wr => ∃ k : Nat, k ≤ yn ∧ i = .int .i64 k ∧ st = .bool ((ks.take k).all (fun k => k.l.length == 0)) ∧ g = yn + 1 - k ∧ wr = w2)
  case atStart => exact ⟨0, by omega, rfl, by rw [List.take_zero]; rfl, by omega, rfl⟩
  case round =>
    obtain ⟨k, hk, rfl, rfl, hgk, rfl⟩ := hrel
    by_cases hlt : k < yn
    · have q5 : decide ((k : Int) < (yn : Int)) = true := decide_eq_true (by omega)
      have hkl : k < ks.length := by rw [← HYN.out]; exact hlt
      have hst := all_take_step (fun k : K => k.l.length == 0) ks k hkl
      obtain ⟨r1, hr1⟩ : ∃ r1, r1 = (ks.take k).all (fun k => k.l.length == 0) := ⟨_, rfl⟩
      rw [← hr1] at hst ⊢
      clear hr1
      cases r1
      · have HF := Lib.hid (show (ks.take (k + 1)).all (fun k => k.l.length == 0) = false from by rw [hst]; rfl)
        clear hst
        go_wp2
        go_roundg (gk - 1)
        case measure => omega
        case rel => exact ⟨k + 1, by omega, by go_num, by rw [HF.out], by omega, rfl⟩
      · obtain ⟨-, b, off, e, hPb, hke⟩ := ksl_at (HS.out wr HB.out) (by omega)
        subst e
        obtain ⟨a5, c5, e5, -, -, hea⟩ := (HS.out wr HB.out).each
        injection e5 with e5 e6 e7
        subst e5 e7
        obtain ⟨b7, o7, x7, e8, -, f0, hk7⟩ := hea k hkl
        injection e8 with e8
        injection e8 with e8 e9 e10
        subst e8 e9
        obtain ⟨a7, c7, rfl⟩ := hk7.form
        have hz : ((ks[k].l.length : Int) == 0) = (ks[k].l.length == 0) := by cases ks[k].l.length <;> rfl
        have HF := Lib.hid (show (ks.take (k + 1)).all (fun k => k.l.length == 0) = (ks[k].l.length == 0) from by rw [hst]; rfl)
        generalize ks[k].l.length = n7 at HF hz f0
        have HZ := Lib.hid hz
        clear hst hea hke hk7 hz e6
        go_wp2
        go_roundg (gk - 1)
        case measure => omega
        case rel => exact ⟨k + 1, by omega, by go_num, by rw [HF.out]; first | rfl | (rw [HZ.out]; done) | (rw [← HZ.out]; done) | (congr 1; exact HZ.out) | (congr 1; exact HZ.out.symm), by omega, rfl⟩
    · have q5 : decide ((k : Int) < (yn : Int)) = false := decide_eq_false (by omega)
      obtain rfl : k = yn := by omega
      have hst : (ks.take k).all (fun k => k.l.length == 0) = ks.all (fun k => k.l.length == 0) := by rw [HYN.out, List.take_length]
      rw [hst]
      obtain ⟨st, hst2⟩ : ∃ st, st = ks.all (fun k => k.l.length == 0) := ⟨_, rfl⟩
      rw [← hst2]
      have HST := Lib.hid hst2
      clear hst hst2
      have c0 := H1.out.cell 0 (.int .i64 op) rfl
      have c1 := H1.out.cell 1 (.int .i64 num) rfl
      have c3 := H1.out.cell 3 (.slice ka kn kc) rfl
      have hV := HV0.out
      unfold ownK at hV
      have hcase := HCASE.out
      rw [if_neg (by omega)] at hV
      rw [if_neg (by omega)] at hV
      rw [if_neg (by omega)] at hV
      rw [if_neg (by omega)] at hV
      rw [if_neg (by omega)] at hV
      subst hcase
      rw [← HST.out] at hV
      clear c1 c3
      cases st
      · have HV := Lib.hid (show R = .bad 11 [] from hV)
        clear hV HST
        have hr9 := HR.out
        have c9 := hr9.cell 0 (.slice none 0 0) rfl
        have f9 := hr9.thaw 0
        have HE1 := Lib.hid (blk_one (y := .slice none 0 0) hr9)
        have HE := Lib.hid (krp_bad (P := P) HV.out (below_set HB.out HG.out (.slice none 0 0)))
        have HE0 := Lib.hid (krp_bad (P := P) HV.out HB.out)
        clear hr9
        go_wp2
        have d9 := HE1.out.cell 0 (.slice none 0 0) rfl
        refine bodyPost_ret (v := .tuple #[.agg #[.slice none 0 0], .int .i64 11]) (by first | (simp [results, Try.results58, go_sem, d9]; done) | (simp [results, Try.results58, go_sem, c9]; done)) rfl ?_
        first | exact HE.out | exact HE0.out
      · have HV := Lib.hid (show R = .ok (.mk []) from hV)
        clear hV HST
        have hr9 := HR.out
        have c9 := hr9.cell 0 (.slice none 0 0) rfl
        have f9 := hr9.thaw 0
        have HE1 := Lib.hid (blk_one (y := .slice none 0 0) hr9)
        have HE := Lib.hid (krp_star (P := P) HV.out (below_set HB.out HG.out (.slice none 0 0)))
        have HE0 := Lib.hid (krp_star (P := P) HV.out HB.out)
        clear hr9
        go_wp2
        have d9 := HE1.out.cell 0 (.slice none 0 0) rfl
        refine bodyPost_ret (v := .tuple #[.agg #[.slice none 0 0], .int .i64 0]) (by first | (simp [results, Try.results58, go_sem, d9]; done) | (simp [results, Try.results58, go_sem, c9]; done)) rfl ?_
        first | exact HE.out | exact HE0.out
set_option maxRecDepth 100000 in
set_option maxHeartbeats 4000000 in
theorem own_7 (P : Nat → Prop) (g ks : List K) (t : Con) (w : World) (v x y : Value) (hP : ∀ b, P b → b < w.heap.size) (hg : KSl w P v g) (ht : ConV w P t x) (hs : KSl w P y ks) (hn : Con.nodeB t = true) (hl : ks.length = t.l.length) (hv : ∀ k ∈ ks, K.valid k = true) (hcase : t.op = 7) :
    Calls Try.prog 58 #[v, x, y] w (KrP P (ownK g.reverse t.op t.n t.kind ks) w) := by
  have hkv := kind_valid t hn
  have hnb := nodeB_n t hn
  have hsl := shape_len t hn
  have hsl0 := none_len t hn
  obtain ⟨R, hV⟩ : ∃ R : KR, R = ownK g.reverse t.op t.n t.kind ks := ⟨_, rfl⟩
  rw [← hV]
  obtain ⟨ka, kn, kc, na, nn, nc, la, ln, lc, rfl, -, -, -⟩ := ht.shape
  have hkd : KidV w P t.kind (.slice ka kn kc) := by
    obtain ⟨hs, kv', nv', lv', e, hk, hn, hl⟩ := (conV_iff _ _ _ _).1 ht
    simp only [Value.agg.injEq, Array.mk.injEq, List.cons.injEq, and_true, true_and] at e
    obtain ⟨rfl, rfl, rfl⟩ := e
    exact hk
  obtain ⟨ya, yc, rfl, -, hycm, -⟩ := hs.each
  obtain ⟨ga, gc, rfl, -, hgcm, -⟩ := hg.each
  have hm63 : ks.length ≤ 9223372036854775807 := by
    obtain ⟨a', c', e, h1, h2, -⟩ := hs.each
    injection e with e1 e2 e3
    unfold maxLen at h2; omega
  have hg63 : g.length ≤ 9223372036854775807 := by
    obtain ⟨a', c', e, h1, h2, -⟩ := hg.each
    injection e with e1 e2 e3
    unfold maxLen at h2; omega
  have HS := Lib.hid (fun W (hW : Below w.heap.size w W) => hs.keep (Same.of_below hW hP))
  have HGG := Lib.hid (fun W (hW : Below w.heap.size w W) => hg.keep (Same.of_below hW hP))
  have HK := Lib.hid (fun W (hW : Below w.heap.size w W) => hkd.keep (Same.of_below hW hP))
  have HLO := Lib.hid (fun W (hW : Below w.heap.size w W) => low_up hP hW)
  obtain ⟨yn, hyn⟩ : ∃ yn, yn = ks.length := ⟨_, rfl⟩
  rw [← hyn] at HS hm63 ⊢
  obtain ⟨gn, hgn⟩ : ∃ gn, gn = g.length := ⟨_, rfl⟩
  rw [← hgn] at HGG hg63 ⊢
  generalize t.n = num at *
  generalize t.s = s at *
  obtain ⟨op, hop⟩ : ∃ op, op = t.op := ⟨_, rfl⟩
  rw [← hop] at hV hsl hsl0 hcase ⊢
  obtain ⟨hbx, hbx2, hb⟩ := twoN_new w 28 24 #[.int .i64 op, .int .i64 num, .string s, .slice ka kn kc, .slice na nn nc, .slice la ln lc] #[.slice none 0 0]
  have HP := Lib.hid hP
  have HB := Lib.hid hb
  have H1 := Lib.hid hbx
  have HR := Lib.hid hbx2
  have HG := Lib.hid (Nat.le_succ w.heap.size)
  have HRL := Lib.hid hbx2.lt
  have HCASE := Lib.hid hcase
  have HV0 := Lib.hid hV
  have HYN := Lib.hid hyn
  have HGN := Lib.hid hgn
  have HLL := Lib.hid hl
  have HSL := Lib.hid hsl
  have HSL0 := Lib.hid hsl0
  have HVK := Lib.hid hv
  have HNB := Lib.hid hnb
  have HKV := Lib.hid hkv
  clear hP hs hg ht hkd hb hbx hbx2 hn hop hcase hV hyn hgn hl hsl hsl0 hv hnb hycm hgcm hkv
  go_enter Try.func58, Try.ntmps58
  go_upto_region 1 with fail
  generalize (w.alloc (.cells #[.int .i64 op, .int .i64 num, .string s, .slice ka kn kc, .slice na nn nc, .slice la ln lc] 28)).alloc (.cells #[.slice none 0 0] 24) = w2 at *
  go_wp2_with fail
  go_loopg [9, 10] (yn + 1) (fun g st i wr => ∃ k : Nat, k ≤ yn ∧ i = .int .i64 k ∧ st = .bool ((ks.take k).all (fun k => k.l.length == 0)) ∧ g = yn + 1 - k ∧ wr = w2)
  case atStart => exact ⟨0, by omega, rfl, by rw [List.take_zero]; rfl, by omega, rfl⟩
  case round =>
    obtain ⟨k, hk, rfl, rfl, hgk, rfl⟩ := hrel
    by_cases hlt : k < yn
    · have q5 : decide ((k : Int) < (yn : Int)) = true := decide_eq_true (by omega)
      have hkl : k < ks.length := by rw [← HYN.out]; exact hlt
      have hst := all_take_step (fun k : K => k.l.length == 0) ks k hkl
      obtain ⟨r1, hr1⟩ : ∃ r1, r1 = (ks.take k).all (fun k => k.l.length == 0) := ⟨_, rfl⟩
      rw [← hr1] at hst ⊢
      clear hr1
      cases r1
      · have HF := Lib.hid (show (ks.take (k + 1)).all (fun k => k.l.length == 0) = false from by rw [hst]; rfl)
        clear hst
        go_wp2
        go_roundg (gk - 1)
        case measure => omega
        case rel => exact ⟨k + 1, by omega, by go_num, by rw [HF.out], by omega, rfl⟩
      · obtain ⟨-, b, off, e, hPb, hke⟩ := ksl_at (HS.out wr HB.out) (by omega)
        subst e
        obtain ⟨a5, c5, e5, -, -, hea⟩ := (HS.out wr HB.out).each
        injection e5 with e5 e6 e7
        subst e5 e7
        obtain ⟨b7, o7, x7, e8, -, f0, hk7⟩ := hea k hkl
        injection e8 with e8
        injection e8 with e8 e9 e10
        subst e8 e9
        obtain ⟨a7, c7, rfl⟩ := hk7.form
        have hz : ((ks[k].l.length : Int) == 0) = (ks[k].l.length == 0) := by cases ks[k].l.length <;> rfl
        have HF := Lib.hid (show (ks.take (k + 1)).all (fun k => k.l.length == 0) = (ks[k].l.length == 0) from by rw [hst]; rfl)
        generalize ks[k].l.length = n7 at HF hz f0
        have HZ := Lib.hid hz
        clear hst hea hke hk7 hz e6
        go_wp2
        go_roundg (gk - 1)
        case measure => omega
        case rel => exact ⟨k + 1, by omega, by go_num, by rw [HF.out]; first | rfl | (rw [HZ.out]; done) | (rw [← HZ.out]; done) | (congr 1; exact HZ.out) | (congr 1; exact HZ.out.symm), by omega, rfl⟩
    · have q5 : decide ((k : Int) < (yn : Int)) = false := decide_eq_false (by omega)
      obtain rfl : k = yn := by omega
      have hst : (ks.take k).all (fun k => k.l.length == 0) = ks.all (fun k => k.l.length == 0) := by rw [HYN.out, List.take_length]
      rw [hst]
      obtain ⟨st, hst2⟩ : ∃ st, st = ks.all (fun k => k.l.length == 0) := ⟨_, rfl⟩
      rw [← hst2]
      have HST := Lib.hid hst2
      clear hst hst2
      have c0 := H1.out.cell 0 (.int .i64 op) rfl
      have c1 := H1.out.cell 1 (.int .i64 num) rfl
      have c3 := H1.out.cell 3 (.slice ka kn kc) rfl
      have hV := HV0.out
      unfold ownK at hV
      have hcase := HCASE.out
      rw [if_neg (by omega)] at hV
      rw [if_neg (by omega)] at hV
      rw [if_neg (by omega)] at hV
      rw [if_neg (by omega)] at hV
      rw [if_neg (by omega)] at hV
      subst hcase
      rw [← HST.out] at hV
      clear c1 c3
      cases st
      · have HV := Lib.hid (show R = .bad 11 [] from hV)
        clear hV HST
        have hr9 := HR.out
        have c9 := hr9.cell 0 (.slice none 0 0) rfl
        have f9 := hr9.thaw 0
        have HE1 := Lib.hid (blk_one (y := .slice none 0 0) hr9)
        have HE := Lib.hid (krp_bad (P := P) HV.out (below_set HB.out HG.out (.slice none 0 0)))
        have HE0 := Lib.hid (krp_bad (P := P) HV.out HB.out)
        clear hr9
        go_wp2
        have d9 := HE1.out.cell 0 (.slice none 0 0) rfl
        refine bodyPost_ret (v := .tuple #[.agg #[.slice none 0 0], .int .i64 11]) (by first | (simp [results, Try.results58, go_sem, d9]; done) | (simp [results, Try.results58, go_sem, c9]; done)) rfl ?_
        first | exact HE.out | exact HE0.out
      · have HV := Lib.hid (show R = .ok (.mk []) from hV)
        clear hV HST
        have hr9 := HR.out
        have c9 := hr9.cell 0 (.slice none 0 0) rfl
        have f9 := hr9.thaw 0
        have HE1 := Lib.hid (blk_one (y := .slice none 0 0) hr9)
        have HE := Lib.hid (krp_star (P := P) HV.out (below_set HB.out HG.out (.slice none 0 0)))
        have HE0 := Lib.hid (krp_star (P := P) HV.out HB.out)
        clear hr9
        go_wp2
        have d9 := HE1.out.cell 0 (.slice none 0 0) rfl
        refine bodyPost_ret (v := .tuple #[.agg #[.slice none 0 0], .int .i64 0]) (by first | (simp [results, Try.results58, go_sem, d9]; done) | (simp [results, Try.results58, go_sem, c9]; done)) rfl ?_
        first | exact HE.out | exact HE0.out
set_option maxRecDepth 100000 in
set_option maxHeartbeats 4000000 in
theorem own_8 (P : Nat → Prop) (g ks : List K) (t : Con) (w : World) (v x y : Value) (hP : ∀ b, P b → b < w.heap.size) (hg : KSl w P v g) (ht : ConV w P t x) (hs : KSl w P y ks) (hn : Con.nodeB t = true) (hl : ks.length = t.l.length) (hv : ∀ k ∈ ks, K.valid k = true) (hcase : t.op = 8) :
    Calls Try.prog 58 #[v, x, y] w (KrP P (ownK g.reverse t.op t.n t.kind ks) w) := by
  have hkv := kind_valid t hn
  have hnb := nodeB_n t hn
  have hsl := shape_len t hn
  have hsl0 := none_len t hn
  obtain ⟨R, hV⟩ : ∃ R : KR, R = ownK g.reverse t.op t.n t.kind ks := ⟨_, rfl⟩
  rw [← hV]
  obtain ⟨ka, kn, kc, na, nn, nc, la, ln, lc, rfl, -, -, -⟩ := ht.shape
  have hkd : KidV w P t.kind (.slice ka kn kc) := by
    obtain ⟨hs, kv', nv', lv', e, hk, hn, hl⟩ := (conV_iff _ _ _ _).1 ht
    simp only [Value.agg.injEq, Array.mk.injEq, List.cons.injEq, and_true, true_and] at e
    obtain ⟨rfl, rfl, rfl⟩ := e
    exact hk
  obtain ⟨ya, yc, rfl, -, hycm, -⟩ := hs.each
  obtain ⟨ga, gc, rfl, -, hgcm, -⟩ := hg.each
  have hm63 : ks.length ≤ 9223372036854775807 := by
    obtain ⟨a', c', e, h1, h2, -⟩ := hs.each
    injection e with e1 e2 e3
    unfold maxLen at h2; omega
  have hg63 : g.length ≤ 9223372036854775807 := by
    obtain ⟨a', c', e, h1, h2, -⟩ := hg.each
    injection e with e1 e2 e3
    unfold maxLen at h2; omega
  have HS := Lib.hid (fun W (hW : Below w.heap.size w W) => hs.keep (Same.of_below hW hP))
  have HGG := Lib.hid (fun W (hW : Below w.heap.size w W) => hg.keep (Same.of_below hW hP))
  have HK := Lib.hid (fun W (hW : Below w.heap.size w W) => hkd.keep (Same.of_below hW hP))
  have HLO := Lib.hid (fun W (hW : Below w.heap.size w W) => low_up hP hW)
  obtain ⟨yn, hyn⟩ : ∃ yn, yn = ks.length := ⟨_, rfl⟩
  rw [← hyn] at HS hm63 ⊢
  obtain ⟨gn, hgn⟩ : ∃ gn, gn = g.length := ⟨_, rfl⟩
  rw [← hgn] at HGG hg63 ⊢
  generalize t.n = num at *
  generalize t.s = s at *
  obtain ⟨op, hop⟩ : ∃ op, op = t.op := ⟨_, rfl⟩
  rw [← hop] at hV hsl hsl0 hcase ⊢
  obtain ⟨hbx, hbx2, hb⟩ := twoN_new w 28 24 #[.int .i64 op, .int .i64 num, .string s, .slice ka kn kc, .slice na nn nc, .slice la ln lc] #[.slice none 0 0]
  have HP := Lib.hid hP
  have HB := Lib.hid hb
  have H1 := Lib.hid hbx
  have HR := Lib.hid hbx2
  have HG := Lib.hid (Nat.le_succ w.heap.size)
  have HRL := Lib.hid hbx2.lt
  have HCASE := Lib.hid hcase
  have HV0 := Lib.hid hV
  have HYN := Lib.hid hyn
  have HGN := Lib.hid hgn
  have HLL := Lib.hid hl
  have HSL := Lib.hid hsl
  have HSL0 := Lib.hid hsl0
  have HVK := Lib.hid hv
  have HNB := Lib.hid hnb
  have HKV := Lib.hid hkv
  clear hP hs hg ht hkd hb hbx hbx2 hn hop hcase hV hyn hgn hl hsl hsl0 hv hnb hycm hgcm hkv
  go_enter Try.func58, Try.ntmps58
  go_upto_region 1 with fail
  generalize (w.alloc (.cells #[.int .i64 op, .int .i64 num, .string s, .slice ka kn kc, .slice na nn nc, .slice la ln lc] 28)).alloc (.cells #[.slice none 0 0] 24) = w2 at *
  go_wp2_with fail
  go_loopg [9, 10] (yn + 1) (fun g st i wr => ∃ k : Nat, k ≤ yn ∧ i = .int .i64 k ∧ st = .bool ((ks.take k).all (fun k => k.l.length == 0)) ∧ g = yn + 1 - k ∧ wr = w2)
  case atStart => exact ⟨0, by omega, rfl, by rw [List.take_zero]; rfl, by omega, rfl⟩
  case round =>
    obtain ⟨k, hk, rfl, rfl, hgk, rfl⟩ := hrel
    by_cases hlt : k < yn
    · have q5 : decide ((k : Int) < (yn : Int)) = true := decide_eq_true (by omega)
      have hkl : k < ks.length := by rw [← HYN.out]; exact hlt
      have hst := all_take_step (fun k : K => k.l.length == 0) ks k hkl
      obtain ⟨r1, hr1⟩ : ∃ r1, r1 = (ks.take k).all (fun k => k.l.length == 0) := ⟨_, rfl⟩
      rw [← hr1] at hst ⊢
      clear hr1
      cases r1
      · have HF := Lib.hid (show (ks.take (k + 1)).all (fun k => k.l.length == 0) = false from by rw [hst]; rfl)
        clear hst
        go_wp2
        go_roundg (gk - 1)
        case measure => omega
        case rel => exact ⟨k + 1, by omega, by go_num, by rw [HF.out], by omega, rfl⟩
      · obtain ⟨-, b, off, e, hPb, hke⟩ := ksl_at (HS.out wr HB.out) (by omega)
        subst e
        obtain ⟨a5, c5, e5, -, -, hea⟩ := (HS.out wr HB.out).each
        injection e5 with e5 e6 e7
        subst e5 e7
        obtain ⟨b7, o7, x7, e8, -, f0, hk7⟩ := hea k hkl
        injection e8 with e8
        injection e8 with e8 e9 e10
        subst e8 e9
        obtain ⟨a7, c7, rfl⟩ := hk7.form
        have hz : ((ks[k].l.length : Int) == 0) = (ks[k].l.length == 0) := by cases ks[k].l.length <;> rfl
        have HF := Lib.hid (show (ks.take (k + 1)).all (fun k => k.l.length == 0) = (ks[k].l.length == 0) from by rw [hst]; rfl)
        generalize ks[k].l.length = n7 at HF hz f0
        have HZ := Lib.hid hz
        clear hst hea hke hk7 hz e6
        go_wp2
        go_roundg (gk - 1)
        case measure => omega
        case rel => exact ⟨k + 1, by omega, by go_num, by rw [HF.out]; first | rfl | (rw [HZ.out]; done) | (rw [← HZ.out]; done) | (congr 1; exact HZ.out) | (congr 1; exact HZ.out.symm), by omega, rfl⟩
    · have q5 : decide ((k : Int) < (yn : Int)) = false := decide_eq_false (by omega)
      obtain rfl : k = yn := by omega
      have hst : (ks.take k).all (fun k => k.l.length == 0) = ks.all (fun k => k.l.length == 0) := by rw [HYN.out, List.take_length]
      rw [hst]
      obtain ⟨st, hst2⟩ : ∃ st, st = ks.all (fun k => k.l.length == 0) := ⟨_, rfl⟩
      rw [← hst2]
      have HST := Lib.hid hst2
      clear hst hst2
      have c0 := H1.out.cell 0 (.int .i64 op) rfl
      have c1 := H1.out.cell 1 (.int .i64 num) rfl
      have c3 := H1.out.cell 3 (.slice ka kn kc) rfl
      have hV := HV0.out
      unfold ownK at hV
      have hcase := HCASE.out
      rw [if_neg (by omega)] at hV
      rw [if_neg (by omega)] at hV
      rw [if_neg (by omega)] at hV
      rw [if_neg (by omega)] at hV
      rw [if_neg (by omega)] at hV
      subst hcase
      rw [← HST.out] at hV
      clear c1 c3
      cases st
      · have HV := Lib.hid (show R = .bad 11 [] from hV)
        clear hV HST
        have hr9 := HR.out
        have c9 := hr9.cell 0 (.slice none 0 0) rfl
        have f9 := hr9.thaw 0
        have HE1 := Lib.hid (blk_one (y := .slice none 0 0) hr9)
        have HE := Lib.hid (krp_bad (P := P) HV.out (below_set HB.out HG.out (.slice none 0 0)))
        have HE0 := Lib.hid (krp_bad (P := P) HV.out HB.out)
        clear hr9
        go_wp2
        have d9 := HE1.out.cell 0 (.slice none 0 0) rfl
        refine bodyPost_ret (v := .tuple #[.agg #[.slice none 0 0], .int .i64 11]) (by first | (simp [results, Try.results58, go_sem, d9]; done) | (simp [results, Try.results58, go_sem, c9]; done)) rfl ?_
        first | exact HE.out | exact HE0.out
      · have HV := Lib.hid (show R = .ok (.mk []) from hV)
        clear hV HST
        have hr9 := HR.out
        have c9 := hr9.cell 0 (.slice none 0 0) rfl
        have f9 := hr9.thaw 0
        have HE1 := Lib.hid (blk_one (y := .slice none 0 0) hr9)
        have HE := Lib.hid (krp_star (P := P) HV.out (below_set HB.out HG.out (.slice none 0 0)))
        have HE0 := Lib.hid (krp_star (P := P) HV.out HB.out)
        clear hr9
        go_wp2
        have d9 := HE1.out.cell 0 (.slice none 0 0) rfl
        refine bodyPost_ret (v := .tuple #[.agg #[.slice none 0 0], .int .i64 0]) (by first | (simp [results, Try.results58, go_sem, d9]; done) | (simp [results, Try.results58, go_sem, c9]; done)) rfl ?_
        first | exact HE.out | exact HE0.out
set_option maxRecDepth 100000 in
set_option maxHeartbeats 4000000 in
theorem own_9 (P : Nat → Prop) (g ks : List K) (t : Con) (w : World) (v x y : Value) (hP : ∀ b, P b → b < w.heap.size) (hg : KSl w P v g) (ht : ConV w P t x) (hs : KSl w P y ks) (hn : Con.nodeB t = true) (hl : ks.length = t.l.length) (hv : ∀ k ∈ ks, K.valid k = true) (hcase : t.op = 9) :
    Calls Try.prog 58 #[v, x, y] w (KrP P (ownK g.reverse t.op t.n t.kind ks) w) := by
  have hkv := kind_valid t hn
  have hnb := nodeB_n t hn
  have hsl := shape_len t hn
  have hsl0 := none_len t hn
  obtain ⟨R, hV⟩ : ∃ R : KR, R = ownK g.reverse t.op t.n t.kind ks := ⟨_, rfl⟩
  rw [← hV]
  obtain ⟨ka, kn, kc, na, nn, nc, la, ln, lc, rfl, -, -, -⟩ := ht.shape
  have hkd : KidV w P t.kind (.slice ka kn kc) := by
    obtain ⟨hs, kv', nv', lv', e, hk, hn, hl⟩ := (conV_iff _ _ _ _).1 ht
    simp only [Value.agg.injEq, Array.mk.injEq, List.cons.injEq, and_true, true_and] at e
    obtain ⟨rfl, rfl, rfl⟩ := e
    exact hk
  obtain ⟨ya, yc, rfl, -, hycm, -⟩ := hs.each
  obtain ⟨ga, gc, rfl, -, hgcm, -⟩ := hg.each
  have hm63 : ks.length ≤ 9223372036854775807 := by
    obtain ⟨a', c', e, h1, h2, -⟩ := hs.each
    injection e with e1 e2 e3
    unfold maxLen at h2; omega
  have hg63 : g.length ≤ 9223372036854775807 := by
    obtain ⟨a', c', e, h1, h2, -⟩ := hg.each
    injection e with e1 e2 e3
    unfold maxLen at h2; omega
  have HS := Lib.hid (fun W (hW : Below w.heap.size w W) => hs.keep (Same.of_below hW hP))
  have HGG := Lib.hid (fun W (hW : Below w.heap.size w W) => hg.keep (Same.of_below hW hP))
  have HK := Lib.hid (fun W (hW : Below w.heap.size w W) => hkd.keep (Same.of_below hW hP))
  have HLO := Lib.hid (fun W (hW : Below w.heap.size w W) => low_up hP hW)
  obtain ⟨yn, hyn⟩ : ∃ yn, yn = ks.length := ⟨_, rfl⟩
  rw [← hyn] at HS hm63 ⊢
  obtain ⟨gn, hgn⟩ : ∃ gn, gn = g.length := ⟨_, rfl⟩
  rw [← hgn] at HGG hg63 ⊢
  generalize t.n = num at *
  generalize t.s = s at *
  obtain ⟨op, hop⟩ : ∃ op, op = t.op := ⟨_, rfl⟩
  rw [← hop] at hV hsl hsl0 hcase ⊢
  obtain ⟨hbx, hbx2, hb⟩ := twoN_new w 28 24 #[.int .i64 op, .int .i64 num, .string s, .slice ka kn kc, .slice na nn nc, .slice la ln lc] #[.slice none 0 0]
  have HP := Lib.hid hP
  have HB := Lib.hid hb
  have H1 := Lib.hid hbx
  have HR := Lib.hid hbx2
  have HG := Lib.hid (Nat.le_succ w.heap.size)
  have HRL := Lib.hid hbx2.lt
  have HCASE := Lib.hid hcase
  have HV0 := Lib.hid hV
  have HYN := Lib.hid hyn
  have HGN := Lib.hid hgn
  have HLL := Lib.hid hl
  have HSL := Lib.hid hsl
  have HSL0 := Lib.hid hsl0
  have HVK := Lib.hid hv
  have HNB := Lib.hid hnb
  have HKV := Lib.hid hkv
  clear hP hs hg ht hkd hb hbx hbx2 hn hop hcase hV hyn hgn hl hsl hsl0 hv hnb hycm hgcm hkv
  go_enter Try.func58, Try.ntmps58
  go_upto_region 1 with fail
  generalize (w.alloc (.cells #[.int .i64 op, .int .i64 num, .string s, .slice ka kn kc, .slice na nn nc, .slice la ln lc] 28)).alloc (.cells #[.slice none 0 0] 24) = w2 at *
  go_wp2_with fail
  go_loopg [9, 10] (yn + 1) (fun g st i wr => ∃ k : Nat, k ≤ yn ∧ i = .int .i64 k ∧ st = .bool ((ks.take k).all (fun k => k.l.length == 0)) ∧ g = yn + 1 - k ∧ wr = w2)
  case atStart => exact ⟨0, by omega, rfl, by rw [List.take_zero]; rfl, by omega, rfl⟩
  case round =>
    obtain ⟨k, hk, rfl, rfl, hgk, rfl⟩ := hrel
    by_cases hlt : k < yn
    · have q5 : decide ((k : Int) < (yn : Int)) = true := decide_eq_true (by omega)
      have hkl : k < ks.length := by rw [← HYN.out]; exact hlt
      have hst := all_take_step (fun k : K => k.l.length == 0) ks k hkl
      obtain ⟨r1, hr1⟩ : ∃ r1, r1 = (ks.take k).all (fun k => k.l.length == 0) := ⟨_, rfl⟩
      rw [← hr1] at hst ⊢
      clear hr1
      cases r1
      · have HF := Lib.hid (show (ks.take (k + 1)).all (fun k => k.l.length == 0) = false from by rw [hst]; rfl)
        clear hst
        go_wp2
        go_roundg (gk - 1)
        case measure => omega
        case rel => exact ⟨k + 1, by omega, by go_num, by rw [HF.out], by omega, rfl⟩
      · obtain ⟨-, b, off, e, hPb, hke⟩ := ksl_at (HS.out wr HB.out) (by omega)
        subst e
        obtain ⟨a5, c5, e5, -, -, hea⟩ := (HS.out wr HB.out).each
        injection e5 with e5 e6 e7
        subst e5 e7
        obtain ⟨b7, o7, x7, e8, -, f0, hk7⟩ := hea k hkl
        injection e8 with e8
        injection e8 with e8 e9 e10
        subst e8 e9
        obtain ⟨a7, c7, rfl⟩ := hk7.form
        have hz : ((ks[k].l.length : Int) == 0) = (ks[k].l.length == 0) := by cases ks[k].l.length <;> rfl
        have HF := Lib.hid (show (ks.take (k + 1)).all (fun k => k.l.length == 0) = (ks[k].l.length == 0) from by rw [hst]; rfl)
        generalize ks[k].l.length = n7 at HF hz f0
        have HZ := Lib.hid hz
        clear hst hea hke hk7 hz e6
        go_wp2
        go_roundg (gk - 1)
        case measure => omega
        case rel => exact ⟨k + 1, by omega, by go_num, by rw [HF.out]; first | rfl | (rw [HZ.out]; done) | (rw [← HZ.out]; done) | (congr 1; exact HZ.out) | (congr 1; exact HZ.out.symm), by omega, rfl⟩
    · have q5 : decide ((k : Int) < (yn : Int)) = false := decide_eq_false (by omega)
      obtain rfl : k = yn := by omega
      have hst : (ks.take k).all (fun k => k.l.length == 0) = ks.all (fun k => k.l.length == 0) := by rw [HYN.out, List.take_length]
      rw [hst]
      obtain ⟨st, hst2⟩ : ∃ st, st = ks.all (fun k => k.l.length == 0) := ⟨_, rfl⟩
      rw [← hst2]
      have HST := Lib.hid hst2
      clear hst hst2
      have c0 := H1.out.cell 0 (.int .i64 op) rfl
      have c1 := H1.out.cell 1 (.int .i64 num) rfl
      have c3 := H1.out.cell 3 (.slice ka kn kc) rfl
      have hV := HV0.out
      unfold ownK at hV
      have hcase := HCASE.out
      rw [if_neg (by omega)] at hV
      rw [if_neg (by omega)] at hV
      rw [if_neg (by omega)] at hV
      rw [if_neg (by omega)] at hV
      rw [if_neg (by omega)] at hV
      subst hcase
      rw [← HST.out] at hV
      clear c1 c3
      cases st
      · have HV := Lib.hid (show R = .bad 11 [] from hV)
        clear hV HST
        have hr9 := HR.out
        have c9 := hr9.cell 0 (.slice none 0 0) rfl
        have f9 := hr9.thaw 0
        have HE1 := Lib.hid (blk_one (y := .slice none 0 0) hr9)
        have HE := Lib.hid (krp_bad (P := P) HV.out (below_set HB.out HG.out (.slice none 0 0)))
        have HE0 := Lib.hid (krp_bad (P := P) HV.out HB.out)
        clear hr9
        go_wp2
        have d9 := HE1.out.cell 0 (.slice none 0 0) rfl
        refine bodyPost_ret (v := .tuple #[.agg #[.slice none 0 0], .int .i64 11]) (by first | (simp [results, Try.results58, go_sem, d9]; done) | (simp [results, Try.results58, go_sem, c9]; done)) rfl ?_
        first | exact HE.out | exact HE0.out
      · have HV := Lib.hid (show R = .ok (.mk []) from hV)
        clear hV HST
        have hr9 := HR.out
        have c9 := hr9.cell 0 (.slice none 0 0) rfl
        have f9 := hr9.thaw 0
        have HE1 := Lib.hid (blk_one (y := .slice none 0 0) hr9)
        have HE := Lib.hid (krp_star (P := P) HV.out (below_set HB.out HG.out (.slice none 0 0)))
        have HE0 := Lib.hid (krp_star (P := P) HV.out HB.out)
        clear hr9
        go_wp2
        have d9 := HE1.out.cell 0 (.slice none 0 0) rfl
        refine bodyPost_ret (v := .tuple #[.agg #[.slice none 0 0], .int .i64 0]) (by first | (simp [results, Try.results58, go_sem, d9]; done) | (simp [results, Try.results58, go_sem, c9]; done)) rfl ?_
        first | exact HE.out | exact HE0.out
set_option maxRecDepth 100000 in
set_option maxHeartbeats 4000000 in
theorem own_10 (P : Nat → Prop) (g ks : List K) (t : Con) (w : World) (v x y : Value) (hP : ∀ b, P b → b < w.heap.size) (hg : KSl w P v g) (ht : ConV w P t x) (hs : KSl w P y ks) (hn : Con.nodeB t = true) (hl : ks.length = t.l.length) (hv : ∀ k ∈ ks, K.valid k = true) (hcase : t.op = 10) :
    Calls Try.prog 58 #[v, x, y] w (KrP P (ownK g.reverse t.op t.n t.kind ks) w) := by
  have hkv := kind_valid t hn
  have hnb := nodeB_n t hn
  have hsl := shape_len t hn
  have hsl0 := none_len t hn
  obtain ⟨R, hV⟩ : ∃ R : KR, R = ownK g.reverse t.op t.n t.kind ks := ⟨_, rfl⟩
  rw [← hV]
  obtain ⟨ka, kn, kc, na, nn, nc, la, ln, lc, rfl, -, -, -⟩ := ht.shape
  have hkd : KidV w P t.kind (.slice ka kn kc) := by
    obtain ⟨hs, kv', nv', lv', e, hk, hn, hl⟩ := (conV_iff _ _ _ _).1 ht
    simp only [Value.agg.injEq, Array.mk.injEq, List.cons.injEq, and_true, true_and] at e
    obtain ⟨rfl, rfl, rfl⟩ := e
    exact hk
  obtain ⟨ya, yc, rfl, -, hycm, -⟩ := hs.each
  obtain ⟨ga, gc, rfl, -, hgcm, -⟩ := hg.each
  have hm63 : ks.length ≤ 9223372036854775807 := by
    obtain ⟨a', c', e, h1, h2, -⟩ := hs.each
    injection e with e1 e2 e3
    unfold maxLen at h2; omega
  have hg63 : g.length ≤ 9223372036854775807 := by
    obtain ⟨a', c', e, h1, h2, -⟩ := hg.each
    injection e with e1 e2 e3
    unfold maxLen at h2; omega
  have HS := Lib.hid (fun W (hW : Below w.heap.size w W) => hs.keep (Same.of_below hW hP))
  have HGG := Lib.hid (fun W (hW : Below w.heap.size w W) => hg.keep (Same.of_below hW hP))
  have HK := Lib.hid (fun W (hW : Below w.heap.size w W) => hkd.keep (Same.of_below hW hP))
  have HLO := Lib.hid (fun W (hW : Below w.heap.size w W) => low_up hP hW)
  obtain ⟨yn, hyn⟩ : ∃ yn, yn = ks.length := ⟨_, rfl⟩
  rw [← hyn] at HS hm63 ⊢
  obtain ⟨gn, hgn⟩ : ∃ gn, gn = g.length := ⟨_, rfl⟩
  rw [← hgn] at HGG hg63 ⊢
  generalize t.n = num at *
  generalize t.s = s at *
  obtain ⟨op, hop⟩ : ∃ op, op = t.op := ⟨_, rfl⟩
  rw [← hop] at hV hsl hsl0 hcase ⊢
  obtain ⟨hbx, hbx2, hb⟩ := twoN_new w 28 24 #[.int .i64 op, .int .i64 num, .string s, .slice ka kn kc, .slice na nn nc, .slice la ln lc] #[.slice none 0 0]
  have HP := Lib.hid hP
  have HB := Lib.hid hb
  have H1 := Lib.hid hbx
  have HR := Lib.hid hbx2
  have HG := Lib.hid (Nat.le_succ w.heap.size)
  have HRL := Lib.hid hbx2.lt
  have HCASE := Lib.hid hcase
  have HV0 := Lib.hid hV
  have HYN := Lib.hid hyn
  have HGN := Lib.hid hgn
  have HLL := Lib.hid hl
  have HSL := Lib.hid hsl
  have HSL0 := Lib.hid hsl0
  have HVK := Lib.hid hv
  have HNB := Lib.hid hnb
  have HKV := Lib.hid hkv
  clear hP hs hg ht hkd hb hbx hbx2 hn hop hcase hV hyn hgn hl hsl hsl0 hv hnb hycm hgcm hkv
  go_enter Try.func58, Try.ntmps58
  go_upto_region 1 with fail
  generalize (w.alloc (.cells #[.int .i64 op, .int .i64 num, .string s, .slice ka kn kc, .slice na nn nc, .slice la ln lc] 28)).alloc (.cells #[.slice none 0 0] 24) = w2 at *
  go_wp2_with fail
  go_loopg [9, 10] (yn + 1) (fun g st i wr => ∃ k : Nat, k ≤ yn ∧ i = .int .i64 k ∧ st = .bool ((ks.take k).all (fun k => k.l.length == 0)) ∧ g = yn + 1 - k ∧ wr = w2)
  case atStart => exact ⟨0, by omega, rfl, by rw [List.take_zero]; rfl, by omega, rfl⟩
  case round =>
    obtain ⟨k, hk, rfl, rfl, hgk, rfl⟩ := hrel
    by_cases hlt : k < yn
    · have q5 : decide ((k : Int) < (yn : Int)) = true := decide_eq_true (by omega)
      have hkl : k < ks.length := by rw [← HYN.out]; exact hlt
      have hst := all_take_step (fun k : K => k.l.length == 0) ks k hkl
      obtain ⟨r1, hr1⟩ : ∃ r1, r1 = (ks.take k).all (fun k => k.l.length == 0) := ⟨_, rfl⟩
      rw [← hr1] at hst ⊢
      clear hr1
      cases r1
      · have HF := Lib.hid (show (ks.take (k + 1)).all (fun k => k.l.length == 0) = false from by rw [hst]; rfl)
        clear hst
        go_wp2
        go_roundg (gk - 1)
        case measure => omega
        case rel => exact ⟨k + 1, by omega, by go_num, by rw [HF.out], by omega, rfl⟩
      · obtain ⟨-, b, off, e, hPb, hke⟩ := ksl_at (HS.out wr HB.out) (by omega)
        subst e
        obtain ⟨a5, c5, e5, -, -, hea⟩ := (HS.out wr HB.out).each
        injection e5 with e5 e6 e7
        subst e5 e7
        obtain ⟨b7, o7, x7, e8, -, f0, hk7⟩ := hea k hkl
        injection e8 with e8
        injection e8 with e8 e9 e10
        subst e8 e9
        obtain ⟨a7, c7, rfl⟩ := hk7.form
        have hz : ((ks[k].l.length : Int) == 0) = (ks[k].l.length == 0) := by cases ks[k].l.length <;> rfl
        have HF := Lib.hid (show (ks.take (k + 1)).all (fun k => k.l.length == 0) = (ks[k].l.length == 0) from by rw [hst]; rfl)
        generalize ks[k].l.length = n7 at HF hz f0
        have HZ := Lib.hid hz
        clear hst hea hke hk7 hz e6
        go_wp2
        go_roundg (gk - 1)
        case measure => omega
        case rel => exact ⟨k + 1, by omega, by go_num, by rw [HF.out]; first | rfl | (rw [HZ.out]; done) | (rw [← HZ.out]; done) | (congr 1; exact HZ.out) | (congr 1; exact HZ.out.symm), by omega, rfl⟩
    · have q5 : decide ((k : Int) < (yn : Int)) = false := decide_eq_false (by omega)
      obtain rfl : k = yn := by omega
      have hst : (ks.take k).all (fun k => k.l.length == 0) = ks.all (fun k => k.l.length == 0) := by rw [HYN.out, List.take_length]
      rw [hst]
      obtain ⟨st, hst2⟩ : ∃ st, st = ks.all (fun k => k.l.length == 0) := ⟨_, rfl⟩
      rw [← hst2]
      have HST := Lib.hid hst2
      clear hst hst2
      have c0 := H1.out.cell 0 (.int .i64 op) rfl
      have c1 := H1.out.cell 1 (.int .i64 num) rfl
      have c3 := H1.out.cell 3 (.slice ka kn kc) rfl
      have hV := HV0.out
      unfold ownK at hV
      have hcase := HCASE.out
      rw [if_neg (by omega)] at hV
      rw [if_neg (by omega)] at hV
      rw [if_neg (by omega)] at hV
      rw [if_neg (by omega)] at hV
      rw [if_neg (by omega)] at hV
      subst hcase
      rw [← HST.out] at hV
      clear c1 c3
      cases st
      · have HV := Lib.hid (show R = .bad 11 [] from hV)
        clear hV HST
        have hr9 := HR.out
        have c9 := hr9.cell 0 (.slice none 0 0) rfl
        have f9 := hr9.thaw 0
        have HE1 := Lib.hid (blk_one (y := .slice none 0 0) hr9)
        have HE := Lib.hid (krp_bad (P := P) HV.out (below_set HB.out HG.out (.slice none 0 0)))
        have HE0 := Lib.hid (krp_bad (P := P) HV.out HB.out)
        clear hr9
        go_wp2
        have d9 := HE1.out.cell 0 (.slice none 0 0) rfl
        refine bodyPost_ret (v := .tuple #[.agg #[.slice none 0 0], .int .i64 11]) (by first | (simp [results, Try.results58, go_sem, d9]; done) | (simp [results, Try.results58, go_sem, c9]; done)) rfl ?_
        first | exact HE.out | exact HE0.out
      · have HV := Lib.hid (show R = .ok (.mk []) from hV)
        clear hV HST
        have hr9 := HR.out
        have c9 := hr9.cell 0 (.slice none 0 0) rfl
        have f9 := hr9.thaw 0
        have HE1 := Lib.hid (blk_one (y := .slice none 0 0) hr9)
        have HE := Lib.hid (krp_star (P := P) HV.out (below_set HB.out HG.out (.slice none 0 0)))
        have HE0 := Lib.hid (krp_star (P := P) HV.out HB.out)
        clear hr9
        go_wp2
        have d9 := HE1.out.cell 0 (.slice none 0 0) rfl
        refine bodyPost_ret (v := .tuple #[.agg #[.slice none 0 0], .int .i64 0]) (by first | (simp [results, Try.results58, go_sem, d9]; done) | (simp [results, Try.results58, go_sem, c9]; done)) rfl ?_
        first | exact HE.out | exact HE0.out
set_option maxRecDepth 100000 in
set_option maxHeartbeats 4000000 in
theorem own_lam (P : Nat → Prop) (g ks : List K) (t : Con) (w : World) (v x y : Value) (hP : ∀ b, P b → b < w.heap.size) (hg : KSl w P v g) (ht : ConV w P t x) (hs : KSl w P y ks) (hn : Con.nodeB t = true) (hl : ks.length = t.l.length) (hv : ∀ k ∈ ks, K.valid k = true) (hcase : t.op = 11) :
    Calls Try.prog 58 #[v, x, y] w (KrP P (ownK g.reverse t.op t.n t.kind ks) w) := by
  have hkv := kind_valid t hn
  have hnb := nodeB_n t hn
  have hsl := shape_len t hn
  have hsl0 := none_len t hn
  obtain ⟨R, hV⟩ : ∃ R : KR, R = ownK g.reverse t.op t.n t.kind ks := ⟨_, rfl⟩
  rw [← hV]
  obtain ⟨ka, kn, kc, na, nn, nc, la, ln, lc, rfl, -, -, -⟩ := ht.shape
  have hkd : KidV w P t.kind (.slice ka kn kc) := by
    obtain ⟨hs, kv', nv', lv', e, hk, hn, hl⟩ := (conV_iff _ _ _ _).1 ht
    simp only [Value.agg.injEq, Array.mk.injEq, List.cons.injEq, and_true, true_and] at e
    obtain ⟨rfl, rfl, rfl⟩ := e
    exact hk
  obtain ⟨ya, yc, rfl, -, hycm, -⟩ := hs.each
  obtain ⟨ga, gc, rfl, -, hgcm, -⟩ := hg.each
  have hm63 : ks.length ≤ 9223372036854775807 := by
    obtain ⟨a', c', e, h1, h2, -⟩ := hs.each
    injection e with e1 e2 e3
    unfold maxLen at h2; omega
  have hg63 : g.length ≤ 9223372036854775807 := by
    obtain ⟨a', c', e, h1, h2, -⟩ := hg.each
    injection e with e1 e2 e3
    unfold maxLen at h2; omega
  have HS := Lib.hid (fun W (hW : Below w.heap.size w W) => hs.keep (Same.of_below hW hP))
  have HGG := Lib.hid (fun W (hW : Below w.heap.size w W) => hg.keep (Same.of_below hW hP))
  have HK := Lib.hid (fun W (hW : Below w.heap.size w W) => hkd.keep (Same.of_below hW hP))
  have HLO := Lib.hid (fun W (hW : Below w.heap.size w W) => low_up hP hW)
  obtain ⟨yn, hyn⟩ : ∃ yn, yn = ks.length := ⟨_, rfl⟩
  rw [← hyn] at HS hm63 ⊢
  obtain ⟨gn, hgn⟩ : ∃ gn, gn = g.length := ⟨_, rfl⟩
  rw [← hgn] at HGG hg63 ⊢
  generalize t.n = num at *
  generalize t.s = s at *
  obtain ⟨op, hop⟩ : ∃ op, op = t.op := ⟨_, rfl⟩
  rw [← hop] at hV hsl hsl0 hcase ⊢
  obtain ⟨hbx, hbx2, hb⟩ := twoN_new w 28 24 #[.int .i64 op, .int .i64 num, .string s, .slice ka kn kc, .slice na nn nc, .slice la ln lc] #[.slice none 0 0]
  have HP := Lib.hid hP
  have HB := Lib.hid hb
  have H1 := Lib.hid hbx
  have HR := Lib.hid hbx2
  have HG := Lib.hid (Nat.le_succ w.heap.size)
  have HRL := Lib.hid hbx2.lt
  have HCASE := Lib.hid hcase
  have HV0 := Lib.hid hV
  have HYN := Lib.hid hyn
  have HGN := Lib.hid hgn
  have HLL := Lib.hid hl
  have HSL := Lib.hid hsl
  have HSL0 := Lib.hid hsl0
  have HVK := Lib.hid hv
  have HNB := Lib.hid hnb
  have HKV := Lib.hid hkv
  clear hP hs hg ht hkd hb hbx hbx2 hn hop hcase hV hyn hgn hl hsl hsl0 hv hnb hycm hgcm hkv
  go_enter Try.func58, Try.ntmps58
  go_upto_region 1 with fail
  generalize (w.alloc (.cells #[.int .i64 op, .int .i64 num, .string s, .slice ka kn kc, .slice na nn nc, .slice la ln lc] 28)).alloc (.cells #[.slice none 0 0] 24) = w2 at *
  go_wp2_with fail
  go_loopg [9, 10] (yn + 1) (fun g st i wr => ∃ k : Nat, k ≤ yn ∧ i = .int .i64 k ∧ st = .bool ((ks.take k).all (fun k => k.l.length == 0)) ∧ g = yn + 1 - k ∧ wr = w2)
  case atStart => exact ⟨0, by omega, rfl, by rw [List.take_zero]; rfl, by omega, rfl⟩
  case round =>
    obtain ⟨k, hk, rfl, rfl, hgk, rfl⟩ := hrel
    by_cases hlt : k < yn
    · have q5 : decide ((k : Int) < (yn : Int)) = true := decide_eq_true (by omega)
      have hkl : k < ks.length := by rw [← HYN.out]; exact hlt
      have hst := all_take_step (fun k : K => k.l.length == 0) ks k hkl
      obtain ⟨r1, hr1⟩ : ∃ r1, r1 = (ks.take k).all (fun k => k.l.length == 0) := ⟨_, rfl⟩
      rw [← hr1] at hst ⊢
      clear hr1
      cases r1
      · have HF := Lib.hid (show (ks.take (k + 1)).all (fun k => k.l.length == 0) = false from by rw [hst]; rfl)
        clear hst
        go_wp2
        go_roundg (gk - 1)
        case measure => omega
        case rel => exact ⟨k + 1, by omega, by go_num, by rw [HF.out], by omega, rfl⟩
      · obtain ⟨-, b, off, e, hPb, hke⟩ := ksl_at (HS.out wr HB.out) (by omega)
        subst e
        obtain ⟨a5, c5, e5, -, -, hea⟩ := (HS.out wr HB.out).each
        injection e5 with e5 e6 e7
        subst e5 e7
        obtain ⟨b7, o7, x7, e8, -, f0, hk7⟩ := hea k hkl
        injection e8 with e8
        injection e8 with e8 e9 e10
        subst e8 e9
        obtain ⟨a7, c7, rfl⟩ := hk7.form
        have hz : ((ks[k].l.length : Int) == 0) = (ks[k].l.length == 0) := by cases ks[k].l.length <;> rfl
        have HF := Lib.hid (show (ks.take (k + 1)).all (fun k => k.l.length == 0) = (ks[k].l.length == 0) from by rw [hst]; rfl)
        generalize ks[k].l.length = n7 at HF hz f0
        have HZ := Lib.hid hz
        clear hst hea hke hk7 hz e6
        go_wp2
        go_roundg (gk - 1)
        case measure => omega
        case rel => exact ⟨k + 1, by omega, by go_num, by rw [HF.out]; first | rfl | (rw [HZ.out]; done) | (rw [← HZ.out]; done) | (congr 1; exact HZ.out) | (congr 1; exact HZ.out.symm), by omega, rfl⟩
    · have q5 : decide ((k : Int) < (yn : Int)) = false := decide_eq_false (by omega)
      obtain rfl : k = yn := by omega
      have hst : (ks.take k).all (fun k => k.l.length == 0) = ks.all (fun k => k.l.length == 0) := by rw [HYN.out, List.take_length]
      rw [hst]
      obtain ⟨st, hst2⟩ : ∃ st, st = ks.all (fun k => k.l.length == 0) := ⟨_, rfl⟩
      rw [← hst2]
      have HST := Lib.hid hst2
      clear hst hst2
      have c0 := H1.out.cell 0 (.int .i64 op) rfl
      have c1 := H1.out.cell 1 (.int .i64 num) rfl
      have c3 := H1.out.cell 3 (.slice ka kn kc) rfl
      have hV := HV0.out
      unfold ownK at hV
      have hcase := HCASE.out
      rw [if_neg (by omega)] at hV
      rw [if_neg (by omega)] at hV
      subst hcase
      rw [if_pos rfl] at hV
      have hl1 : ks.length = 1 := by rw [HLL.out]; exact HSL.out.1 (.inl rfl)
      obtain ⟨-, b, off, e, hPb, hke⟩ := ksl_at (HS.out wr HB.out) (by omega)
      subst e
      obtain ⟨a7, n7, c7, f0, hk7⟩ := hke 0 (by omega)
      rw [Nat.add_zero] at f0
      obtain ⟨k0, hk0⟩ : ∃ k0, k0 = ks[0]'(by omega) := ⟨_, rfl⟩
      rw [← hk0] at hk7
      have hg0 : ks.getD 0 (.mk []) = k0 := by rw [hk0]; exact getD_at ks 0 (by omega)
      have hv0 : K.valid k0 = true := by rw [hk0]; exact HVK.out _ (List.getElem_mem _)
      rw [hg0] at hV
      have HV0' := Lib.hid hV
      obtain ⟨pr, hpr⟩ : ∃ pr, pr = K.mk [t.kind, k0] := ⟨_, rfl⟩
      rw [← hpr] at HV0'
      obtain rfl : k = 1 := by have := HYN.out; omega
      have hlow := HLO.out wr HB.out
      have hbz := boxN_new wr 24 #[.slice none 0 0]
      have HC1 := Lib.hid (rpair_any P t.kind k0 wr.drew (.agg #[.slice ka kn kc]) (.agg #[.slice a7 n7 c7]) hlow ⟨_, rfl, HK.out wr.drew HB.out.drew⟩ ⟨_, rfl, hk7.drew⟩)
      have HC2 := Lib.hid (rpair_any P t.kind k0 (wr.alloc (.cells #[.slice none 0 0] 24)).drew (.agg #[.slice ka kn kc]) (.agg #[.slice a7 n7 c7]) (fun q hq => Nat.lt_of_lt_of_le (hlow q hq) hbz.2.size) ⟨_, rfl, HK.out _ (belowStep hbz.2 HB.out).drew⟩ ⟨_, rfl, hk7.keep (Same.of_below hbz.2.drew hlow)⟩)
      rw [← hpr] at HC1 HC2
      have HLW := Lib.hid hlow
      have HZ := Lib.hid (hbz.1.drew)
      have cz3 := (H1.out.of_eq (hbz.2.block _ H1.out.lt)).cell 3 (.slice ka kn kc) rfl
      have cz0 : (wr.alloc (.cells #[.slice none 0 0] 24)).cell? ⟨b, off, none⟩ = some (.slice a7 n7 c7) := (hbz.2.cell (p := ⟨b, off, none⟩) (lt_of_cell f0)).trans f0
      clear hV c1 hk7 hke hg0 hv0 hk0 hl1 hbz hlow
      go_upto_region 27 with fail
      go_cut [11] from 70 to 75 (fun s11 W => PairAt P pr wr W s11)
      case first =>
        go_region_law (first
          | (go_simp; go_at_call 78; refine HC1.out.mono ?_; rintro e w3 ⟨⟨y7, rfl, hy⟩, hb3⟩; have hy' := hy; rw [hpr] at hy'; obtain ⟨ya, yc, rfl⟩ := pair_form hy'; clear hy'; have HQ := Lib.hid (pair1 HLW.out hb3 hy); clear hy hb3)
          | (go_simp; go_at_call 78; refine HC2.out.mono ?_; rintro e w3 ⟨⟨y7, rfl, hy⟩, hb3⟩; have hy' := hy; rw [hpr] at hy'; obtain ⟨ya, yc, rfl⟩ := pair_form hy'; clear hy'; have HQ := Lib.hid (pair2 HLW.out hb3 hy); have hz9 := HZ.out.of_eq (hb3.block _ HZ.out.lt); have z9 := hz9.cell 0 (.slice none 0 0) rfl; have zf9 := hz9.thaw 0; clear hy hb3 hz9)
          | fail)
        all_goals (go_wp2; go_meet)
        all_goals exact HQ.out
      case rest =>
        obtain ⟨b9, qa, qc, rfl, h9, hk9, hb9, hs9⟩ := hcut
        have HQV := Lib.hid (rvalid_any _ pr wc (.agg #[.slice qa 2 qc]) (fun q hq => by
          rcases hq.1 with h | h
          · exact Nat.lt_of_lt_of_le (HLW.out q h) hb9.size
          · exact h.2) ⟨_, rfl, hk9⟩)
        have HK9 := Lib.hid (hk9.mono (fun q hq => (show (P q ∨ (wr.heap.size ≤ q ∧ q < wc.heap.size)) from hq.1)))
        have H9 := Lib.hid h9
        have HS9 := Lib.hid hs9
        replace HR := Lib.hid (HR.out.of_eq (hb9.block _ HR.out.lt))
        replace HB := Lib.hid (belowStep hb9 HB.out)
        generalize K.valid pr = z at HQV HV0'
        have e9 := h9.cell 0 (.slice qa 2 qc) rfl
        clear h9 hk9 hb9 hs9 HC1 HC2 HZ c0 c3 f0 cz3 cz0
        go_wp2_with fail
        clear e9
        refine HQV.out.mono ?_
        rintro e w7 ⟨rfl, hb7⟩
        have HX := Lib.hid ((HK9.out.keep (Same.of_below hb7 (fun q hq => by
          rcases hq with h | h
          · have := HLW.out q h; have := HS9.out; have := H9.out.lt; omega
          · exact h.2))).mono (fun q hq => (show Ext1 P w w7 (w.heap.size + 1) q from by
            have h1 := HRL.out
            have h2 := hb7.size
            rcases hq with h | h
            · exact ⟨.inl h, by have := HP.out q h; omega⟩
            · exact ⟨.inr ⟨by omega, by omega⟩, by omega⟩)))
        have h9 := H9.out.of_eq (hb7.block _ H9.out.lt)
        have e9 := h9.cell 0 (.slice qa 2 qc) rfl
        replace HR := Lib.hid (HR.out.of_eq (hb7.block _ HR.out.lt))
        replace HB := Lib.hid (belowStep hb7 HB.out)
        clear h9 hb7 HQV HK9 H9 HS9
        cases z
        · have HV := Lib.hid (show R = .bad 6 [] from HV0'.out)
          clear e9
          have hr9 := HR.out
          have c9 := hr9.cell 0 (.slice none 0 0) rfl
          have f9 := hr9.thaw 0
          have HE1 := Lib.hid (blk_one (y := .slice none 0 0) hr9)
          have HE := Lib.hid (krp_bad (P := P) HV.out (below_set HB.out HG.out (.slice none 0 0)))
          have HE0 := Lib.hid (krp_bad (P := P) HV.out HB.out)
          clear hr9
          go_wp2
          have d9 := HE1.out.cell 0 (.slice none 0 0) rfl
          refine bodyPost_ret (v := .tuple #[.agg #[.slice none 0 0], .int .i64 6]) (by first | (simp [results, Try.results58, go_sem, d9]; done) | (simp [results, Try.results58, go_sem, c9]; done)) rfl ?_
          first | exact HE.out | exact HE0.out
        · have HV := Lib.hid (show R = .ok pr from HV0'.out)
          have hr9 := HR.out
          have c9 := hr9.cell 0 (.slice none 0 0) rfl
          have f9 := hr9.thaw 0
          have HE1 := Lib.hid (blk_one (y := .slice qa 2 qc) hr9)
          have HE := Lib.hid (krp_end (P := P) HV.out HG.out HB.out ⟨rfl, HX.out⟩)
          clear hr9
          go_wp2
          have d9 := HE1.out.cell 0 (.slice qa 2 qc) rfl
          refine bodyPost_ret (v := .tuple #[.agg #[.slice qa 2 qc], .int .i64 0]) (by simp [results, Try.results58, go_sem, d9]) rfl ?_
          exact HE.out
set_option maxRecDepth 100000 in
set_option maxHeartbeats 4000000 in
theorem own_app (P : Nat → Prop) (g ks : List K) (t : Con) (w : World) (v x y : Value) (hP : ∀ b, P b → b < w.heap.size) (hg : KSl w P v g) (ht : ConV w P t x) (hs : KSl w P y ks) (hn : Con.nodeB t = true) (hl : ks.length = t.l.length) (hv : ∀ k ∈ ks, K.valid k = true) (hcase : t.op = 12) :
    Calls Try.prog 58 #[v, x, y] w (KrP P (ownK g.reverse t.op t.n t.kind ks) w) := by
  have hkv := kind_valid t hn
  have hnb := nodeB_n t hn
  have hsl := shape_len t hn
  have hsl0 := none_len t hn
  obtain ⟨R, hV⟩ : ∃ R : KR, R = ownK g.reverse t.op t.n t.kind ks := ⟨_, rfl⟩
  rw [← hV]
  obtain ⟨ka, kn, kc, na, nn, nc, la, ln, lc, rfl, -, -, -⟩ := ht.shape
  have hkd : KidV w P t.kind (.slice ka kn kc) := by
    obtain ⟨hs, kv', nv', lv', e, hk, hn, hl⟩ := (conV_iff _ _ _ _).1 ht
    simp only [Value.agg.injEq, Array.mk.injEq, List.cons.injEq, and_true, true_and] at e
    obtain ⟨rfl, rfl, rfl⟩ := e
    exact hk
  obtain ⟨ya, yc, rfl, -, hycm, -⟩ := hs.each
  obtain ⟨ga, gc, rfl, -, hgcm, -⟩ := hg.each
  have hm63 : ks.length ≤ 9223372036854775807 := by
    obtain ⟨a', c', e, h1, h2, -⟩ := hs.each
    injection e with e1 e2 e3
    unfold maxLen at h2; omega
  have hg63 : g.length ≤ 9223372036854775807 := by
    obtain ⟨a', c', e, h1, h2, -⟩ := hg.each
    injection e with e1 e2 e3
    unfold maxLen at h2; omega
  have HS := Lib.hid (fun W (hW : Below w.heap.size w W) => hs.keep (Same.of_below hW hP))
  have HGG := Lib.hid (fun W (hW : Below w.heap.size w W) => hg.keep (Same.of_below hW hP))
  have HK := Lib.hid (fun W (hW : Below w.heap.size w W) => hkd.keep (Same.of_below hW hP))
  have HLO := Lib.hid (fun W (hW : Below w.heap.size w W) => low_up hP hW)
  obtain ⟨yn, hyn⟩ : ∃ yn, yn = ks.length := ⟨_, rfl⟩
  rw [← hyn] at HS hm63 ⊢
  obtain ⟨gn, hgn⟩ : ∃ gn, gn = g.length := ⟨_, rfl⟩
  rw [← hgn] at HGG hg63 ⊢
  generalize t.n = num at *
  generalize t.s = s at *
  obtain ⟨op, hop⟩ : ∃ op, op = t.op := ⟨_, rfl⟩
  rw [← hop] at hV hsl hsl0 hcase ⊢
  obtain ⟨hbx, hbx2, hb⟩ := twoN_new w 28 24 #[.int .i64 op, .int .i64 num, .string s, .slice ka kn kc, .slice na nn nc, .slice la ln lc] #[.slice none 0 0]
  have HP := Lib.hid hP
  have HB := Lib.hid hb
  have H1 := Lib.hid hbx
  have HR := Lib.hid hbx2
  have HG := Lib.hid (Nat.le_succ w.heap.size)
  have HRL := Lib.hid hbx2.lt
  have HCASE := Lib.hid hcase
  have HV0 := Lib.hid hV
  have HYN := Lib.hid hyn
  have HGN := Lib.hid hgn
  have HLL := Lib.hid hl
  have HSL := Lib.hid hsl
  have HSL0 := Lib.hid hsl0
  have HVK := Lib.hid hv
  have HNB := Lib.hid hnb
  have HKV := Lib.hid hkv
  clear hP hs hg ht hkd hb hbx hbx2 hn hop hcase hV hyn hgn hl hsl hsl0 hv hnb hycm hgcm hkv
  go_enter Try.func58, Try.ntmps58
  go_upto_region 1 with fail
  generalize (w.alloc (.cells #[.int .i64 op, .int .i64 num, .string s, .slice ka kn kc, .slice na nn nc, .slice la ln lc] 28)).alloc (.cells #[.slice none 0 0] 24) = w2 at *
  go_wp2_with fail
  go_loopg [9, 10] (yn + 1) (fun g st i wr => ∃ k : Nat, k ≤ yn ∧ i = .int .i64 k ∧ st = .bool ((ks.take k).all (fun k => k.l.length == 0)) ∧ g = yn + 1 - k ∧ wr = w2)
  case atStart => exact ⟨0, by omega, rfl, by rw [List.take_zero]; rfl, by omega, rfl⟩
  case round =>
    obtain ⟨k, hk, rfl, rfl, hgk, rfl⟩ := hrel
    by_cases hlt : k < yn
    · have q5 : decide ((k : Int) < (yn : Int)) = true := decide_eq_true (by omega)
      have hkl : k < ks.length := by rw [← HYN.out]; exact hlt
      have hst := all_take_step (fun k : K => k.l.length == 0) ks k hkl
      obtain ⟨r1, hr1⟩ : ∃ r1, r1 = (ks.take k).all (fun k => k.l.length == 0) := ⟨_, rfl⟩
      rw [← hr1] at hst ⊢
      clear hr1
      cases r1
      · have HF := Lib.hid (show (ks.take (k + 1)).all (fun k => k.l.length == 0) = false from by rw [hst]; rfl)
        clear hst
        go_wp2
        go_roundg (gk - 1)
        case measure => omega
        case rel => exact ⟨k + 1, by omega, by go_num, by rw [HF.out], by omega, rfl⟩
      · obtain ⟨-, b, off, e, hPb, hke⟩ := ksl_at (HS.out wr HB.out) (by omega)
        subst e
        obtain ⟨a5, c5, e5, -, -, hea⟩ := (HS.out wr HB.out).each
        injection e5 with e5 e6 e7
        subst e5 e7
        obtain ⟨b7, o7, x7, e8, -, f0, hk7⟩ := hea k hkl
        injection e8 with e8
        injection e8 with e8 e9 e10
        subst e8 e9
        obtain ⟨a7, c7, rfl⟩ := hk7.form
        have hz : ((ks[k].l.length : Int) == 0) = (ks[k].l.length == 0) := by cases ks[k].l.length <;> rfl
        have HF := Lib.hid (show (ks.take (k + 1)).all (fun k => k.l.length == 0) = (ks[k].l.length == 0) from by rw [hst]; rfl)
        generalize ks[k].l.length = n7 at HF hz f0
        have HZ := Lib.hid hz
        clear hst hea hke hk7 hz e6
        go_wp2
        go_roundg (gk - 1)
        case measure => omega
        case rel => exact ⟨k + 1, by omega, by go_num, by rw [HF.out]; first | rfl | (rw [HZ.out]; done) | (rw [← HZ.out]; done) | (congr 1; exact HZ.out) | (congr 1; exact HZ.out.symm), by omega, rfl⟩
    · have q5 : decide ((k : Int) < (yn : Int)) = false := decide_eq_false (by omega)
      obtain rfl : k = yn := by omega
      have hst : (ks.take k).all (fun k => k.l.length == 0) = ks.all (fun k => k.l.length == 0) := by rw [HYN.out, List.take_length]
      rw [hst]
      obtain ⟨st, hst2⟩ : ∃ st, st = ks.all (fun k => k.l.length == 0) := ⟨_, rfl⟩
      rw [← hst2]
      have HST := Lib.hid hst2
      clear hst hst2
      have c0 := H1.out.cell 0 (.int .i64 op) rfl
      have c1 := H1.out.cell 1 (.int .i64 num) rfl
      have c3 := H1.out.cell 3 (.slice ka kn kc) rfl
      have hV := HV0.out
      unfold ownK at hV
      have hcase := HCASE.out
      rw [if_neg (by omega)] at hV
      rw [if_neg (by omega)] at hV
      rw [if_neg (by omega)] at hV
      subst hcase
      rw [if_pos rfl] at hV
      have hl1 : ks.length = 2 := by rw [HLL.out]; exact HSL.out.2 rfl
      obtain ⟨-, b, off, e, hPb, hke⟩ := ksl_at (HS.out wr HB.out) (by omega)
      subst e
      obtain ⟨a7, n7, c7, f0, hk7⟩ := hke 0 (by omega)
      obtain ⟨a8, n8, c8, f1, hk8⟩ := hke 1 (by omega)
      rw [Nat.add_zero] at f0
      obtain ⟨k0, hk0⟩ : ∃ k0, k0 = ks[0]'(by omega) := ⟨_, rfl⟩
      rw [← hk0] at hk7
      have hg0 : ks.getD 0 (.mk []) = k0 := by rw [hk0]; exact getD_at ks 0 (by omega)
      have hv0 : K.valid k0 = true := by rw [hk0]; exact HVK.out _ (List.getElem_mem _)
      obtain ⟨k1, hk1⟩ : ∃ k1, k1 = ks[1]'(by omega) := ⟨_, rfl⟩
      rw [← hk1] at hk8
      have hg1 : ks.getD 1 (.mk []) = k1 := by rw [hk1]; exact getD_at ks 1 (by omega)
      have hv1 : K.valid k1 = true := by rw [hk1]; exact HVK.out _ (List.getElem_mem _)
      rw [hg0, hg1] at hV
      have HV0' := Lib.hid hV
      obtain rfl : k = 2 := by have := HYN.out; omega
      have hlow := HLO.out wr HB.out
      obtain ⟨hbx, hbf⟩ := boxN_new wr 24 #[.slice a7 n7 c7]
      have f1' : (wr.alloc (.cells #[.slice a7 n7 c7] 24)).cell? ⟨b, off + 1, none⟩ = some (.slice a8 n8 c8) := (hbf.cell (p := ⟨b, off + 1, none⟩) (lt_of_cell f1)).trans f1
      have e9 := hbx.cell 0 (.slice a7 n7 c7) rfl
      have hk7' := hk7.keep (Same.of_below hbf hlow)
      have hk8' := hk8.keep (Same.of_below hbf hlow)
      have HS1 := Lib.hid hbx.lt
      have HLW := Lib.hid (fun q hq => Nat.lt_of_lt_of_le (hlow q hq) hbf.size)
      have HBX := Lib.hid hbx
      replace HR := Lib.hid (HR.out.of_eq (hbf.block _ HR.out.lt))
      replace HB := Lib.hid (belowStep hbf HB.out)
      have hok := ((K.valid_iff k0).1 hv0).1
      clear hV c1 hk7 hk8 hke hg0 hg1 hk0 hk1 hl1 c3 hbx hbf hlow
      go_upto_region 33 with fail
      clear f1 f0 c0
      generalize wr.alloc (.cells #[.slice a7 n7 c7] 24) = w5 at *
      rcases K.ok_cases hok with rfl | ⟨xx, yy, rfl⟩
      · have HV := Lib.hid (show R = .bad 11 [] from HV0'.out)
        obtain ⟨aq, cq, eq⟩ := hk7'.form
        injection eq with _ eq _
        obtain rfl : n7 = 0 := eq
        clear hk7' hk8' HV0'
        go_quiet (fail)
        replace HR := Lib.hid (HR.out.drewN nq)
        replace HB := Lib.hid (below_drewN10 HB.out nq)
        generalize w5.drewN nq = w6 at HR HB ⊢
        have hr9 := HR.out
        have c9 := hr9.cell 0 (.slice none 0 0) rfl
        have f9 := hr9.thaw 0
        have HE1 := Lib.hid (blk_one (y := .slice none 0 0) hr9)
        have HE := Lib.hid (krp_bad (P := P) HV.out (below_set HB.out HG.out (.slice none 0 0)))
        have HE0 := Lib.hid (krp_bad (P := P) HV.out HB.out)
        clear hr9
        go_wp2
        have d9 := HE1.out.cell 0 (.slice none 0 0) rfl
        refine bodyPost_ret (v := .tuple #[.agg #[.slice none 0 0], .int .i64 11]) (by first | (simp [results, Try.results58, go_sem, d9]; done) | (simp [results, Try.results58, go_sem, c9]; done)) rfl ?_
        first | exact HE.out | exact HE0.out
      · have hvx := (Pl.valid_two xx yy hv0).1
        obtain ⟨e7, b0, o0, e8, hPb0, hkk⟩ := ksl_at (show KSl w5 P (.slice a7 n7 c7) [xx, yy] from hk7') (by simp)
        subst e8
        obtain rfl : n7 = 2 := e7
        obtain ⟨xa, xn, xc, g0, hkx⟩ := hkk 0 (by simp)
        obtain ⟨za, zn, zc, g1, hky⟩ := hkk 1 (by simp)
        rw [Nat.add_zero] at g0
        have hkx : KidV w5 P xx (.slice xa xn xc) := hkx
        have hky : KidV w5 P yy (.slice za zn zc) := hky
        have HQ := Lib.hid (requal_any P P xx k1 w5.drew (.agg #[.slice xa xn xc]) (.agg #[.slice a8 n8 c8]) HLW.out HLW.out ⟨_, rfl, hkx.drew⟩ ⟨_, rfl, hk8'.drew⟩)
        rw [hvx, hv1, Bool.true_and, Bool.true_and] at HQ
        have HV1 := Lib.hid (HV0'.out.trans (appK_two xx yy k1))
        have HKY := Lib.hid (hky.drew)
        have HG1 := Lib.hid g1
        replace HR := Lib.hid HR.out.drew
        replace HB := Lib.hid HB.out.drew
        generalize K.eqv xx k1 = r at HQ HV1
        clear hkx hky hk7' hk8' HV0' hv0 hv1 hvx hok hkk
        have q9 : (((2 : Nat) : Int) == 0) = false := rfl
        go_region_law (go_simp; go_at_call 79; refine HQ.out.mono ?_; rintro e w6 ⟨rfl, hb6⟩)
        all_goals
          replace HR := Lib.hid (HR.out.of_eq (hb6.block _ HR.out.lt))
          have e10 := (HBX.out.drew.of_eq (hb6.block _ HBX.out.drew.lt)).cell 0 (.slice (some ⟨b0, o0, none⟩) 2 c7) rfl
          have g10 : w6.cell? ⟨b0, o0 + 1, none⟩ = some (.slice za zn zc) := (hb6.cell (p := ⟨b0, o0 + 1, none⟩) (lt_of_cell HG1.out)).trans HG1.out
          have HX := Lib.hid ((HKY.out.keep (w' := w6) (Same.of_below hb6 HLW.out)).mono (fun q hq => (show Ext1 P w w6 (w.heap.size + 1) q from ⟨.inl hq, by have := HP.out q hq; omega⟩)))
          replace HB := Lib.hid (belowStep hb6 HB.out)
          clear hb6 HKY HG1 g0 g1 e9 f1'
          cases r
          · have HV := Lib.hid (show R = .bad 11 [] from HV1.out)
            clear e10 g10
            have hr9 := HR.out
            have c9 := hr9.cell 0 (.slice none 0 0) rfl
            have f9 := hr9.thaw 0
            have HE1 := Lib.hid (blk_one (y := .slice none 0 0) hr9)
            have HE := Lib.hid (krp_bad (P := P) HV.out (below_set HB.out HG.out (.slice none 0 0)))
            have HE0 := Lib.hid (krp_bad (P := P) HV.out HB.out)
            clear hr9
            go_wp2
            have d9 := HE1.out.cell 0 (.slice none 0 0) rfl
            refine bodyPost_ret (v := .tuple #[.agg #[.slice none 0 0], .int .i64 11]) (by first | (simp [results, Try.results58, go_sem, d9]; done) | (simp [results, Try.results58, go_sem, c9]; done)) rfl ?_
            first | exact HE.out | exact HE0.out
          · have HV := Lib.hid (show R = .ok yy from HV1.out)
            have hr9 := HR.out
            have c9 := hr9.cell 0 (.slice none 0 0) rfl
            have f9 := hr9.thaw 0
            have HE1 := Lib.hid (blk_one (y := .slice za zn zc) hr9)
            have HE := Lib.hid (krp_end (P := P) HV.out HG.out HB.out ⟨rfl, HX.out⟩)
            clear hr9
            go_wp2
            have d9 := HE1.out.cell 0 (.slice za zn zc) rfl
            refine bodyPost_ret (v := .tuple #[.agg #[.slice za zn zc], .int .i64 0]) (by simp [results, Try.results58, go_sem, d9]) rfl ?_
            exact HE.out
set_option maxRecDepth 100000 in
set_option maxHeartbeats 4000000 in
theorem own_mu (P : Nat → Prop) (g ks : List K) (t : Con) (w : World) (v x y : Value) (hP : ∀ b, P b → b < w.heap.size) (hg : KSl w P v g) (ht : ConV w P t x) (hs : KSl w P y ks) (hn : Con.nodeB t = true) (hl : ks.length = t.l.length) (hv : ∀ k ∈ ks, K.valid k = true) (hcase : t.op = 13) :
    Calls Try.prog 58 #[v, x, y] w (KrP P (ownK g.reverse t.op t.n t.kind ks) w) := by
  have hkv := kind_valid t hn
  have hnb := nodeB_n t hn
  have hsl := shape_len t hn
  have hsl0 := none_len t hn
  obtain ⟨R, hV⟩ : ∃ R : KR, R = ownK g.reverse t.op t.n t.kind ks := ⟨_, rfl⟩
  rw [← hV]
  obtain ⟨ka, kn, kc, na, nn, nc, la, ln, lc, rfl, -, -, -⟩ := ht.shape
  have hkd : KidV w P t.kind (.slice ka kn kc) := by
    obtain ⟨hs, kv', nv', lv', e, hk, hn, hl⟩ := (conV_iff _ _ _ _).1 ht
    simp only [Value.agg.injEq, Array.mk.injEq, List.cons.injEq, and_true, true_and] at e
    obtain ⟨rfl, rfl, rfl⟩ := e
    exact hk
  obtain ⟨ya, yc, rfl, -, hycm, -⟩ := hs.each
  obtain ⟨ga, gc, rfl, -, hgcm, -⟩ := hg.each
  have hm63 : ks.length ≤ 9223372036854775807 := by
    obtain ⟨a', c', e, h1, h2, -⟩ := hs.each
    injection e with e1 e2 e3
    unfold maxLen at h2; omega
  have hg63 : g.length ≤ 9223372036854775807 := by
    obtain ⟨a', c', e, h1, h2, -⟩ := hg.each
    injection e with e1 e2 e3
    unfold maxLen at h2; omega
  have HS := Lib.hid (fun W (hW : Below w.heap.size w W) => hs.keep (Same.of_below hW hP))
  have HGG := Lib.hid (fun W (hW : Below w.heap.size w W) => hg.keep (Same.of_below hW hP))
  have HK := Lib.hid (fun W (hW : Below w.heap.size w W) => hkd.keep (Same.of_below hW hP))
  have HLO := Lib.hid (fun W (hW : Below w.heap.size w W) => low_up hP hW)
  obtain ⟨yn, hyn⟩ : ∃ yn, yn = ks.length := ⟨_, rfl⟩
  rw [← hyn] at HS hm63 ⊢
  obtain ⟨gn, hgn⟩ : ∃ gn, gn = g.length := ⟨_, rfl⟩
  rw [← hgn] at HGG hg63 ⊢
  generalize t.n = num at *
  generalize t.s = s at *
  obtain ⟨op, hop⟩ : ∃ op, op = t.op := ⟨_, rfl⟩
  rw [← hop] at hV hsl hsl0 hcase ⊢
  obtain ⟨hbx, hbx2, hb⟩ := twoN_new w 28 24 #[.int .i64 op, .int .i64 num, .string s, .slice ka kn kc, .slice na nn nc, .slice la ln lc] #[.slice none 0 0]
  have HP := Lib.hid hP
  have HB := Lib.hid hb
  have H1 := Lib.hid hbx
  have HR := Lib.hid hbx2
  have HG := Lib.hid (Nat.le_succ w.heap.size)
  have HRL := Lib.hid hbx2.lt
  have HCASE := Lib.hid hcase
  have HV0 := Lib.hid hV
  have HYN := Lib.hid hyn
  have HGN := Lib.hid hgn
  have HLL := Lib.hid hl
  have HSL := Lib.hid hsl
  have HSL0 := Lib.hid hsl0
  have HVK := Lib.hid hv
  have HNB := Lib.hid hnb
  have HKV := Lib.hid hkv
  clear hP hs hg ht hkd hb hbx hbx2 hn hop hcase hV hyn hgn hl hsl hsl0 hv hnb hycm hgcm hkv
  go_enter Try.func58, Try.ntmps58
  go_upto_region 1 with fail
  generalize (w.alloc (.cells #[.int .i64 op, .int .i64 num, .string s, .slice ka kn kc, .slice na nn nc, .slice la ln lc] 28)).alloc (.cells #[.slice none 0 0] 24) = w2 at *
  go_wp2_with fail
  go_loopg [9, 10] (yn + 1) (fun g st i wr => ∃ k : Nat, k ≤ yn ∧ i = .int .i64 k ∧ st = .bool ((ks.take k).all (fun k => k.l.length == 0)) ∧ g = yn + 1 - k ∧ wr = w2)
  case atStart => exact ⟨0, by omega, rfl, by rw [List.take_zero]; rfl, by omega, rfl⟩
  case round =>
    obtain ⟨k, hk, rfl, rfl, hgk, rfl⟩ := hrel
    by_cases hlt : k < yn
    · have q5 : decide ((k : Int) < (yn : Int)) = true := decide_eq_true (by omega)
      have hkl : k < ks.length := by rw [← HYN.out]; exact hlt
      have hst := all_take_step (fun k : K => k.l.length == 0) ks k hkl
      obtain ⟨r1, hr1⟩ : ∃ r1, r1 = (ks.take k).all (fun k => k.l.length == 0) := ⟨_, rfl⟩
      rw [← hr1] at hst ⊢
      clear hr1
      cases r1
      · have HF := Lib.hid (show (ks.take (k + 1)).all (fun k => k.l.length == 0) = false from by rw [hst]; rfl)
        clear hst
        go_wp2
        go_roundg (gk - 1)
        case measure => omega
        case rel => exact ⟨k + 1, by omega, by go_num, by rw [HF.out], by omega, rfl⟩
      · obtain ⟨-, b, off, e, hPb, hke⟩ := ksl_at (HS.out wr HB.out) (by omega)
        subst e
        obtain ⟨a5, c5, e5, -, -, hea⟩ := (HS.out wr HB.out).each
        injection e5 with e5 e6 e7
        subst e5 e7
        obtain ⟨b7, o7, x7, e8, -, f0, hk7⟩ := hea k hkl
        injection e8 with e8
        injection e8 with e8 e9 e10
        subst e8 e9
        obtain ⟨a7, c7, rfl⟩ := hk7.form
        have hz : ((ks[k].l.length : Int) == 0) = (ks[k].l.length == 0) := by cases ks[k].l.length <;> rfl
        have HF := Lib.hid (show (ks.take (k + 1)).all (fun k => k.l.length == 0) = (ks[k].l.length == 0) from by rw [hst]; rfl)
        generalize ks[k].l.length = n7 at HF hz f0
        have HZ := Lib.hid hz
        clear hst hea hke hk7 hz e6
        go_wp2
        go_roundg (gk - 1)
        case measure => omega
        case rel => exact ⟨k + 1, by omega, by go_num, by rw [HF.out]; first | rfl | (rw [HZ.out]; done) | (rw [← HZ.out]; done) | (congr 1; exact HZ.out) | (congr 1; exact HZ.out.symm), by omega, rfl⟩
    · have q5 : decide ((k : Int) < (yn : Int)) = false := decide_eq_false (by omega)
      obtain rfl : k = yn := by omega
      have hst : (ks.take k).all (fun k => k.l.length == 0) = ks.all (fun k => k.l.length == 0) := by rw [HYN.out, List.take_length]
      rw [hst]
      obtain ⟨st, hst2⟩ : ∃ st, st = ks.all (fun k => k.l.length == 0) := ⟨_, rfl⟩
      rw [← hst2]
      have HST := Lib.hid hst2
      clear hst hst2
      have c0 := H1.out.cell 0 (.int .i64 op) rfl
      have c1 := H1.out.cell 1 (.int .i64 num) rfl
      have c3 := H1.out.cell 3 (.slice ka kn kc) rfl
      have hV := HV0.out
      unfold ownK at hV
      have hcase := HCASE.out
      rw [if_neg (by omega)] at hV
      rw [if_neg (by omega)] at hV
      rw [if_neg (by omega)] at hV
      rw [if_neg (by omega)] at hV
      subst hcase
      rw [if_pos rfl] at hV
      have hl1 : ks.length = 1 := by rw [HLL.out]; exact HSL.out.1 (.inr rfl)
      obtain ⟨-, b, off, e, hPb, hke⟩ := ksl_at (HS.out wr HB.out) (by omega)
      subst e
      obtain ⟨a7, n7, c7, f0, hk7⟩ := hke 0 (by omega)
      rw [Nat.add_zero] at f0
      obtain ⟨k0, hk0⟩ : ∃ k0, k0 = ks[0]'(by omega) := ⟨_, rfl⟩
      rw [← hk0] at hk7
      have hg0 : ks.getD 0 (.mk []) = k0 := by rw [hk0]; exact getD_at ks 0 (by omega)
      have hv0 : K.valid k0 = true := by rw [hk0]; exact HVK.out _ (List.getElem_mem _)
      rw [hg0] at hV
      have HV0' := Lib.hid hV
      obtain rfl : k = 1 := by have := HYN.out; omega
      have hlow := HLO.out wr HB.out
      have HQ := Lib.hid (requal_any P P k0 t.kind wr.drew (.agg #[.slice a7 n7 c7]) (.agg #[.slice ka kn kc]) hlow hlow ⟨_, rfl, hk7.drew⟩ ⟨_, rfl, HK.out wr.drew HB.out.drew⟩)
      rw [hv0, HKV.out, Bool.true_and, Bool.true_and, eqv_comm] at HQ
      generalize K.eqv t.kind k0 = r at HQ HV0'
      clear hV c1 hk7 hke hg0 hv0 hk0 hl1 hlow
      go_upto_region 36 with fail
      go_region_law (go_simp; go_at_call 79; refine HQ.out.mono ?_; rintro e w6 ⟨rfl, hb6⟩)
      all_goals
        have c3' := (H1.out.drew.of_eq (hb6.block _ H1.out.drew.lt)).cell 3 (.slice ka kn kc) rfl
        have HX := Lib.hid ((HK.out w6 (belowStep hb6 HB.out.drew)).mono (fun q hq => (show Ext1 P w w6 (w.heap.size + 1) q from ⟨.inl hq, by have := HP.out q hq; omega⟩)))
        replace HR := Lib.hid (HR.out.drew.of_eq (hb6.block _ HR.out.drew.lt))
        replace HB := Lib.hid (belowStep hb6 HB.out.drew)
        clear hb6 c0 c3 f0
        cases r
        · have HV := Lib.hid (show R = .bad 11 [] from HV0'.out)
          clear c3'
          have hr9 := HR.out
          have c9 := hr9.cell 0 (.slice none 0 0) rfl
          have f9 := hr9.thaw 0
          have HE1 := Lib.hid (blk_one (y := .slice none 0 0) hr9)
          have HE := Lib.hid (krp_bad (P := P) HV.out (below_set HB.out HG.out (.slice none 0 0)))
          have HE0 := Lib.hid (krp_bad (P := P) HV.out HB.out)
          clear hr9
          go_wp2
          have d9 := HE1.out.cell 0 (.slice none 0 0) rfl
          refine bodyPost_ret (v := .tuple #[.agg #[.slice none 0 0], .int .i64 11]) (by first | (simp [results, Try.results58, go_sem, d9]; done) | (simp [results, Try.results58, go_sem, c9]; done)) rfl ?_
          first | exact HE.out | exact HE0.out
        · have HV := Lib.hid (show R = .ok t.kind from HV0'.out)
          have hr9 := HR.out
          have c9 := hr9.cell 0 (.slice none 0 0) rfl
          have f9 := hr9.thaw 0
          have HE1 := Lib.hid (blk_one (y := .slice ka kn kc) hr9)
          have HE := Lib.hid (krp_end (P := P) HV.out HG.out HB.out ⟨rfl, HX.out⟩)
          clear hr9
          go_wp2
          have d9 := HE1.out.cell 0 (.slice ka kn kc) rfl
          refine bodyPost_ret (v := .tuple #[.agg #[.slice ka kn kc], .int .i64 0]) (by simp [results, Try.results58, go_sem, d9]) rfl ?_
          exact HE.out
theorem rown_any (P : Nat → Prop) (g ks : List K) (t : Con) (w : World) (v x y : Value) (hP : ∀ b, P b → b < w.heap.size) (hg : KSl w P v g) (ht : ConV w P t x) (hs : KSl w P y ks) (hn : Con.nodeB t = true) (hl : ks.length = t.l.length) (hv : ∀ k ∈ ks, K.valid k = true) :
    Calls Try.prog 58 #[v, x, y] w (KrP P (ownK g.reverse t.op t.n t.kind ks) w) := by
  have hr := op_range t hn
  have h : t.op = 1 ∨ t.op = 2 ∨ t.op = 3 ∨ t.op = 4 ∨ t.op = 5 ∨ t.op = 6 ∨ t.op = 7 ∨ t.op = 8 ∨ t.op = 9 ∨ t.op = 10 ∨ t.op = 11 ∨ t.op = 12 ∨ t.op = 13 := by omega
  rcases h with h | h | h | h | h | h | h | h | h | h | h | h | h
  · exact own_var P g ks t w v x y hP hg ht hs hn hl hv h
  · exact own_const P g ks t w v x y hP hg ht hs hn hl hv h
  · exact own_3 P g ks t w v x y hP hg ht hs hn hl hv h
  · exact own_4 P g ks t w v x y hP hg ht hs hn hl hv h
  · exact own_5 P g ks t w v x y hP hg ht hs hn hl hv h
  · exact own_6 P g ks t w v x y hP hg ht hs hn hl hv h
  · exact own_7 P g ks t w v x y hP hg ht hs hn hl hv h
  · exact own_8 P g ks t w v x y hP hg ht hs hn hl hv h
  · exact own_9 P g ks t w v x y hP hg ht hs hn hl hv h
  · exact own_10 P g ks t w v x y hP hg ht hs hn hl hv h
  · exact own_lam P g ks t w v x y hP hg ht hs hn hl hv h
  · exact own_app P g ks t w v x y hP hg ht hs hn hl hv h
  · exact own_mu P g ks t w v x y hP hg ht hs hn hl hv h
end Go.Proofs.Ytmjkeejinagokaa
namespace Go.Proofs.Ytmjkeejinagokaa
open Go Go.RowKit
open Pl (K Con KR KS kof kofs ownK inK appK)
set_option linter.unusedSimpArgs false
set_option linter.unusedVariables false

/-- what the reference's of answers: the place lies backwards -/
def RoP (P : Nat → Prop) (r : KR) (w : World) (e : Ending) (w' : World) : Prop :=
  (∃ a n c pv, e = .returned (.tuple #[.agg #[.slice a n c], .int .i64 r.er, pv]) ∧ KidV w' (Ext P w w') r.kd (.slice a n c) ∧ w'.ownsRow w.heap.size 3 1 pv r.pt.length (pathV r.pt.reverse)) ∧ Below w.heap.size w w'
theorem rop_bad {P : Nat → Prop} {w W : World} {R : KR} {e : Int} {k m : Nat} {p : List Nat} {pv : Value} {base : Nat} (hv : R = .bad e (k :: p)) (hb : Below w.heap.size w W) (hp : W.ownsRow base 3 1 pv (m + 1) (pathV p.reverse ++ [.int .i64 (k : Int)])) (hm : m = p.length) (hbs : w.heap.size ≤ base) :
    RoP P R w (.returned (.tuple #[.agg #[.slice none 0 0], .int .i64 e, pv])) W := by
  subst hv hm
  refine ⟨⟨none, 0, 0, pv, rfl, kidV_none _ _, ?_⟩, hb⟩
  have h := hp.mono hbs
  have e1 : pathV (k :: p).reverse = pathV p.reverse ++ [.int .i64 (k : Int)] := by
    rw [List.reverse_cons]
    unfold pathV
    rw [List.map_append]
    rfl
  show W.ownsRow w.heap.size 3 1 pv (k :: p).length (pathV (k :: p).reverse)
  rw [e1]
  exact h
theorem rop_fwd {P : Nat → Prop} {w W : World} {R r : KR} {er : Int} {g : Nat} {a : Option Addr} {n c : Nat} (hv : R = r) (her : r.er = er) (hpt : r.pt = []) (hg : w.heap.size ≤ g) (hb : Below w.heap.size w W) (hx : KidV W (Ext1 P w W g) r.kd (.slice a n c)) :
    RoP P R w (.returned (.tuple #[.agg #[.slice a n c], .int .i64 er, .slice none 0 0])) (W.setCell ⟨g, 0, none⟩ (.slice a n c)) := by
  subst hv her
  refine ⟨⟨a, n, c, _, rfl, (hx.keep (Same.set (w := W) ⟨g, 0, none⟩ (.slice a n c) (fun q hq => hq.2))).mono (fun q hq => ?_), ?_⟩, below_set hb hg _⟩
  · rcases hq.1 with hq | hq
    · exact .inl hq
    · exact .inr ⟨hq.1, by rw [size_set]; exact hq.2⟩
  · rw [hpt]; exact World.ownsRow_nil _ _ _ _
/-- what the loop holds -/
structure RI (Pin : Nat → Prop) (w3 wr : World) (t : Con) (g2 : List K) (k : Nat) (ks : List K) (us : List Value) (pv : Value) : Prop where
  len : ks.length = k
  eq : kofs g2.reverse t.l 0 = (kofs g2.reverse (t.l.drop k) k).pre ks
  val : ∀ x ∈ ks, K.valid x = true
  row : wr.ownsRow w3.heap.size 24 1 pv k us
  kids : KindRow wr (fun q => (Pin q ∨ (w3.heap.size ≤ q ∧ q < wr.heap.size)) ∧ pv.ownBlock ≠ some q) us ks
  below : Below w3.heap.size w3 wr
theorem RI.push {Pin : Nat → Prop} {w3 wr w5 w7 w8 : World} {t : Con} {g2 : List K} {k gg cap : Nat} {ks : List K} {us : List Value} {pv : Value} {x : K} {a : Option Addr} {n c : Nat} (h : RI Pin w3 wr t g2 k ks us pv) (hPin : ∀ q, Pin q → q < w3.heap.size) (hk : k < t.l.length) (hx : kof g2.reverse t.l[k] = .ok x) (hv : K.valid x = true)
    (h1 : Below wr.heap.size wr w5) (hkid : KidV w5 (Ext Pin wr w5) x (.slice a n c)) (h2 : Below w5.heap.size w5 w7) (hown : w8.ownsRow w3.heap.size 24 1 (.slice (some ⟨gg, 0, none⟩) (k + 1) cap) (k + 1) (us ++ [.slice a n c])) (hgrow : w7.grownBy w8 pv.ownBlock) (hat : pv.ownBlock = some gg ∨ gg = w7.heap.size) :
    RI Pin w3 w8 t g2 (k + 1) (ks ++ [x]) (us ++ [.slice a n c]) (.slice (some ⟨gg, 0, none⟩) (k + 1) cap) := by
  have hs0 := h.below.size
  have hs1 := h1.size
  have hs2 := h2.size
  have hs3 := World.grownBy.size hgrow
  have hold : ∀ q, pv.ownBlock = some q → w3.heap.size ≤ q ∧ q < wr.heap.size := h.row.lt
  have hsame : ∀ q, q < w7.heap.size → pv.ownBlock ≠ some q → w8.heap[q]? = w7.heap[q]? := fun q ha hb => hgrow.block q ha (fun e => hb e.symm)
  have hmono : ∀ q, ((Pin q ∨ (w3.heap.size ≤ q ∧ q < w7.heap.size)) ∧ pv.ownBlock ≠ some q) → ((Pin q ∨ (w3.heap.size ≤ q ∧ q < w8.heap.size)) ∧ (Value.slice (some ⟨gg, 0, none⟩) (k + 1) cap).ownBlock ≠ some q) := fun q hq => by
    refine ⟨?_, fun e => ?_⟩
    · rcases hq.1 with h | h
      · exact .inl h
      · exact .inr ⟨h.1, by omega⟩
    · have e : (some gg : Option Nat) = some q := e
      injection e with e
      subst e
      rcases hat with h5 | h5
      · exact hq.2 h5
      · rcases hq.1 with h | h
        · have := hPin _ h; omega
        · omega
  have hlow : ∀ q, ((Pin q ∨ (w3.heap.size ≤ q ∧ q < w7.heap.size)) ∧ pv.ownBlock ≠ some q) → q < w7.heap.size := fun q hq => by
    rcases hq.1 with h | h
    · have := hPin q h; omega
    · exact h.2
  refine ⟨by rw [List.length_append, h.len]; rfl, ?_, ?_, hown, ?_, ?_⟩
  · rw [h.eq, Pl.kofs_step _ _ _ hk, hx]
    exact Pl.KS.pre_pre ks [x] _
  · intro y hy
    rcases List.mem_append.1 hy with hy | hy
    · exact h.val y hy
    · simp at hy
      rw [hy]; exact hv
  · have k1 : KindRow w7 (fun q => (Pin q ∨ (w3.heap.size ≤ q ∧ q < w7.heap.size)) ∧ pv.ownBlock ≠ some q) us ks := by
      refine (h.kids.keep (w' := w7) (fun q hq => ?_)).mono (fun q hq => ⟨?_, hq.2⟩)
      · have hq' : q < wr.heap.size := by
          rcases hq.1 with h | h
          · have := hPin q h; omega
          · exact h.2
        exact (h2.block q (by omega)).trans (h1.block q hq')
      · rcases hq.1 with h | h
        · exact .inl h
        · exact .inr ⟨h.1, by omega⟩
    have k2 : KidV w7 (fun q => (Pin q ∨ (w3.heap.size ≤ q ∧ q < w7.heap.size)) ∧ pv.ownBlock ≠ some q) x (.slice a n c) := by
      refine (hkid.keep (w' := w7) (fun q hq => h2.block q ?_)).mono (fun q hq => ⟨?_, fun e => ?_⟩)
      · rcases hq with h | h
        · have := hPin q h; omega
        · exact h.2
      · rcases hq with h | h
        · exact .inl h
        · exact .inr ⟨by have := h.1; omega, by have := h.2; omega⟩
      · have := hold q e
        rcases hq with h | h
        · have := hPin q h; omega
        · have := h.1; omega
    exact ((k1.push k2).keep (fun q hq => hsame q (hlow q hq) hq.2)).mono hmono
  · exact (((h.below.trans (h1.mono (by omega))).trans (h2.mono (by omega))).grown hgrow (by omega) (fun q hq => (hold q hq).1))
theorem RI.row_sl {Pin : Nat → Prop} {w3 wr : World} {t : Con} {g2 : List K} {k : Nat} {ks : List K} {us : List Value} {pv : Value} (h : RI Pin w3 wr t g2 k ks us pv) : KSl wr (fun q => Pin q ∨ (w3.heap.size ≤ q ∧ q < wr.heap.size)) pv ks :=
  row_ksl h.row h.len.symm h.kids (fun b hb => hb.1) (fun b h1 h2 => .inr ⟨h1, h2⟩)

set_option maxRecDepth 100000 in
set_option maxHeartbeats 4000000 in
theorem rof_any (t : Con) : ∀ (P : Nat → Prop) (g : List K) (w : World) (gv v : Value), (∀ b, P b → b < w.heap.size) → KSl w P gv g → ConV w P t v → Con.allB t = true → (∀ k ∈ g, K.valid k = true) → g.length + t.depth ≤ 100000 →
    Calls Try.prog 32 #[gv, v] w (RoP P (kof g.reverse t) w) := by
  induction t using Con.ind with
  | h t ih =>
  intro P g w gv v hP hg ht ha hgv hgl
  obtain ⟨hnode, hparts⟩ := allB_parts t ha
  have hkv := kind_valid t hnode
  have hll := (node_facts10 t hnode).2.2
  have HIH := Lib.hid (show ∀ (k : Nat) (hk : k < t.l.length) (r : KR) (P' : Nat → Prop) (g' : List K) (W : World) (gv' v' : Value), r = kof g'.reverse (t.l[k]'hk) → (∀ b, P' b → b < W.heap.size) → KSl W P' gv' g' → ConV W P' (t.l[k]'hk) v' → (∀ k ∈ g', K.valid k = true) → g'.length + (t.l[k]'hk).depth ≤ 100000 → Calls Try.prog 32 #[gv', v'] W (RoP P' r W) from fun k hk r P' g' W gv' v' hr a1 a2 a3 a5 a6 => by
    subst hr
    exact ih (t.l[k]'hk) (List.getElem_mem hk) P' g' W gv' v' a1 a2 a3 (hparts _ (List.getElem_mem hk)) a5 a6)
  have HPV := Lib.hid (fun (k : Nat) (hk : k < t.l.length) r x a1 a2 => kof_valid (t.l[k]'hk) r x (hparts _ (List.getElem_mem hk)) a1 a2)
  have HPB := Lib.hid (fun (k : Nat) (hk : k < t.l.length) r e p a1 => kof_bad (t.l[k]'hk) r e p a1)
  have HDP := Lib.hid (depth_part10 t)
  have HND := Lib.hid (fun P' ks W x a1 a2 a3 a4 a6 a7 => rown_any P' g ks t W gv v x a1 a2 a3 a4 hnode a6 a7)
  obtain ⟨R, hV⟩ : ∃ R : KR, R = kof g.reverse t := ⟨_, rfl⟩
  rw [← hV]
  rw [Pl.kof_eq, ← scopeOf_rev] at hV
  have hPT := ownK_pt g.reverse t.op t.n t.kind
  generalize hOK : ownK g.reverse t.op t.n t.kind = OK at *
  have HV0 := Lib.hid hV
  have HPT := Lib.hid hPT
  have hg2v : ∀ k ∈ scopeOf g t, K.valid k = true := by
    unfold scopeOf
    split
    · intro k hk
      rcases List.mem_append.1 hk with hk | hk
      · exact hgv k hk
      · simp at hk; rw [hk]; exact hkv
    · exact hgv
  have hg2l : (scopeOf g t).length ≤ g.length + 1 := by
    unfold scopeOf
    split
    · rw [List.length_append]; exact Nat.le_refl _
    · omega
  have HG2V := Lib.hid hg2v
  have HBI := Lib.hid (show scopeOf g t = if Con.binder t.op then g ++ [t.kind] else g from rfl)
  have HBN := Lib.hid (fun W => rbinder_any t.op W)
  generalize scopeOf g t = g2 at *
  have HSL := Lib.hid (fun W (hW : Below w.heap.size w W) => (show ConV W P t v ∧ KSl W P gv g ∧ ∀ b, P b → b < W.heap.size from ⟨ht.keep (Same.of_below hW hP), hg.keep (Same.of_below hW hP), low_up hP hW⟩))
  have HP := Lib.hid hP
  obtain ⟨ka, kn, kc, na, nn, nc, la, ln, lc, rfl, -, -, hln⟩ := ht.shape
  have HLL := Lib.hid (fun W (hW : Below w.heap.size w W) => (show ConSl W P (.slice la ln lc) t.l ∧ KidV W P t.kind (.slice ka kn kc) from by
    obtain ⟨hs, kv', nv', lv', e, hk, hn, hl⟩ := (conV_iff _ _ _ _).1 (HSL.out W hW).1
    simp only [Value.agg.injEq, Array.mk.injEq, List.cons.injEq, and_true, true_and] at e
    obtain ⟨rfl, rfl, rfl⟩ := e
    exact ⟨hl, hk⟩))
  obtain ⟨ga, gc, rfl, -⟩ := hg.each
  have HGL := Lib.hid hgl
  rw [hln] at HLL
  obtain ⟨n, hn⟩ : ∃ n, n = t.l.length := ⟨_, rfl⟩
  rw [hln] at HSL HND ⊢
  rw [← hn] at HLL hll HSL HND ⊢
  have HN := Lib.hid hn
  generalize t.n = num at *
  generalize t.s = s at *
  generalize t.op = op at *
  generalize hgn : g.length = gn at *
  have HGN := Lib.hid hgn
  obtain ⟨hbx, hbx2, hb⟩ := twoN_new w 28 24 #[.int .i64 op, .int .i64 num, .string s, .slice ka kn kc, .slice na nn nc, .slice la n lc] #[.slice none 0 0]
  have HB := Lib.hid hb
  have H1 := Lib.hid hbx
  have HR := Lib.hid hbx2
  have c0 := hbx.cell 0 (.int .i64 op) rfl
  have c3 := hbx.cell 3 (.slice ka kn kc) rfl
  have HGLL := Lib.hid (show g.length ≤ 100000 from by omega)
  clear ih hP hg ht ha hgv hgl hnode hparts hV hOK hPT hg2v hln hn hbx hbx2 hb hkv hgn
  go_enter Try.func32, Try.ntmps32
  go_wp2_with fail
  clear c0
  generalize (w.alloc (.cells #[.int .i64 op, .int .i64 num, .string s, .slice ka kn kc, .slice na nn nc, .slice la n lc] 28)).alloc (.cells #[.slice none 0 0] 24) = w2 at *
  refine (HBN.out w2).mono ?_
  rintro e w2' ⟨rfl, rfl⟩
  have HBB := Lib.hid HB.out.size
  have HS2 := Lib.hid (show w.heap.size + 1 < w2.heap.size from HR.out.lt)
  obtain ⟨bi, hbi⟩ : ∃ bi, bi = Con.binder op := ⟨_, rfl⟩
  rw [← hbi] at HBI ⊢
  clear HBN hbi
  cases bi
  · replace HBI := Lib.hid (show g2 = g from HBI.out)
    clear c3
    have HIN := Lib.hid (show KSl w2 (Ext P w2 w2) (.slice ga gn gc) g2 from by rw [HBI.out]; exact (HSL.out w2 HB.out).2.1.mono (fun q hq => .inl hq))
    have HS3 := Lib.hid (Nat.le_refl w2.heap.size)
    have HRL := HS2
    have HPIN := Lib.hid (show ∀ q, Ext P w2 w2 q → q < w2.heap.size from fun q hq => by
      rcases hq with hq | hq
      · have := HP.out q hq; have := HBB.out; have := HS3.out; omega
      · exact hq.2)
    have hk0 : RI (Ext P w2 w2) w2 w2 t g2 0 [] [] (.slice none 0 0) := ⟨rfl, by rw [List.drop_zero, Pl.KS.pre_nil], (fun x hx => by cases hx), World.ownsRow_nil _ _ _ _, ⟨rfl, fun j hj => absurd hj (Nat.not_lt_zero _)⟩, Below.refl _ _⟩
    have HK0 := Lib.hid hk0
    clear hk0
    go_wp2_with fail
    go_loopg [8, 9] (n + 1) (fun gk pv i wr => ∃ (k : Nat) (ks : List K) (us : List Value), k ≤ n ∧ i = .int .i64 k ∧ gk = n + 1 - k ∧ RI (Ext P w2 w2) w2 wr t g2 k ks us pv)
    case atStart => exact ⟨0, [], [], by omega, rfl, by omega, HK0.out⟩
    case round =>
      obtain ⟨k, ks, us, hk, rfl, hgk, hri⟩ := hrel
      have HRI := Lib.hid hri
      have HW0 := Lib.hid (show Below w.heap.size w wr from belowStep (a := w) (b := w2) hri.below HB.out)
      have HINr := Lib.hid (HIN.out.keep (Same.of_below hri.below HPIN.out))
      have H1r := Lib.hid (H1.out.of_eq (hri.below.block _ H1.out.lt))
      have HRr := Lib.hid (HR.out.of_eq (hri.below.block _ HR.out.lt))
      have c5 := H1r.out.cell 5 (.slice la n lc) rfl
      have hs0 := hri.below.size
      by_cases hlt : k < n
      · have q5 : decide ((k : Int) < (n : Int)) = true := decide_eq_true (by omega)
        have hkl : k < t.l.length := by rw [← HN.out]; exact hlt
        obtain ⟨b, off, c', xa, xn, xc, xa2, xn2, xc2, za, zn, zc, e, -, f0, f1, f2, f3, f4, f5, hx⟩ := (HLL.out wr HW0.out).1.part k hkl
        injection e with e1 e2 e3
        subst e1 e3
        clear e2
        obtain ⟨r, hr⟩ : ∃ r, r = kof g2.reverse t.l[k] := ⟨_, rfl⟩
        have HC := Lib.hid (HIH.out k hkl r (Ext P w2 w2) g2 wr (.slice ga gn gc) _ hr (fun q hq => by have := HPIN.out q hq; omega) HINr.out (hx.mono (fun q hq => (show Ext P w2 w2 q from .inl hq))) HG2V.out (by have := HDP.out k hkl; have := HGL.out; omega))
        have HKL := Lib.hid hkl
        have HRK := Lib.hid hr
        generalize t.l[k].op = xop at HC f0
        generalize t.l[k].n = xnum at HC f1
        generalize t.l[k].s = xs' at HC f2
        clear hx hri hr
        rcases r with x | ⟨er, p⟩
        · go_wp2_with fail
          clear f0 f1 f2 f3 f4 f5
          refine HC.out.mono ?_
          rintro e w5 ⟨⟨qa, qn, qc, pvc, rfl, hkid, hpv⟩, hb5⟩
          obtain ⟨i28, hi0, hz0, hz1, hz2⟩ := info3 infoKind
          have h6 := boxN_new w5 24 #[.slice qa qn qc]
          have h7 := boxN_new (w5.alloc (.cells #[.slice qa qn qc] 24)) 24 #[.slice qa qn qc]
          have HB7 := Lib.hid (belowStep h7.2 h6.2)
          have e6 := h6.1.cell 0 (.slice qa qn qc) rfl
          have hrow5 : w5.ownsRow w2.heap.size 24 1 u8 k us := HRI.out.row.kept (row := none) ⟨hb5.os, hb5.tape, hb5.output, hb5.size, fun i hi _ => hb5.block i hi⟩ (by cases ho : u8.ownBlock with | none => exact .inl rfl | some k => exact .inr (by simp))
          have HROW7 := Lib.hid ((hrow5.alloc (.cells #[.slice qa qn qc] 24)).alloc (.cells #[.slice qa qn qc] 24))
          have HNEW := Lib.hid (show ∀ j u, [Value.slice qa qn qc][j]? = some u → ((w5.alloc (.cells #[.slice qa qn qc] 24)).alloc (.cells #[.slice qa qn qc] 24)).cell? ((⟨w5.heap.size + 1, 0, none⟩ : Addr).add j) = some u from by
            have h := h7.1
            rw [size_alloc] at h
            exact World.news_of_block (cs := #[.slice qa qn qc]) (t := 24) (fr := (0, 0)) h)
          have hsz7 : ((w5.alloc (.cells #[.slice qa qn qc] 24)).alloc (.cells #[.slice qa qn qc] 24)).heap.size = w5.heap.size + 2 := by rw [size_alloc, size_alloc]
          have HB5 := Lib.hid hb5
          have HKID := Lib.hid hkid
          have HVX := Lib.hid (HPV.out k HKL.out g2.reverse x (fun y hy => HG2V.out y (List.mem_reverse.1 hy)) HRK.out.symm)
          have qe : (KR.er (.ok x) == 0) = true := rfl
          generalize KR.er (.ok x) = er0 at *
          obtain rfl : er0 = 0 := by simpa using qe
          have hsb := hb5.size
          clear hkid hpv hb5 hrow5 h6 h7 qe HC c5
          go_wp2_with (at_builtin; refine wpList_append_lies _ rfl _ _ 22 rfl w2.heap.size 24 i28 (.agg #[.slice none 0 0]) 1 24 Try.underlying22 hi0 hz0 hz1 hz2 rfl (by decide) _ _ _ rfl HROW7.out ⟨w5.heap.size + 1, 0, none⟩ 1 1 [.slice qa qn qc] rfl rfl ?c1 ?c2 (by decide) ?c3 ?c4 ?c5 (w5.heap.size + 2) (by simp) ?_)
          case c1 => exact HNEW.out
          case c2 => simp [Value.oneCell']
          case c3 => unfold maxLen; omega
          case c4 => omega
          case c5 => rw [hsz7]; omega
          intro gg cap w8 hown hgrow hat hlt8
          have HNX := Lib.hid (HRI.out.push HPIN.out HKL.out HRK.out.symm HVX.out HB5.out HKID.out HB7.out hown hgrow (by rw [hsz7]; exact hat))
          clear hown hgrow hat hlt8 HROW7 HNEW HRI e6
          go_wp2
          go_roundg (gk - 1)
          case measure => omega
          case rel => exact ⟨k + 1, ks ++ [x], _, by omega, by go_num, by omega, HNX.out⟩
        · go_wp2_with fail
          clear f0 f1 f2 f3 f4 f5
          refine HC.out.mono ?_
          rintro e w5 ⟨⟨qa, qn, qc, pvc, rfl, hkid, hpv⟩, hb5⟩
          have hpv : w5.ownsRow wr.heap.size 3 1 pvc p.length (pathV p.reverse) := hpv
          have hne : er ≠ 0 := HPB.out k HKL.out _ er p HRK.out.symm
          have qe : (er == 0) = false := beq_eq_false_iff_ne.2 hne
          have HV := Lib.hid (show R = .bad er (k :: p) from by
            rw [HV0.out, HRI.out.eq, Pl.kofs_step _ _ _ HKL.out, ← HRK.out]
            rfl)
          have hpl : p.length + 1 ≤ 100000 := by
            have h1 := kof_len _ _ _ _ HRK.out.symm
            have h2 := HDP.out k HKL.out
            have h3 := HGL.out
            omega
          obtain ⟨i3, hi3, hy0, hy1, hy2⟩ := info3 infoInt10
          have h6 := boxN_new w5 24 #[.slice qa qn qc]
          have h7 := boxN_new (w5.alloc (.cells #[.slice qa qn qc] 24)) 3 #[.int .i64 (k : Int)]
          have hb7 := belowStep h7.2 h6.2
          have HROW7 := Lib.hid ((hpv.alloc (.cells #[.slice qa qn qc] 24)).alloc (.cells #[.int .i64 (k : Int)] 3))
          have HNEW := Lib.hid (show ∀ j u, [Value.int .i64 (k : Int)][j]? = some u → ((w5.alloc (.cells #[.slice qa qn qc] 24)).alloc (.cells #[.int .i64 (k : Int)] 3)).cell? ((⟨w5.heap.size + 1, 0, none⟩ : Addr).add j) = some u from by
            have h := h7.1
            rw [size_alloc] at h
            exact World.news_of_block (cs := #[.int .i64 (k : Int)]) (t := 3) (fr := (0, 0)) h)
          have hsz7 : ((w5.alloc (.cells #[.slice qa qn qc] 24)).alloc (.cells #[.int .i64 (k : Int)] 3)).heap.size = w5.heap.size + 2 := by rw [size_alloc, size_alloc]
          have hr5 := HRr.out.of_eq (hb5.block _ HRr.out.lt)
          have HR7 := Lib.hid (hr5.of_eq (hb7.block _ hr5.lt))
          have HB7 := Lib.hid (belowStep hb7 (belowStep hb5 HW0.out))
          have hsb := hb5.size
          have hwr := HW0.out.size
          have hrlt : w.heap.size + 1 < wr.heap.size := HRr.out.lt
          generalize hge : KR.er (.bad er p) = er1 at *
          obtain rfl : er1 = er := hge.symm
          clear hkid hpv hb5 h6 h7 hb7 hr5 HC c5 HRI hne hge HIH HPV HPB HND HSL HLL HIN HINr
          go_wp2_with (at_builtin; refine wpList_append_own _ rfl _ _ 31 rfl wr.heap.size 3 i3 (.int .i64 0) 1 8 Try.underlying31 hi3 hy0 hy1 hy2 rfl (by decide) pvc p.length (pathV p.reverse) rfl HROW7.out ⟨w5.heap.size + 1, 0, none⟩ 1 1 [.int .i64 (k : Int)] rfl rfl ?c1 ?c2 ?c3 ?c4 ?c5 ?_)
          case c1 => exact HNEW.out
          case c2 => simp [Value.oneCell']
          case c3 => unfold maxLen; omega
          case c4 => omega
          case c5 => rw [hsz7]; omega
          intro v' w8 hown hgrow _
          have hpb : ∀ q, pvc.ownBlock = some q → wr.heap.size ≤ q := fun q hq => (HROW7.out.lt q hq).1
          have hr8 : Blk w8 (w.heap.size + 1) 24 #[.slice none 0 0] := HR7.out.of_eq (hgrow.block _ HR7.out.lt (fun e => by have := hpb _ e.symm; omega))
          have hb8 : Below w.heap.size w w8 := HB7.out.grown hgrow (by rw [hsz7]; omega) (fun q hq => by have := hpb q hq; omega)
          have c9 := hr8.cell 0 (.slice none 0 0) rfl
          have f9 := hr8.thaw 0
          have HE1 := Lib.hid (blk_one (y := .slice none 0 0) hr8)
          have HE0 := Lib.hid (rop_bad (P := P) HV.out hb8 hown rfl hwr)
          have HE := Lib.hid (rop_bad (P := P) (W := w8.setCell ⟨w.heap.size + 1, 0, none⟩ (.slice none 0 0)) HV.out (below_set hb8 (Nat.le_succ _) _) (hown.kept (row := some (w.heap.size + 1)) ⟨rfl, rfl, rfl, by rw [size_set]; exact Nat.le_refl _, fun q hq hn => Below.heap_setCell w8 ⟨w.heap.size + 1, 0, none⟩ _ q (fun e => hn (by rw [e]))⟩ (.inr fun e => by
            have := (hown.lt _ e).1
            omega)) rfl hwr)
          clear hown hgrow hr8 hb8 HROW7 HNEW HR7 HB7 hpb
          go_wp2
          have d9 := HE1.out.cell 0 (.slice none 0 0) rfl
          refine bodyPost_ret (v := .tuple #[.agg #[.slice none 0 0], .int .i64 er1, v']) (by first | (simp [results, Try.results32, go_sem, d9]; done) | (simp [results, Try.results32, go_sem, c9]; done)) rfl ?_
          first | exact HE.out | exact HE0.out
      · have q5 : decide ((k : Int) < (n : Int)) = false := decide_eq_false (by omega)
        have hkn : k = n := by omega
        have hks : ks.length = n := by rw [hri.len, hkn]
        have HV := Lib.hid (show R = OK ks from by
          rw [HV0.out, hri.eq, List.drop_of_length_le (by rw [← HN.out]; omega), Pl.kofs_nil]
          show OK (ks ++ []) = _
          rw [List.append_nil])
        have hrow := hri.row_sl
        have HLOW := Lib.hid (show ∀ q, (Ext P w2 w2 q ∨ (w2.heap.size ≤ q ∧ q < wr.heap.size)) → q < wr.heap.size from fun q hq => by
          rcases hq with hq | hq
          · have := HPIN.out q hq; omega
          · exact hq.2)
        obtain ⟨pa, pc, hpv, -⟩ := hrow.each
        subst hpv
        have HC := Lib.hid (HND.out (fun q => Ext P w2 w2 q ∨ (w2.heap.size ≤ q ∧ q < wr.heap.size)) ks wr (.slice pa ks.length pc) HLOW.out ((HSL.out wr HW0.out).2.1.mono (fun q hq => .inl (.inl hq))) ((HSL.out wr HW0.out).1.mono (fun q hq => .inl (.inl hq))) hrow hks hri.val)
        have HPTK := Lib.hid (HPT.out ks)
        generalize OK ks = ok at *
        generalize ks.length = pn at *
        have c0 := H1r.out.cell 0 (.int .i64 op) rfl
        have c1 := H1r.out.cell 1 (.int .i64 num) rfl
        have c2 := H1r.out.cell 2 (.string s) rfl
        have c3 := H1r.out.cell 3 (.slice ka kn kc) rfl
        have c4 := H1r.out.cell 4 (.slice na nn nc) rfl
        clear hri HRI hrow hks HIH HPV HPB HND HSL HLL HIN HINr HPT HV0 HDP HK0 HG2V
        go_wp2_with fail
        clear c0 c1 c2 c3 c4 c5
        refine HC.out.mono ?_
        rintro e w5 ⟨⟨ra, rn, rc, rfl, hkd⟩, hb5⟩
        obtain ⟨hbx, hb6⟩ := boxN_new w5 24 #[.slice ra rn rc]
        have hkd6 := hkd.keep (Same.of_below hb6 (fun q hq => by
          rcases hq with hq | hq
          · have := HLOW.out q hq; have := hb5.size; omega
          · exact hq.2))
        have hb65 := hb6.size
        have HX := Lib.hid (hkd6.mono (fun q hq => (show Ext1 P w (w5.alloc (.cells #[.slice ra rn rc] 24)) (w.heap.size + 1) q from by
          have h2 := HS2.out
          have h3 := HS3.out
          have h4 := hb5.size
          rcases hq with ((hq | hq) | hq) | hq
          · exact ⟨.inl hq, by have := HP.out q hq; omega⟩
          · exact ⟨.inr ⟨by omega, by omega⟩, by omega⟩
          · exact ⟨.inr ⟨by omega, by omega⟩, by omega⟩
          · exact ⟨.inr ⟨by omega, by omega⟩, by omega⟩)))
        have hr9 := (HRr.out.of_eq (hb5.block _ HRr.out.lt)).alloc (.cells #[.slice ra rn rc] 24)
        have HB5 := Lib.hid (belowStep hb6 (belowStep hb5 HW0.out))
        have e9 := hbx.cell 0 (.slice ra rn rc) rfl
        obtain ⟨er, her⟩ : ∃ er, KR.er ok = er := ⟨_, rfl⟩
        rw [her]
        have c9 := hr9.cell 0 (.slice none 0 0) rfl
        have f9 := hr9.thaw 0
        have HE1 := Lib.hid (blk_one (y := .slice ra rn rc) hr9)
        have HE := Lib.hid (rop_fwd (P := P) HV.out her HPTK.out (Nat.le_succ w.heap.size) HB5.out HX.out)
        clear hr9 hkd hb5 HC HX her hbx hb6 hkd6 hb65
        go_wp2
        have d9 := HE1.out.cell 0 (.slice ra rn rc) rfl
        refine bodyPost_ret (v := .tuple #[.agg #[.slice ra rn rc], .int .i64 er, .slice none 0 0]) (by simp [results, Try.results32, go_sem, d9]) rfl ?_
        exact HE.out
  · replace HBI := Lib.hid (show g2 = g ++ [t.kind] from HBI.out)
    have HWI := Lib.hid (rwith_any P g t.kind w2 (.slice ga gn gc) (.agg #[.slice ka kn kc]) (HSL.out w2 HB.out).2.2 (HSL.out w2 HB.out).2.1 ⟨_, rfl, (HLL.out w2 HB.out).2⟩ HGLL.out)
    go_wp2_with fail
    clear c3
    refine HWI.out.mono ?_
    rintro e w3 ⟨⟨ya, yn, yc, rfl, hin⟩, hb3⟩
    have HIN := Lib.hid (show KSl w3 (Ext P w2 w3) (.slice ya yn yc) g2 from by rw [HBI.out]; exact hin)
    have HS3 := Lib.hid hb3.size
    have HRL := Lib.hid (show w.heap.size + 1 < w3.heap.size from by have := HS2.out; have := HS3.out; omega)
    replace HB := Lib.hid (belowStep hb3 HB.out)
    replace H1 := Lib.hid (H1.out.of_eq (hb3.block _ H1.out.lt))
    replace HR := Lib.hid (HR.out.of_eq (hb3.block _ HR.out.lt))
    clear hin hb3 HWI
    have HPIN := Lib.hid (show ∀ q, Ext P w2 w3 q → q < w3.heap.size from fun q hq => by
      rcases hq with hq | hq
      · have := HP.out q hq; have := HBB.out; have := HS3.out; omega
      · exact hq.2)
    have hk0 : RI (Ext P w2 w3) w3 w3 t g2 0 [] [] (.slice none 0 0) := ⟨rfl, by rw [List.drop_zero, Pl.KS.pre_nil], (fun x hx => by cases hx), World.ownsRow_nil _ _ _ _, ⟨rfl, fun j hj => absurd hj (Nat.not_lt_zero _)⟩, Below.refl _ _⟩
    have HK0 := Lib.hid hk0
    clear hk0
    go_wp2_with fail
    go_loopg [8, 9] (n + 1) (fun gk pv i wr => ∃ (k : Nat) (ks : List K) (us : List Value), k ≤ n ∧ i = .int .i64 k ∧ gk = n + 1 - k ∧ RI (Ext P w2 w3) w3 wr t g2 k ks us pv)
    case atStart => exact ⟨0, [], [], by omega, rfl, by omega, HK0.out⟩
    case round =>
      obtain ⟨k, ks, us, hk, rfl, hgk, hri⟩ := hrel
      have HRI := Lib.hid hri
      have HW0 := Lib.hid (show Below w.heap.size w wr from belowStep (a := w) (b := w3) hri.below HB.out)
      have HINr := Lib.hid (HIN.out.keep (Same.of_below hri.below HPIN.out))
      have H1r := Lib.hid (H1.out.of_eq (hri.below.block _ H1.out.lt))
      have HRr := Lib.hid (HR.out.of_eq (hri.below.block _ HR.out.lt))
      have c5 := H1r.out.cell 5 (.slice la n lc) rfl
      have hs0 := hri.below.size
      by_cases hlt : k < n
      · have q5 : decide ((k : Int) < (n : Int)) = true := decide_eq_true (by omega)
        have hkl : k < t.l.length := by rw [← HN.out]; exact hlt
        obtain ⟨b, off, c', xa, xn, xc, xa2, xn2, xc2, za, zn, zc, e, -, f0, f1, f2, f3, f4, f5, hx⟩ := (HLL.out wr HW0.out).1.part k hkl
        injection e with e1 e2 e3
        subst e1 e3
        clear e2
        obtain ⟨r, hr⟩ : ∃ r, r = kof g2.reverse t.l[k] := ⟨_, rfl⟩
        have HC := Lib.hid (HIH.out k hkl r (Ext P w2 w3) g2 wr (.slice ya yn yc) _ hr (fun q hq => by have := HPIN.out q hq; omega) HINr.out (hx.mono (fun q hq => (show Ext P w2 w3 q from .inl hq))) HG2V.out (by have := HDP.out k hkl; have := HGL.out; omega))
        have HKL := Lib.hid hkl
        have HRK := Lib.hid hr
        generalize t.l[k].op = xop at HC f0
        generalize t.l[k].n = xnum at HC f1
        generalize t.l[k].s = xs' at HC f2
        clear hx hri hr
        rcases r with x | ⟨er, p⟩
        · go_wp2_with fail
          clear f0 f1 f2 f3 f4 f5
          refine HC.out.mono ?_
          rintro e w5 ⟨⟨qa, qn, qc, pvc, rfl, hkid, hpv⟩, hb5⟩
          obtain ⟨i28, hi0, hz0, hz1, hz2⟩ := info3 infoKind
          have h6 := boxN_new w5 24 #[.slice qa qn qc]
          have h7 := boxN_new (w5.alloc (.cells #[.slice qa qn qc] 24)) 24 #[.slice qa qn qc]
          have HB7 := Lib.hid (belowStep h7.2 h6.2)
          have e6 := h6.1.cell 0 (.slice qa qn qc) rfl
          have hrow5 : w5.ownsRow w3.heap.size 24 1 u8 k us := HRI.out.row.kept (row := none) ⟨hb5.os, hb5.tape, hb5.output, hb5.size, fun i hi _ => hb5.block i hi⟩ (by cases ho : u8.ownBlock with | none => exact .inl rfl | some k => exact .inr (by simp))
          have HROW7 := Lib.hid ((hrow5.alloc (.cells #[.slice qa qn qc] 24)).alloc (.cells #[.slice qa qn qc] 24))
          have HNEW := Lib.hid (show ∀ j u, [Value.slice qa qn qc][j]? = some u → ((w5.alloc (.cells #[.slice qa qn qc] 24)).alloc (.cells #[.slice qa qn qc] 24)).cell? ((⟨w5.heap.size + 1, 0, none⟩ : Addr).add j) = some u from by
            have h := h7.1
            rw [size_alloc] at h
            exact World.news_of_block (cs := #[.slice qa qn qc]) (t := 24) (fr := (0, 0)) h)
          have hsz7 : ((w5.alloc (.cells #[.slice qa qn qc] 24)).alloc (.cells #[.slice qa qn qc] 24)).heap.size = w5.heap.size + 2 := by rw [size_alloc, size_alloc]
          have HB5 := Lib.hid hb5
          have HKID := Lib.hid hkid
          have HVX := Lib.hid (HPV.out k HKL.out g2.reverse x (fun y hy => HG2V.out y (List.mem_reverse.1 hy)) HRK.out.symm)
          have qe : (KR.er (.ok x) == 0) = true := rfl
          generalize KR.er (.ok x) = er0 at *
          obtain rfl : er0 = 0 := by simpa using qe
          have hsb := hb5.size
          clear hkid hpv hb5 hrow5 h6 h7 qe HC c5
          go_wp2_with (at_builtin; refine wpList_append_lies _ rfl _ _ 22 rfl w3.heap.size 24 i28 (.agg #[.slice none 0 0]) 1 24 Try.underlying22 hi0 hz0 hz1 hz2 rfl (by decide) _ _ _ rfl HROW7.out ⟨w5.heap.size + 1, 0, none⟩ 1 1 [.slice qa qn qc] rfl rfl ?c1 ?c2 (by decide) ?c3 ?c4 ?c5 (w5.heap.size + 2) (by simp) ?_)
          case c1 => exact HNEW.out
          case c2 => simp [Value.oneCell']
          case c3 => unfold maxLen; omega
          case c4 => omega
          case c5 => rw [hsz7]; omega
          intro gg cap w8 hown hgrow hat hlt8
          have HNX := Lib.hid (HRI.out.push HPIN.out HKL.out HRK.out.symm HVX.out HB5.out HKID.out HB7.out hown hgrow (by rw [hsz7]; exact hat))
          clear hown hgrow hat hlt8 HROW7 HNEW HRI e6
          go_wp2
          go_roundg (gk - 1)
          case measure => omega
          case rel => exact ⟨k + 1, ks ++ [x], _, by omega, by go_num, by omega, HNX.out⟩
        · go_wp2_with fail
          clear f0 f1 f2 f3 f4 f5
          refine HC.out.mono ?_
          rintro e w5 ⟨⟨qa, qn, qc, pvc, rfl, hkid, hpv⟩, hb5⟩
          have hpv : w5.ownsRow wr.heap.size 3 1 pvc p.length (pathV p.reverse) := hpv
          have hne : er ≠ 0 := HPB.out k HKL.out _ er p HRK.out.symm
          have qe : (er == 0) = false := beq_eq_false_iff_ne.2 hne
          have HV := Lib.hid (show R = .bad er (k :: p) from by
            rw [HV0.out, HRI.out.eq, Pl.kofs_step _ _ _ HKL.out, ← HRK.out]
            rfl)
          have hpl : p.length + 1 ≤ 100000 := by
            have h1 := kof_len _ _ _ _ HRK.out.symm
            have h2 := HDP.out k HKL.out
            have h3 := HGL.out
            omega
          obtain ⟨i3, hi3, hy0, hy1, hy2⟩ := info3 infoInt10
          have h6 := boxN_new w5 24 #[.slice qa qn qc]
          have h7 := boxN_new (w5.alloc (.cells #[.slice qa qn qc] 24)) 3 #[.int .i64 (k : Int)]
          have hb7 := belowStep h7.2 h6.2
          have HROW7 := Lib.hid ((hpv.alloc (.cells #[.slice qa qn qc] 24)).alloc (.cells #[.int .i64 (k : Int)] 3))
          have HNEW := Lib.hid (show ∀ j u, [Value.int .i64 (k : Int)][j]? = some u → ((w5.alloc (.cells #[.slice qa qn qc] 24)).alloc (.cells #[.int .i64 (k : Int)] 3)).cell? ((⟨w5.heap.size + 1, 0, none⟩ : Addr).add j) = some u from by
            have h := h7.1
            rw [size_alloc] at h
            exact World.news_of_block (cs := #[.int .i64 (k : Int)]) (t := 3) (fr := (0, 0)) h)
          have hsz7 : ((w5.alloc (.cells #[.slice qa qn qc] 24)).alloc (.cells #[.int .i64 (k : Int)] 3)).heap.size = w5.heap.size + 2 := by rw [size_alloc, size_alloc]
          have hr5 := HRr.out.of_eq (hb5.block _ HRr.out.lt)
          have HR7 := Lib.hid (hr5.of_eq (hb7.block _ hr5.lt))
          have HB7 := Lib.hid (belowStep hb7 (belowStep hb5 HW0.out))
          have hsb := hb5.size
          have hwr := HW0.out.size
          have hrlt : w.heap.size + 1 < wr.heap.size := HRr.out.lt
          generalize hge : KR.er (.bad er p) = er1 at *
          obtain rfl : er1 = er := hge.symm
          clear hkid hpv hb5 h6 h7 hb7 hr5 HC c5 HRI hne hge HIH HPV HPB HND HSL HLL HIN HINr
          go_wp2_with (at_builtin; refine wpList_append_own _ rfl _ _ 31 rfl wr.heap.size 3 i3 (.int .i64 0) 1 8 Try.underlying31 hi3 hy0 hy1 hy2 rfl (by decide) pvc p.length (pathV p.reverse) rfl HROW7.out ⟨w5.heap.size + 1, 0, none⟩ 1 1 [.int .i64 (k : Int)] rfl rfl ?c1 ?c2 ?c3 ?c4 ?c5 ?_)
          case c1 => exact HNEW.out
          case c2 => simp [Value.oneCell']
          case c3 => unfold maxLen; omega
          case c4 => omega
          case c5 => rw [hsz7]; omega
          intro v' w8 hown hgrow _
          have hpb : ∀ q, pvc.ownBlock = some q → wr.heap.size ≤ q := fun q hq => (HROW7.out.lt q hq).1
          have hr8 : Blk w8 (w.heap.size + 1) 24 #[.slice none 0 0] := HR7.out.of_eq (hgrow.block _ HR7.out.lt (fun e => by have := hpb _ e.symm; omega))
          have hb8 : Below w.heap.size w w8 := HB7.out.grown hgrow (by rw [hsz7]; omega) (fun q hq => by have := hpb q hq; omega)
          have c9 := hr8.cell 0 (.slice none 0 0) rfl
          have f9 := hr8.thaw 0
          have HE1 := Lib.hid (blk_one (y := .slice none 0 0) hr8)
          have HE0 := Lib.hid (rop_bad (P := P) HV.out hb8 hown rfl hwr)
          have HE := Lib.hid (rop_bad (P := P) (W := w8.setCell ⟨w.heap.size + 1, 0, none⟩ (.slice none 0 0)) HV.out (below_set hb8 (Nat.le_succ _) _) (hown.kept (row := some (w.heap.size + 1)) ⟨rfl, rfl, rfl, by rw [size_set]; exact Nat.le_refl _, fun q hq hn => Below.heap_setCell w8 ⟨w.heap.size + 1, 0, none⟩ _ q (fun e => hn (by rw [e]))⟩ (.inr fun e => by
            have := (hown.lt _ e).1
            omega)) rfl hwr)
          clear hown hgrow hr8 hb8 HROW7 HNEW HR7 HB7 hpb
          go_wp2
          have d9 := HE1.out.cell 0 (.slice none 0 0) rfl
          refine bodyPost_ret (v := .tuple #[.agg #[.slice none 0 0], .int .i64 er1, v']) (by first | (simp [results, Try.results32, go_sem, d9]; done) | (simp [results, Try.results32, go_sem, c9]; done)) rfl ?_
          first | exact HE.out | exact HE0.out
      · have q5 : decide ((k : Int) < (n : Int)) = false := decide_eq_false (by omega)
        have hkn : k = n := by omega
        have hks : ks.length = n := by rw [hri.len, hkn]
        have HV := Lib.hid (show R = OK ks from by
          rw [HV0.out, hri.eq, List.drop_of_length_le (by rw [← HN.out]; omega), Pl.kofs_nil]
          show OK (ks ++ []) = _
          rw [List.append_nil])
        have hrow := hri.row_sl
        have HLOW := Lib.hid (show ∀ q, (Ext P w2 w3 q ∨ (w3.heap.size ≤ q ∧ q < wr.heap.size)) → q < wr.heap.size from fun q hq => by
          rcases hq with hq | hq
          · have := HPIN.out q hq; omega
          · exact hq.2)
        obtain ⟨pa, pc, hpv, -⟩ := hrow.each
        subst hpv
        have HC := Lib.hid (HND.out (fun q => Ext P w2 w3 q ∨ (w3.heap.size ≤ q ∧ q < wr.heap.size)) ks wr (.slice pa ks.length pc) HLOW.out ((HSL.out wr HW0.out).2.1.mono (fun q hq => .inl (.inl hq))) ((HSL.out wr HW0.out).1.mono (fun q hq => .inl (.inl hq))) hrow hks hri.val)
        have HPTK := Lib.hid (HPT.out ks)
        generalize OK ks = ok at *
        generalize ks.length = pn at *
        have c0 := H1r.out.cell 0 (.int .i64 op) rfl
        have c1 := H1r.out.cell 1 (.int .i64 num) rfl
        have c2 := H1r.out.cell 2 (.string s) rfl
        have c3 := H1r.out.cell 3 (.slice ka kn kc) rfl
        have c4 := H1r.out.cell 4 (.slice na nn nc) rfl
        clear hri HRI hrow hks HIH HPV HPB HND HSL HLL HIN HINr HPT HV0 HDP HK0 HG2V
        go_wp2_with fail
        clear c0 c1 c2 c3 c4 c5
        refine HC.out.mono ?_
        rintro e w5 ⟨⟨ra, rn, rc, rfl, hkd⟩, hb5⟩
        obtain ⟨hbx, hb6⟩ := boxN_new w5 24 #[.slice ra rn rc]
        have hkd6 := hkd.keep (Same.of_below hb6 (fun q hq => by
          rcases hq with hq | hq
          · have := HLOW.out q hq; have := hb5.size; omega
          · exact hq.2))
        have hb65 := hb6.size
        have HX := Lib.hid (hkd6.mono (fun q hq => (show Ext1 P w (w5.alloc (.cells #[.slice ra rn rc] 24)) (w.heap.size + 1) q from by
          have h2 := HS2.out
          have h3 := HS3.out
          have h4 := hb5.size
          rcases hq with ((hq | hq) | hq) | hq
          · exact ⟨.inl hq, by have := HP.out q hq; omega⟩
          · exact ⟨.inr ⟨by omega, by omega⟩, by omega⟩
          · exact ⟨.inr ⟨by omega, by omega⟩, by omega⟩
          · exact ⟨.inr ⟨by omega, by omega⟩, by omega⟩)))
        have hr9 := (HRr.out.of_eq (hb5.block _ HRr.out.lt)).alloc (.cells #[.slice ra rn rc] 24)
        have HB5 := Lib.hid (belowStep hb6 (belowStep hb5 HW0.out))
        have e9 := hbx.cell 0 (.slice ra rn rc) rfl
        obtain ⟨er, her⟩ : ∃ er, KR.er ok = er := ⟨_, rfl⟩
        rw [her]
        have c9 := hr9.cell 0 (.slice none 0 0) rfl
        have f9 := hr9.thaw 0
        have HE1 := Lib.hid (blk_one (y := .slice ra rn rc) hr9)
        have HE := Lib.hid (rop_fwd (P := P) HV.out her HPTK.out (Nat.le_succ w.heap.size) HB5.out HX.out)
        clear hr9 hkd hb5 HC HX her hbx hb6 hkd6 hb65
        go_wp2
        have d9 := HE1.out.cell 0 (.slice ra rn rc) rfl
        refine bodyPost_ret (v := .tuple #[.agg #[.slice ra rn rc], .int .i64 er, .slice none 0 0]) (by simp [results, Try.results32, go_sem, d9]) rfl ?_
        exact HE.out
end Go.Proofs.Ytmjkeejinagokaa
