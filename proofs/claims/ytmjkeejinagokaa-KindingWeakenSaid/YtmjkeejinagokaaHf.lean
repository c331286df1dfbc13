/-
  Layer 9: several texts in one (Uf Ug Uh Ui).
-/
import Derived.Test.YtmjkeejinagokaaHe
import Derived.Deep.RegionLawGrows
import Derived.Deep.Onto
import Derived.Laws.AppendOwnNone
import Derived.Laws.OwnMore
import Derived.Deep.AppendLies
namespace Go.Proofs.Ytmjkeejinagokaa
open Go Go.RowKit
open Pl (K Con KR KS kof kofs ownK inK appK)
set_option linter.unusedSimpArgs false
set_option linter.unusedVariables false

/-- the cells of a row of kinds -/
theorem kinds_us {w : World} {P : Nat → Prop} {a : Option Addr} {n c : Nat} {l : List K} (h : KSl w P (.slice a n c) l) :
    n = l.length ∧ n ≤ c ∧ c ≤ maxLen ∧ (a = none → n = 0 ∧ c = 0) ∧ ∃ us : List Value, us.length = n ∧ (∀ ad, a = some ad → ∀ j u, us[j]? = some u → w.cell? (ad.add j) = some u) ∧ (∀ u ∈ us, u.oneCell' = true) ∧ KindRow w P us l := by
  have hnone : a = none → c = 0 := by
    obtain ⟨a', c', e, -, -, h6, -⟩ := (kidV_iff _ _ _ _).1 h
    injection e with e1 e2 e3
    subst e1 e3
    exact h6
  obtain ⟨a', c', e, h1, h2, h3⟩ := h.each
  injection e with e1 e2 e3
  subst e1 e2 e3
  have each : ∀ j, j < l.length → ∃ x : Value, (∀ ad, a = some ad → w.cell? (ad.add j) = some x) ∧ x.oneCell' = true ∧ ∃ hj : j < l.length, KidV w P l[j] x := by
    intro j hj
    obtain ⟨b, off, x, rfl, _, hx, hk⟩ := h3 j hj
    obtain ⟨a7, c7, rfl⟩ := hk.form
    exact ⟨_, fun ad had => by injection had with had; subst had; rw [Go.WideShapes.add_plain]; exact hx, rfl, hj, hk⟩
  obtain ⟨X, hX⟩ := Go.Deep.choose_lt each
  have hget : ∀ j u, ((List.range l.length).map X)[j]? = some u → j < l.length ∧ u = X j := by
    intro j u hu
    rcases Nat.lt_or_ge j l.length with hj | hj
    · rw [List.getElem?_map, List.getElem?_range hj] at hu
      injection hu with hu
      exact ⟨hj, hu.symm⟩
    · rw [List.getElem?_eq_none (by simpa using hj)] at hu
      cases hu
  refine ⟨rfl, h1, h2, fun h => ⟨by have := hnone h; omega, hnone h⟩, (List.range l.length).map X, by simp, fun ad had j u hu => ?_, fun u hu => ?_, by simp, fun j hj => ?_⟩
  · obtain ⟨hj, rfl⟩ := hget j u hu
    exact (hX j hj).1 ad had
  · obtain ⟨j, hj, rfl⟩ := List.getElem_of_mem hu
    have hj' : j < l.length := by simpa using hj
    rw [List.getElem_map, List.getElem_range]
    exact (hX j hj').2.1
  · obtain ⟨-, -, _, hk⟩ := hX j hj
    exact ⟨X j, by rw [List.getElem?_map, List.getElem?_range hj]; rfl, hk⟩
theorem KindRow.mono {w : World} {P Q : Nat → Prop} {us : List Value} {ts : List K} (h : KindRow w P us ts) (hq : ∀ b, P b → Q b) : KindRow w Q us ts := ⟨h.1, fun j hj => by obtain ⟨x, h1, h2⟩ := h.2 j hj; exact ⟨x, h1, h2.mono hq⟩⟩
theorem row_ksl {w : World} {base n : Nat} {v : Value} {us : List Value} {l : List K} {R S : Nat → Prop} (h : w.ownsRow base 24 1 v n us) (hn : n = l.length) (hr : KindRow w R us l) (hR : ∀ b, R b → S b) (hS : ∀ b, base ≤ b → b < w.heap.size → S b) : KSl w S v l := by
  subst hn
  refine (row_slice h hr).mono (fun q hq => ?_)
  rcases hq with hq | hq
  · exact hR q hq
  · exact hS q hq.1 hq.2
/-- what is appended to a row of kinds -/
theorem scope_row {P : Nat → Prop} {w W w' : World} {g : List K} {k : K} {us : List Value} {x : Value} {n : Nat} {v : Value} (hP : ∀ b, P b → b < W.heap.size) (hs : w.heap.size ≤ W.heap.size) (hr : KindRow W P us g) (hx : KidV W P k x) (ho : w'.ownsRow W.heap.size 24 1 v (n + 1) (us ++ [x])) (hn : n = g.length) (hg : W.grownBy w' none) : KSl w' (Ext P w w') v (g ++ [k]) := by
  have hsame : Same P W w' := fun b hb => hg.block b (hP b hb) (by simp)
  exact row_ksl ho (by rw [List.length_append, hn]; rfl) ((hr.keep hsame).push (hx.keep hsame)) (fun b hb => .inl hb) (fun b h1 h2 => .inr ⟨by omega, h2⟩)
def scopeOf (g : List K) (t : Con) : List K := if Con.binder t.op then g ++ [t.kind] else g
theorem scopeOf_rev (g : List K) (t : Con) : (scopeOf g t).reverse = inK g.reverse t.op t.kind := by
  unfold scopeOf inK
  split
  · rw [List.reverse_append]; rfl
  · rfl
def ScP (P : Nat → Prop) (g : List K) (w : World) (e : Ending) (w' : World) : Prop := (∃ a n c, e = .returned (.slice a n c) ∧ KSl w' (Ext P w w') (.slice a n c) g) ∧ Below w.heap.size w w'

set_option maxRecDepth 100000 in
set_option maxHeartbeats 2000000 in
theorem scope_9 (P : Nat → Prop) (g : List K) (t : Con) (w : World) (v x : Value) (hP : ∀ b, P b → b < w.heap.size) (hg : KSl w P v g) (ht : ConV w P t x) (hl : g.length ≤ 100000) (hcase : t.op = 9) :
    Calls Try.prog 55 #[v, x] w (ScP P (scopeOf g t) w) := by
  obtain ⟨R, hV⟩ : ∃ R : List K, R = scopeOf g t := ⟨_, rfl⟩
  rw [← hV]
  obtain ⟨ka, kn, kc, na, nn, nc, la, ln, lc, rfl, -, -, -⟩ := ht.shape
  have hkd : KidV w P t.kind (.slice ka kn kc) := by
    obtain ⟨hs, kv', nv', lv', e, hk, hn, hl⟩ := (conV_iff _ _ _ _).1 ht
    simp only [Value.agg.injEq, Array.mk.injEq, List.cons.injEq, and_true, true_and] at e
    obtain ⟨rfl, rfl, rfl⟩ := e
    exact hk
  obtain ⟨ga, gc, rfl, -⟩ := hg.each
  generalize t.n = num at *
  generalize t.s = s at *
  unfold scopeOf at hV
  obtain ⟨op, hop⟩ : ∃ op, op = t.op := ⟨_, rfl⟩
  rw [← hop] at hV hcase ⊢
  obtain ⟨hbx, hb⟩ := boxN_new w 28 #[.int .i64 op, .int .i64 num, .string s, .slice ka kn kc, .slice na nn nc, .slice la ln lc]
  have HP := Lib.hid hP
  have HB := Lib.hid hb
  have H1 := Lib.hid hbx
  have HCASE := Lib.hid hcase
  have HK := Lib.hid (hkd.keep (Same.of_below hb hP))
  have HGG := Lib.hid (hg.keep (Same.of_below hb hP))
  obtain ⟨gn, hgn⟩ : ∃ gn, gn = g.length := ⟨_, rfl⟩
  rw [← hgn] at HGG hl ⊢
  have HGN := Lib.hid hgn
  clear hg ht hkd hb hbx hop hcase hgn hP
  go_enter Try.func55, Try.ntmps55
  go_upto_region 1 with fail
  generalize w.alloc (.cells #[.int .i64 op, .int .i64 num, .string s, .slice ka kn kc, .slice na nn nc, .slice la ln lc] 28) = w2 at *
  have c0 := H1.out.cell 0 (.int .i64 op) rfl
  have hcase := HCASE.out
  subst hcase
  have HV := Lib.hid (show R = g ++ [t.kind] from hV)
  have c3 := H1.out.cell 3 (.slice ka kn kc) rfl
  obtain ⟨i28, hi0, hz0, hz1, hz2⟩ := info3 infoKind
  obtain ⟨-, hgc, hcm, hnone, us, hul, hcells, hone, hrow⟩ := kinds_us HGG.out
  have hblk := blk_new w2 #[.slice ka kn kc] 24
  have hb2 : Below w2.heap.size w2 (w2.alloc (.cells #[.slice ka kn kc] 24)).drew := ((Below.refl w2.heap.size w2).alloc (Nat.le_refl _) _).drew
  have hlow : ∀ b, P b → b < w2.heap.size := fun b h => Nat.lt_of_lt_of_le (HP.out b h) HB.out.size
  have HROW := Lib.hid (hrow.keep (Same.of_below hb2 hlow))
  have HKX := Lib.hid (HK.out.keep (Same.of_below hb2 hlow))
  have HLW := Lib.hid (show ∀ b, P b → b < (w2.alloc (.cells #[.slice ka kn kc] 24)).drew.heap.size from fun b h => Nat.lt_of_lt_of_le (hlow b h) hb2.size)
  have HSZ := Lib.hid (show w.heap.size ≤ (w2.alloc (.cells #[.slice ka kn kc] 24)).drew.heap.size from Nat.le_trans HB.out.size hb2.size)
  have HBW := Lib.hid (belowStep hb2 HB.out)
  have HCL := Lib.hid (show ∀ ad, ga = some ad → ∀ j u, us[j]? = some u → (w2.alloc (.cells #[.slice ka kn kc] 24)).drew.cell? (ad.add j) = some u from fun ad had j u hu => by
    have h := hcells ad had j u hu
    have hlt := World.block_lt_of_cell? _ _ h
    have := (hb2.block (ad.add j).block hlt)
    simp only [World.cell?] at h ⊢
    rw [this]
    exact h)
  have HNEW := Lib.hid (show ∀ j u, [Value.slice ka kn kc][j]? = some u → (w2.alloc (.cells #[.slice ka kn kc] 24)).drew.cell? ((⟨w2.heap.size, 0, none⟩ : Addr).add j) = some u from World.news_of_block (cs := #[.slice ka kn kc]) (t := 24) (fr := (0, 0)) hblk)
  clear hV hcells hrow hblk hb2 hlow HGG HK HCASE
  rcases ga with _ | ad
  · obtain ⟨rfl, rfl⟩ := hnone rfl
    obtain rfl : us = [] := List.eq_nil_of_length_eq_zero hul
    go_upto_region 6 with fail
    go_region_law (refine step_append_grows rfl (.tmp 17) (.tmp 20) 22 rfl 24 i28 (.agg #[.slice none 0 0]) 1 24 Try.underlying22 hi0 hz0 hz1 hz2 rfl (by decide) none 0 0 [] (by simp [Act.eval, Act.put]) (fun _ => ⟨rfl, rfl⟩) rfl (fun _ h => by cases h) ⟨w2.heap.size, 0, none⟩ 1 1 [.slice ka kn kc] (by simp [Act.eval, Act.put]) rfl HNEW.out (by simp [Value.oneCell']) (by omega) (by unfold maxLen; omega) (by omega) ?_; intro v' w' hown hgrow; have HOWN := Lib.hid hown; have HGROW := Lib.hid hgrow; clear hown hgrow)
    all_goals
      have HOUT := Lib.hid (scope_row (n := 0) HLW.out HSZ.out HROW.out HKX.out HOWN.out HGN.out HGROW.out)
      have HBO := Lib.hid (show Below w.heap.size w w' from HBW.out.grown HGROW.out HSZ.out (fun _ h => by cases h))
      obtain ⟨ra, rn, rc, hv'⟩ : ∃ ra rn rc, v' = .slice ra rn rc := by
        obtain ⟨ra, rc, h, -⟩ := HOUT.out.each
        exact ⟨ra, _, rc, h⟩
      clear HOWN HGROW HROW HKX HNEW HCL HLW HBW
      subst hv'
      go_wp2
      go_ret
      exact ⟨⟨ra, _, rc, rfl, by rw [HV.out]; exact HOUT.out⟩, HBO.out⟩
  · have q6 : ¬ gc < gn := by omega
    go_upto_region 6 with fail
    go_region_law (refine step_append_grows rfl (.tmp 17) (.tmp 20) 22 rfl 24 i28 (.agg #[.slice none 0 0]) 1 24 Try.underlying22 hi0 hz0 hz1 hz2 rfl (by decide) (some ad) gn gn us (by simp [Act.eval, Act.put]) (fun h => by cases h) (by rw [hul, Nat.mul_one]) HCL.out ⟨w2.heap.size, 0, none⟩ 1 1 [.slice ka kn kc] (by simp [Act.eval, Act.put]) rfl HNEW.out (by simp [Value.oneCell']) (by omega) (by unfold maxLen; omega) (by omega) ?_; intro v' w' hown hgrow; have HOWN := Lib.hid hown; have HGROW := Lib.hid hgrow; clear hown hgrow)
    all_goals
      have HOUT := Lib.hid (scope_row (n := gn) HLW.out HSZ.out HROW.out HKX.out HOWN.out HGN.out HGROW.out)
      have HBO := Lib.hid (show Below w.heap.size w w' from HBW.out.grown HGROW.out HSZ.out (fun _ h => by cases h))
      obtain ⟨ra, rn, rc, hv'⟩ : ∃ ra rn rc, v' = .slice ra rn rc := by
        obtain ⟨ra, rc, h, -⟩ := HOUT.out.each
        exact ⟨ra, _, rc, h⟩
      clear HOWN HGROW HROW HKX HNEW HCL HLW HBW
      subst hv'
      go_wp2
      go_ret
      exact ⟨⟨ra, _, rc, rfl, by rw [HV.out]; exact HOUT.out⟩, HBO.out⟩
set_option maxRecDepth 100000 in
set_option maxHeartbeats 2000000 in
theorem scope_10 (P : Nat → Prop) (g : List K) (t : Con) (w : World) (v x : Value) (hP : ∀ b, P b → b < w.heap.size) (hg : KSl w P v g) (ht : ConV w P t x) (hl : g.length ≤ 100000) (hcase : t.op = 10) :
    Calls Try.prog 55 #[v, x] w (ScP P (scopeOf g t) w) := by
  obtain ⟨R, hV⟩ : ∃ R : List K, R = scopeOf g t := ⟨_, rfl⟩
  rw [← hV]
  obtain ⟨ka, kn, kc, na, nn, nc, la, ln, lc, rfl, -, -, -⟩ := ht.shape
  have hkd : KidV w P t.kind (.slice ka kn kc) := by
    obtain ⟨hs, kv', nv', lv', e, hk, hn, hl⟩ := (conV_iff _ _ _ _).1 ht
    simp only [Value.agg.injEq, Array.mk.injEq, List.cons.injEq, and_true, true_and] at e
    obtain ⟨rfl, rfl, rfl⟩ := e
    exact hk
  obtain ⟨ga, gc, rfl, -⟩ := hg.each
  generalize t.n = num at *
  generalize t.s = s at *
  unfold scopeOf at hV
  obtain ⟨op, hop⟩ : ∃ op, op = t.op := ⟨_, rfl⟩
  rw [← hop] at hV hcase ⊢
  obtain ⟨hbx, hb⟩ := boxN_new w 28 #[.int .i64 op, .int .i64 num, .string s, .slice ka kn kc, .slice na nn nc, .slice la ln lc]
  have HP := Lib.hid hP
  have HB := Lib.hid hb
  have H1 := Lib.hid hbx
  have HCASE := Lib.hid hcase
  have HK := Lib.hid (hkd.keep (Same.of_below hb hP))
  have HGG := Lib.hid (hg.keep (Same.of_below hb hP))
  obtain ⟨gn, hgn⟩ : ∃ gn, gn = g.length := ⟨_, rfl⟩
  rw [← hgn] at HGG hl ⊢
  have HGN := Lib.hid hgn
  clear hg ht hkd hb hbx hop hcase hgn hP
  go_enter Try.func55, Try.ntmps55
  go_upto_region 1 with fail
  generalize w.alloc (.cells #[.int .i64 op, .int .i64 num, .string s, .slice ka kn kc, .slice na nn nc, .slice la ln lc] 28) = w2 at *
  have c0 := H1.out.cell 0 (.int .i64 op) rfl
  have hcase := HCASE.out
  have q0 : (op == 9) = false := beq_eq_false_iff_ne.2 (by omega)
  subst hcase
  have HV := Lib.hid (show R = g ++ [t.kind] from hV)
  have c3 := H1.out.cell 3 (.slice ka kn kc) rfl
  obtain ⟨i28, hi0, hz0, hz1, hz2⟩ := info3 infoKind
  obtain ⟨-, hgc, hcm, hnone, us, hul, hcells, hone, hrow⟩ := kinds_us HGG.out
  have hblk := blk_new w2 #[.slice ka kn kc] 24
  have hb2 : Below w2.heap.size w2 (w2.alloc (.cells #[.slice ka kn kc] 24)).drew := ((Below.refl w2.heap.size w2).alloc (Nat.le_refl _) _).drew
  have hlow : ∀ b, P b → b < w2.heap.size := fun b h => Nat.lt_of_lt_of_le (HP.out b h) HB.out.size
  have HROW := Lib.hid (hrow.keep (Same.of_below hb2 hlow))
  have HKX := Lib.hid (HK.out.keep (Same.of_below hb2 hlow))
  have HLW := Lib.hid (show ∀ b, P b → b < (w2.alloc (.cells #[.slice ka kn kc] 24)).drew.heap.size from fun b h => Nat.lt_of_lt_of_le (hlow b h) hb2.size)
  have HSZ := Lib.hid (show w.heap.size ≤ (w2.alloc (.cells #[.slice ka kn kc] 24)).drew.heap.size from Nat.le_trans HB.out.size hb2.size)
  have HBW := Lib.hid (belowStep hb2 HB.out)
  have HCL := Lib.hid (show ∀ ad, ga = some ad → ∀ j u, us[j]? = some u → (w2.alloc (.cells #[.slice ka kn kc] 24)).drew.cell? (ad.add j) = some u from fun ad had j u hu => by
    have h := hcells ad had j u hu
    have hlt := World.block_lt_of_cell? _ _ h
    have := (hb2.block (ad.add j).block hlt)
    simp only [World.cell?] at h ⊢
    rw [this]
    exact h)
  have HNEW := Lib.hid (show ∀ j u, [Value.slice ka kn kc][j]? = some u → (w2.alloc (.cells #[.slice ka kn kc] 24)).drew.cell? ((⟨w2.heap.size, 0, none⟩ : Addr).add j) = some u from World.news_of_block (cs := #[.slice ka kn kc]) (t := 24) (fr := (0, 0)) hblk)
  clear hV hcells hrow hblk hb2 hlow HGG HK HCASE
  rcases ga with _ | ad
  · obtain ⟨rfl, rfl⟩ := hnone rfl
    obtain rfl : us = [] := List.eq_nil_of_length_eq_zero hul
    go_upto_region 6 with fail
    go_region_law (refine step_append_grows rfl (.tmp 17) (.tmp 20) 22 rfl 24 i28 (.agg #[.slice none 0 0]) 1 24 Try.underlying22 hi0 hz0 hz1 hz2 rfl (by decide) none 0 0 [] (by simp [Act.eval, Act.put]) (fun _ => ⟨rfl, rfl⟩) rfl (fun _ h => by cases h) ⟨w2.heap.size, 0, none⟩ 1 1 [.slice ka kn kc] (by simp [Act.eval, Act.put]) rfl HNEW.out (by simp [Value.oneCell']) (by omega) (by unfold maxLen; omega) (by omega) ?_; intro v' w' hown hgrow; have HOWN := Lib.hid hown; have HGROW := Lib.hid hgrow; clear hown hgrow)
    all_goals
      have HOUT := Lib.hid (scope_row (n := 0) HLW.out HSZ.out HROW.out HKX.out HOWN.out HGN.out HGROW.out)
      have HBO := Lib.hid (show Below w.heap.size w w' from HBW.out.grown HGROW.out HSZ.out (fun _ h => by cases h))
      obtain ⟨ra, rn, rc, hv'⟩ : ∃ ra rn rc, v' = .slice ra rn rc := by
        obtain ⟨ra, rc, h, -⟩ := HOUT.out.each
        exact ⟨ra, _, rc, h⟩
      clear HOWN HGROW HROW HKX HNEW HCL HLW HBW
      subst hv'
      go_wp2
      go_ret
      exact ⟨⟨ra, _, rc, rfl, by rw [HV.out]; exact HOUT.out⟩, HBO.out⟩
  · have q6 : ¬ gc < gn := by omega
    go_upto_region 6 with fail
    go_region_law (refine step_append_grows rfl (.tmp 17) (.tmp 20) 22 rfl 24 i28 (.agg #[.slice none 0 0]) 1 24 Try.underlying22 hi0 hz0 hz1 hz2 rfl (by decide) (some ad) gn gn us (by simp [Act.eval, Act.put]) (fun h => by cases h) (by rw [hul, Nat.mul_one]) HCL.out ⟨w2.heap.size, 0, none⟩ 1 1 [.slice ka kn kc] (by simp [Act.eval, Act.put]) rfl HNEW.out (by simp [Value.oneCell']) (by omega) (by unfold maxLen; omega) (by omega) ?_; intro v' w' hown hgrow; have HOWN := Lib.hid hown; have HGROW := Lib.hid hgrow; clear hown hgrow)
    all_goals
      have HOUT := Lib.hid (scope_row (n := gn) HLW.out HSZ.out HROW.out HKX.out HOWN.out HGN.out HGROW.out)
      have HBO := Lib.hid (show Below w.heap.size w w' from HBW.out.grown HGROW.out HSZ.out (fun _ h => by cases h))
      obtain ⟨ra, rn, rc, hv'⟩ : ∃ ra rn rc, v' = .slice ra rn rc := by
        obtain ⟨ra, rc, h, -⟩ := HOUT.out.each
        exact ⟨ra, _, rc, h⟩
      clear HOWN HGROW HROW HKX HNEW HCL HLW HBW
      subst hv'
      go_wp2
      go_ret
      exact ⟨⟨ra, _, rc, rfl, by rw [HV.out]; exact HOUT.out⟩, HBO.out⟩
set_option maxRecDepth 100000 in
set_option maxHeartbeats 2000000 in
theorem scope_11 (P : Nat → Prop) (g : List K) (t : Con) (w : World) (v x : Value) (hP : ∀ b, P b → b < w.heap.size) (hg : KSl w P v g) (ht : ConV w P t x) (hl : g.length ≤ 100000) (hcase : t.op = 11) :
    Calls Try.prog 55 #[v, x] w (ScP P (scopeOf g t) w) := by
  obtain ⟨R, hV⟩ : ∃ R : List K, R = scopeOf g t := ⟨_, rfl⟩
  rw [← hV]
  obtain ⟨ka, kn, kc, na, nn, nc, la, ln, lc, rfl, -, -, -⟩ := ht.shape
  have hkd : KidV w P t.kind (.slice ka kn kc) := by
    obtain ⟨hs, kv', nv', lv', e, hk, hn, hl⟩ := (conV_iff _ _ _ _).1 ht
    simp only [Value.agg.injEq, Array.mk.injEq, List.cons.injEq, and_true, true_and] at e
    obtain ⟨rfl, rfl, rfl⟩ := e
    exact hk
  obtain ⟨ga, gc, rfl, -⟩ := hg.each
  generalize t.n = num at *
  generalize t.s = s at *
  unfold scopeOf at hV
  obtain ⟨op, hop⟩ : ∃ op, op = t.op := ⟨_, rfl⟩
  rw [← hop] at hV hcase ⊢
  obtain ⟨hbx, hb⟩ := boxN_new w 28 #[.int .i64 op, .int .i64 num, .string s, .slice ka kn kc, .slice na nn nc, .slice la ln lc]
  have HP := Lib.hid hP
  have HB := Lib.hid hb
  have H1 := Lib.hid hbx
  have HCASE := Lib.hid hcase
  have HK := Lib.hid (hkd.keep (Same.of_below hb hP))
  have HGG := Lib.hid (hg.keep (Same.of_below hb hP))
  obtain ⟨gn, hgn⟩ : ∃ gn, gn = g.length := ⟨_, rfl⟩
  rw [← hgn] at HGG hl ⊢
  have HGN := Lib.hid hgn
  clear hg ht hkd hb hbx hop hcase hgn hP
  go_enter Try.func55, Try.ntmps55
  go_upto_region 1 with fail
  generalize w.alloc (.cells #[.int .i64 op, .int .i64 num, .string s, .slice ka kn kc, .slice na nn nc, .slice la ln lc] 28) = w2 at *
  have c0 := H1.out.cell 0 (.int .i64 op) rfl
  have hcase := HCASE.out
  have q0 : (op == 9) = false := beq_eq_false_iff_ne.2 (by omega)
  have q1 : (op == 10) = false := beq_eq_false_iff_ne.2 (by omega)
  subst hcase
  have HV := Lib.hid (show R = g ++ [t.kind] from hV)
  have c3 := H1.out.cell 3 (.slice ka kn kc) rfl
  obtain ⟨i28, hi0, hz0, hz1, hz2⟩ := info3 infoKind
  obtain ⟨-, hgc, hcm, hnone, us, hul, hcells, hone, hrow⟩ := kinds_us HGG.out
  have hblk := blk_new w2 #[.slice ka kn kc] 24
  have hb2 : Below w2.heap.size w2 (w2.alloc (.cells #[.slice ka kn kc] 24)).drew := ((Below.refl w2.heap.size w2).alloc (Nat.le_refl _) _).drew
  have hlow : ∀ b, P b → b < w2.heap.size := fun b h => Nat.lt_of_lt_of_le (HP.out b h) HB.out.size
  have HROW := Lib.hid (hrow.keep (Same.of_below hb2 hlow))
  have HKX := Lib.hid (HK.out.keep (Same.of_below hb2 hlow))
  have HLW := Lib.hid (show ∀ b, P b → b < (w2.alloc (.cells #[.slice ka kn kc] 24)).drew.heap.size from fun b h => Nat.lt_of_lt_of_le (hlow b h) hb2.size)
  have HSZ := Lib.hid (show w.heap.size ≤ (w2.alloc (.cells #[.slice ka kn kc] 24)).drew.heap.size from Nat.le_trans HB.out.size hb2.size)
  have HBW := Lib.hid (belowStep hb2 HB.out)
  have HCL := Lib.hid (show ∀ ad, ga = some ad → ∀ j u, us[j]? = some u → (w2.alloc (.cells #[.slice ka kn kc] 24)).drew.cell? (ad.add j) = some u from fun ad had j u hu => by
    have h := hcells ad had j u hu
    have hlt := World.block_lt_of_cell? _ _ h
    have := (hb2.block (ad.add j).block hlt)
    simp only [World.cell?] at h ⊢
    rw [this]
    exact h)
  have HNEW := Lib.hid (show ∀ j u, [Value.slice ka kn kc][j]? = some u → (w2.alloc (.cells #[.slice ka kn kc] 24)).drew.cell? ((⟨w2.heap.size, 0, none⟩ : Addr).add j) = some u from World.news_of_block (cs := #[.slice ka kn kc]) (t := 24) (fr := (0, 0)) hblk)
  clear hV hcells hrow hblk hb2 hlow HGG HK HCASE
  rcases ga with _ | ad
  · obtain ⟨rfl, rfl⟩ := hnone rfl
    obtain rfl : us = [] := List.eq_nil_of_length_eq_zero hul
    go_upto_region 6 with fail
    go_region_law (refine step_append_grows rfl (.tmp 17) (.tmp 20) 22 rfl 24 i28 (.agg #[.slice none 0 0]) 1 24 Try.underlying22 hi0 hz0 hz1 hz2 rfl (by decide) none 0 0 [] (by simp [Act.eval, Act.put]) (fun _ => ⟨rfl, rfl⟩) rfl (fun _ h => by cases h) ⟨w2.heap.size, 0, none⟩ 1 1 [.slice ka kn kc] (by simp [Act.eval, Act.put]) rfl HNEW.out (by simp [Value.oneCell']) (by omega) (by unfold maxLen; omega) (by omega) ?_; intro v' w' hown hgrow; have HOWN := Lib.hid hown; have HGROW := Lib.hid hgrow; clear hown hgrow)
    all_goals
      have HOUT := Lib.hid (scope_row (n := 0) HLW.out HSZ.out HROW.out HKX.out HOWN.out HGN.out HGROW.out)
      have HBO := Lib.hid (show Below w.heap.size w w' from HBW.out.grown HGROW.out HSZ.out (fun _ h => by cases h))
      obtain ⟨ra, rn, rc, hv'⟩ : ∃ ra rn rc, v' = .slice ra rn rc := by
        obtain ⟨ra, rc, h, -⟩ := HOUT.out.each
        exact ⟨ra, _, rc, h⟩
      clear HOWN HGROW HROW HKX HNEW HCL HLW HBW
      subst hv'
      go_wp2
      go_ret
      exact ⟨⟨ra, _, rc, rfl, by rw [HV.out]; exact HOUT.out⟩, HBO.out⟩
  · have q6 : ¬ gc < gn := by omega
    go_upto_region 6 with fail
    go_region_law (refine step_append_grows rfl (.tmp 17) (.tmp 20) 22 rfl 24 i28 (.agg #[.slice none 0 0]) 1 24 Try.underlying22 hi0 hz0 hz1 hz2 rfl (by decide) (some ad) gn gn us (by simp [Act.eval, Act.put]) (fun h => by cases h) (by rw [hul, Nat.mul_one]) HCL.out ⟨w2.heap.size, 0, none⟩ 1 1 [.slice ka kn kc] (by simp [Act.eval, Act.put]) rfl HNEW.out (by simp [Value.oneCell']) (by omega) (by unfold maxLen; omega) (by omega) ?_; intro v' w' hown hgrow; have HOWN := Lib.hid hown; have HGROW := Lib.hid hgrow; clear hown hgrow)
    all_goals
      have HOUT := Lib.hid (scope_row (n := gn) HLW.out HSZ.out HROW.out HKX.out HOWN.out HGN.out HGROW.out)
      have HBO := Lib.hid (show Below w.heap.size w w' from HBW.out.grown HGROW.out HSZ.out (fun _ h => by cases h))
      obtain ⟨ra, rn, rc, hv'⟩ : ∃ ra rn rc, v' = .slice ra rn rc := by
        obtain ⟨ra, rc, h, -⟩ := HOUT.out.each
        exact ⟨ra, _, rc, h⟩
      clear HOWN HGROW HROW HKX HNEW HCL HLW HBW
      subst hv'
      go_wp2
      go_ret
      exact ⟨⟨ra, _, rc, rfl, by rw [HV.out]; exact HOUT.out⟩, HBO.out⟩
set_option maxRecDepth 100000 in
set_option maxHeartbeats 2000000 in
theorem scope_13 (P : Nat → Prop) (g : List K) (t : Con) (w : World) (v x : Value) (hP : ∀ b, P b → b < w.heap.size) (hg : KSl w P v g) (ht : ConV w P t x) (hl : g.length ≤ 100000) (hcase : t.op = 13) :
    Calls Try.prog 55 #[v, x] w (ScP P (scopeOf g t) w) := by
  obtain ⟨R, hV⟩ : ∃ R : List K, R = scopeOf g t := ⟨_, rfl⟩
  rw [← hV]
  obtain ⟨ka, kn, kc, na, nn, nc, la, ln, lc, rfl, -, -, -⟩ := ht.shape
  have hkd : KidV w P t.kind (.slice ka kn kc) := by
    obtain ⟨hs, kv', nv', lv', e, hk, hn, hl⟩ := (conV_iff _ _ _ _).1 ht
    simp only [Value.agg.injEq, Array.mk.injEq, List.cons.injEq, and_true, true_and] at e
    obtain ⟨rfl, rfl, rfl⟩ := e
    exact hk
  obtain ⟨ga, gc, rfl, -⟩ := hg.each
  generalize t.n = num at *
  generalize t.s = s at *
  unfold scopeOf at hV
  obtain ⟨op, hop⟩ : ∃ op, op = t.op := ⟨_, rfl⟩
  rw [← hop] at hV hcase ⊢
  obtain ⟨hbx, hb⟩ := boxN_new w 28 #[.int .i64 op, .int .i64 num, .string s, .slice ka kn kc, .slice na nn nc, .slice la ln lc]
  have HP := Lib.hid hP
  have HB := Lib.hid hb
  have H1 := Lib.hid hbx
  have HCASE := Lib.hid hcase
  have HK := Lib.hid (hkd.keep (Same.of_below hb hP))
  have HGG := Lib.hid (hg.keep (Same.of_below hb hP))
  obtain ⟨gn, hgn⟩ : ∃ gn, gn = g.length := ⟨_, rfl⟩
  rw [← hgn] at HGG hl ⊢
  have HGN := Lib.hid hgn
  clear hg ht hkd hb hbx hop hcase hgn hP
  go_enter Try.func55, Try.ntmps55
  go_upto_region 1 with fail
  generalize w.alloc (.cells #[.int .i64 op, .int .i64 num, .string s, .slice ka kn kc, .slice na nn nc, .slice la ln lc] 28) = w2 at *
  have c0 := H1.out.cell 0 (.int .i64 op) rfl
  have hcase := HCASE.out
  have q0 : (op == 9) = false := beq_eq_false_iff_ne.2 (by omega)
  have q1 : (op == 10) = false := beq_eq_false_iff_ne.2 (by omega)
  have q2 : (op == 11) = false := beq_eq_false_iff_ne.2 (by omega)
  subst hcase
  have HV := Lib.hid (show R = g ++ [t.kind] from hV)
  have c3 := H1.out.cell 3 (.slice ka kn kc) rfl
  obtain ⟨i28, hi0, hz0, hz1, hz2⟩ := info3 infoKind
  obtain ⟨-, hgc, hcm, hnone, us, hul, hcells, hone, hrow⟩ := kinds_us HGG.out
  have hblk := blk_new w2 #[.slice ka kn kc] 24
  have hb2 : Below w2.heap.size w2 (w2.alloc (.cells #[.slice ka kn kc] 24)).drew := ((Below.refl w2.heap.size w2).alloc (Nat.le_refl _) _).drew
  have hlow : ∀ b, P b → b < w2.heap.size := fun b h => Nat.lt_of_lt_of_le (HP.out b h) HB.out.size
  have HROW := Lib.hid (hrow.keep (Same.of_below hb2 hlow))
  have HKX := Lib.hid (HK.out.keep (Same.of_below hb2 hlow))
  have HLW := Lib.hid (show ∀ b, P b → b < (w2.alloc (.cells #[.slice ka kn kc] 24)).drew.heap.size from fun b h => Nat.lt_of_lt_of_le (hlow b h) hb2.size)
  have HSZ := Lib.hid (show w.heap.size ≤ (w2.alloc (.cells #[.slice ka kn kc] 24)).drew.heap.size from Nat.le_trans HB.out.size hb2.size)
  have HBW := Lib.hid (belowStep hb2 HB.out)
  have HCL := Lib.hid (show ∀ ad, ga = some ad → ∀ j u, us[j]? = some u → (w2.alloc (.cells #[.slice ka kn kc] 24)).drew.cell? (ad.add j) = some u from fun ad had j u hu => by
    have h := hcells ad had j u hu
    have hlt := World.block_lt_of_cell? _ _ h
    have := (hb2.block (ad.add j).block hlt)
    simp only [World.cell?] at h ⊢
    rw [this]
    exact h)
  have HNEW := Lib.hid (show ∀ j u, [Value.slice ka kn kc][j]? = some u → (w2.alloc (.cells #[.slice ka kn kc] 24)).drew.cell? ((⟨w2.heap.size, 0, none⟩ : Addr).add j) = some u from World.news_of_block (cs := #[.slice ka kn kc]) (t := 24) (fr := (0, 0)) hblk)
  clear hV hcells hrow hblk hb2 hlow HGG HK HCASE
  rcases ga with _ | ad
  · obtain ⟨rfl, rfl⟩ := hnone rfl
    obtain rfl : us = [] := List.eq_nil_of_length_eq_zero hul
    go_upto_region 6 with fail
    go_region_law (refine step_append_grows rfl (.tmp 17) (.tmp 20) 22 rfl 24 i28 (.agg #[.slice none 0 0]) 1 24 Try.underlying22 hi0 hz0 hz1 hz2 rfl (by decide) none 0 0 [] (by simp [Act.eval, Act.put]) (fun _ => ⟨rfl, rfl⟩) rfl (fun _ h => by cases h) ⟨w2.heap.size, 0, none⟩ 1 1 [.slice ka kn kc] (by simp [Act.eval, Act.put]) rfl HNEW.out (by simp [Value.oneCell']) (by omega) (by unfold maxLen; omega) (by omega) ?_; intro v' w' hown hgrow; have HOWN := Lib.hid hown; have HGROW := Lib.hid hgrow; clear hown hgrow)
    all_goals
      have HOUT := Lib.hid (scope_row (n := 0) HLW.out HSZ.out HROW.out HKX.out HOWN.out HGN.out HGROW.out)
      have HBO := Lib.hid (show Below w.heap.size w w' from HBW.out.grown HGROW.out HSZ.out (fun _ h => by cases h))
      obtain ⟨ra, rn, rc, hv'⟩ : ∃ ra rn rc, v' = .slice ra rn rc := by
        obtain ⟨ra, rc, h, -⟩ := HOUT.out.each
        exact ⟨ra, _, rc, h⟩
      clear HOWN HGROW HROW HKX HNEW HCL HLW HBW
      subst hv'
      go_wp2
      go_ret
      exact ⟨⟨ra, _, rc, rfl, by rw [HV.out]; exact HOUT.out⟩, HBO.out⟩
  · have q6 : ¬ gc < gn := by omega
    go_upto_region 6 with fail
    go_region_law (refine step_append_grows rfl (.tmp 17) (.tmp 20) 22 rfl 24 i28 (.agg #[.slice none 0 0]) 1 24 Try.underlying22 hi0 hz0 hz1 hz2 rfl (by decide) (some ad) gn gn us (by simp [Act.eval, Act.put]) (fun h => by cases h) (by rw [hul, Nat.mul_one]) HCL.out ⟨w2.heap.size, 0, none⟩ 1 1 [.slice ka kn kc] (by simp [Act.eval, Act.put]) rfl HNEW.out (by simp [Value.oneCell']) (by omega) (by unfold maxLen; omega) (by omega) ?_; intro v' w' hown hgrow; have HOWN := Lib.hid hown; have HGROW := Lib.hid hgrow; clear hown hgrow)
    all_goals
      have HOUT := Lib.hid (scope_row (n := gn) HLW.out HSZ.out HROW.out HKX.out HOWN.out HGN.out HGROW.out)
      have HBO := Lib.hid (show Below w.heap.size w w' from HBW.out.grown HGROW.out HSZ.out (fun _ h => by cases h))
      obtain ⟨ra, rn, rc, hv'⟩ : ∃ ra rn rc, v' = .slice ra rn rc := by
        obtain ⟨ra, rc, h, -⟩ := HOUT.out.each
        exact ⟨ra, _, rc, h⟩
      clear HOWN HGROW HROW HKX HNEW HCL HLW HBW
      subst hv'
      go_wp2
      go_ret
      exact ⟨⟨ra, _, rc, rfl, by rw [HV.out]; exact HOUT.out⟩, HBO.out⟩
set_option maxRecDepth 100000 in
set_option maxHeartbeats 2000000 in
theorem scope_no (P : Nat → Prop) (g : List K) (t : Con) (w : World) (v x : Value) (hP : ∀ b, P b → b < w.heap.size) (hg : KSl w P v g) (ht : ConV w P t x) (hl : g.length ≤ 100000) (hcase : t.op ≠ 9 ∧ t.op ≠ 10 ∧ t.op ≠ 11 ∧ t.op ≠ 13) :
    Calls Try.prog 55 #[v, x] w (ScP P (scopeOf g t) w) := by
  obtain ⟨R, hV⟩ : ∃ R : List K, R = scopeOf g t := ⟨_, rfl⟩
  rw [← hV]
  obtain ⟨ka, kn, kc, na, nn, nc, la, ln, lc, rfl, -, -, -⟩ := ht.shape
  have hkd : KidV w P t.kind (.slice ka kn kc) := by
    obtain ⟨hs, kv', nv', lv', e, hk, hn, hl⟩ := (conV_iff _ _ _ _).1 ht
    simp only [Value.agg.injEq, Array.mk.injEq, List.cons.injEq, and_true, true_and] at e
    obtain ⟨rfl, rfl, rfl⟩ := e
    exact hk
  obtain ⟨ga, gc, rfl, -⟩ := hg.each
  generalize t.n = num at *
  generalize t.s = s at *
  unfold scopeOf at hV
  obtain ⟨op, hop⟩ : ∃ op, op = t.op := ⟨_, rfl⟩
  rw [← hop] at hV hcase ⊢
  obtain ⟨hbx, hb⟩ := boxN_new w 28 #[.int .i64 op, .int .i64 num, .string s, .slice ka kn kc, .slice na nn nc, .slice la ln lc]
  have HP := Lib.hid hP
  have HB := Lib.hid hb
  have H1 := Lib.hid hbx
  have HCASE := Lib.hid hcase
  have HK := Lib.hid (hkd.keep (Same.of_below hb hP))
  have HGG := Lib.hid (hg.keep (Same.of_below hb hP))
  obtain ⟨gn, hgn⟩ : ∃ gn, gn = g.length := ⟨_, rfl⟩
  rw [← hgn] at HGG hl ⊢
  have HGN := Lib.hid hgn
  clear hg ht hkd hb hbx hop hcase hgn hP
  go_enter Try.func55, Try.ntmps55
  go_upto_region 1 with fail
  generalize w.alloc (.cells #[.int .i64 op, .int .i64 num, .string s, .slice ka kn kc, .slice na nn nc, .slice la ln lc] 28) = w2 at *
  have c0 := H1.out.cell 0 (.int .i64 op) rfl
  have hcase := HCASE.out
  have q0 : (op == 9) = false := beq_eq_false_iff_ne.2 (by omega)
  have q1 : (op == 10) = false := beq_eq_false_iff_ne.2 (by omega)
  have q2 : (op == 11) = false := beq_eq_false_iff_ne.2 (by omega)
  have q3 : (op == 13) = false := beq_eq_false_iff_ne.2 (by omega)
  have HV := Lib.hid (show R = g from by
    rw [hV, if_neg]
    unfold Con.binder
    simp only [Bool.or_eq_true, decide_eq_true_eq]
    omega)
  have HOUT := Lib.hid (HGG.out.mono (fun q hq => (show Ext P w w2 q from .inl hq)))
  clear hV hcase HCASE HK HGG
  go_wp2
  go_ret
  exact ⟨⟨ga, gn, gc, rfl, by rw [HV.out]; exact HOUT.out⟩, HB.out⟩
theorem scopeOf_any (P : Nat → Prop) (g : List K) (t : Con) (w : World) (v x : Value) (hP : ∀ b, P b → b < w.heap.size) (hg : KSl w P v g) (ht : ConV w P t x) (hl : g.length ≤ 100000) :
    Calls Try.prog 55 #[v, x] w (ScP P (scopeOf g t) w) := by
  by_cases h1 : t.op = 9
  · exact scope_9 P g t w v x hP hg ht hl h1
  by_cases h2 : t.op = 10
  · exact scope_10 P g t w v x hP hg ht hl h2
  by_cases h3 : t.op = 11
  · exact scope_11 P g t w v x hP hg ht hl h3
  by_cases h4 : t.op = 13
  · exact scope_13 P g t w v x hP hg ht hl h4
  exact scope_no P g t w v x hP hg ht hl ⟨h1, h2, h3, h4⟩
end Go.Proofs.Ytmjkeejinagokaa
namespace Go.Proofs.Ytmjkeejinagokaa
open Go Go.RowKit
open Pl (K Con KR KS kof kofs ownK inK appK)
set_option linter.unusedSimpArgs false
set_option linter.unusedVariables false

/-- append to a row of its own what is another one -/
theorem append_onto {P : Program} {w : World} {ops : Array Oper} {rest : List Oper} {o : Oper} {a : Act} {Q : Exit → Act → World → Prop} (hgd : o.guard = none) (s x : Operand) (t : TypeId)
    (ho : o.op = .call { callee := .builtin .append, args := #[s, x], argTypes := #[t, t] })
    (base : Nat) (e : TypeId) (i : TypeInfo) (z : Value) (size bytes : Nat) (ht : P.underlying t = some (.slice e)) (hi : P.info? e = some i) (hz : i.zero = some z)
    (hsize : i.size = size) (hby : i.bytes = bytes) (hzs : z.cells.size = size) (hsz : 0 < size)
    (v : Value) (n : Nat) (xs : List Value) (hs : a.eval s = v) (hown : w.ownsRow base e size v n xs) (u : Value) (base2 m : Nat) (news : List Value) (hx : a.eval x = u) (hu : w.ownsRow base2 e size u m news) (h1 : ∀ u ∈ news, u.oneCell' = true)
    (h63 : n + m ≤ maxLen) (hbytes : (n + m) * bytes ≤ 140737488355328) (hbase : base ≤ w.heap.size)
    (h : ∀ v' w', w'.ownsRow base e size v' (n + m) (xs ++ news) → w.grownBy w' v.ownBlock → wpList P ops Q rest (a.put o.dst v') w') : wpList P ops Q (o :: rest) a w := by
  rcases hu.2 with ⟨rfl, h0⟩ | ⟨g, cap, cu, rfl, hbg, hg, hnc, hcm, hcs, htake⟩
  · have hm : news.length = 0 := by rw [hu.1, h0, Nat.zero_mul]
    obtain rfl : news = [] := List.eq_nil_of_length_eq_zero hm
    subst h0
    have hh := h v w (by rw [Nat.add_zero, List.append_nil]; exact hown) ⟨rfl, rfl, rfl, Nat.le_refl _, fun _ _ _ => rfl⟩
    exact wpList_append_own_none hgd s x t ho base e i size ht hi v n xs hs hown hx hh
  · exact wpList_append_own w hgd s x t ho base e i z size bytes ht hi hz hsize hby hzs hsz v n xs hs hown ⟨g, 0, none⟩ m cap news hx hu.1 (hu.cells rfl) h1 h63 hbytes hbase (fun v' w' h2 h3 _ => h v' w' h2 h3)
theorem infoInt10 : (Try.prog.info? 3).map (fun i => (i.zero, i.size, i.bytes)) = some (some (.int .i64 0), 1, 8) := by kernel_rfl
/-- a place, as values -/
def pathV (p : List Nat) : List Value := p.map (fun (i : Nat) => Value.int .i64 (i : Int))
theorem pathV_one (p : List Nat) : ∀ u ∈ pathV p, u.oneCell' = true := by
  intro u hu
  obtain ⟨i, -, rfl⟩ := List.mem_map.1 hu
  rfl
/-- what kindOf answers -/
def KoP (P : Nat → Prop) (r : KR) (w : World) (e : Ending) (w' : World) : Prop :=
  (∃ a n c pv, e = .returned (.tuple #[.agg #[.slice a n c], pv, .int .i64 r.er]) ∧ KidV w' (Ext P w w') r.kd (.slice a n c) ∧ w'.ownsRow w.heap.size 3 1 pv r.pt.length (pathV r.pt)) ∧ Below w.heap.size w w'
theorem kop_bad {P : Nat → Prop} {w W : World} {R : KR} {e : Int} {k m : Nat} {p : List Nat} {pv : Value} {base : Nat} (hv : R = .bad e (k :: p)) (hb : Below w.heap.size w W) (hp : W.ownsRow base 3 1 pv (1 + m) ([.int .i64 (k : Int)] ++ pathV p)) (hm : m = p.length) (hbs : w.heap.size ≤ base) :
    KoP P R w (.returned (.tuple #[.agg #[.slice none 0 0], pv, .int .i64 e])) W := by
  subst hv hm
  refine ⟨⟨none, 0, 0, pv, rfl, kidV_none _ _, ?_⟩, hb⟩
  have h := hp.mono hbs
  rw [Nat.add_comm] at h
  exact h
theorem kop_fwd {P : Nat → Prop} {w W : World} {R r : KR} {er : Int} {g : Nat} {a : Option Addr} {n c : Nat} (hv : R = r) (her : r.er = er) (hpt : r.pt = []) (hg : w.heap.size ≤ g) (hb : Below w.heap.size w W) (hx : KidV W (Ext1 P w W g) r.kd (.slice a n c)) :
    KoP P R w (.returned (.tuple #[.agg #[.slice a n c], .slice none 0 0, .int .i64 er])) (W.setCell ⟨g, 0, none⟩ (.slice a n c)) := by
  subst hv her
  refine ⟨⟨a, n, c, _, rfl, (hx.keep (Same.set (w := W) ⟨g, 0, none⟩ (.slice a n c) (fun q hq => hq.2))).mono (fun q hq => ?_), ?_⟩, below_set hb hg _⟩
  · rcases hq.1 with hq | hq
    · exact .inl hq
    · exact .inr ⟨hq.1, by rw [size_set]; exact hq.2⟩
  · rw [hpt]; exact World.ownsRow_nil _ _ _ _
theorem kop_fwd2 {P : Nat → Prop} {w W : World} {R r : KR} {er : Int} {g : Nat} {a : Option Addr} {n c : Nat} (hv : R = r) (her : r.er = er) (hpt : r.pt = []) (hg : w.heap.size ≤ g) (hb : Below w.heap.size w W) (hx : KidV W (Ext1 P w W g) r.kd (.slice a n c)) :
    KoP P R w (.returned (.tuple #[.agg #[.slice a n c], .slice none 0 0, .int .i64 er])) ((W.setCell ⟨g, 0, none⟩ (.slice a n c)).setCell ⟨g, 0, none⟩ (.slice a n c)) :=
  kop_fwd hv her hpt hg (below_set hb hg _) ((hx.keep (Same.set (w := W) ⟨g, 0, none⟩ (.slice a n c) (fun q hq => hq.2))).mono (fun q hq => ⟨by
    rcases hq.1 with h | h
    · exact .inl h
    · exact .inr ⟨h.1, by rw [size_set]; exact h.2⟩, hq.2⟩))
theorem ownK_pt (r : List K) (op n : Int) (kd : K) (ks : List K) : (ownK r op n kd ks).pt = [] := by
  cases h : ownK r op n kd ks with
  | ok k => rfl
  | bad e p => rw [(Pl.ownK_bad h).1]; rfl
/-- what the loop holds -/
structure KI (Pin : Nat → Prop) (w3 wr : World) (t : Con) (g2 : List K) (ln k : Nat) (ks : List K) (us : List Value) : Prop where
  len : ks.length = k
  eq : kofs g2.reverse t.l 0 = (kofs g2.reverse (t.l.drop k) k).pre ks
  val : ∀ x ∈ ks, K.valid x = true
  row : wr.ownsRow w3.heap.size 24 1 (.slice (some ⟨w3.heap.size, 0, none⟩) ln ln) ln us
  kids : ∀ j (h : j < ks.length), ∃ x, us[j]? = some x ∧ KidV wr (fun q => Pin q ∨ (w3.heap.size < q ∧ q < wr.heap.size)) ks[j] x
  below : Below w3.heap.size w3 wr
  size : w3.heap.size < wr.heap.size
theorem KI.push {Pin : Nat → Prop} {w3 wr wc w5 : World} {t : Con} {g2 : List K} {ln k : Nat} {ks : List K} {us : List Value} {x : K} {a : Option Addr} {n c : Nat} (h : KI Pin w3 wr t g2 ln k ks us) (hPin : ∀ q, Pin q → q < w3.heap.size) (hk : k < t.l.length) (hkl : k < ln) (hx : kof g2.reverse t.l[k] = .ok x) (hv : K.valid x = true)
    (h1 : Below wr.heap.size wr wc) (h2 : Below wc.heap.size wc w5) (hkid : KidV w5 (Ext Pin wc w5) x (.slice a n c)) : KI Pin w3 (w5.setCell ⟨w3.heap.size, k, none⟩ (.slice a n c)) t g2 ln (k + 1) (ks ++ [x]) (us.set k (.slice a n c)) := by
  have hw := belowStep h2 h1
  have hsz := h.size
  have hs1 := h1.size
  have hs2 := h2.size
  have hrow5 : w5.ownsRow w3.heap.size 24 1 (.slice (some ⟨w3.heap.size, 0, none⟩) ln ln) ln us := h.row.kept (row := none) ⟨hw.os, hw.tape, hw.output, hw.size, fun i hi _ => hw.block i hi⟩ (.inr (by simp [Value.ownBlock]))
  refine ⟨by rw [List.length_append, h.len]; rfl, ?_, ?_, (hrow5.stored k (.slice a n c)).1, fun j hj => ?_, ?_, by rw [size_set]; omega⟩
  · rw [h.eq, Pl.kofs_step _ _ _ hk, hx]
    exact Pl.KS.pre_pre ks [x] _
  · intro y hy
    rcases List.mem_append.1 hy with hy | hy
    · exact h.val y hy
    · simp at hy
      rw [hy]; exact hv
  · have hlen : us.length = ln := by have := hrow5.1; rw [Nat.mul_one] at this; exact this
    by_cases hjk : j < ks.length
    · obtain ⟨y, hy, hky⟩ := h.kids j hjk
      have hlt : ∀ q, (Pin q ∨ (w3.heap.size < q ∧ q < wr.heap.size)) → q < wr.heap.size := fun q hq => by
        rcases hq with hq | hq
        · have := hPin q hq; omega
        · exact hq.2
      refine ⟨y, ?_, ?_⟩
      · rw [List.getElem?_set, if_neg (by have := h.len; omega)]
        exact hy
      · rw [List.getElem_append_left hjk]
        refine ((hky.keep (w' := w5) (fun q hq => hw.block q (hlt q hq))).keep (Same.set (w := w5) ⟨w3.heap.size, k, none⟩ (.slice a n c) (fun q hq e => by
          have e : q = w3.heap.size := e
          rcases hq with hq | hq
          · have := hPin q hq; omega
          · have := hq.1; omega))).mono (fun q hq => ?_)
        rcases hq with hq | hq
        · exact .inl hq
        · exact .inr ⟨hq.1, by rw [size_set]; omega⟩
    · have hjk2 : j = k := by rw [List.length_append, h.len] at hj; simp at hj; have := h.len; omega
      subst hjk2
      refine ⟨.slice a n c, ?_, ?_⟩
      · rw [List.getElem?_set, if_pos rfl, if_pos (by omega)]
      · have e : (ks ++ [x])[j] = x := by
          rw [List.getElem_append_right (by have := h.len; omega)]
          simp [h.len]
        rw [e]
        refine (hkid.keep (Same.set (w := w5) ⟨w3.heap.size, j, none⟩ (.slice a n c) (fun q hq e => by
          have e : q = w3.heap.size := e
          rcases hq with hq | hq
          · have := hPin q hq; omega
          · have := hq.1; omega))).mono (fun q hq => ?_)
        rcases hq with hq | hq
        · exact .inl hq
        · exact .inr ⟨by have := hq.1; omega, by rw [size_set]; exact hq.2⟩
  · exact (h.below.trans (hw.mono (by omega))).setCell (p := ⟨w3.heap.size, k, none⟩) (Nat.le_refl _) _
/-- all the parts have kinds -/
theorem KI.row_sl {Pin : Nat → Prop} {w3 wr : World} {t : Con} {g2 : List K} {ln k : Nat} {ks : List K} {us : List Value} (h : KI Pin w3 wr t g2 ln k ks us) (hk : k = ln) :
    KSl wr (fun q => Pin q ∨ (w3.heap.size ≤ q ∧ q < wr.heap.size)) (.slice (some ⟨w3.heap.size, 0, none⟩) ln ln) ks := by
  have hlen : us.length = ln := by have := h.row.1; rw [Nat.mul_one] at this; exact this
  refine row_ksl h.row (by rw [h.len, hk]) (R := fun q => Pin q ∨ (w3.heap.size < q ∧ q < wr.heap.size)) ⟨by rw [hlen, h.len, hk], h.kids⟩ (fun b hb => ?_) (fun b h1 h2 => .inr ⟨h1, h2⟩)
  rcases hb with hb | hb
  · exact .inl hb
  · exact .inr ⟨Nat.le_of_lt hb.1, hb.2⟩
theorem depth_part10 (t : Con) (k : Nat) (h : k < t.l.length) : t.l[k].depth + 1 ≤ t.depth := by
  have := Con.mem_depth (List.getElem_mem h)
  rw [Con.depth_eq t]; omega
theorem kof_len (t : Con) : ∀ (r : List K) (e : Int) (p : List Nat), kof r t = .bad e p → p.length + 1 ≤ t.depth := by
  induction t using Con.ind with
  | h t ih =>
  intro r e p h
  rw [Pl.kof_eq] at h
  cases hs : kofs (inK r t.op t.kind) t.l 0 with
  | bad e' p' =>
    rw [hs] at h
    injection h with h1 h2
    subst h1 h2
    obtain ⟨j, q, hj, h3, h4⟩ := Pl.kofs_bad _ _ _ _ _ hs
    have := ih _ (List.getElem_mem hj) _ _ _ h4
    have := depth_part10 t j hj
    rw [h3, List.length_cons]
    omega
  | ok ks =>
    rw [hs] at h
    rw [(Pl.ownK_bad h).1]
    exact Con.depth_pos t
set_option maxRecDepth 100000 in
set_option maxHeartbeats 2000000 in
theorem kindOf_any (t : Con) : ∀ (P : Nat → Prop) (g : List K) (w : World) (gv v : Value), (∀ b, P b → b < w.heap.size) → KSl w P gv g → ConV w P t v → Con.allB t = true → (∀ k ∈ g, K.valid k = true) → g.length + t.depth ≤ 100000 →
    Calls Try.prog 31 #[gv, v] w (KoP P (kof g.reverse t) w) := by
  induction t using Con.ind with
  | h t ih =>
  intro P g w gv v hP hg ht ha hgv hgl
  obtain ⟨hnode, hparts⟩ := allB_parts t ha
  have hkv := kind_valid t hnode
  have hll := (node_facts10 t hnode).2.2
  have HIH := Lib.hid (show ∀ (k : Nat) (hk : k < t.l.length) (r : KR) (P' : Nat → Prop) (g' : List K) (W : World) (gv' v' : Value), r = kof g'.reverse (t.l[k]'hk) → (∀ b, P' b → b < W.heap.size) → KSl W P' gv' g' → ConV W P' (t.l[k]'hk) v' → (∀ k ∈ g', K.valid k = true) → g'.length + (t.l[k]'hk).depth ≤ 100000 → Calls Try.prog 31 #[gv', v'] W (KoP P' r W) from fun k hk r P' g' W gv' v' hr a1 a2 a3 a5 a6 => by
    subst hr
    exact ih (t.l[k]'hk) (List.getElem_mem hk) P' g' W gv' v' a1 a2 a3 (hparts _ (List.getElem_mem hk)) a5 a6)
  have HPV := Lib.hid (fun (k : Nat) (hk : k < t.l.length) r x a1 a2 => kof_valid (t.l[k]'hk) r x (hparts _ (List.getElem_mem hk)) a1 a2)
  have HPB := Lib.hid (fun (k : Nat) (hk : k < t.l.length) r e p a1 => kof_bad (t.l[k]'hk) r e p a1)
  have HDP := Lib.hid (depth_part10 t)
  have HSC := Lib.hid (scopeOf_any P g t)
  have HND := Lib.hid (fun P' ks W x a1 a2 a3 a4 a6 a7 => kindOfNode_any P' g ks t W gv v x a1 a2 a3 a4 hnode a6 a7)
  obtain ⟨R, hV⟩ : ∃ R : KR, R = kof g.reverse t := ⟨_, rfl⟩
  rw [← hV]
  rw [Pl.kof_eq, ← scopeOf_rev] at hV
  have hPT := ownK_pt g.reverse t.op t.n t.kind
  generalize hOK : ownK g.reverse t.op t.n t.kind = OK at *
  have HV0 := Lib.hid hV
  have HPT := Lib.hid hPT
  have hg2v : ∀ k ∈ scopeOf g t, K.valid k = true := by
    unfold scopeOf
    split
    · intro k hk
      rcases List.mem_append.1 hk with hk | hk
      · exact hgv k hk
      · simp at hk; rw [hk]; exact hkv
    · exact hgv
  have hg2l : (scopeOf g t).length ≤ g.length + 1 := by
    unfold scopeOf
    split
    · rw [List.length_append]; exact Nat.le_refl _
    · omega
  have HG2V := Lib.hid hg2v
  generalize scopeOf g t = g2 at *
  have HSL := Lib.hid (fun W (hW : Below w.heap.size w W) => (show ConV W P t v ∧ KSl W P gv g ∧ ∀ b, P b → b < W.heap.size from ⟨ht.keep (Same.of_below hW hP), hg.keep (Same.of_below hW hP), low_up hP hW⟩))
  have HP := Lib.hid hP
  obtain ⟨ka, kn, kc, na, nn, nc, la, ln, lc, rfl, -, -, hln⟩ := ht.shape
  have HLL := Lib.hid (fun W (hW : Below w.heap.size w W) => (show ConSl W P (.slice la ln lc) t.l from by
    obtain ⟨hs, kv', nv', lv', e, hk, hn, hl⟩ := (conV_iff _ _ _ _).1 (HSL.out W hW).1
    simp only [Value.agg.injEq, Array.mk.injEq, List.cons.injEq, and_true, true_and] at e
    obtain ⟨rfl, rfl, rfl⟩ := e
    exact hl))
  obtain ⟨ga, gc, rfl, -⟩ := hg.each
  have HGL := Lib.hid hgl
  rw [hln] at HLL
  obtain ⟨n, hn⟩ : ∃ n, n = t.l.length := ⟨_, rfl⟩
  rw [hln] at HSL HND ⊢
  rw [← hn] at HLL hll HSL HND ⊢
  have HN := Lib.hid hn
  generalize t.n = num at *
  generalize t.s = s at *
  generalize t.op = op at *
  generalize g.length = gn at *
  obtain ⟨hbx, hbx2, hb⟩ := twoN_new w 28 24 #[.int .i64 op, .int .i64 num, .string s, .slice ka kn kc, .slice na nn nc, .slice la n lc] #[.slice none 0 0]
  have HB := Lib.hid hb
  have H1 := Lib.hid hbx
  have HR := Lib.hid hbx2
  have c0 := hbx.cell 0 (.int .i64 op) rfl
  have c1 := hbx.cell 1 (.int .i64 num) rfl
  have c2 := hbx.cell 2 (.string s) rfl
  have c3 := hbx.cell 3 (.slice ka kn kc) rfl
  have c4 := hbx.cell 4 (.slice na nn nc) rfl
  have c5 := hbx.cell 5 (.slice la n lc) rfl
  clear ih hP hg ht ha hgv hgl hnode hparts hV hOK hPT hg2v hln hn hbx hbx2 hb hkv
  go_enter Try.func31, Try.ntmps31
  go_wp2_with fail
  clear c0 c1 c2 c3 c4 c5
  generalize (w.alloc (.cells #[.int .i64 op, .int .i64 num, .string s, .slice ka kn kc, .slice na nn nc, .slice la n lc] 28)).alloc (.cells #[.slice none 0 0] 24) = w2 at *
  refine (HSC.out w2 _ _ (HSL.out w2 HB.out).2.2 (HSL.out w2 HB.out).2.1 (HSL.out w2 HB.out).1 (by have := HGL.out; omega)).mono ?_
  rintro e w3 ⟨⟨ya, yn, yc, rfl, hin⟩, hb3⟩
  have HIN := Lib.hid hin
  have HBB := Lib.hid HB.out.size
  have HS2 := Lib.hid (show w.heap.size + 1 < w2.heap.size from HR.out.lt)
  have HS3 := Lib.hid hb3.size
  have HRL := Lib.hid (show w.heap.size + 1 < w3.heap.size from by have := HS2.out; have := HS3.out; omega)
  replace HB := Lib.hid (belowStep hb3 HB.out)
  replace H1 := Lib.hid (H1.out.of_eq (hb3.block _ H1.out.lt))
  replace HR := Lib.hid (HR.out.of_eq (hb3.block _ HR.out.lt))
  clear hin hb3 HSC
  obtain ⟨i28, hi0, hz0, hz1, hz2⟩ := info3 infoKind
  have hmk : Sem.run Try.prog (Instr.makeSlice 22 (.int .i64 (n : Int)) (.int .i64 (n : Int))) w3 = .ok (.slice (some ⟨w3.heap.size, 0, none⟩) n n) (w3.alloc (.cells (madeCells #[.slice none 0 0] n) 24)) := by
    have h := run_make (P := Try.prog) w3 22 24 i28 _ Try.underlying22 hi0 hz0 .i64 .i64 n n (by omega) (Int.le_refl _) (by rw [hz2]; omega) (by omega)
    simp only [Int.toNat_natCast, hz1, Nat.mul_one] at h
    exact h
  have hcsz : (madeCells #[.slice none 0 0] n).size = n * 1 := by
    have := size_madeCells #[Value.slice none 0 0] n
    rw [this, Nat.mul_one]
  generalize madeCells #[.slice none 0 0] n = cs at *
  have hk0 : KI (Ext P w2 w3) w3 (w3.alloc (.cells cs 24)) t g2 n 0 [] cs.toList := ⟨rfl, by rw [List.drop_zero, Pl.KS.pre_nil], (fun x hx => by cases hx), World.ownsRow_lit w3 cs n (Nat.le_refl _) (by unfold maxLen; omega) hcsz, (fun j hj => absurd hj (Nat.not_lt_zero _)), (Below.refl _ _).alloc (Nat.le_refl _) _, by rw [size_alloc]; omega⟩
  have HK0 := Lib.hid hk0
  have c5 := H1.out.cell 5 (.slice la n lc) rfl
  have d5 := (H1.out.of_eq ((hk0.below).block _ H1.out.lt)).cell 5 (.slice la n lc) rfl
  clear hk0 hcsz
  go_wp2_with fail
  clear hmk c5 d5
  generalize w3.alloc (.cells cs 24) = w4 at *
  go_loopg [21] (n + 1) (fun gk i wr => ∃ (k : Nat) (ks : List K) (us : List Value), k ≤ n ∧ i = .int .i64 k ∧ gk = n + 1 - k ∧ KI (Ext P w2 w3) w3 wr t g2 n k ks us)
  case atStart => exact ⟨0, [], cs.toList, by omega, rfl, by omega, HK0.out⟩
  case round =>
    obtain ⟨k, ks, us, hk, rfl, hgk, hki⟩ := hrel
    have HKI := Lib.hid hki
    have hsz := hki.size
    have HW0 := Lib.hid (show Below w.heap.size w wr from belowStep (a := w) (b := w3) hki.below HB.out)
    have HINr := Lib.hid (HIN.out.keep (Same.of_below hki.below (fun q hq => by
      rcases hq with hq | hq
      · have := HP.out q hq; have := HBB.out; have := HS3.out; omega
      · exact hq.2)))
    have H1r := Lib.hid (H1.out.of_eq (hki.below.block _ H1.out.lt))
    have HRr := Lib.hid (HR.out.of_eq (hki.below.block _ HR.out.lt))
    have HPIN := Lib.hid (show ∀ q, Ext P w2 w3 q → q < w3.heap.size from fun q hq => by
      rcases hq with hq | hq
      · have := HP.out q hq; have := HBB.out; have := HS3.out; omega
      · exact hq.2)
    by_cases hlt : k < n
    · have q5 : decide ((k : Int) < (n : Int)) = true := decide_eq_true (by omega)
      have hkl : k < t.l.length := by rw [← HN.out]; exact hlt
      obtain ⟨b, off, c', xa, xn, xc, xa2, xn2, xc2, za, zn, zc, e, -, f0, f1, f2, f3, f4, f5, hx⟩ := (HLL.out wr HW0.out).part k hkl
      injection e with e1 e2 e3
      subst e1 e3
      clear e2
      obtain ⟨hbx, hb⟩ := boxN_new wr 28 #[.int .i64 t.l[k].op, .int .i64 t.l[k].n, .string t.l[k].s, .slice xa xn xc, .slice xa2 xn2 xc2, .slice za zn zc]
      have g0 := hbx.cell 0 (.int .i64 t.l[k].op) rfl
      have g1 := hbx.cell 1 (.int .i64 t.l[k].n) rfl
      have g2' := hbx.cell 2 (.string t.l[k].s) rfl
      have g3 := hbx.cell 3 (.slice xa xn xc) rfl
      have g4 := hbx.cell 4 (.slice xa2 xn2 xc2) rfl
      have g5 := hbx.cell 5 (.slice za zn zc) rfl
      obtain ⟨r, hr⟩ : ∃ r, r = kof g2.reverse t.l[k] := ⟨_, rfl⟩
      have HC := Lib.hid (HIH.out k hkl r (Ext P w2 w3) g2 _ (.slice ya yn yc) _ hr (fun q hq => by have := HPIN.out q hq; have := hb.size; omega) (HINr.out.keep (Same.of_below hb (fun q hq => by have := HPIN.out q hq; omega))) ((hx.mono (fun q hq => (show Ext P w2 w3 q from .inl hq))).keep (Same.of_below hb (fun q hq => by have := HPIN.out q hq; omega))) HG2V.out (by have := HDP.out k hkl; have := HGL.out; omega))
      have HBC := Lib.hid hb
      have HKL := Lib.hid hkl
      have HLT := Lib.hid hlt
      have HRK := Lib.hid hr
      generalize t.l[k].op = xop at *
      generalize t.l[k].n = xnum at *
      generalize t.l[k].s = xs' at *
      clear hx hki hbx hb hr
      rcases r with x | ⟨er, p⟩
      · go_wp2_with fail
        clear f0 f1 f2 f3 f4 f5 g0 g1 g2' g3 g4 g5
        generalize wr.alloc (.cells #[.int .i64 xop, .int .i64 xnum, .string xs', .slice xa xn xc, .slice xa2 xn2 xc2, .slice za zn zc] 28) = wc at *
        refine HC.out.mono ?_
        rintro e w5 ⟨⟨qa, qn, qc, pv, rfl, hkid, hpv⟩, hb5⟩
        have HNX := Lib.hid (HKI.out.push (a := qa) (n := qn) (c := qc) HPIN.out HKL.out HLT.out HRK.out.symm (HPV.out k HKL.out g2.reverse x (fun y hy => HG2V.out y (List.mem_reverse.1 hy)) HRK.out.symm) HBC.out hb5 hkid)
        have hrow5 : w5.ownsRow w3.heap.size 24 1 (.slice (some ⟨w3.heap.size, 0, none⟩) n n) n us := by
          have hw := belowStep hb5 HBC.out
          exact HKI.out.row.kept (row := none) ⟨hw.os, hw.tape, hw.output, hw.size, fun i hi _ => hw.block i hi⟩ (.inr (by simp [Value.ownBlock]))
        have hul : us.length = n := by have := hrow5.1; rw [Nat.mul_one] at this; exact this
        have cB : w5.cell? ⟨w3.heap.size, k, none⟩ = some us[k] := by
          rw [hrow5.cellAt k (by omega), List.getElem?_eq_getElem (by omega)]
        have fB := hrow5.frozenAt k
        generalize us[k] = uk at *
        have qe : (KR.er (.ok x) == 0) = true := rfl
        generalize KR.er (.ok x) = er0 at *
        obtain rfl : er0 = 0 := by simpa using qe
        clear hkid hpv hb5 hrow5 hul qe HC HKI
        go_wp2
        go_roundg (gk - 1)
        case measure => omega
        case rel => exact ⟨k + 1, ks ++ [x], _, by omega, by go_num, by omega, HNX.out⟩
      · go_wp2_with fail
        clear f0 f1 f2 f3 f4 f5 g0 g1 g2' g3 g4 g5
        generalize wr.alloc (.cells #[.int .i64 xop, .int .i64 xnum, .string xs', .slice xa xn xc, .slice xa2 xn2 xc2, .slice za zn zc] 28) = wc at *
        refine HC.out.mono ?_
        rintro e w5 ⟨⟨qa, qn, qc, pv, rfl, hkid, hpv⟩, hb5⟩
        have hw := belowStep hb5 HBC.out
        have hrow5 : w5.ownsRow w3.heap.size 24 1 (.slice (some ⟨w3.heap.size, 0, none⟩) n n) n us := HKI.out.row.kept (row := none) ⟨hw.os, hw.tape, hw.output, hw.size, fun i hi _ => hw.block i hi⟩ (.inr (by simp [Value.ownBlock]))
        have hul : us.length = n := by have := hrow5.1; rw [Nat.mul_one] at this; exact this
        have cB : w5.cell? ⟨w3.heap.size, k, none⟩ = some us[k] := by
          rw [hrow5.cellAt k (by omega), List.getElem?_eq_getElem (by omega)]
        have fB := hrow5.frozenAt k
        generalize us[k] = uk at *
        have hne : er ≠ 0 := HPB.out k HKL.out _ er p HRK.out.symm
        have qe : (er == 0) = false := beq_eq_false_iff_ne.2 hne
        have HV := Lib.hid (show R = .bad er (k :: p) from by
          rw [HV0.out, HKI.out.eq, Pl.kofs_step _ _ _ HKL.out, ← HRK.out]
          rfl)
        have hpl : p.length + 1 ≤ 100000 := by
          have h1 := kof_len _ _ _ _ HRK.out.symm
          have h2 := HDP.out k HKL.out
          have h3 := HGL.out
          omega
        obtain ⟨i3, hi3, hy0, hy1, hy2⟩ := info3 infoInt10
        have hs5 := hw.size
        have hs6 := hb5.size
        have hs7 := HBC.out.size
        have hbw : Below w.heap.size w w5 := belowStep hw HW0.out
        have HBW6 := Lib.hid (show Below w.heap.size w (w5.setCell ⟨w3.heap.size, k, none⟩ (.slice qa qn qc)) from hbw.setCell (p := ⟨w3.heap.size, k, none⟩) HB.out.size _)
        have hlit := World.ownsRow_lit (e := 3) (base := w5.heap.size) (size := 1) (w5.setCell ⟨w3.heap.size, k, none⟩ (.slice qa qn qc)) #[.int .i64 (k : Int)] 1 (by rw [size_set]; exact Nat.le_refl _) (by unfold maxLen; omega) rfl
        rw [size_set] at hlit
        have hpv : w5.ownsRow wc.heap.size 3 1 pv p.length (pathV p) := hpv
        have hpv6 : (w5.setCell ⟨w3.heap.size, k, none⟩ (.slice qa qn qc)).ownsRow wc.heap.size 3 1 pv p.length (pathV p) := hpv.kept (row := some w3.heap.size) ⟨rfl, rfl, rfl, by rw [size_set]; exact Nat.le_refl _, fun q hq hn => Below.heap_setCell w5 ⟨w3.heap.size, k, none⟩ _ q (fun e => hn (by rw [e]))⟩ (.inr fun e => by
          have := (hpv.lt w3.heap.size e).1
          omega)
        have HPV7 := Lib.hid (hpv6.alloc (.cells #[.int .i64 (k : Int)] 3))
        have HLIT := Lib.hid hlit
        have hr5 := (HRr.out.of_eq (hw.block _ HRr.out.lt)).other ⟨w3.heap.size, k, none⟩ (.slice qa qn qc) (by have := HRL.out; simp; omega)
        have HR7 := Lib.hid (hr5.alloc (.cells #[.int .i64 (k : Int)] 3))
        have HB7 := Lib.hid (show Below w.heap.size w ((w5.setCell ⟨w3.heap.size, k, none⟩ (.slice qa qn qc)).alloc (.cells #[.int .i64 (k : Int)] 3)) from below_new HBW6.out)
        have HS7 := Lib.hid (show w.heap.size + 1 < w5.heap.size ∧ ((w5.setCell ⟨w3.heap.size, k, none⟩ (.slice qa qn qc)).alloc (.cells #[.int .i64 (k : Int)] 3)).heap.size = w5.heap.size + 1 from ⟨by have := HRL.out; omega, by rw [size_alloc, size_set]⟩)
        generalize hge : KR.er (.bad er p) = er1 at *
        obtain rfl : er1 = er := hge.symm
        clear hkid hpv hpv6 hb5 hrow5 hul HC HKI hw hne hlit hr5 hbw hs5 hs6 hs7 hge HIH HPV HPB HND HSL HLL HIN HINr
        go_wp2_with (at_builtin; refine append_onto rfl _ _ 31 rfl w5.heap.size 3 i3 (.int .i64 0) 1 8 Try.underlying31 hi3 hy0 hy1 hy2 rfl (by decide) _ 1 _ rfl HLIT.out pv _ p.length (pathV p) rfl HPV7.out (pathV_one p) ?c1 ?c2 ?c3 ?_)
        case c1 => unfold maxLen; omega
        case c2 => omega
        case c3 => rw [HS7.out.2]; omega
        intro v' w8 hown hgrow
        have hr8 : Blk w8 (w.heap.size + 1) 24 #[.slice none 0 0] := HR7.out.of_eq (hgrow.block _ HR7.out.lt (by have := HS7.out.1; simp [Value.ownBlock]; omega))
        have hb8 : Below w.heap.size w w8 := HB7.out.grown hgrow (by rw [HS7.out.2]; have := HS7.out.1; omega) (fun q hq => by
          have hq : (some w5.heap.size : Option Nat) = some q := hq
          injection hq with hq
          have := HS7.out.1; omega)
        have c9 := hr8.cell 0 (.slice none 0 0) rfl
        have f9 := hr8.thaw 0
        have HE1 := Lib.hid (blk_one (y := .slice none 0 0) hr8)
        have HE0 := Lib.hid (kop_bad (P := P) HV.out hb8 hown rfl (by have := HS7.out.1; omega))
        have HE := Lib.hid (kop_bad (P := P) (W := w8.setCell ⟨w.heap.size + 1, 0, none⟩ (.slice none 0 0)) HV.out (below_set hb8 (Nat.le_succ _) _) (hown.kept (row := some (w.heap.size + 1)) ⟨rfl, rfl, rfl, by rw [size_set]; exact Nat.le_refl _, fun q hq hn => Below.heap_setCell w8 ⟨w.heap.size + 1, 0, none⟩ _ q (fun e => hn (by rw [e]))⟩ (.inr fun e => by
          have := (hown.lt _ e).1
          have := HS7.out.1
          omega)) rfl (by have := HS7.out.1; omega))
        clear hown hgrow hr8 hb8 HPV7 HLIT HR7 HB7 HBW6
        go_wp2
        have d9 := HE1.out.cell 0 (.slice none 0 0) rfl
        refine bodyPost_ret (v := .tuple #[.agg #[.slice none 0 0], v', .int .i64 er1]) (by first | (simp [results, Try.results31, go_sem, d9]; done) | (simp [results, Try.results31, go_sem, c9]; done)) rfl ?_
        first | exact HE.out | exact HE0.out
    · have q5 : decide ((k : Int) < (n : Int)) = false := decide_eq_false (by omega)
      have hkn : k = n := by omega
      have hks : ks.length = n := by rw [hki.len, hkn]
      have HV := Lib.hid (show R = OK ks from by
        rw [HV0.out, hki.eq, List.drop_of_length_le (by rw [← HN.out]; omega), Pl.kofs_nil]
        show OK (ks ++ []) = _
        rw [List.append_nil])
      have hrow := hki.row_sl hkn
      have HLOW := Lib.hid (show ∀ q, (Ext P w2 w3 q ∨ (w3.heap.size ≤ q ∧ q < wr.heap.size)) → q < wr.heap.size from fun q hq => by
        rcases hq with hq | hq
        · have := HPIN.out q hq; omega
        · exact hq.2)
      have HC := Lib.hid (HND.out (fun q => Ext P w2 w3 q ∨ (w3.heap.size ≤ q ∧ q < wr.heap.size)) ks wr (.slice (some ⟨w3.heap.size, 0, none⟩) n n) HLOW.out ((HSL.out wr HW0.out).2.1.mono (fun q hq => .inl (.inl hq))) ((HSL.out wr HW0.out).1.mono (fun q hq => .inl (.inl hq))) hrow hks hki.val)
      have HPTK := Lib.hid (HPT.out ks)
      generalize OK ks = ok at *
      have c0 := H1r.out.cell 0 (.int .i64 op) rfl
      have c1 := H1r.out.cell 1 (.int .i64 num) rfl
      have c2 := H1r.out.cell 2 (.string s) rfl
      have c3 := H1r.out.cell 3 (.slice ka kn kc) rfl
      have c4 := H1r.out.cell 4 (.slice na nn nc) rfl
      have c5 := H1r.out.cell 5 (.slice la n lc) rfl
      clear hki HKI hrow hks HIH HPV HPB HND HSL HLL HIN HINr HPT HV0 HDP HK0 HG2V
      go_wp2_with fail
      clear c0 c1 c2 c3 c4 c5
      refine HC.out.mono ?_
      rintro e w5 ⟨⟨ra, rn, rc, rfl, hkd⟩, hb5⟩
      have HX := Lib.hid (hkd.mono (fun q hq => (show Ext1 P w w5 (w.heap.size + 1) q from by
        have h2 := HS2.out
        have h3 := HS3.out
        have h4 := hb5.size
        rcases hq with ((hq | hq) | hq) | hq
        · exact ⟨.inl hq, by have := HP.out q hq; omega⟩
        · exact ⟨.inr ⟨by omega, by omega⟩, by omega⟩
        · exact ⟨.inr ⟨by omega, by omega⟩, by omega⟩
        · exact ⟨.inr ⟨by omega, by omega⟩, by omega⟩)))
      have hr9 := HRr.out.of_eq (hb5.block _ HRr.out.lt)
      have HB5 := Lib.hid (belowStep hb5 HW0.out)
      obtain ⟨er, her⟩ : ∃ er, KR.er ok = er := ⟨_, rfl⟩
      rw [her]
      have c9 := hr9.cell 0 (.slice none 0 0) rfl
      have f9 := hr9.thaw 0
      have HE1 := Lib.hid (blk_one (y := .slice ra rn rc) hr9)
      have HE := Lib.hid (kop_fwd (P := P) HV.out her HPTK.out (Nat.le_succ w.heap.size) HB5.out HX.out)
      have HE2 := Lib.hid (kop_fwd2 (P := P) HV.out her HPTK.out (Nat.le_succ w.heap.size) HB5.out HX.out)
      clear hr9 hkd hb5 HC HX her
      go_wp2
      have d9 := HE1.out.cell 0 (.slice ra rn rc) rfl
      refine bodyPost_ret (v := .tuple #[.agg #[.slice ra rn rc], .slice none 0 0, .int .i64 er]) (by simp [results, Try.results31, go_sem, d9]) rfl ?_
      first | exact HE2.out | exact HE.out
end Go.Proofs.Ytmjkeejinagokaa
namespace Go.Proofs.Ytmjkeejinagokaa
open Go Go.RowKit
open Pl (K Con KR KS kof kofs ownK inK appK)
set_option linter.unusedSimpArgs false
set_option linter.unusedVariables false

/-- whether a scope is valid -/
def scopeB (g : List K) : Bool := decide (g.length ≤ 1000) && g.all K.valid
set_option maxRecDepth 100000 in
set_option maxHeartbeats 1000000 in
theorem isScope_any (P : Nat → Prop) (l : List K) (w : World) (v : Value) (hP : ∀ b, P b → b < w.heap.size) (ht : KSl w P v l) :
    Calls Try.prog 54 #[v] w fun e w' => e = .returned (.bool (scopeB l)) ∧ Below w.heap.size w w' := by
  obtain ⟨a, c, rfl, hlc, hcm, hka⟩ := ht.each
  clear ht
  have HP := Lib.hid hP
  have HKA := Lib.hid hka
  obtain ⟨R, hV⟩ : ∃ R, R = scopeB l := ⟨_, rfl⟩
  rw [← hV]
  unfold scopeB at hV
  obtain ⟨n, hn⟩ : ∃ n, n = l.length := ⟨_, rfl⟩
  have HN := Lib.hid hn
  rw [← hn] at hlc hV ⊢
  have hn63 : n ≤ 9223372036854775807 := by unfold maxLen at hcm; omega
  by_cases hbig : 1000 < n
  · have q1 : decide ((1000 : Int) < (n : Int)) = true := decide_eq_true (by omega)
    have HV := Lib.hid (show R = false from by rw [hV, decide_eq_false (by omega : ¬ n ≤ 1000)]; rfl)
    clear hV hka hn hP
    go_enter Try.func54, Try.ntmps54
    go_wp2
    go_ret
    exact ⟨by rw [HV.out]; rfl, Below.refl _ _⟩
  have q1 : decide ((1000 : Int) < (n : Int)) = false := decide_eq_false (by omega)
  rw [decide_eq_true (by omega : n ≤ 1000), Bool.true_and] at hV
  have HV := Lib.hid hV
  clear hka hn hcm hlc hV hP hbig
  go_enter Try.func54, Try.ntmps54
  go_wp2_with fail
  go_loopg [10] (n + 1) (fun g i wr => ∃ k : Nat, k ≤ n ∧ i = .int .i64 k ∧ g = n + 1 - k ∧ R = (l.drop k).all K.valid ∧ Below w.heap.size w wr)
  case atStart => exact ⟨0, by omega, rfl, by omega, by rw [List.drop_zero]; exact HV.out, Below.refl _ _⟩
  case round =>
    obtain ⟨k, hk, rfl, hg, hrk, hbw⟩ := hrel
    have HBW := Lib.hid hbw
    have HK := Lib.hid hrk
    by_cases hlt : k < n
    · have q5 : decide ((k : Int) < (n : Int)) = true := decide_eq_true (by omega)
      have hkl : k < l.length := by rw [← HN.out]; exact hlt
      obtain ⟨b, off, x, e, hPb, hx, hkx⟩ := HKA.out k hkl
      subst e
      obtain ⟨a7, c7, rfl⟩ := hkx.form
      have f0 := (HBW.out.cell (p := ⟨b, off + k, none⟩) (HP.out b hPb)).trans hx
      obtain ⟨hbx, hb⟩ := boxN_new wr 24 #[.slice a7 l[k].l.length c7]
      have g0 := hbx.cell 0 (.slice a7 l[k].l.length c7) rfl
      have HC := Lib.hid (valid_any P l[k] (wr.alloc (.cells #[.slice a7 l[k].l.length c7] 24)) (.agg #[.slice a7 l[k].l.length c7]) (fun q hq => Nat.lt_of_lt_of_le (HP.out q hq) (belowStep hb HBW.out).size) ⟨_, rfl, hkx.keep (Same.of_below (belowStep hb HBW.out) HP.out)⟩)
      have HST := Lib.hid (hrk.trans (all_step l k hkl))
      have HBN := Lib.hid (belowStep hb HBW.out)
      clear hrk hbw hx hkx hPb hbx hb HK
      generalize K.valid l[k] = z at *
      generalize l[k].l.length = n7 at *
      go_wp2_with fail
      generalize wr.alloc (.cells #[.slice a7 n7 c7] 24) = w5 at *
      refine HC.out.mono ?_
      rintro e w3 ⟨rfl, hb3⟩
      replace HBN := Lib.hid (belowStep hb3 HBN.out)
      clear hb3 f0 g0 HC
      cases z
      · have HF := Lib.hid (show R = false from HST.out)
        go_wp2
        go_ret
        exact ⟨by rw [HF.out]; rfl, HBN.out⟩
      · have HF := Lib.hid (show R = (l.drop (k + 1)).all K.valid from HST.out)
        go_wp2
        go_roundg (gk - 1)
        case measure => omega
        case rel => exact ⟨k + 1, by omega, by go_num, by omega, HF.out, HBN.out⟩
    · have q5 : decide ((k : Int) < (n : Int)) = false := decide_eq_false (by omega)
      have HF := Lib.hid (show R = true from by rw [HK.out, List.drop_of_length_le (by rw [← HN.out]; omega)]; rfl)
      clear hrk hbw
      go_wp2
      go_ret
      exact ⟨by rw [HF.out]; rfl, HBW.out⟩
def givenB (g : List K) (t : Con) : Bool := scopeB g && Con.validB t
set_option maxRecDepth 100000 in
theorem areValid_any (P : Nat → Prop) (g : List K) (t : Con) (w : World) (gv v : Value) (hP : ∀ b, P b → b < w.heap.size) (hg : KSl w P gv g) (ht : ConV w P t v) :
    Calls Try.prog 30 #[gv, v] w fun e w' => e = .returned (.bool (givenB g t)) ∧ Below w.heap.size w w' := by
  have HS := Lib.hid (fun W (hW : Below w.heap.size w W) => isScope_any P g W gv (low_up hP hW) (hg.keep (Same.of_below hW hP)))
  have HT := Lib.hid (fun W (hW : Below w.heap.size w W) => cvalid_any P t W v (low_up hP hW) (ht.keep (Same.of_below hW hP)))
  unfold givenB
  generalize scopeB g = r1 at *
  generalize Con.validB t = r2 at *
  obtain ⟨ka, kn, kc, na, nn, nc, la, ln, lc, rfl, -, -, -⟩ := ht.shape
  obtain ⟨ga, gc, rfl, -⟩ := hg.each
  generalize t.op = op at *
  generalize t.n = num at *
  generalize t.s = s at *
  generalize g.length = gn at *
  obtain ⟨hbx, hb⟩ := boxN_new w 28 #[.int .i64 op, .int .i64 num, .string s, .slice ka kn kc, .slice na nn nc, .slice la ln lc]
  have HB := Lib.hid hb
  have H1 := Lib.hid hbx
  clear hbx hb hg ht hP
  go_enter Try.func30, Try.ntmps30
  go_wp2_with fail
  generalize w.alloc (.cells #[.int .i64 op, .int .i64 num, .string s, .slice ka kn kc, .slice na nn nc, .slice la ln lc] 28) = w2 at *
  refine (HS.out _ HB.out).mono ?_
  rintro e w3 ⟨rfl, hb3⟩
  replace H1 := Lib.hid (H1.out.of_eq (hb3.block _ H1.out.lt))
  replace HB := Lib.hid (belowStep hb3 HB.out)
  clear hb3
  cases r1
  · go_wp2
    go_ret
    exact ⟨rfl, HB.out⟩
  have c0 := H1.out.cell 0 (.int .i64 op) rfl
  have c1 := H1.out.cell 1 (.int .i64 num) rfl
  have c2 := H1.out.cell 2 (.string s) rfl
  have c3 := H1.out.cell 3 (.slice ka kn kc) rfl
  have c4 := H1.out.cell 4 (.slice na nn nc) rfl
  have c5 := H1.out.cell 5 (.slice la ln lc) rfl
  go_wp2_with fail
  refine (HT.out _ HB.out).mono ?_
  rintro e w4 ⟨rfl, hb4⟩
  replace HB := Lib.hid (belowStep hb4 HB.out)
  clear hb4 c0 c1 c2 c3 c4 c5
  go_wp2
  go_ret
  exact ⟨rfl, HB.out⟩

set_option maxRecDepth 100000 in
theorem kcopied_any (P : Nat → Prop) (k : K) (w : World) (v : Value) (hP : ∀ b, P b → b < w.heap.size) (hk : KV w P k v) (hv : K.valid k = true) :
    Calls Try.prog 41 #[v] w fun e w' => (∃ ra rc, e = .returned (.agg #[.slice ra k.l.length rc]) ∧ KidV w' (From w.heap.size w') k (.slice ra k.l.length rc)) ∧ Below w.heap.size w w' := by
  have HA := Lib.hid (fun W (hW : Below w.heap.size w W) => carrow_any P [] k W (.slice none 0 0) v (fun b h => Nat.lt_of_lt_of_le (hP b h) hW.size) (kidV_none W P) (hk.keep (Same.of_below hW hP)))
  have ho : K.arrowOut [] k = (k, 0) := by
    unfold K.arrowOut
    have e : K.arrow [] k = k := rfl
    rw [e, hv]
    rfl
  rw [ho] at HA
  obtain ⟨a, c, rfl⟩ := hk.form
  obtain ⟨hbx, hbx2, hb⟩ := two_new w 24 (.slice a k.l.length c) (.slice none 0 0)
  have c0 := hbx.cell 0 (.slice a k.l.length c) rfl
  have HB := Lib.hid hb
  have HBX2 := Lib.hid hbx2
  generalize hn : k.l.length = n at *
  clear hbx hbx2 hb hk hP ho
  go_enter Try.func41, Try.ntmps41
  go_wp2_with fail
  clear c0
  generalize ((w.alloc (.cells #[.slice a n c] 24)).alloc (.cells #[.slice none 0 0] 24)) = w2 at *
  refine (HA.out _ HB.out).mono ?_
  rintro e w3 ⟨⟨y, rfl, hy⟩, hb3⟩
  obtain ⟨ra, rc, rfl⟩ := hy.form
  have HY := Lib.hid hy.kid
  have hb4 : Below w.heap.size w (w3.alloc (.cells #[.slice ra k.l.length rc] 24)) := below_new (belowStep hb3 HB.out)
  obtain ⟨hn4, hb5⟩ := boxN_new w3 24 #[.slice ra k.l.length rc]
  rw [hn] at HY hn4 hb5 hb4
  have h2 := (HBX2.out.of_eq (hb3.block _ HBX2.out.lt))
  have h3 := h2.alloc (.cells #[.slice ra n rc] 24)
  have c3 := hn4.cell 0 (.slice ra n rc) rfl
  have f3 := h3.thaw 0
  have c4 := h3.cell 0 (.slice none 0 0) rfl
  have HE1 := Lib.hid (blk_one (y := .slice ra n rc) h3)
  have HE2 := Lib.hid (below_set hb4 (Nat.le_succ w.heap.size) (.slice ra n rc))
  have HE3 := Lib.hid (show KidV ((w3.alloc (.cells #[.slice ra n rc] 24)).setCell ⟨w.heap.size + 1, 0, none⟩ (.slice ra n rc)) (From w.heap.size ((w3.alloc (.cells #[.slice ra n rc] 24)).setCell ⟨w.heap.size + 1, 0, none⟩ (.slice ra n rc))) k (.slice ra n rc) from by
    have h1 := (HY.out.keep (Same.of_below hb5 (fun b h => h.2))).keep (Same.set (w := w3.alloc (.cells #[.slice ra n rc] 24)) ⟨w.heap.size + 1, 0, none⟩ (.slice ra n rc) (fun q h e => by
      have e : q = w.heap.size + 1 := e
      have := h.1
      have := HBX2.out.lt
      omega))
    exact h1.mono (fun b h => ⟨Nat.le_trans HB.out.size h.1, by rw [size_set]; exact Nat.lt_of_lt_of_le h.2 hb5.size⟩))
  rw [hn]
  clear hy hb3 hb4 hb5 h2 h3 hn4 hn
  go_wp2
  generalize (w3.alloc (.cells #[.slice ra n rc] 24)).setCell ⟨w.heap.size + 1, 0, none⟩ (.slice ra n rc) = w5 at *
  have d0 := HE1.out.cell 0 (.slice ra n rc) rfl
  refine bodyPost_ret (v := .agg #[.slice ra n rc]) (by simp [results, Try.results41, go_sem, d0]) rfl ?_
  exact ⟨⟨ra, rc, rfl, HE3.out⟩, HE2.out⟩
theorem given_all {g : List K} {t : Con} (h : givenB g t = true) : Con.allB t = true ∧ (∀ k ∈ g, K.valid k = true) ∧ g.length + t.depth ≤ 100000 := by
  unfold givenB scopeB at h
  rw [Bool.and_eq_true, Bool.and_eq_true, decide_eq_true_eq, List.all_eq_true] at h
  have h2 := h.2
  unfold Con.validB Con.small at h2
  simp only [Bool.and_eq_true, decide_eq_true_eq] at h2
  exact ⟨h2.2, h.1.2, by have := h.1.1; omega⟩
theorem ofOut_eq (g : List K) (t : Con) : ofOut g t = if givenB g t then kof g.reverse t else .bad 1 [] := by
  unfold ofOut givenB scopeB
  rw [Bool.and_assoc]

set_option maxRecDepth 100000 in
set_option maxHeartbeats 1000000 in
theorem of_any (P : Nat → Prop) (g : List K) (t : Con) (w : World) (gv v : Value) (hP : ∀ b, P b → b < w.heap.size) (hg : KSl w P gv g) (ht : ConV w P t v) :
    Calls Try.prog 17 #[gv, v] w (KrP P (ofOut g t) w) := by
  have HAV := Lib.hid (fun W (hW : Below w.heap.size w W) => areValid_any P g t W gv v (low_up hP hW) (hg.keep (Same.of_below hW hP)) (ht.keep (Same.of_below hW hP)))
  have HKO := Lib.hid (fun (hv : givenB g t = true) W (hW : Below w.heap.size w W) => kindOf_any t P g W gv v (low_up hP hW) (hg.keep (Same.of_below hW hP)) (ht.keep (Same.of_below hW hP)) (given_all hv).1 (given_all hv).2.1 (given_all hv).2.2)
  have HKV := Lib.hid (fun (hv : givenB g t = true) k (hk : kof g.reverse t = .ok k) => kof_valid t g.reverse k (given_all hv).1 (fun x hx => (given_all hv).2.1 x (List.mem_reverse.1 hx)) hk)
  have HKB := Lib.hid (fun e p (hk : kof g.reverse t = .bad e p) => kof_bad t g.reverse e p hk)
  obtain ⟨R, hV⟩ : ∃ R : KR, R = ofOut g t := ⟨_, rfl⟩
  rw [← hV]
  rw [ofOut_eq] at hV
  have HV0 := Lib.hid hV
  clear hV
  have HP := Lib.hid hP
  obtain ⟨ka, kn, kc, na, nn, nc, la, ln, lc, rfl, -, -, -⟩ := ht.shape
  obtain ⟨ga, gc, rfl, -⟩ := hg.each
  generalize kof g.reverse t = r at *
  generalize givenB g t = z at *
  generalize t.op = op at *
  generalize t.n = num at *
  generalize t.s = s at *
  generalize g.length = gn at *
  obtain ⟨hbx, hbx2, hb⟩ := twoN_new w 28 24 #[.int .i64 op, .int .i64 num, .string s, .slice ka kn kc, .slice na nn nc, .slice la ln lc] #[.slice none 0 0]
  have HB := Lib.hid hb
  have H1 := Lib.hid hbx
  have HR := Lib.hid hbx2
  have HG := Lib.hid (Nat.le_succ w.heap.size)
  clear hbx hbx2 hb hg ht hP
  have c0 := H1.out.cell 0 (.int .i64 op) rfl
  have c1 := H1.out.cell 1 (.int .i64 num) rfl
  have c2 := H1.out.cell 2 (.string s) rfl
  have c3 := H1.out.cell 3 (.slice ka kn kc) rfl
  have c4 := H1.out.cell 4 (.slice na nn nc) rfl
  have c5 := H1.out.cell 5 (.slice la ln lc) rfl
  go_enter Try.func17, Try.ntmps17
  go_wp2_with fail
  clear c0 c1 c2 c3 c4 c5
  generalize (w.alloc (.cells #[.int .i64 op, .int .i64 num, .string s, .slice ka kn kc, .slice na nn nc, .slice la ln lc] 28)).alloc (.cells #[.slice none 0 0] 24) = w2 at *
  refine (HAV.out _ HB.out).mono ?_
  rintro e w3 ⟨rfl, hb3⟩
  replace H1 := Lib.hid (H1.out.of_eq (hb3.block _ H1.out.lt))
  replace HR := Lib.hid (HR.out.of_eq (hb3.block _ HR.out.lt))
  replace HB := Lib.hid (belowStep hb3 HB.out)
  clear hb3 HAV
  cases z
  · have HV := Lib.hid (show R = .bad 1 [] from HV0.out)
    clear HKO HKV
    have hr9 := HR.out
    have c9 := hr9.cell 0 (.slice none 0 0) rfl
    have f9 := hr9.thaw 0
    have HE1 := Lib.hid (blk_one (y := .slice none 0 0) hr9)
    have HE := Lib.hid (krp_bad (P := P) HV.out (below_set HB.out HG.out (.slice none 0 0)))
    have HE0 := Lib.hid (krp_bad (P := P) HV.out HB.out)
    clear hr9
    go_wp2
    have d9 := HE1.out.cell 0 (.slice none 0 0) rfl
    refine bodyPost_ret (v := .tuple #[.agg #[.slice none 0 0], .int .i64 1]) (by first | (simp [results, Try.results17, go_sem, d9]; done) | (simp [results, Try.results17, go_sem, c9]; done)) rfl ?_
    first | exact HE.out | exact HE0.out
  have c0 := H1.out.cell 0 (.int .i64 op) rfl
  have c1 := H1.out.cell 1 (.int .i64 num) rfl
  have c2 := H1.out.cell 2 (.string s) rfl
  have c3 := H1.out.cell 3 (.slice ka kn kc) rfl
  have c4 := H1.out.cell 4 (.slice na nn nc) rfl
  have c5 := H1.out.cell 5 (.slice la ln lc) rfl
  have HC := Lib.hid (HKO.out (by first | exact rfl | trivial) w3 HB.out)
  have HKV2 := Lib.hid (HKV.out (by first | exact rfl | trivial))
  clear HKO HKV
  go_wp2_with fail
  clear c0 c1 c2 c3 c4 c5
  refine HC.out.mono ?_
  rintro e w4 ⟨⟨ra, rn, rc, pv, rfl, hk, -⟩, hb4⟩
  replace HR := Lib.hid (HR.out.of_eq (hb4.block _ HR.out.lt))
  replace HB := Lib.hid (belowStep hb4 HB.out)
  have HLW := Lib.hid (Ext.lt (P := P) (fun q hq => by have := HP.out q hq; have := H1.out.lt; omega) hb4)
  clear hb4 HC H1
  rcases r with k | ⟨er, p⟩
  · have HV := Lib.hid (show R = .ok k from HV0.out)
    have hkl : rn = k.l.length := by
      obtain ⟨a', c', e⟩ := hk.form
      injection e with _ e _
    obtain ⟨hbx, hb⟩ := boxN_new w4 24 #[.slice ra rn rc]
    have HX1 := Lib.hid (kcopied_any _ k _ (.agg #[.slice ra rn rc]) (fun q hq => Nat.lt_of_lt_of_le (HLW.out q hq) hb.size) ⟨_, rfl, hk.keep (Same.of_below hb HLW.out)⟩ (HKV2.out k rfl))
    replace HR := Lib.hid (HR.out.of_eq (hb.block _ HR.out.lt))
    replace HB := Lib.hid (belowStep hb HB.out)
    have e0 := hbx.cell 0 (.slice ra rn rc) rfl
    have qe : (KR.er (.ok k) == 0) = true := rfl
    generalize KR.er (.ok k) = er0 at *
    obtain rfl : er0 = 0 := by simpa using qe
    clear hk hbx hb qe hkl
    go_wp2_with fail
    clear e0
    generalize w4.alloc (.cells #[.slice ra rn rc] 24) = w5 at *
    refine HX1.out.mono ?_
    rintro e w6 ⟨⟨qa, qc, rfl, hq⟩, hb6⟩
    generalize k.l.length = qn at *
    have HX := Lib.hid (hq.mono (fun q hq => (show Ext1 P w w6 (w.heap.size + 1) q from ⟨.inr ⟨by have := hq.1; have := HR.out.lt; omega, hq.2⟩, by have := hq.1; have := HR.out.lt; omega⟩)))
    replace HR := Lib.hid (HR.out.of_eq (hb6.block _ HR.out.lt))
    replace HB := Lib.hid (belowStep hb6 HB.out)
    clear hq hb6 HX1
    have hr9 := HR.out
    have c9 := hr9.cell 0 (.slice none 0 0) rfl
    have f9 := hr9.thaw 0
    have HE1 := Lib.hid (blk_one (y := .slice qa qn qc) hr9)
    have HE := Lib.hid (krp_end (P := P) HV.out HG.out HB.out ⟨rfl, HX.out⟩)
    clear hr9
    go_wp2
    have d9 := HE1.out.cell 0 (.slice qa qn qc) rfl
    refine bodyPost_ret (v := .tuple #[.agg #[.slice qa qn qc], .int .i64 0]) (by simp [results, Try.results17, go_sem, d9]) rfl ?_
    exact HE.out
  · have HV := Lib.hid (show R = .bad er p from HV0.out)
    have qe : (er == 0) = false := beq_eq_false_iff_ne.2 (HKB.out er p rfl)
    obtain ⟨hbx, hb⟩ := boxN_new w4 24 #[.slice ra rn rc]
    replace HR := Lib.hid (HR.out.of_eq (hb.block _ HR.out.lt))
    replace HB := Lib.hid (belowStep hb HB.out)
    generalize hge : KR.er (.bad er p) = er1 at *
    obtain rfl : er1 = er := hge.symm
    clear hk hbx hb hge
    have hr9 := HR.out
    have c9 := hr9.cell 0 (.slice none 0 0) rfl
    have f9 := hr9.thaw 0
    have HE1 := Lib.hid (blk_one (y := .slice none 0 0) hr9)
    have HE := Lib.hid (krp_bad (P := P) HV.out (below_set HB.out HG.out (.slice none 0 0)))
    have HE0 := Lib.hid (krp_bad (P := P) HV.out HB.out)
    clear hr9
    go_wp2
    have d9 := HE1.out.cell 0 (.slice none 0 0) rfl
    refine bodyPost_ret (v := .tuple #[.agg #[.slice none 0 0], .int .i64 er1]) (by first | (simp [results, Try.results17, go_sem, d9]; done) | (simp [results, Try.results17, go_sem, c9]; done)) rfl ?_
    first | exact HE.out | exact HE0.out
/-- what Where answers -/
def whereOut (g : List K) (t : Con) : List Nat × Int := if givenB g t then (match kof g.reverse t with | .ok _ => ([], 8) | .bad _ p => (p, 0)) else ([], 1)
def WhP (r : List Nat × Int) (w : World) (e : Ending) (w' : World) : Prop := (∃ pv, e = .returned (.tuple #[pv, .int .i64 r.2]) ∧ w'.ownsRow w.heap.size 3 1 pv r.1.length (pathV r.1)) ∧ Below w.heap.size w w'
theorem whp_nil {w W : World} {R : List Nat × Int} {e : Int} (hv : R = ([], e)) (hb : Below w.heap.size w W) : WhP R w (.returned (.tuple #[.slice none 0 0, .int .i64 e])) W := by
  subst hv
  exact ⟨⟨_, rfl, World.ownsRow_nil _ _ _ _⟩, hb⟩
set_option maxRecDepth 100000 in
set_option maxHeartbeats 1000000 in
theorem where_any (P : Nat → Prop) (g : List K) (t : Con) (w : World) (gv v : Value) (hP : ∀ b, P b → b < w.heap.size) (hg : KSl w P gv g) (ht : ConV w P t v) :
    Calls Try.prog 9 #[gv, v] w (WhP (whereOut g t) w) := by
  have HAV := Lib.hid (fun W (hW : Below w.heap.size w W) => areValid_any P g t W gv v (low_up hP hW) (hg.keep (Same.of_below hW hP)) (ht.keep (Same.of_below hW hP)))
  have HKO := Lib.hid (fun (hv : givenB g t = true) W (hW : Below w.heap.size w W) => kindOf_any t P g W gv v (low_up hP hW) (hg.keep (Same.of_below hW hP)) (ht.keep (Same.of_below hW hP)) (given_all hv).1 (given_all hv).2.1 (given_all hv).2.2)
  have HKV := Lib.hid (fun (hv : givenB g t = true) k (hk : kof g.reverse t = .ok k) => kof_valid t g.reverse k (given_all hv).1 (fun x hx => (given_all hv).2.1 x (List.mem_reverse.1 hx)) hk)
  have HKB := Lib.hid (fun e p (hk : kof g.reverse t = .bad e p) => kof_bad t g.reverse e p hk)
  obtain ⟨R, hV⟩ : ∃ R, R = whereOut g t := ⟨_, rfl⟩
  rw [← hV]
  unfold whereOut at hV
  have HV0 := Lib.hid hV
  clear hV
  have HP := Lib.hid hP
  obtain ⟨ka, kn, kc, na, nn, nc, la, ln, lc, rfl, -, -, -⟩ := ht.shape
  obtain ⟨ga, gc, rfl, -⟩ := hg.each
  generalize kof g.reverse t = r at *
  generalize givenB g t = z at *
  generalize t.op = op at *
  generalize t.n = num at *
  generalize t.s = s at *
  generalize g.length = gn at *
  obtain ⟨hbx, hb⟩ := boxN_new w 28 #[.int .i64 op, .int .i64 num, .string s, .slice ka kn kc, .slice na nn nc, .slice la ln lc]
  have HB := Lib.hid hb
  have H1 := Lib.hid hbx
  clear hbx hb hg ht hP
  have c0 := H1.out.cell 0 (.int .i64 op) rfl
  have c1 := H1.out.cell 1 (.int .i64 num) rfl
  have c2 := H1.out.cell 2 (.string s) rfl
  have c3 := H1.out.cell 3 (.slice ka kn kc) rfl
  have c4 := H1.out.cell 4 (.slice na nn nc) rfl
  have c5 := H1.out.cell 5 (.slice la ln lc) rfl
  go_enter Try.func9, Try.ntmps9
  go_wp2_with fail
  clear c0 c1 c2 c3 c4 c5
  generalize w.alloc (.cells #[.int .i64 op, .int .i64 num, .string s, .slice ka kn kc, .slice na nn nc, .slice la ln lc] 28) = w2 at *
  refine (HAV.out _ HB.out).mono ?_
  rintro e w3 ⟨rfl, hb3⟩
  replace H1 := Lib.hid (H1.out.of_eq (hb3.block _ H1.out.lt))
  replace HB := Lib.hid (belowStep hb3 HB.out)
  clear hb3 HAV
  cases z
  · have HE := Lib.hid (whp_nil (show R = ([], 1) from HV0.out) HB.out)
    clear HKO HKV
    go_wp2
    refine bodyPost_ret (v := .tuple #[.slice none 0 0, .int .i64 1]) (by simp [results, Try.results9, go_sem]) rfl ?_
    exact HE.out
  have c0 := H1.out.cell 0 (.int .i64 op) rfl
  have c1 := H1.out.cell 1 (.int .i64 num) rfl
  have c2 := H1.out.cell 2 (.string s) rfl
  have c3 := H1.out.cell 3 (.slice ka kn kc) rfl
  have c4 := H1.out.cell 4 (.slice na nn nc) rfl
  have c5 := H1.out.cell 5 (.slice la ln lc) rfl
  have HC := Lib.hid (HKO.out (by first | exact rfl | trivial) w3 HB.out)
  clear HKO HKV
  go_wp2_with fail
  clear c0 c1 c2 c3 c4 c5
  refine HC.out.mono ?_
  rintro e w4 ⟨⟨ra, rn, rc, pv, rfl, -, hp⟩, hb4⟩
  have hb5 := (boxN_new w4 24 #[.slice ra rn rc]).2
  have hbf := belowStep hb5 (belowStep hb4 HB.out)
  have hss := HB.out.size
  rcases r with k | ⟨er, p⟩
  · have HE := Lib.hid (whp_nil (show R = ([], 8) from HV0.out) hbf)
    have qe : (KR.er (.ok k) == 0) = true := rfl
    generalize KR.er (.ok k) = er0 at *
    obtain rfl : er0 = 0 := by simpa using qe
    clear hp hb4 hb5 hbf qe HC H1
    go_wp2
    refine bodyPost_ret (v := .tuple #[.slice none 0 0, .int .i64 8]) (by simp [results, Try.results9, go_sem]) rfl ?_
    exact HE.out
  · have hp : w4.ownsRow w3.heap.size 3 1 pv p.length (pathV p) := hp
    have HE := Lib.hid (show WhP R w (.returned (.tuple #[pv, .int .i64 0])) (w4.alloc (.cells #[.slice ra rn rc] 24)) from by
      have hv : R = (p, 0) := HV0.out
      subst hv
      exact ⟨⟨pv, rfl, (hp.alloc _).mono hss⟩, hbf⟩)
    have qe : (er == 0) = false := beq_eq_false_iff_ne.2 (HKB.out er p rfl)
    generalize hge : KR.er (.bad er p) = er1 at *
    obtain rfl : er1 = er := hge.symm
    clear hp hb4 hb5 hbf HC H1 hge
    go_wp2
    refine bodyPost_ret (v := .tuple #[pv, .int .i64 0]) (by simp [results, Try.results9, go_sem]) rfl ?_
    exact HE.out

/-- what Check answers -/
def checkOut (g : List K) (t : Con) (k : K) : Int := if givenB g t && K.valid k then (match kof g.reverse t with | .ok x => if K.eqv x k then 0 else 11 | .bad e _ => e) else 1
set_option maxRecDepth 100000 in
set_option maxHeartbeats 1000000 in
theorem check_any (P : Nat → Prop) (g : List K) (t : Con) (k : K) (w : World) (gv v kv : Value) (hP : ∀ b, P b → b < w.heap.size) (hg : KSl w P gv g) (ht : ConV w P t v) (hk : KV w P k kv) :
    Calls Try.prog 20 #[gv, v, kv] w fun e w' => e = .returned (.int .i64 (checkOut g t k)) ∧ Below w.heap.size w w' := by
  have HAV := Lib.hid (fun W (hW : Below w.heap.size w W) => areValid_any P g t W gv v (low_up hP hW) (hg.keep (Same.of_below hW hP)) (ht.keep (Same.of_below hW hP)))
  have HKO := Lib.hid (fun (hv : givenB g t = true) W (hW : Below w.heap.size w W) => kindOf_any t P g W gv v (low_up hP hW) (hg.keep (Same.of_below hW hP)) (ht.keep (Same.of_below hW hP)) (given_all hv).1 (given_all hv).2.1 (given_all hv).2.2)
  have HKV := Lib.hid (fun (hv : givenB g t = true) k (hk : kof g.reverse t = .ok k) => kof_valid t g.reverse k (given_all hv).1 (fun x hx => (given_all hv).2.1 x (List.mem_reverse.1 hx)) hk)
  have HKB := Lib.hid (fun e p (hk : kof g.reverse t = .bad e p) => kof_bad t g.reverse e p hk)
  have HVL := Lib.hid (fun W (hW : Below w.heap.size w W) => valid_any P k W kv (low_up hP hW) (hk.keep (Same.of_below hW hP)))
  have HEQ := Lib.hid (fun Q W x y (hW : Below w.heap.size w W) (hQ : ∀ b, Q b → b < W.heap.size) (hx : KV W Q x y) => equal_any_k8 Q P x k W y kv hQ (low_up hP hW) hx (hk.keep (Same.of_below hW hP)))
  obtain ⟨R, hV⟩ : ∃ R, R = checkOut g t k := ⟨_, rfl⟩
  rw [← hV]
  unfold checkOut at hV
  have HV0 := Lib.hid hV
  clear hV
  have HP := Lib.hid hP
  obtain ⟨k2, kc2, rfl⟩ := hk.form
  generalize k.l.length = kn2 at *
  obtain ⟨ka, kn, kc, na, nn, nc, la, ln, lc, rfl, -, -, -⟩ := ht.shape
  obtain ⟨ga, gc, rfl, -⟩ := hg.each
  generalize kof g.reverse t = r at *
  generalize givenB g t = z at *
  generalize t.op = op at *
  generalize t.n = num at *
  generalize t.s = s at *
  generalize g.length = gn at *
  generalize K.valid k = z2 at *
  obtain ⟨hbx, hbx2, hb⟩ := twoN_new w 28 24 #[.int .i64 op, .int .i64 num, .string s, .slice ka kn kc, .slice na nn nc, .slice la ln lc] #[.slice k2 kn2 kc2]
  have HB := Lib.hid hb
  have H1 := Lib.hid hbx
  have H2 := Lib.hid hbx2
  clear hbx hbx2 hb hg ht hP hk
  have c0 := H1.out.cell 0 (.int .i64 op) rfl
  have c1 := H1.out.cell 1 (.int .i64 num) rfl
  have c2 := H1.out.cell 2 (.string s) rfl
  have c3 := H1.out.cell 3 (.slice ka kn kc) rfl
  have c4 := H1.out.cell 4 (.slice na nn nc) rfl
  have c5 := H1.out.cell 5 (.slice la ln lc) rfl
  have e2 := H2.out.cell 0 (.slice k2 kn2 kc2) rfl
  go_enter Try.func20, Try.ntmps20
  go_wp2_with fail
  clear c0 c1 c2 c3 c4 c5 e2
  generalize (w.alloc (.cells #[.int .i64 op, .int .i64 num, .string s, .slice ka kn kc, .slice na nn nc, .slice la ln lc] 28)).alloc (.cells #[.slice k2 kn2 kc2] 24) = w2 at *
  refine (HAV.out _ HB.out).mono ?_
  rintro e w3 ⟨rfl, hb3⟩
  replace H1 := Lib.hid (H1.out.of_eq (hb3.block _ H1.out.lt))
  replace H2 := Lib.hid (H2.out.of_eq (hb3.block _ H2.out.lt))
  replace HB := Lib.hid (belowStep hb3 HB.out)
  clear hb3 HAV
  cases z
  · have HV := Lib.hid (show R = 1 from HV0.out)
    clear HKO HKV
    go_wp2
    go_ret
    exact ⟨by rw [HV.out]; rfl, HB.out⟩
  have e2 := H2.out.cell 0 (.slice k2 kn2 kc2) rfl
  go_wp2_with fail
  clear e2
  refine (HVL.out _ HB.out).mono ?_
  rintro e w4 ⟨rfl, hb3⟩
  replace H1 := Lib.hid (H1.out.of_eq (hb3.block _ H1.out.lt))
  replace H2 := Lib.hid (H2.out.of_eq (hb3.block _ H2.out.lt))
  replace HB := Lib.hid (belowStep hb3 HB.out)
  clear hb3 HVL
  cases z2
  · have HV := Lib.hid (show R = 1 from HV0.out)
    clear HKO HKV
    go_wp2
    go_ret
    exact ⟨by rw [HV.out]; rfl, HB.out⟩
  have c0 := H1.out.cell 0 (.int .i64 op) rfl
  have c1 := H1.out.cell 1 (.int .i64 num) rfl
  have c2 := H1.out.cell 2 (.string s) rfl
  have c3 := H1.out.cell 3 (.slice ka kn kc) rfl
  have c4 := H1.out.cell 4 (.slice na nn nc) rfl
  have c5 := H1.out.cell 5 (.slice la ln lc) rfl
  have HC := Lib.hid (HKO.out (by first | exact rfl | trivial) w4 HB.out)
  have HKV2 := Lib.hid (HKV.out (by first | exact rfl | trivial))
  clear HKO HKV
  go_wp2_with fail
  clear c0 c1 c2 c3 c4 c5
  refine HC.out.mono ?_
  rintro e w5 ⟨⟨ra, rn, rc, pv, rfl, hkd, -⟩, hb5⟩
  have HLW := Lib.hid (Ext.lt (P := P) (fun q hq => by have := HP.out q hq; have := H1.out.lt; omega) hb5)
  obtain ⟨hbx, hb6⟩ := boxN_new w5 24 #[.slice ra rn rc]
  replace H2 := Lib.hid ((H2.out.of_eq (hb5.block _ H2.out.lt)).alloc (.cells #[.slice ra rn rc] 24))
  replace HB := Lib.hid (belowStep hb6 (belowStep hb5 HB.out))
  rcases r with x | ⟨er, p⟩
  · have HV := Lib.hid (show R = if K.eqv x k then 0 else 11 from HV0.out)
    have HQ := Lib.hid (HEQ.out _ _ x (.agg #[.slice ra rn rc]) HB.out (fun q hq => Nat.lt_of_lt_of_le (HLW.out q hq) hb6.size) ⟨_, rfl, hkd.keep (Same.of_below hb6 HLW.out)⟩)
    rw [HKV2.out x rfl, Bool.true_and] at HQ
    have e0 := hbx.cell 0 (.slice ra rn rc) rfl
    have e2 := H2.out.cell 0 (.slice k2 kn2 kc2) rfl
    have qe : (KR.er (.ok x) == 0) = true := rfl
    generalize KR.er (.ok x) = er0 at *
    obtain rfl : er0 = 0 := by simpa using qe
    generalize K.eqv x k = z3 at *
    clear hkd hbx hb5 hb6 qe HC HEQ H1 HKV2
    go_wp2_with fail
    clear e0 e2
    refine HQ.out.mono ?_
    rintro e w7 ⟨rfl, hb7⟩
    replace HB := Lib.hid (belowStep hb7 HB.out)
    clear hb7 HQ
    cases z3
    · replace HV := Lib.hid (show R = 11 from HV.out)
      go_wp2
      go_ret
      exact ⟨by rw [HV.out]; rfl, HB.out⟩
    · replace HV := Lib.hid (show R = 0 from HV.out)
      go_wp2
      go_ret
      exact ⟨by rw [HV.out]; rfl, HB.out⟩
  · have HV := Lib.hid (show R = er from HV0.out)
    have qe : (er == 0) = false := beq_eq_false_iff_ne.2 (HKB.out er p rfl)
    generalize hge : KR.er (.bad er p) = er1 at *
    obtain rfl : er1 = er := hge.symm
    clear hkd hbx hb5 hb6 HC HEQ H1 HKV2 hge
    go_wp2
    go_ret
    exact ⟨by rw [HV.out]; rfl, HB.out⟩
end Go.Proofs.Ytmjkeejinagokaa
namespace Go.Proofs.Ytmjkeejinagokaa
open Go Go.RowKit
open Pl (K Con KR KS kof kofs ownK inK appK)
set_option linter.unusedSimpArgs false
set_option linter.unusedVariables false

/-- a number within bounds -/
def Within (most : Int) (w : World) (e : Ending) (w' : World) : Prop := (∃ r : Int, e = .returned (.int .i64 r) ∧ 0 ≤ r ∧ r ≤ most) ∧ Below w.heap.size w w'
def AnyB (w : World) (e : Ending) (w' : World) : Prop := (∃ b : Bool, e = .returned (.bool b)) ∧ Below w.heap.size w w'
set_option maxRecDepth 100000 in
set_option maxHeartbeats 2000000 in
theorem kindNodes_any (P : Nat → Prop) (t : K) : ∀ (d : Nat) (w : World) (v : Value), (∀ b, P b → b < w.heap.size) → KV w P t v → d ≤ 1000 →
    Calls Try.prog 12 #[v, .int .i64 (d : Int), .int .i64 40] w (Within (41 * ((d : Int) + 2)) w) := by
  induction t using K.ind with
  | h t ih =>
  intro d w v hP ht hd
  have HIH := Lib.hid ih
  have HP := Lib.hid hP
  clear ih
  obtain ⟨l⟩ := t
  obtain ⟨a, c, rfl, hlc, hcm, hka⟩ := ht.open
  clear ht
  replace hka : ∀ (j : Nat) (hj : j < l.length), ∃ b off x, a = some ⟨b, off, none⟩ ∧ P b ∧ w.cell? ⟨b, off + j, none⟩ = some x ∧ KidV w P l[j] x := hka
  replace hlc : l.length ≤ c := hlc
  change Calls _ _ #[.agg #[.slice a l.length c], _, _] _ _
  have HKA := Lib.hid hka
  obtain ⟨n, hn⟩ : ∃ n, n = l.length := ⟨_, rfl⟩
  have HN := Lib.hid hn
  rw [← hn] at hlc ⊢
  have hn63 : n ≤ 9223372036854775807 := by unfold maxLen at hcm; omega
  obtain ⟨hbx, hb⟩ := boxN_new w 24 #[.slice a n c]
  have c0 := hbx.cell 0 (.slice a n c) rfl
  have HB := Lib.hid hb
  have HBX := Lib.hid hbx
  clear hbx hb hka hn hcm hP
  go_enter Try.func12, Try.ntmps12
  go_wp2_with fail
  clear c0
  generalize w.alloc (.cells #[.slice a n c] 24) = w2 at *
  go_loopg [7, 13] (n + 1) (fun g m i wr => ∃ (k : Nat) (y : Int), k ≤ n ∧ i = .int .i64 k ∧ m = .int .i64 y ∧ 0 ≤ y ∧ y ≤ 41 * ((d : Int) + 2) ∧ g = n + 1 - k ∧ Below w2.heap.size w2 wr)
  case atStart => exact ⟨0, 1, by omega, rfl, rfl, by omega, by omega, by omega, Below.refl _ _⟩
  case round =>
    obtain ⟨k, y, hk, rfl, rfl, hy0, hy1, hg, hbw⟩ := hrel
    have HBW := Lib.hid hbw
    have HW0 := Lib.hid (show Below w.heap.size w wr from belowStep hbw HB.out)
    by_cases hlt : k < n
    · have q5 : decide ((k : Int) < (n : Int)) = true := decide_eq_true (by omega)
      have hkl : k < l.length := by rw [← HN.out]; exact hlt
      obtain ⟨b, off, x, e, hPb, hx, hkx⟩ := HKA.out k hkl
      subst e
      obtain ⟨a7, c7, rfl⟩ := hkx.form
      have f0 := (HW0.out.cell (p := ⟨b, off + k, none⟩) (HP.out b hPb)).trans hx
      obtain ⟨hbx, hb⟩ := boxN_new wr 24 #[.slice a7 l[k].l.length c7]
      have g0 := hbx.cell 0 (.slice a7 l[k].l.length c7) rfl
      have HW1 := Lib.hid (belowStep hb HW0.out)
      by_cases hyy : 40 < y
      · have q6 : decide ((40 : Int) < y) = true := decide_eq_true hyy
        generalize l[k].l.length = n7 at *
        clear hbw hx hkx hPb hb hbx
        go_wp2_with fail
        go_ret
        exact ⟨⟨41, rfl, by omega, by omega⟩, HW1.out⟩
      have q6 : decide ((40 : Int) < y) = false := decide_eq_false hyy
      by_cases hd0 : d = 0
      · subst hd0
        generalize l[k].l.length = n7 at *
        clear hbw hx hkx hPb hb hbx
        go_wp2_with fail
        go_ret
        exact ⟨⟨41, rfl, by omega, by omega⟩, HW1.out⟩
      have q7 : ((d : Int) == 0) = false := beq_eq_false_iff_ne.2 (by omega)
      obtain ⟨m, rfl⟩ : ∃ m, d = m + 1 := ⟨d - 1, by omega⟩
      have w1 : wrap64 (((m + 1 : Nat) : Int) - 1) = (m : Int) := by rw [wrap64]; omega
      have w1' : wrap64 ((m : Int) + 1 - 1) = (m : Int) := by rw [wrap64]; omega
      have q8 : (((m : Int) + 1) == 0) = false := beq_eq_false_iff_ne.2 (by omega)
      have HC := Lib.hid (HIH.out l[k] (List.getElem_mem hkl) m _ (.agg #[.slice a7 l[k].l.length c7]) (fun b hb' => Nat.lt_of_lt_of_le (HP.out b hb') HW1.out.size) ⟨_, rfl, hkx.keep (Same.of_below HW1.out HP.out)⟩ (by omega))
      have HBN := Lib.hid (belowStep hb HBW.out)
      generalize l[k].l.length = n7 at *
      clear hbw hx hkx hPb hbx hb
      go_wp2_with fail
      generalize wr.alloc (.cells #[.slice a7 n7 c7] 24) = w5 at *
      refine HC.out.mono ?_
      rintro e w3 ⟨⟨r, rfl, hr0, hr1⟩, hb3⟩
      have HB3 := Lib.hid (belowStep hb3 HBN.out)
      clear hb3 f0 g0
      go_wp2
      go_roundg (gk - 1)
      case measure => omega
      case rel => exact ⟨k + 1, y + r, by omega, by go_num, by go_num, by omega, by omega, by omega, HB3.out⟩
    · have q5 : decide ((k : Int) < (n : Int)) = false := decide_eq_false (by omega)
      clear hbw
      go_wp2
      go_ret
      exact ⟨⟨y, rfl, by omega, by omega⟩, HW0.out⟩
set_option maxRecDepth 100000 in
set_option maxHeartbeats 2000000 in
theorem nodes_any (P : Nat → Prop) (t : Con) : ∀ (d : Nat) (w : World) (v : Value), (∀ b, P b → b < w.heap.size) → ConV w P t v → d ≤ 1000 →
    Calls Try.prog 29 #[v, .int .i64 (d : Int)] w (Within (1400 + 400 * (d : Int)) w) := by
  induction t using Con.ind with
  | h t ih =>
  intro d w v hP ht hd
  have HIH := Lib.hid ih
  have HP := Lib.hid hP
  clear ih
  obtain ⟨hsz, kv, nv, lv, rfl, hk, hs, hl⟩ := (conV_iff _ _ _ _).1 ht
  have HSL := Lib.hid (fun W (hW : Below w.heap.size w W) => hl.keep (Same.of_below hW hP))
  have HKK := Lib.hid (fun W (hW : Below w.heap.size w W) => kindNodes_any P t.kind 30 W (.agg #[kv]) (low_up hP hW) ⟨_, rfl, hk.keep (Same.of_below hW hP)⟩ (by omega))
  obtain ⟨la, lc, rfl, hlc, hcm, -⟩ := hl.each
  obtain ⟨ka, kc, rfl⟩ := hk.form
  obtain ⟨na, nc, rfl, -, hnm⟩ := strs_len hs
  obtain ⟨n, hn⟩ : ∃ n, n = t.l.length := ⟨_, rfl⟩
  have HN := Lib.hid hn
  rw [← hn] at HSL hlc ⊢
  have hn63 : n ≤ 9223372036854775807 := by unfold maxLen at hcm; omega
  obtain ⟨hbx, hb⟩ := boxN_new w 28 #[.int .i64 t.op, .int .i64 t.n, .string t.s, .slice ka t.kind.l.length kc, .slice na t.names.length nc, .slice la n lc]
  generalize t.kind.l.length = kn at *
  generalize t.names.length = nn at *
  generalize t.op = op at *
  generalize t.n = num at *
  generalize t.s = s at *
  have c3 := hbx.cell 3 (.slice ka kn kc) rfl
  have HB := Lib.hid hb
  have HBX := Lib.hid hbx
  clear hbx hb hl ht hk hs hn hcm hP hnm hsz hlc
  go_enter Try.func29, Try.ntmps29
  go_wp2_with fail
  clear c3
  generalize w.alloc (.cells #[.int .i64 op, .int .i64 num, .string s, .slice ka kn kc, .slice na nn nc, .slice la n lc] 28) = w1 at *
  refine (HKK.out _ HB.out).mono ?_
  rintro e w2 ⟨⟨r0, rfl, hr00, hr01⟩, hb2⟩
  have c5 := (HBX.out.of_eq (hb2.block _ HBX.out.lt)).cell 5 (.slice la n lc) rfl
  replace HB := Lib.hid (belowStep hb2 HB.out)
  have hr02 : r0 ≤ 1400 := by omega
  clear hb2 HKK hr01
  go_wp2_with fail
  clear c5
  go_loopg [5, 14] (n + 1) (fun g m i wr => ∃ (k : Nat) (y : Int), k ≤ n ∧ i = .int .i64 k ∧ m = .int .i64 y ∧ 0 ≤ y ∧ y ≤ 1400 + 400 * (d : Int) ∧ g = n + 1 - k ∧ Below w2.heap.size w2 wr)
  case atStart => exact ⟨0, r0, by omega, rfl, rfl, by omega, by omega, by omega, Below.refl _ _⟩
  case round =>
    obtain ⟨k, y, hk, rfl, rfl, hy0, hy1, hg, hbw⟩ := hrel
    have HBW := Lib.hid hbw
    have HW0 := Lib.hid (show Below w.heap.size w wr from belowStep hbw HB.out)
    by_cases hlt : k < n
    · have q5 : decide ((k : Int) < (n : Int)) = true := decide_eq_true (by omega)
      have hkl : k < t.l.length := by rw [← HN.out]; exact hlt
      obtain ⟨b, off, c', xa, xn, xc, ya, yn, yc, za, zn, zc, e, -, f0, f1, f2, f3, f4, f5, hx⟩ := (HSL.out wr HW0.out).part k hkl
      injection e with e1 e2 e3
      subst e1 e3
      clear e2
      obtain ⟨hbx, hb⟩ := boxN_new wr 28 #[.int .i64 t.l[k].op, .int .i64 t.l[k].n, .string t.l[k].s, .slice xa xn xc, .slice ya yn yc, .slice za zn zc]
      have HW1 := Lib.hid (belowStep hb HW0.out)
      by_cases hyy : 400 < y
      · have q6 : decide ((400 : Int) < y) = true := decide_eq_true hyy
        generalize t.l[k] = x at *
        clear hbw hx hb hbx
        go_wp2_with fail
        go_ret
        exact ⟨⟨401, rfl, by omega, by omega⟩, HW1.out⟩
      have q6 : decide ((400 : Int) < y) = false := decide_eq_false hyy
      by_cases hd0 : d = 0
      · subst hd0
        generalize t.l[k] = x at *
        clear hbw hx hb hbx
        go_wp2_with fail
        go_ret
        exact ⟨⟨401, rfl, by omega, by omega⟩, HW1.out⟩
      have q7 : ((d : Int) == 0) = false := beq_eq_false_iff_ne.2 (by omega)
      obtain ⟨m, rfl⟩ : ∃ m, d = m + 1 := ⟨d - 1, by omega⟩
      have w1 : wrap64 (((m + 1 : Nat) : Int) - 1) = (m : Int) := by rw [wrap64]; omega
      have w1' : wrap64 ((m : Int) + 1 - 1) = (m : Int) := by rw [wrap64]; omega
      have q8 : (((m : Int) + 1) == 0) = false := beq_eq_false_iff_ne.2 (by omega)
      have g0 := hbx.cell 0 (.int .i64 t.l[k].op) rfl
      have g1 := hbx.cell 1 (.int .i64 t.l[k].n) rfl
      have g2 := hbx.cell 2 (.string t.l[k].s) rfl
      have g3 := hbx.cell 3 (.slice xa xn xc) rfl
      have g4 := hbx.cell 4 (.slice ya yn yc) rfl
      have g5 := hbx.cell 5 (.slice za zn zc) rfl
      have HC := Lib.hid (HIH.out t.l[k] (List.getElem_mem hkl) m _ _ (fun b hb' => Nat.lt_of_lt_of_le (HP.out b hb') HW1.out.size) (hx.keep (Same.of_below hb (fun b hb' => Nat.lt_of_lt_of_le (HP.out b hb') HW0.out.size))) (by omega))
      have HBN := Lib.hid (belowStep hb HBW.out)
      generalize t.l[k] = x at *
      clear hbw hx hbx hb
      go_wp2_with fail
      generalize wr.alloc (.cells #[.int .i64 x.op, .int .i64 x.n, .string x.s, .slice xa xn xc, .slice ya yn yc, .slice za zn zc] 28) = w5 at *
      refine HC.out.mono ?_
      rintro e w3 ⟨⟨r, rfl, hr0, hr1⟩, hb3⟩
      have HB3 := Lib.hid (belowStep hb3 HBN.out)
      clear hb3 f0 f1 f2 f3 f4 f5 g0 g1 g2 g3 g4 g5
      go_wp2
      go_roundg (gk - 1)
      case measure => omega
      case rel => exact ⟨k + 1, y + r, by omega, by go_num, by go_num, by omega, by omega, by omega, HB3.out⟩
    · have q5 : decide ((k : Int) < (n : Int)) = false := decide_eq_false (by omega)
      clear hbw
      go_wp2
      go_ret
      exact ⟨⟨y, rfl, by omega, by omega⟩, HW0.out⟩
theorem great1_any (P : Nat → Prop) (t : K) (w : World) (v : Value) (hP : ∀ b, P b → b < w.heap.size) (ht : KV w P t v) :
    Calls Try.prog 27 #[v] w (AnyB w) := by
  obtain ⟨a, c, rfl⟩ := ht.form
  generalize hn : t.l.length = n at *
  obtain ⟨hbx, hb⟩ := boxN_new w 24 #[.slice a n c]
  have c0 := hbx.cell 0 (.slice a n c) rfl
  have HB := Lib.hid hb
  have HC := Lib.hid (kindNodes_any P t 30 _ (.agg #[.slice a n c]) (low_up hP hb) (ht.keep (Same.of_below hb hP)) (by omega))
  clear hbx hb ht hP hn
  go_enter Try.func27, Try.ntmps27
  go_wp2_with fail
  generalize w.alloc (.cells #[.slice a n c] 24) = w1 at *
  refine HC.out.mono ?_
  rintro e w2 ⟨⟨r, rfl, hr0, hr1⟩, hb2⟩
  replace HB := Lib.hid (belowStep hb2 HB.out)
  clear hb2 c0
  go_wp2
  go_ret
  exact ⟨⟨_, rfl⟩, HB.out⟩
theorem great2_any (P : Nat → Prop) (t : Con) (w : World) (v : Value) (hP : ∀ b, P b → b < w.heap.size) (ht : ConV w P t v) :
    Calls Try.prog 28 #[v] w (Denies True w) := by
  have HC := Lib.hid (fun W (hW : Below w.heap.size w W) => nodes_any P t 60 W v (low_up hP hW) (ht.keep (Same.of_below hW hP)) (by omega))
  obtain ⟨ka, kn, kc, na, nn, nc, la, ln, lc, rfl, -, -, -⟩ := ht.shape
  generalize t.op = op at *
  generalize t.n = num at *
  generalize t.s = s at *
  obtain ⟨hbx, hb⟩ := boxN_new w 28 #[.int .i64 op, .int .i64 num, .string s, .slice ka kn kc, .slice na nn nc, .slice la ln lc]
  have c0 := hbx.cell 0 (.int .i64 op) rfl
  have c1 := hbx.cell 1 (.int .i64 num) rfl
  have c2 := hbx.cell 2 (.string s) rfl
  have c3 := hbx.cell 3 (.slice ka kn kc) rfl
  have c4 := hbx.cell 4 (.slice na nn nc) rfl
  have c5 := hbx.cell 5 (.slice la ln lc) rfl
  have HB := Lib.hid hb
  clear hbx hb ht hP
  go_enter Try.func28, Try.ntmps28
  go_wp2_with fail
  generalize w.alloc (.cells #[.int .i64 op, .int .i64 num, .string s, .slice ka kn kc, .slice na nn nc, .slice la ln lc] 28) = w1 at *
  refine (HC.out _ HB.out).mono ?_
  rintro e w2 ⟨⟨r, rfl, hr0, hr1⟩, hb2⟩
  replace HB := Lib.hid (belowStep hb2 HB.out)
  clear hb2 c0 c1 c2 c3 c4 c5
  go_wp2
  go_ret
  exact ⟨⟨_, rfl, fun _ => trivial⟩, HB.out⟩
theorem greatIndex_any (P : Nat → Prop) (l : List K) (w : World) (v : Value) (hP : ∀ b, P b → b < w.heap.size) (ht : KSl w P v l) :
    Calls Try.prog 53 #[v, .func (.func 27) #[] #[]] w fun e w' => (∃ r : Int, e = .returned (.int .i64 r)) ∧ Below w.heap.size w w' := by
  obtain ⟨a, c, rfl, hlc, hcm, hka⟩ := ht.each
  clear ht
  have HB : Hid (Below w.heap.size w w) := Below.refl _ _
  have HP := Lib.hid hP
  obtain ⟨n, hn⟩ : ∃ n, n = l.length := ⟨_, rfl⟩
  rw [← hn] at hlc ⊢
  have HN := Lib.hid hn
  have HKA := Lib.hid hka
  have hll : n ≤ 9223372036854775807 := by unfold maxLen at hcm; omega
  clear hka hcm hP hn
  go_enter Try.func53, Try.ntmps53
  go_wp2_with fail
  go_loopg [8] (n + 1) (fun g k wr => ∃ i : Nat, i ≤ n ∧ k = .int .i64 i ∧ g = n + 1 - i ∧ Below w.heap.size w wr)
  case atStart => exact ⟨0, by omega, rfl, by omega, HB.out⟩
  case round =>
    obtain ⟨i, hi, rfl, hg, hbw⟩ := hrel
    have HBW := Lib.hid hbw
    by_cases hlt : i < n
    · have q5 : decide ((i : Int) < (n : Int)) = true := decide_eq_true (by omega)
      have hil : i < l.length := by rw [← HN.out]; exact hlt
      obtain ⟨b, off, x, rfl, hPb, hx, hkx⟩ := HKA.out i hil
      obtain ⟨a7, c7, rfl⟩ := hkx.form
      have f0 := (hbw.cell (p := ⟨b, off + i, none⟩) (HP.out b hPb)).trans hx
      have HC := Lib.hid (great1_any P l[i] wr (.agg #[.slice a7 l[i].l.length c7]) (fun b hb => Nat.lt_of_lt_of_le (HP.out b hb) hbw.size) ⟨_, rfl, hkx.keep (Same.of_below hbw HP.out)⟩)
      generalize l[i].l.length = n7 at *
      clear hbw hx hkx hPb
      go_wp2_with fail
      refine HC.out.mono ?_
      rintro e w3 ⟨⟨z, rfl⟩, hb3⟩
      have HB3 := Lib.hid (belowStep hb3 HBW.out)
      clear hb3 f0
      cases z
      · go_wp2
        go_roundg (gk - 1)
        case measure => omega
        case rel => exact ⟨i + 1, by omega, by go_num, by omega, HB3.out⟩
      · go_wp2
        go_ret
        exact ⟨⟨i, rfl⟩, HB3.out⟩
    · have q5 : decide ((i : Int) < (n : Int)) = false := decide_eq_false (by omega)
      clear hbw
      go_wp2
      go_ret
      exact ⟨⟨-1, rfl⟩, HBW.out⟩
theorem greatContains_any (P : Nat → Prop) (l : List K) (w : World) (v : Value) (hP : ∀ b, P b → b < w.heap.size) (ht : KSl w P v l) :
    Calls Try.prog 26 #[v, .func (.func 27) #[] #[]] w (AnyB w) := by
  have HC := Lib.hid (greatIndex_any P l w v hP ht)
  obtain ⟨a, c, rfl, -⟩ := ht.each
  clear ht hP
  generalize l.length = n at *
  go_enter Try.func26, Try.ntmps26
  go_wp2_with fail
  refine HC.out.mono ?_
  rintro e w2 ⟨⟨r, rfl⟩, hb2⟩
  have HB := Lib.hid hb2
  clear hb2
  by_cases h0 : (0 : Int) ≤ r
  · have q1 : decide ((0 : Int) ≤ r) = true := decide_eq_true h0
    go_wp2
    go_ret
    exact ⟨⟨_, rfl⟩, HB.out⟩
  · have q1 : decide ((0 : Int) ≤ r) = false := decide_eq_false h0
    go_wp2
    go_ret
    exact ⟨⟨_, rfl⟩, HB.out⟩
set_option maxRecDepth 100000 in
set_option maxHeartbeats 1000000 in
theorem great_any (P : Nat → Prop) (g : List K) (ts : List Con) (w : World) (gv v : Value) (hP : ∀ b, P b → b < w.heap.size) (hg : KSl w P gv g) (ht : ConSl w P v ts) :
    Calls Try.prog 8 #[gv, v] w (AnyB w) := by
  have HK := Lib.hid (greatContains_any P g w gv hP hg)
  have HT := Lib.hid (fun W (hW : Below w.heap.size w W) => containsC_any 28 (fun _ _ => rfl) (fun _ => True) P ts (fun t _ W' v' h1 h2 => great2_any P t W' v' h1 h2) W v (low_up hP hW) (ht.keep (Same.of_below hW hP)))
  obtain ⟨ga, gc, rfl, -, hcm, -⟩ := hg.each
  obtain ⟨ta, tc, rfl, -⟩ := ht.each
  have hn63 : g.length ≤ 9223372036854775807 := by
    obtain ⟨a', c', e, h1, h2, -⟩ := hg.each
    injection e with e1 e2 e3
    unfold maxLen at h2; omega
  generalize g.length = n at *
  generalize ts.length = m at *
  clear hg ht hP hcm
  by_cases h1 : 40 < n ∧ n ≤ 1000
  · have q1 : decide ((40 : Int) < (n : Int)) = true := decide_eq_true (by omega)
    have q2 : decide ((n : Int) ≤ 1000) = true := decide_eq_true (by omega)
    go_enter Try.func8, Try.ntmps8
    go_wp2
    go_ret
    exact ⟨⟨true, rfl⟩, Below.refl _ _⟩
  by_cases h2 : 1100 < n
  · have q1 : decide ((40 : Int) < (n : Int)) = true := decide_eq_true (by omega)
    have q2 : decide ((n : Int) ≤ 1000) = false := decide_eq_false (by omega)
    have q3 : decide ((1100 : Int) < (n : Int)) = true := decide_eq_true (by omega)
    go_enter Try.func8, Try.ntmps8
    go_wp2
    go_ret
    exact ⟨⟨true, rfl⟩, Below.refl _ _⟩
  have q3 : decide ((1100 : Int) < (n : Int)) = false := decide_eq_false (by omega)
  have q12 : decide ((40 : Int) < (n : Int)) = false ∨ (decide ((40 : Int) < (n : Int)) = true ∧ decide ((n : Int) ≤ 1000) = false) := by
    by_cases h : 40 < n
    · exact .inr ⟨decide_eq_true (by omega), decide_eq_false (by omega)⟩
    · exact .inl (decide_eq_false (by omega))
  rcases q12 with q1 | ⟨q1, q2⟩
  all_goals
    go_enter Try.func8, Try.ntmps8
    go_wp2_with fail
    refine HK.out.mono ?_
    rintro e w2 ⟨⟨z, rfl⟩, hb2⟩
    have HB := Lib.hid hb2
    clear hb2
    cases z
    · go_wp2_with fail
      refine (HT.out _ HB.out).mono ?_
      rintro e w3 ⟨⟨z, rfl, -⟩, hb3⟩
      replace HB := Lib.hid (belowStep hb3 HB.out)
      clear hb3
      go_wp2
      go_ret
      exact ⟨⟨_, rfl⟩, HB.out⟩
    · go_wp2
      go_ret
      exact ⟨⟨_, rfl⟩, HB.out⟩
end Go.Proofs.Ytmjkeejinagokaa
