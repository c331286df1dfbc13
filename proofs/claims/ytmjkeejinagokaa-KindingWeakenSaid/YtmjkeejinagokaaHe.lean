/-
  Layer 9: several texts in one (Uc Ud Ue).
-/
import Derived.Test.YtmjkeejinagokaaHd
import Derived.Test.YtmjkeejinagokaaHb
import Derived.Test.YtmjkeejinagokaaJfM
import Derived.StillTailTactics
namespace Go.Proofs.Ytmjkeejinagokaa
open Go Go.RowKit
open Pl (K Con KR KS kof kofs ownK inK)
set_option linter.unusedSimpArgs false
set_option linter.unusedVariables false

/-- an answer that is a kind, or none and a code -/
def KrP (P : Nat → Prop) (r : KR) (w : World) (e : Ending) (w' : World) : Prop := (∃ a n c, e = .returned (.tuple #[.agg #[.slice a n c], .int .i64 r.er]) ∧ KidV w' (Ext P w w') r.kd (.slice a n c)) ∧ Below w.heap.size w w'
/-- the blocks P and new ones, but for g -/
def Ext1 (P : Nat → Prop) (w W : World) (g q : Nat) : Prop := (P q ∨ (w.heap.size ≤ q ∧ q < W.heap.size)) ∧ q ≠ g
theorem krp_end {P : Nat → Prop} {w W : World} {g : Nat} {r r' : KR} {e : Int} {a : Option Addr} {n c : Nat} (hv : r = r') (hg : w.heap.size ≤ g) (hb : Below w.heap.size w W) (h : r'.er = e ∧ KidV W (Ext1 P w W g) r'.kd (.slice a n c)) :
    KrP P r w (.returned (.tuple #[.agg #[.slice a n c], .int .i64 e])) (W.setCell ⟨g, 0, none⟩ (.slice a n c)) := by
  subst hv
  refine ⟨⟨a, n, c, by rw [h.1], (h.2.keep (Same.set (w := W) ⟨g, 0, none⟩ (.slice a n c) (fun q hq => hq.2))).mono (fun q hq => ?_)⟩, below_set hb hg _⟩
  rcases hq.1 with hq | hq
  · exact .inl hq
  · exact .inr ⟨hq.1, by rw [size_set]; exact hq.2⟩
theorem krp_zero {P : Nat → Prop} {w W : World} {r : KR} {e : Int} {p : List Nat} {e' : Int} (hv : r = .bad e p ∨ (r = .ok (.mk []) ∧ e = 0)) (he : e = e') (hb : Below w.heap.size w W) :
    KrP P r w (.returned (.tuple #[.agg #[.slice none 0 0], .int .i64 e'])) W := by
  subst he
  rcases hv with rfl | ⟨rfl, rfl⟩
  · exact ⟨⟨none, 0, 0, rfl, kidV_none _ _⟩, hb⟩
  · exact ⟨⟨none, 0, 0, rfl, kidV_none _ _⟩, hb⟩
theorem krp_bad {P : Nat → Prop} {w W : World} {r : KR} {e : Int} {p : List Nat} (hv : r = .bad e p) (hb : Below w.heap.size w W) : KrP P r w (.returned (.tuple #[.agg #[.slice none 0 0], .int .i64 e])) W := krp_zero (.inl hv) rfl hb
theorem krp_star {P : Nat → Prop} {w W : World} {r : KR} (hv : r = .ok (.mk [])) (hb : Below w.heap.size w W) : KrP P r w (.returned (.tuple #[.agg #[.slice none 0 0], .int .i64 0])) W := krp_zero (p := []) (.inr ⟨hv, rfl⟩) rfl hb
theorem kstar_any (P : Nat → Prop) (t : K) (w : World) (v : Value) (ht : KV w P t v) :
    Calls Try.prog 89 #[v] w fun e w' => e = .returned (.bool (t.l.length == 0)) ∧ Below w.heap.size w w' := by
  obtain ⟨a, c, rfl⟩ := ht.form
  clear ht
  generalize t.l.length = n
  obtain ⟨hbx, hb⟩ := box_new w 24 (.slice a n c)
  have c0 := hbx.cell 0 (.slice a n c) rfl
  have HB := Lib.hid hb
  clear hbx hb
  have hn : ((n : Int) == 0) = (n == 0) := by cases n <;> rfl
  generalize (n == 0) = r at hn ⊢
  go_enter Try.func89, Try.ntmps89
  go_wp2
  go_ret
  exact ⟨by first | rfl | (rw [hn]; rfl), HB.out⟩
set_option maxRecDepth 100000 in
theorem recursive_any (P : Nat → Prop) (k u : K) (w : World) (v x : Value) (hP : ∀ b, P b → b < w.heap.size) (hk : KV w P k v) (hu : KV w P u x) (h1 : K.valid k = true) (h2 : K.valid u = true) :
    Calls Try.prog 76 #[v, x] w (KrP P (if K.eqv k u then .ok k else .bad 11 []) w) := by
  have HQ := Lib.hid (fun W (hW : Below w.heap.size w W) => equal_any_k8 P P k u W v x (fun b h => Nat.lt_of_lt_of_le (hP b h) hW.size) (fun b h => Nat.lt_of_lt_of_le (hP b h) hW.size) (hk.below hP hW) (hu.below hP hW))
  rw [h1, h2, Bool.true_and, Bool.true_and] at HQ
  obtain ⟨a, c, rfl⟩ := hk.form
  obtain ⟨a2, c2, rfl⟩ := hu.form
  have HKK := Lib.hid hk.kid
  have HP := Lib.hid hP
  generalize K.eqv k u = r at *
  obtain ⟨R, hV⟩ : ∃ R : KR, R = if r then .ok k else .bad 11 [] := ⟨_, rfl⟩
  rw [← hV]
  have HV := Lib.hid hV
  clear hV
  generalize k.l.length = n at *
  generalize u.l.length = n2 at *
  obtain ⟨hbx, hbx2, hbx3, hb⟩ := three_new8 w 24 24 24 (.slice a n c) (.slice a2 n2 c2) (.slice none 0 0)
  have HB := Lib.hid hb
  have H1 := Lib.hid hbx
  have HR := Lib.hid hbx3
  have HG := Lib.hid (show w.heap.size ≤ w.heap.size + 1 + 1 from by omega)
  have e1 := hbx.cell 0 (.slice a n c) rfl
  have e2 := hbx2.cell 0 (.slice a2 n2 c2) rfl
  clear hk hu hP hbx hbx2 hbx3 hb h1 h2
  go_enter Try.func76, Try.ntmps76
  go_wp2_with fail
  clear e1 e2
  generalize ((w.alloc (.cells #[.slice a n c] 24)).alloc (.cells #[.slice a2 n2 c2] 24)).alloc (.cells #[.slice none 0 0] 24) = w2 at *
  refine (HQ.out _ HB.out).mono ?_
  rintro e w3 ⟨rfl, hb3⟩
  replace HB := Lib.hid (belowStep hb3 HB.out)
  replace H1 := Lib.hid (H1.out.of_eq (hb3.block _ H1.out.lt))
  replace HR := Lib.hid (HR.out.of_eq (hb3.block _ HR.out.lt))
  clear hb3 HQ
  cases r
  · replace HV := Lib.hid (show R = .bad 11 [] from HV.out)
    have hr9 := HR.out
    have c9 := hr9.cell 0 (.slice none 0 0) rfl
    have f9 := hr9.thaw 0
    have HE1 := Lib.hid (blk_one (y := .slice none 0 0) hr9)
    have HE := Lib.hid (krp_bad (P := P) HV.out (below_set HB.out HG.out (.slice none 0 0)))
    have HE0 := Lib.hid (krp_bad (P := P) HV.out HB.out)
    clear hr9
    go_wp2
    have d9 := HE1.out.cell 0 (.slice none 0 0) rfl
    refine bodyPost_ret (v := .tuple #[.agg #[.slice none 0 0], .int .i64 11]) (by first | (simp [results, Try.results76, go_sem, d9]; done) | (simp [results, Try.results76, go_sem, c9]; done)) rfl ?_
    first | exact HE.out | exact HE0.out
  · replace HV := Lib.hid (show R = .ok k from HV.out)
    have e1 := H1.out.cell 0 (.slice a n c) rfl
    have HX := Lib.hid ((HKK.out.keep (Same.of_below HB.out HP.out)).mono (fun q hq => (show Ext1 P w w3 (w.heap.size + 1 + 1) q from ⟨.inl hq, by have := HP.out q hq; omega⟩)))
    have hr9 := HR.out
    have c9 := hr9.cell 0 (.slice none 0 0) rfl
    have f9 := hr9.thaw 0
    have HE1 := Lib.hid (blk_one (y := .slice a n c) hr9)
    have HE := Lib.hid (krp_end (P := P) HV.out HG.out HB.out ⟨rfl, HX.out⟩)
    clear hr9
    go_wp2
    have d9 := HE1.out.cell 0 (.slice a n c) rfl
    refine bodyPost_ret (v := .tuple #[.agg #[.slice a n c], .int .i64 0]) (by simp [results, Try.results76, go_sem, d9]) rfl ?_
    exact HE.out
set_option maxRecDepth 100000 in
theorem function_any (P : Nat → Prop) (k u : K) (w : World) (v x : Value) (hP : ∀ b, P b → b < w.heap.size) (hk : KV w P k v) (hu : KV w P u x) :
    Calls Try.prog 74 #[v, x] w (KrP P (if K.valid (.mk [k, u]) then .ok (.mk [k, u]) else .bad 6 []) w) := by
  obtain ⟨a, c, rfl⟩ := hk.form
  obtain ⟨a2, c2, rfl⟩ := hu.form
  generalize k.l.length = n at *
  generalize u.l.length = n2 at *
  obtain ⟨hbx, hbx2, hbx3, hb⟩ := three_new8 w 24 24 24 (.slice a n c) (.slice a2 n2 c2) (.slice none 0 0)
  have e3 : (((w.alloc (.cells #[.slice a n c] 24)).alloc (.cells #[.slice a2 n2 c2] 24)).alloc (.cells #[.slice none 0 0] 24)).heap.size = w.heap.size + 3 := by rw [size_alloc, size_alloc, size_alloc]
  have hpk := pair_kids (w := ((w.alloc (.cells #[.slice a n c] 24)).alloc (.cells #[.slice a2 n2 c2] 24)).alloc (.cells #[.slice none 0 0] 24)) (P := P) (fun b h => Nat.lt_of_lt_of_le (hP b h) hb.size) (hk.kid.keep (Same.of_below hb hP)) (hu.kid.keep (Same.of_below hb hP))
  rw [e3] at hpk
  obtain ⟨hnb, hnb2⟩ := boxN_new ((((w.alloc (.cells #[.slice a n c] 24)).alloc (.cells #[.slice a2 n2 c2] 24)).alloc (.cells #[.slice none 0 0] 24)).alloc (.cells #[.slice a n c, .slice a2 n2 c2] 24)) 24 #[.slice (some ⟨w.heap.size + 3, 0, none⟩) 2 2]
  have e4 : ((((w.alloc (.cells #[.slice a n c] 24)).alloc (.cells #[.slice a2 n2 c2] 24)).alloc (.cells #[.slice none 0 0] 24)).alloc (.cells #[.slice a n c, .slice a2 n2 c2] 24)).heap.size = w.heap.size + 4 := by rw [size_alloc, e3]
  rw [e4] at hnb
  have hbb := belowStep hnb2 (below_new (o := .cells #[.slice a n c, .slice a2 n2 c2] 24) hb)
  have HKK := Lib.hid ((hpk.keep (Same.of_below hnb2 (fun q hq => by
    rcases hq with hq | hq
    · exact Nat.lt_of_lt_of_le (hP q hq) (below_new (o := .cells #[.slice a n c, .slice a2 n2 c2] 24) hb).size
    · exact hq.2))).mono (fun q hq => (show P q ∨ q = w.heap.size + 3 from by
      rcases hq with hq | hq
      · exact .inl hq
      · have h1 := hq.1
        have h2 := hq.2
        rw [e3] at h1
        rw [e4] at h2
        exact .inr (by omega))))
  have HP := Lib.hid hP
  have HB := Lib.hid hbb
  have H1 := Lib.hid hnb
  have HR := Lib.hid ((hbx3.alloc (.cells #[.slice a n c, .slice a2 n2 c2] 24)).alloc (.cells #[.slice (some ⟨w.heap.size + 3, 0, none⟩) 2 2] 24))
  have HG := Lib.hid (show w.heap.size ≤ w.heap.size + 1 + 1 from by omega)
  have HSZ := Lib.hid hnb.lt
  have e1 := hbx.cell 0 (.slice a n c) rfl
  have e2 := hbx2.cell 0 (.slice a2 n2 c2) rfl
  have e5 := hnb.cell 0 (.slice (some ⟨w.heap.size + 3, 0, none⟩) 2 2) rfl
  obtain ⟨R, hV⟩ : ∃ R : KR, R = if K.valid (.mk [k, u]) then .ok (.mk [k, u]) else .bad 6 [] := ⟨_, rfl⟩
  rw [← hV]
  have HV := Lib.hid hV
  have HQ := Lib.hid (fun W v hP' hk' => valid_any (fun q => P q ∨ q = w.heap.size + 3) (.mk [k, u]) W v hP' hk')
  generalize K.valid (.mk [k, u]) = r at *
  clear hk hu hP hbx hbx2 hbx3 hb hV hpk hnb hnb2 hbb
  go_enter Try.func74, Try.ntmps74
  go_wp2_with fail
  clear e1 e2 e3 e4 e5
  generalize (((((w.alloc (.cells #[.slice a n c] 24)).alloc (.cells #[.slice a2 n2 c2] 24)).alloc (.cells #[.slice none 0 0] 24)).alloc (.cells #[.slice a n c, .slice a2 n2 c2] 24)).alloc (.cells #[.slice (some ⟨w.heap.size + 3, 0, none⟩) 2 2] 24)) = w2 at *
  have HLOW := Lib.hid (show ∀ b, (P b ∨ b = w.heap.size + 3) → b < w2.heap.size from fun b hb => by
    rcases hb with hb | hb
    · exact Nat.lt_of_lt_of_le (HP.out b hb) HB.out.size
    · have := HSZ.out; omega)
  refine (HQ.out w2 _ HLOW.out ⟨_, rfl, HKK.out⟩).mono ?_
  rintro e w3 ⟨rfl, hb3⟩
  replace HKK := Lib.hid (HKK.out.keep (Same.of_below hb3 HLOW.out))
  replace HB := Lib.hid (belowStep hb3 HB.out)
  replace H1 := Lib.hid (H1.out.of_eq (hb3.block _ H1.out.lt))
  replace HR := Lib.hid (HR.out.of_eq (hb3.block _ HR.out.lt))
  replace HSZ := Lib.hid (H1.out.lt)
  clear hb3 HQ HLOW
  cases r
  · replace HV := Lib.hid (show R = .bad 6 [] from HV.out)
    have hr9 := HR.out
    have c9 := hr9.cell 0 (.slice none 0 0) rfl
    have f9 := hr9.thaw 0
    have HE1 := Lib.hid (blk_one (y := .slice none 0 0) hr9)
    have HE := Lib.hid (krp_bad (P := P) HV.out (below_set HB.out HG.out (.slice none 0 0)))
    have HE0 := Lib.hid (krp_bad (P := P) HV.out HB.out)
    clear hr9
    go_wp2
    have d9 := HE1.out.cell 0 (.slice none 0 0) rfl
    refine bodyPost_ret (v := .tuple #[.agg #[.slice none 0 0], .int .i64 6]) (by first | (simp [results, Try.results74, go_sem, d9]; done) | (simp [results, Try.results74, go_sem, c9]; done)) rfl ?_
    first | exact HE.out | exact HE0.out
  · replace HV := Lib.hid (show R = .ok (.mk [k, u]) from HV.out)
    have e1 := H1.out.cell 0 (.slice (some ⟨w.heap.size + 3, 0, none⟩) 2 2) rfl
    have HX := Lib.hid (HKK.out.mono (fun q hq => (show Ext1 P w w3 (w.heap.size + 1 + 1) q from by
      have := HSZ.out
      rcases hq with hq | hq
      · exact ⟨.inl hq, by have := HP.out q hq; omega⟩
      · exact ⟨.inr ⟨by omega, by omega⟩, by omega⟩)))
    have hr9 := HR.out
    have c9 := hr9.cell 0 (.slice none 0 0) rfl
    have f9 := hr9.thaw 0
    have HE1 := Lib.hid (blk_one (y := .slice (some ⟨w.heap.size + 3, 0, none⟩) 2 2) hr9)
    have HE := Lib.hid (krp_end (P := P) HV.out HG.out HB.out ⟨rfl, HX.out⟩)
    clear hr9
    go_wp2
    have d9 := HE1.out.cell 0 (.slice (some ⟨w.heap.size + 3, 0, none⟩) 2 2) rfl
    refine bodyPost_ret (v := .tuple #[.agg #[.slice (some ⟨w.heap.size + 3, 0, none⟩) 2 2], .int .i64 0]) (by simp [results, Try.results74, go_sem, d9]) rfl ?_
    exact HE.out
theorem all_stepG {α : Type} (f : α → Bool) (l : List α) (k : Nat) (hk : k < l.length) : (l.drop k).all f = (f l[k] && (l.drop (k + 1)).all f) := by
  rw [List.drop_eq_getElem_cons hk, List.all_cons]
set_option maxRecDepth 100000 in
set_option maxHeartbeats 1000000 in
theorem typeOf_any (P : Nat → Prop) (l : List K) (w : World) (v : Value) (hP : ∀ b, P b → b < w.heap.size) (ht : KSl w P v l) :
    Calls Try.prog 77 #[v] w (KrP P (if l.all (fun k => k.l.length == 0) then .ok (.mk []) else .bad 11 []) w) := by
  obtain ⟨a, c, rfl, hlc, hcm, hka⟩ := ht.each
  clear ht
  have HP := Lib.hid hP
  have HKA := Lib.hid hka
  obtain ⟨r, hr⟩ : ∃ r, r = l.all (fun k => k.l.length == 0) := ⟨_, rfl⟩
  rw [← hr]
  have HRR := Lib.hid hr
  obtain ⟨R, hV⟩ : ∃ R : KR, R = if r then .ok (.mk []) else .bad 11 [] := ⟨_, rfl⟩
  rw [← hV]
  have HV0 := Lib.hid hV
  obtain ⟨n, hn⟩ : ∃ n, n = l.length := ⟨_, rfl⟩
  have HN := Lib.hid hn
  rw [← hn] at hlc ⊢
  have hn63 : n ≤ 9223372036854775807 := by unfold maxLen at hcm; omega
  obtain ⟨hbx, hb⟩ := box_new w 24 (.slice none 0 0)
  have HB0 := Lib.hid hb
  have HR0 := Lib.hid hbx
  have HG := Lib.hid (Nat.le_refl w.heap.size)
  clear hka hn hcm hlc hr hV hP hbx hb
  go_enter Try.func77, Try.ntmps77
  go_wp2_with fail
  generalize w.alloc (.cells #[.slice none 0 0] 24) = w2 at *
  go_loopg [8] (n + 1) (fun g i wr => ∃ k : Nat, k ≤ n ∧ i = .int .i64 k ∧ g = n + 1 - k ∧ r = (l.drop k).all (fun k => k.l.length == 0) ∧ Below w2.heap.size w2 wr)
  case atStart => exact ⟨0, by omega, rfl, by omega, by rw [List.drop_zero]; exact HRR.out, Below.refl _ _⟩
  case round =>
    obtain ⟨k, hk, rfl, hg, hrk, hbw⟩ := hrel
    have HBW := Lib.hid (belowStep hbw HB0.out)
    have HBW2 := Lib.hid hbw
    have HR := Lib.hid (HR0.out.of_eq (hbw.block _ HR0.out.lt))
    have HK := Lib.hid hrk
    by_cases hlt : k < n
    · have q5 : decide ((k : Int) < (n : Int)) = true := decide_eq_true (by omega)
      have hkl : k < l.length := by rw [← HN.out]; exact hlt
      obtain ⟨b, off, x, e, hPb, hx, hkx⟩ := HKA.out k hkl
      subst e
      obtain ⟨a7, c7, rfl⟩ := hkx.form
      have f0 := (HBW.out.cell (p := ⟨b, off + k, none⟩) (HP.out b hPb)).trans hx
      obtain ⟨hbx, hb⟩ := boxN_new wr 24 #[.slice a7 l[k].l.length c7]
      have g0 := hbx.cell 0 (.slice a7 l[k].l.length c7) rfl
      have HC := Lib.hid (kstar_any P l[k] (wr.alloc (.cells #[.slice a7 l[k].l.length c7] 24)) (.agg #[.slice a7 l[k].l.length c7]) ⟨_, rfl, hkx.keep (Same.of_below (belowStep hb HBW.out) HP.out)⟩)
      have HST := Lib.hid (hrk.trans (all_stepG (fun k => k.l.length == 0) l k hkl))
      have HBN := Lib.hid (belowStep hb HBW2.out)
      replace HR := Lib.hid (HR.out.of_eq (hb.block _ HR.out.lt))
      replace HBW := Lib.hid (belowStep hb HBW.out)
      clear hrk hbw hx hkx hPb hbx hb HK HBW2

      generalize (l[k].l.length == 0) = z at *
      generalize l[k].l.length = n7 at *
      go_wp2_with fail
      generalize wr.alloc (.cells #[.slice a7 n7 c7] 24) = w5 at *
      refine HC.out.mono ?_
      rintro e w3 ⟨rfl, hb3⟩
      replace HR := Lib.hid (HR.out.of_eq (hb3.block _ HR.out.lt))
      have HB := Lib.hid (belowStep hb3 HBW.out)
      replace HBN := Lib.hid (belowStep hb3 HBN.out)
      clear hb3 f0 g0 HC
      cases z
      · have HV := Lib.hid (show R = .bad 11 [] from by rw [HV0.out, show r = false from HST.out]; rfl)
        have hr9 := HR.out
        have c9 := hr9.cell 0 (.slice none 0 0) rfl
        have f9 := hr9.thaw 0
        have HE1 := Lib.hid (blk_one (y := .slice none 0 0) hr9)
        have HE := Lib.hid (krp_bad (P := P) HV.out (below_set HB.out HG.out (.slice none 0 0)))
        have HE0 := Lib.hid (krp_bad (P := P) HV.out HB.out)
        clear hr9
        go_wp2
        have d9 := HE1.out.cell 0 (.slice none 0 0) rfl
        refine bodyPost_ret (v := .tuple #[.agg #[.slice none 0 0], .int .i64 11]) (by first | (simp [results, Try.results77, go_sem, d9]; done) | (simp [results, Try.results77, go_sem, c9]; done)) rfl ?_
        first | exact HE.out | exact HE0.out
      · have HF := Lib.hid (show r = (l.drop (k + 1)).all (fun k => k.l.length == 0) from HST.out)
        go_wp2
        go_roundg (gk - 1)
        case measure => omega
        case rel => exact ⟨k + 1, by omega, by go_num, by omega, HF.out, HBN.out⟩
    · have q5 : decide ((k : Int) < (n : Int)) = false := decide_eq_false (by omega)
      have HV := Lib.hid (show R = .ok (.mk []) from by rw [HV0.out, show r = true from by rw [HK.out, List.drop_of_length_le (by rw [← HN.out]; omega)]; rfl]; rfl)
      clear hrk hbw HBW2
      go_wp2_with fail
      refine (star_any _).mono ?_
      rintro e w3 ⟨rfl, hb3⟩
      replace HR := Lib.hid (HR.out.of_eq (hb3.block _ HR.out.lt))
      have HB := Lib.hid (belowStep hb3 HBW.out)
      clear hb3 HBW
      have hr9 := HR.out
      have c9 := hr9.cell 0 (.slice none 0 0) rfl
      have f9 := hr9.thaw 0
      have HE1 := Lib.hid (blk_one (y := .slice none 0 0) hr9)
      have HE := Lib.hid (krp_star (P := P) HV.out (below_set HB.out HG.out (.slice none 0 0)))
      have HE0 := Lib.hid (krp_star (P := P) HV.out HB.out)
      clear hr9
      go_wp2
      have d9 := HE1.out.cell 0 (.slice none 0 0) rfl
      refine bodyPost_ret (v := .tuple #[.agg #[.slice none 0 0], .int .i64 0]) (by first | (simp [results, Try.results77, go_sem, d9]; done) | (simp [results, Try.results77, go_sem, c9]; done)) rfl ?_
      first | exact HE.out | exact HE0.out
end Go.Proofs.Ytmjkeejinagokaa
namespace Go.Proofs.Ytmjkeejinagokaa
open Go Go.RowKit
open Pl (K Con KR KS kof kofs ownK inK appK)
set_option linter.unusedSimpArgs false
set_option linter.unusedVariables false

/-- the kind of a variable -/
def varK (r : List K) (n : Int) : KR := match r[n.toNat]? with | some k => .ok k | none => .bad 10 []
theorem varK_in (g : List K) (i : Int) (h0 : 0 ≤ i) (h1 : i < g.length) (j : Nat) (hj : (g.length : Int) - 1 - i = j) (hjl : j < g.length) : varK g.reverse i = .ok g[j] := by
  unfold varK
  have e : g.reverse[i.toNat]? = some g[j] := by
    rw [List.getElem?_reverse (by omega), show g.length - 1 - i.toNat = j from by omega, List.getElem?_eq_getElem hjl]
  rw [e]
theorem varK_out (g : List K) (i : Int) (h1 : (g.length : Int) ≤ i) : varK g.reverse i = .bad 10 [] := by
  unfold varK
  have e : g.reverse[i.toNat]? = none := by
    rw [List.getElem?_eq_none]
    rw [List.length_reverse]
    omega
  rw [e]
set_option maxRecDepth 100000 in
theorem variable_any (P : Nat → Prop) (g : List K) (i : Int) (w : World) (v : Value) (hP : ∀ b, P b → b < w.heap.size) (hg : KSl w P v g) (h0 : 0 ≤ i) (h1 : i ≤ 1000000) :
    Calls Try.prog 73 #[v, .int .i64 i] w (KrP P (varK g.reverse i) w) := by
  obtain ⟨a, c, rfl, hlc, hcm, hka⟩ := hg.each
  obtain ⟨R, hV⟩ : ∃ R : KR, R = varK g.reverse i := ⟨_, rfl⟩
  rw [← hV]
  have HP := Lib.hid hP
  have hn63 : g.length ≤ 9223372036854775807 := by unfold maxLen at hcm; omega
  obtain ⟨n, hn⟩ : ∃ n, n = g.length := ⟨_, rfl⟩
  have HIN := Lib.hid (show i < (n : Int) → ∀ j : Nat, (n : Int) - 1 - i = j → ∀ hjl : j < g.length, R = .ok g[j] from by
    intro a1 j a2 a3
    rw [hV]
    exact varK_in g i h0 (by omega) j (by omega) a3)
  have HOUT := Lib.hid (show (n : Int) ≤ i → R = .bad 10 [] from fun h => hV.trans (varK_out g i (by omega)))
  rw [← hn] at hn63 hlc ⊢
  have HN := Lib.hid hn
  obtain ⟨hbx, hb⟩ := box_new w 24 (.slice none 0 0)
  have HB := Lib.hid hb
  have HR := Lib.hid hbx
  have HG := Lib.hid (Nat.le_refl w.heap.size)
  have HKA := Lib.hid hka
  clear hb hbx hg hP hka hn hV
  go_enter Try.func73, Try.ntmps73
  go_upto_region 1 with fail
  generalize w.alloc (.cells #[.slice none 0 0] 24) = w2 at *
  by_cases hc : (n : Int) ≤ i
  · have q1 : decide ((n : Int) ≤ i) = true := decide_eq_true hc
    have HV := Lib.hid (HOUT.out hc)
    have hr9 := HR.out
    have c9 := hr9.cell 0 (.slice none 0 0) rfl
    have f9 := hr9.thaw 0
    have HE1 := Lib.hid (blk_one (y := .slice none 0 0) hr9)
    have HE := Lib.hid (krp_bad (P := P) HV.out (below_set HB.out HG.out (.slice none 0 0)))
    have HE0 := Lib.hid (krp_bad (P := P) HV.out HB.out)
    clear hr9
    go_wp2
    have d9 := HE1.out.cell 0 (.slice none 0 0) rfl
    refine bodyPost_ret (v := .tuple #[.agg #[.slice none 0 0], .int .i64 10]) (by first | (simp [results, Try.results73, go_sem, d9]; done) | (simp [results, Try.results73, go_sem, c9]; done)) rfl ?_
    first | exact HE.out | exact HE0.out
  · have q1 : decide ((n : Int) ≤ i) = false := decide_eq_false hc
    obtain ⟨j, hj⟩ : ∃ j : Nat, (n : Int) - 1 - i = j := ⟨((n : Int) - 1 - i).toNat, by omega⟩
    have hjn : j < n := by omega
    have hjl : j < g.length := by rw [← HN.out]; exact hjn
    have HV := Lib.hid (HIN.out (by omega) j hj hjl)
    obtain ⟨b, off, x, e, hPb, hx, hkx⟩ := HKA.out j hjl
    subst e
    obtain ⟨a7, c7, rfl⟩ := hkx.form
    have f0 := (HB.out.cell (p := ⟨b, off + j, none⟩) (HP.out b hPb)).trans hx
    have w1 : wrap64 ((n : Int) - 1) = (n : Int) - 1 := by rw [wrap64]; omega
    have w2' : wrap64 ((n : Int) - 1 - i) = (j : Int) := by rw [wrap64, hj]; omega
    have HX := Lib.hid ((hkx.keep (Same.of_below HB.out HP.out)).mono (fun q hq => (show Ext1 P w w2 w.heap.size q from ⟨.inl hq, by have := HP.out q hq; omega⟩)))
    generalize g[j].l.length = n7 at *
    clear hkx hx hPb HIN HOUT HKA
    have hr9 := HR.out
    have c9 := hr9.cell 0 (.slice none 0 0) rfl
    have f9 := hr9.thaw 0
    have HE1 := Lib.hid (blk_one (y := .slice a7 n7 c7) hr9)
    have HE := Lib.hid (krp_end (P := P) HV.out HG.out HB.out ⟨rfl, HX.out⟩)
    clear hr9
    go_wp2
    have d9 := HE1.out.cell 0 (.slice a7 n7 c7) rfl
    refine bodyPost_ret (v := .tuple #[.agg #[.slice a7 n7 c7], .int .i64 0]) (by simp [results, Try.results73, go_sem, d9]) rfl ?_
    exact HE.out
theorem appK_star (a : K) : appK (.mk []) a = .bad 11 [] := rfl
theorem appK_two (x y a : K) : appK (.mk [x, y]) a = if K.eqv x a then .ok y else .bad 11 [] := rfl
set_option maxRecDepth 100000 in
set_option maxHeartbeats 2000000 in
theorem application_any (P : Nat → Prop) (f a : K) (w : World) (v x : Value) (hP : ∀ b, P b → b < w.heap.size) (hf : KV w P f v) (ha : KV w P a x) (h1 : K.valid f = true) (h2 : K.valid a = true) :
    Calls Try.prog 75 #[v, x] w (KrP P (appK f a) w) := by
  obtain ⟨a1, c1, rfl⟩ := hf.form
  obtain ⟨a2, c2, rfl⟩ := ha.form
  have hkf := hf.kid
  have hka := ha.kid
  have HIS := Lib.hid (fun W (hW : Below w.heap.size w W) => kstar_any P f W _ (hf.below hP hW))
  have HOK := Lib.hid (((K.valid_iff f).1 h1).1)
  clear hf ha
  generalize hn1 : f.l.length = n1 at *
  obtain ⟨R, hV⟩ : ∃ R : KR, R = appK f a := ⟨_, rfl⟩
  rw [← hV]
  have HA := Lib.hid (hka.form)
  generalize hn2 : a.l.length = n2 at *
  obtain ⟨hb1, hb2, hb3, hb⟩ := three_new8 w 24 24 24 (.slice a1 n1 c1) (.slice a2 n2 c2) (.slice none 0 0)
  have HP := Lib.hid hP
  have HKF := Lib.hid hkf
  have HKA := Lib.hid hka
  have HB := Lib.hid hb
  have H1 := Lib.hid hb1
  have H2 := Lib.hid hb2
  have HR := Lib.hid hb3
  have HG := Lib.hid (show w.heap.size ≤ w.heap.size + 1 + 1 from by omega)
  have HN1 := Lib.hid hn1
  clear hb1 hb2 hb3 hb hkf hka hP hn1 hn2 HA
  go_enter Try.func75, Try.ntmps75
  go_upto_region 1 with fail
  generalize ((w.alloc (.cells #[.slice a1 n1 c1] 24)).alloc (.cells #[.slice a2 n2 c2] 24)).alloc (.cells #[.slice none 0 0] 24) = w4 at *
  have HD0 := Lib.hid (Below.refl w4.heap.size w4).drew
  have HU := Lib.hid (fun W (hW : Below w4.heap.size w4 W) => belowStep hW HB.out)
  rcases K.ok_cases HOK.out with rfl | ⟨x, y, rfl⟩
  · obtain rfl : 0 = n1 := HN1.out
    have HV := Lib.hid (show R = .bad 11 [] from hV)
    have HIS0 := Lib.hid (fun W (hW : Below w.heap.size w W) => (show Calls Try.prog 89 #[.agg #[.slice a1 0 c1]] W fun e w' => e = .returned (.bool true) ∧ Below W.heap.size W w' from HIS.out W hW))
    have HSS := Lib.hid (fun W (hW : Below w4.heap.size w4 W) => (show Below w.heap.size w W ∧ W.cell? ⟨w.heap.size, 0, none⟩ = some (.slice a1 0 c1) ∧ W.cell? ⟨w.heap.size + 1, 0, none⟩ = some (.slice a2 n2 c2) from ⟨HU.out W hW, (H1.out.of_eq (hW.block _ H1.out.lt)).cell 0 _ rfl, (H2.out.of_eq (hW.block _ H2.out.lt)).cell 0 _ rfl⟩))
    refine wp_region_noPanic ?_
    refine wp_region_held_drew (S := (fun W => Below w.heap.size w W ∧ W.cell? ⟨w.heap.size, 0, none⟩ = some (.slice a1 0 c1) ∧ W.cell? ⟨w.heap.size + 1, 0, none⟩ = some (.slice a2 n2 c2))) (by kernel_rfl) (HSS.out _ HD0.out) (fun hHeld => ?_)
    refine wpAnyH_take (i := 0) (v := .agg #[.slice a1 0 c1]) rfl (by kernel_rfl) (by kernel_rfl) (by kernel_rfl) (fun _ _ _ h => h) (Or.inl ⟨by rfl, ?_⟩) (by assumption) ?_
    · intro w hSw
      try dsimp only at hSw
      go_simp
    change wpAnyH _ _ _ _ _ _ _ (Act.put _ (some 6) _) _
    simp only [Act.put, List.setIfInBounds_toArray, List.set_cons_zero, List.set_cons_succ]
    refine wpAnyH_ready (rs := [1]) (by kernel_rfl) (by simp) ?_
    refine AllReadyH.cons rfl (fun K hK => ?_) AllReadyH.nil
    go_simp
    go_at_call 89
    refine (HIS0.out _ (HU.out _ HD0.out)).mono ?_
    rintro e wn ⟨rfl, hbn⟩
    have hbn2 := belowStep (a := w4) hbn HD0.out
    refine hK.out _ _ (HSS.out _ hbn2) (fun hHeld2 => ?_)
    clear hK K hHeld
    try simp only [Act.put, List.setIfInBounds_toArray, List.set_cons_zero, List.set_cons_succ]
    refine wpAnyH_take (i := 2) (v := .bool true) rfl (by kernel_rfl) (by kernel_rfl) (by kernel_rfl) (fun _ _ _ h => h) (Or.inl ⟨by rfl, ?_⟩) (by assumption) ?_
    · intro w hSw
      try dsimp only at hSw
      go_simp
    change wpAnyH _ _ _ _ _ _ _ (Act.put _ (some 8) _) _
    simp only [Act.put, List.setIfInBounds_toArray, List.set_cons_zero, List.set_cons_succ]
    refine wpAnyH_take (i := 3) (v := undef) rfl (by kernel_rfl) (by kernel_rfl) (by kernel_rfl) (fun _ _ _ h => h) (Or.inr ⟨by rfl, rfl⟩) (by assumption) ?_
    change wpAnyH _ _ _ _ _ _ _ (Act.put _ (some 9) _) _
    simp only [Act.put, List.setIfInBounds_toArray, List.set_cons_zero, List.set_cons_succ]
    refine wpAnyH_take (i := 4) (v := undef) rfl (by kernel_rfl) (by kernel_rfl) (by kernel_rfl) (fun _ _ _ h => h) (Or.inr ⟨by rfl, rfl⟩) (by assumption) ?_
    change wpAnyH _ _ _ _ _ _ _ (Act.put _ (some 10) _) _
    simp only [Act.put, List.setIfInBounds_toArray, List.set_cons_zero, List.set_cons_succ]
    refine wpAnyH_take (i := 5) (v := undef) rfl (by kernel_rfl) (by kernel_rfl) (by kernel_rfl) (fun _ _ _ h => h) (Or.inr ⟨by rfl, rfl⟩) (by assumption) ?_
    change wpAnyH _ _ _ _ _ _ _ (Act.put _ (some 11) _) _
    simp only [Act.put, List.setIfInBounds_toArray, List.set_cons_zero, List.set_cons_succ]
    refine wpAnyH_take (i := 6) (v := undef) rfl (by kernel_rfl) (by kernel_rfl) (by kernel_rfl) (fun _ _ _ h => h) (Or.inr ⟨by rfl, rfl⟩) (by assumption) ?_
    change wpAnyH _ _ _ _ _ _ _ (Act.put _ (some 12) _) _
    simp only [Act.put, List.setIfInBounds_toArray, List.set_cons_zero, List.set_cons_succ]
    refine wpAnyH_take (i := 7) (v := undef) rfl (by kernel_rfl) (by kernel_rfl) (by kernel_rfl) (fun _ _ _ h => h) (Or.inr ⟨by rfl, rfl⟩) (by assumption) ?_
    change wpAnyH _ _ _ _ _ _ _ (Act.put _ (some 13) _) _
    simp only [Act.put, List.setIfInBounds_toArray, List.set_cons_zero, List.set_cons_succ]
    refine wpAnyH_take (i := 8) (v := undef) rfl (by kernel_rfl) (by kernel_rfl) (by kernel_rfl) (fun _ _ _ h => h) (Or.inr ⟨by rfl, rfl⟩) (by assumption) ?_
    change wpAnyH _ _ _ _ _ _ _ (Act.put _ (some 14) _) _
    simp only [Act.put, List.setIfInBounds_toArray, List.set_cons_zero, List.set_cons_succ]
    refine wpAnyH_take (i := 9) (v := undef) rfl (by kernel_rfl) (by kernel_rfl) (by kernel_rfl) (fun _ _ _ h => h) (Or.inr ⟨by rfl, rfl⟩) (by assumption) ?_
    change wpAnyH _ _ _ _ _ _ _ (Act.put _ (some 15) _) _
    simp only [Act.put, List.setIfInBounds_toArray, List.set_cons_zero, List.set_cons_succ]
    refine wpAnyH_take (i := 10) (v := .bool true) rfl (by kernel_rfl) (by kernel_rfl) (by kernel_rfl) (fun _ _ _ h => h) (Or.inl ⟨by rfl, ?_⟩) (by assumption) ?_
    · intro w hSw
      try dsimp only at hSw
      go_simp
    change wpAnyH _ _ _ _ _ _ _ (Act.put _ (some 16) _) _
    simp only [Act.put, List.setIfInBounds_toArray, List.set_cons_zero, List.set_cons_succ]
    refine wpAnyH_done (by kernel_rfl) ?_ _
    refine NoPanic.normal ?_
    replace HR := Lib.hid (HR.out.of_eq (hbn2.block _ HR.out.lt))
    replace HB := Lib.hid (HU.out _ hbn2)
    have hr9 := HR.out
    have c9 := hr9.cell 0 (.slice none 0 0) rfl
    have f9 := hr9.thaw 0
    have HE1 := Lib.hid (blk_one (y := .slice none 0 0) hr9)
    have HE := Lib.hid (krp_bad (P := P) HV.out (below_set HB.out HG.out (.slice none 0 0)))
    have HE0 := Lib.hid (krp_bad (P := P) HV.out HB.out)
    clear hr9
    go_wp2
    have d9 := HE1.out.cell 0 (.slice none 0 0) rfl
    refine bodyPost_ret (v := .tuple #[.agg #[.slice none 0 0], .int .i64 11]) (by first | (simp [results, Try.results75, go_sem, d9]; done) | (simp [results, Try.results75, go_sem, c9]; done)) rfl ?_
    first | exact HE.out | exact HE0.out
  · obtain rfl : 2 = n1 := HN1.out
    obtain ⟨a5, c5, e5, -, -, hkk⟩ := KSl.each (show KSl w P (.slice a1 2 c1) [x, y] from HKF.out)
    injection e5 with e5 e9 e6
    subst e5 e6
    clear e9
    obtain ⟨b0, o0, rfl, hPb, hke⟩ := kids_each hkk (by simp)
    obtain ⟨x0, hx0, hkx⟩ := hke 0 (by simp)
    obtain ⟨y0, hy0, hky⟩ := hke 1 (by simp)
    have hkx : KidV w P x x0 := hkx
    have hky : KidV w P y y0 := hky
    rw [Nat.add_zero] at hx0
    obtain ⟨a7, c7, rfl⟩ := hkx.form
    obtain ⟨a8, c8, rfl⟩ := hky.form
    have hb0 := HP.out b0 hPb
    have HX0 := Lib.hid hx0
    have HY0 := Lib.hid hy0
    have hvx := (Pl.valid_two x y h1).1
    have HSM := Lib.hid (fun W (hW : Below w.heap.size w W) => equal_any_k8 P P x a W (.agg #[.slice a7 x.l.length c7]) (.agg #[.slice a2 n2 c2]) (fun b h => Nat.lt_of_lt_of_le (HP.out b h) hW.size) (fun b h => Nat.lt_of_lt_of_le (HP.out b h) hW.size) ⟨_, rfl, hkx.keep (Same.of_below hW HP.out)⟩ ⟨_, rfl, HKA.out.keep (Same.of_below hW HP.out)⟩)
    rw [hvx, h2, Bool.true_and, Bool.true_and] at HSM
    have HIS0 := Lib.hid (fun W (hW : Below w.heap.size w W) => (show Calls Try.prog 89 #[.agg #[.slice (some ⟨b0, o0, none⟩) 2 c1]] W fun e w' => e = .returned (.bool false) ∧ Below W.heap.size W w' from HIS.out W hW))
    have HV0 := Lib.hid (hV.trans (appK_two x y a))
    have HKY := Lib.hid hky
    generalize x.l.length = n7 at *
    generalize y.l.length = n8 at *
    generalize K.eqv x a = r at *
    clear HIS hkx hky hx0 hy0 hke hkk HKF HKA HOK HN1 hPb hV h1 h2 hvx
    have HSS := Lib.hid (fun W (hW : Below w4.heap.size w4 W) => (show Below w.heap.size w W ∧ W.cell? ⟨w.heap.size, 0, none⟩ = some (.slice (some ⟨b0, o0, none⟩) 2 c1) ∧ W.cell? ⟨w.heap.size + 1, 0, none⟩ = some (.slice a2 n2 c2) ∧ W.cell? ⟨b0, o0, none⟩ = some (.slice a7 n7 c7) from ⟨HU.out W hW, (H1.out.of_eq (hW.block _ H1.out.lt)).cell 0 _ rfl, (H2.out.of_eq (hW.block _ H2.out.lt)).cell 0 _ rfl, ((HU.out W hW).cell (p := ⟨b0, o0, none⟩) hb0).trans HX0.out⟩))
    cases r

    · have HV := Lib.hid (show R = .bad 11 [] from HV0.out)
      go_region_held3 (fun W => Below w.heap.size w W ∧ W.cell? ⟨w.heap.size, 0, none⟩ = some (.slice (some ⟨b0, o0, none⟩) 2 c1) ∧ W.cell? ⟨w.heap.size + 1, 0, none⟩ = some (.slice a2 n2 c2) ∧ W.cell? ⟨b0, o0, none⟩ = some (.slice a7 n7 c7))
        (first | exact HSS.out _ HD0.out | exact HSS.out _ (by assumption) | fail)
        (first
        | (go_at_call 89; (with_reducible refine (HIS0.out _ (HU.out _ (by first | assumption | exact HD0.out))).mono ?_); rintro e wn ⟨rfl, hbn⟩; have hbn2 := belowStep (a := w4) hbn (by first | assumption | exact HD0.out))
        | (go_at_call 47; (with_reducible refine (HSM.out _ (HU.out _ (by first | assumption | exact HD0.out))).mono ?_); rintro e wm ⟨rfl, hbm⟩; have hbm2 := belowStep (a := w4) hbm (by first | assumption | exact HD0.out))
        | fail)
      all_goals (
        replace HR := Lib.hid (HR.out.of_eq (hbm2.block _ HR.out.lt))
        replace HB := Lib.hid (HU.out _ hbm2)
        clear hbm hbm2 hbn hbn2 HU HD0 HSS
        have hr9 := HR.out
        have c9 := hr9.cell 0 (.slice none 0 0) rfl
        have f9 := hr9.thaw 0
        have HE1 := Lib.hid (blk_one (y := .slice none 0 0) hr9)
        have HE := Lib.hid (krp_bad (P := P) HV.out (below_set HB.out HG.out (.slice none 0 0)))
        have HE0 := Lib.hid (krp_bad (P := P) HV.out HB.out)
        clear hr9
        go_wp2
        have d9 := HE1.out.cell 0 (.slice none 0 0) rfl
        refine bodyPost_ret (v := .tuple #[.agg #[.slice none 0 0], .int .i64 11]) (by first | (simp [results, Try.results75, go_sem, d9]; done) | (simp [results, Try.results75, go_sem, c9]; done)) rfl ?_
        first | exact HE.out | exact HE0.out)
    · have HV := Lib.hid (show R = .ok y from HV0.out)
      go_region_held3 (fun W => Below w.heap.size w W ∧ W.cell? ⟨w.heap.size, 0, none⟩ = some (.slice (some ⟨b0, o0, none⟩) 2 c1) ∧ W.cell? ⟨w.heap.size + 1, 0, none⟩ = some (.slice a2 n2 c2) ∧ W.cell? ⟨b0, o0, none⟩ = some (.slice a7 n7 c7))
        (first | exact HSS.out _ HD0.out | exact HSS.out _ (by assumption) | fail)
        (first
        | (go_at_call 89; (with_reducible refine (HIS0.out _ (HU.out _ (by first | assumption | exact HD0.out))).mono ?_); rintro e wn ⟨rfl, hbn⟩; have hbn2 := belowStep (a := w4) hbn (by first | assumption | exact HD0.out))
        | (go_at_call 47; (with_reducible refine (HSM.out _ (HU.out _ (by first | assumption | exact HD0.out))).mono ?_); rintro e wm ⟨rfl, hbm⟩; have hbm2 := belowStep (a := w4) hbm (by first | assumption | exact HD0.out))
        | fail)
      all_goals (
        replace HB := Lib.hid (HU.out _ hbm2)
        replace H1 := Lib.hid (H1.out.of_eq (hbm2.block _ H1.out.lt))
        replace HR := Lib.hid (HR.out.of_eq (hbm2.block _ HR.out.lt))
        have HX := Lib.hid ((HKY.out.keep (Same.of_below HB.out HP.out)).mono (fun q hq => (show Ext1 P w wm (w.heap.size + 1 + 1) q from ⟨.inl hq, by have := HP.out q hq; omega⟩)))
        clear hbm hbm2 hbn hbn2 HU HD0 HSS
        have e1 := H1.out.cell 0 (.slice (some ⟨b0, o0, none⟩) 2 c1) rfl
        have e2 := (HB.out.cell (p := ⟨b0, o0 + 1, none⟩) hb0).trans HY0.out
        have hr9 := HR.out
        have c9 := hr9.cell 0 (.slice none 0 0) rfl
        have f9 := hr9.thaw 0
        have HE1 := Lib.hid (blk_one (y := .slice a8 n8 c8) hr9)
        have HE := Lib.hid (krp_end (P := P) HV.out HG.out HB.out ⟨rfl, HX.out⟩)
        clear hr9
        go_wp2
        have d9 := HE1.out.cell 0 (.slice a8 n8 c8) rfl
        refine bodyPost_ret (v := .tuple #[.agg #[.slice a8 n8 c8], .int .i64 0]) (by simp [results, Try.results75, go_sem, d9]) rfl ?_
        exact HE.out)

end Go.Proofs.Ytmjkeejinagokaa
namespace Go.Proofs.Ytmjkeejinagokaa
open Go Go.RowKit
open Pl (K Con KR KS kof kofs ownK inK appK)
set_option linter.unusedSimpArgs false
set_option linter.unusedVariables false

theorem low_up {P : Nat → Prop} {w W : World} (hP : ∀ b, P b → b < w.heap.size) (hb : Below w.heap.size w W) : ∀ b, P b → b < W.heap.size := fun b h => Nat.lt_of_lt_of_le (hP b h) hb.size
theorem shape_len (t : Con) (h : Con.nodeB t = true) : (t.op = 11 ∨ t.op = 13 → t.l.length = 1) ∧ (t.op = 12 → t.l.length = 2) := by
  unfold Con.nodeB at h
  simp only [Bool.and_eq_true] at h
  obtain ⟨-, hs, -⟩ := h
  unfold Con.shapeB at hs
  constructor
  · intro ho
    have hp : Con.partsOf t.op = 1 := by rcases ho with ho | ho <;> rw [ho] <;> rfl
    rw [hp, if_pos (by decide), Bool.and_eq_true, decide_eq_true_eq] at hs
    omega
  · intro ho
    have hp : Con.partsOf t.op = 2 := by rw [ho]; rfl
    rw [hp, if_pos (by decide), Bool.and_eq_true, decide_eq_true_eq] at hs
    omega
/-- one part's kind -/
theorem ksl_at {w : World} {P : Nat → Prop} {a : Option Addr} {n c : Nat} {l : List K} (h : KSl w P (.slice a n c) l) (hn : 0 < l.length) : n = l.length ∧ ∃ b off, a = some ⟨b, off, none⟩ ∧ P b ∧ ∀ (j : Nat) (hj : j < l.length), ∃ a7 n7 c7, w.cell? ⟨b, off + j, none⟩ = some (.slice a7 n7 c7) ∧ KidV w P l[j] (.slice a7 n7 c7) := by
  obtain ⟨a5, c5, e5, -, -, hkk⟩ := h.each
  injection e5 with e5 e9 e6
  subst e5 e6
  obtain ⟨b, off, e, hPb, hke⟩ := kids_each hkk hn
  refine ⟨e9, b, off, e, hPb, fun j hj => ?_⟩
  obtain ⟨x, hx, hk⟩ := hke j hj
  obtain ⟨a7, c7, rfl⟩ := hk.form
  exact ⟨a7, _, c7, hx, hk⟩
theorem getD_at (l : List K) (j : Nat) (h : j < l.length) : l.getD j (.mk []) = l[j] := by rw [List.getD_eq_getElem?_getD, List.getElem?_eq_getElem h]; rfl

set_option maxRecDepth 100000 in
set_option maxHeartbeats 4000000 in
theorem node_var (P : Nat → Prop) (g ks : List K) (t : Con) (w : World) (v x y : Value) (hP : ∀ b, P b → b < w.heap.size) (hg : KSl w P v g) (ht : ConV w P t x) (hs : KSl w P y ks) (hn : Con.nodeB t = true) (hl : ks.length = t.l.length) (hv : ∀ k ∈ ks, K.valid k = true) (hcase : t.op = 1) :
    Calls Try.prog 56 #[v, x, y] w (KrP P (ownK g.reverse t.op t.n t.kind ks) w) := by
  have hkv := kind_valid t hn
  have hnb := nodeB_n t hn
  have hsl := shape_len t hn
  obtain ⟨R, hV⟩ : ∃ R : KR, R = ownK g.reverse t.op t.n t.kind ks := ⟨_, rfl⟩
  rw [← hV]
  obtain ⟨ka, kn, kc, na, nn, nc, la, ln, lc, rfl, -, -, -⟩ := ht.shape
  have hkd : KidV w P t.kind (.slice ka kn kc) := by
    obtain ⟨hs, kv', nv', lv', e, hk, hn, hl⟩ := (conV_iff _ _ _ _).1 ht
    simp only [Value.agg.injEq, Array.mk.injEq, List.cons.injEq, and_true, true_and] at e
    obtain ⟨rfl, rfl, rfl⟩ := e
    exact hk
  obtain ⟨ya, yc, rfl, -⟩ := hs.each
  obtain ⟨ga, gc, rfl, -⟩ := hg.each
  have HS := Lib.hid (fun W (hW : Below w.heap.size w W) => hs.keep (Same.of_below hW hP))
  have HGG := Lib.hid (fun W (hW : Below w.heap.size w W) => hg.keep (Same.of_below hW hP))
  have HK := Lib.hid (fun W (hW : Below w.heap.size w W) => hkd.keep (Same.of_below hW hP))
  have HLO := Lib.hid (fun W (hW : Below w.heap.size w W) => low_up hP hW)
  obtain ⟨yn, hyn⟩ : ∃ yn, yn = ks.length := ⟨_, rfl⟩
  rw [← hyn] at HS ⊢
  generalize g.length = gn at *
  generalize t.n = num at *
  generalize t.s = s at *
  obtain ⟨op, hop⟩ : ∃ op, op = t.op := ⟨_, rfl⟩
  rw [← hop] at hV hsl hcase ⊢
  obtain ⟨hbx, hbx2, hb⟩ := twoN_new w 28 24 #[.int .i64 op, .int .i64 num, .string s, .slice ka kn kc, .slice na nn nc, .slice la ln lc] #[.slice none 0 0]
  have HP := Lib.hid hP
  have HB := Lib.hid hb
  have H1 := Lib.hid hbx
  have HR := Lib.hid hbx2
  have HG := Lib.hid (Nat.le_succ w.heap.size)
  have HRL := Lib.hid hbx2.lt
  have HCASE := Lib.hid hcase
  clear hP hs hg ht hkd hb hbx hbx2 hn hop hcase
  go_enter Try.func56, Try.ntmps56
  go_upto_region 1 with fail
  generalize (w.alloc (.cells #[.int .i64 op, .int .i64 num, .string s, .slice ka kn kc, .slice na nn nc, .slice la ln lc] 28)).alloc (.cells #[.slice none 0 0] 24) = w2 at *
  have c0 := H1.out.cell 0 (.int .i64 op) rfl
  have c1 := H1.out.cell 1 (.int .i64 num) rfl
  have c3 := H1.out.cell 3 (.slice ka kn kc) rfl
  unfold ownK at hV
  have hcase := HCASE.out
  subst hcase
  rw [if_pos rfl] at hV
  have HV := Lib.hid (show R = varK g.reverse num from hV)
  have HC := Lib.hid (variable_any P g num w2 (.slice ga gn gc) (HLO.out w2 HB.out) (HGG.out w2 HB.out) hnb.1 (by omega))
  clear hV c3
  go_wp2_with fail
  clear c0 c1
  refine HC.out.mono ?_
  rintro e w3 ⟨⟨ra, rn, rc, rfl, hk⟩, hb3⟩
  have HX := Lib.hid (hk.mono (fun q hq => (show Ext1 P w w3 (w.heap.size + 1) q from by
    have := HRL.out
    have := HB.out.size
    rcases hq with hq | hq
    · exact ⟨.inl hq, by have := HP.out q hq; omega⟩
    · exact ⟨.inr ⟨by omega, hq.2⟩, by omega⟩)))
  replace HR := Lib.hid (HR.out.of_eq (hb3.block _ HR.out.lt))
  replace HB := Lib.hid (belowStep hb3 HB.out)
  obtain ⟨er, her⟩ : ∃ er, KR.er R = er := ⟨_, rfl⟩
  rw [HV.out] at her
  rw [her]
  clear hk hb3
  have hr9 := HR.out
  have c9 := hr9.cell 0 (.slice none 0 0) rfl
  have f9 := hr9.thaw 0
  have HE1 := Lib.hid (blk_one (y := .slice ra rn rc) hr9)
  have HE := Lib.hid (krp_end (P := P) HV.out HG.out HB.out ⟨her, HX.out⟩)
  clear hr9
  go_wp2
  have d9 := HE1.out.cell 0 (.slice ra rn rc) rfl
  refine bodyPost_ret (v := .tuple #[.agg #[.slice ra rn rc], .int .i64 er]) (by simp [results, Try.results56, go_sem, d9]) rfl ?_
  exact HE.out
set_option maxRecDepth 100000 in
set_option maxHeartbeats 4000000 in
theorem node_const (P : Nat → Prop) (g ks : List K) (t : Con) (w : World) (v x y : Value) (hP : ∀ b, P b → b < w.heap.size) (hg : KSl w P v g) (ht : ConV w P t x) (hs : KSl w P y ks) (hn : Con.nodeB t = true) (hl : ks.length = t.l.length) (hv : ∀ k ∈ ks, K.valid k = true) (hcase : t.op = 2) :
    Calls Try.prog 56 #[v, x, y] w (KrP P (ownK g.reverse t.op t.n t.kind ks) w) := by
  have hkv := kind_valid t hn
  have hnb := nodeB_n t hn
  have hsl := shape_len t hn
  obtain ⟨R, hV⟩ : ∃ R : KR, R = ownK g.reverse t.op t.n t.kind ks := ⟨_, rfl⟩
  rw [← hV]
  obtain ⟨ka, kn, kc, na, nn, nc, la, ln, lc, rfl, -, -, -⟩ := ht.shape
  have hkd : KidV w P t.kind (.slice ka kn kc) := by
    obtain ⟨hs, kv', nv', lv', e, hk, hn, hl⟩ := (conV_iff _ _ _ _).1 ht
    simp only [Value.agg.injEq, Array.mk.injEq, List.cons.injEq, and_true, true_and] at e
    obtain ⟨rfl, rfl, rfl⟩ := e
    exact hk
  obtain ⟨ya, yc, rfl, -⟩ := hs.each
  obtain ⟨ga, gc, rfl, -⟩ := hg.each
  have HS := Lib.hid (fun W (hW : Below w.heap.size w W) => hs.keep (Same.of_below hW hP))
  have HGG := Lib.hid (fun W (hW : Below w.heap.size w W) => hg.keep (Same.of_below hW hP))
  have HK := Lib.hid (fun W (hW : Below w.heap.size w W) => hkd.keep (Same.of_below hW hP))
  have HLO := Lib.hid (fun W (hW : Below w.heap.size w W) => low_up hP hW)
  obtain ⟨yn, hyn⟩ : ∃ yn, yn = ks.length := ⟨_, rfl⟩
  rw [← hyn] at HS ⊢
  generalize g.length = gn at *
  generalize t.n = num at *
  generalize t.s = s at *
  obtain ⟨op, hop⟩ : ∃ op, op = t.op := ⟨_, rfl⟩
  rw [← hop] at hV hsl hcase ⊢
  obtain ⟨hbx, hbx2, hb⟩ := twoN_new w 28 24 #[.int .i64 op, .int .i64 num, .string s, .slice ka kn kc, .slice na nn nc, .slice la ln lc] #[.slice none 0 0]
  have HP := Lib.hid hP
  have HB := Lib.hid hb
  have H1 := Lib.hid hbx
  have HR := Lib.hid hbx2
  have HG := Lib.hid (Nat.le_succ w.heap.size)
  have HRL := Lib.hid hbx2.lt
  have HCASE := Lib.hid hcase
  clear hP hs hg ht hkd hb hbx hbx2 hn hop hcase
  go_enter Try.func56, Try.ntmps56
  go_upto_region 1 with fail
  generalize (w.alloc (.cells #[.int .i64 op, .int .i64 num, .string s, .slice ka kn kc, .slice na nn nc, .slice la ln lc] 28)).alloc (.cells #[.slice none 0 0] 24) = w2 at *
  have c0 := H1.out.cell 0 (.int .i64 op) rfl
  have c1 := H1.out.cell 1 (.int .i64 num) rfl
  have c3 := H1.out.cell 3 (.slice ka kn kc) rfl
  unfold ownK at hV
  have hcase := HCASE.out
  rw [if_neg (by omega)] at hV
  have q0 : (op == 1) = false := beq_eq_false_iff_ne.2 (by omega)
  subst hcase
  rw [if_pos rfl] at hV
  have HV := Lib.hid hV
  have HX := Lib.hid ((HK.out w2 HB.out).mono (fun q hq => (show Ext1 P w w2 (w.heap.size + 1) q from ⟨.inl hq, by have := HP.out q hq; omega⟩)))
  clear hV c1
  have hr9 := HR.out
  have c9 := hr9.cell 0 (.slice none 0 0) rfl
  have f9 := hr9.thaw 0
  have HE1 := Lib.hid (blk_one (y := .slice ka kn kc) hr9)
  have HE := Lib.hid (krp_end (P := P) HV.out HG.out HB.out ⟨rfl, HX.out⟩)
  clear hr9
  go_wp2
  have d9 := HE1.out.cell 0 (.slice ka kn kc) rfl
  refine bodyPost_ret (v := .tuple #[.agg #[.slice ka kn kc], .int .i64 0]) (by simp [results, Try.results56, go_sem, d9]) rfl ?_
  exact HE.out
set_option maxRecDepth 100000 in
set_option maxHeartbeats 4000000 in
theorem node_lam (P : Nat → Prop) (g ks : List K) (t : Con) (w : World) (v x y : Value) (hP : ∀ b, P b → b < w.heap.size) (hg : KSl w P v g) (ht : ConV w P t x) (hs : KSl w P y ks) (hn : Con.nodeB t = true) (hl : ks.length = t.l.length) (hv : ∀ k ∈ ks, K.valid k = true) (hcase : t.op = 11) :
    Calls Try.prog 56 #[v, x, y] w (KrP P (ownK g.reverse t.op t.n t.kind ks) w) := by
  have hkv := kind_valid t hn
  have hnb := nodeB_n t hn
  have hsl := shape_len t hn
  obtain ⟨R, hV⟩ : ∃ R : KR, R = ownK g.reverse t.op t.n t.kind ks := ⟨_, rfl⟩
  rw [← hV]
  obtain ⟨ka, kn, kc, na, nn, nc, la, ln, lc, rfl, -, -, -⟩ := ht.shape
  have hkd : KidV w P t.kind (.slice ka kn kc) := by
    obtain ⟨hs, kv', nv', lv', e, hk, hn, hl⟩ := (conV_iff _ _ _ _).1 ht
    simp only [Value.agg.injEq, Array.mk.injEq, List.cons.injEq, and_true, true_and] at e
    obtain ⟨rfl, rfl, rfl⟩ := e
    exact hk
  obtain ⟨ya, yc, rfl, -⟩ := hs.each
  obtain ⟨ga, gc, rfl, -⟩ := hg.each
  have HS := Lib.hid (fun W (hW : Below w.heap.size w W) => hs.keep (Same.of_below hW hP))
  have HGG := Lib.hid (fun W (hW : Below w.heap.size w W) => hg.keep (Same.of_below hW hP))
  have HK := Lib.hid (fun W (hW : Below w.heap.size w W) => hkd.keep (Same.of_below hW hP))
  have HLO := Lib.hid (fun W (hW : Below w.heap.size w W) => low_up hP hW)
  obtain ⟨yn, hyn⟩ : ∃ yn, yn = ks.length := ⟨_, rfl⟩
  rw [← hyn] at HS ⊢
  generalize g.length = gn at *
  generalize t.n = num at *
  generalize t.s = s at *
  obtain ⟨op, hop⟩ : ∃ op, op = t.op := ⟨_, rfl⟩
  rw [← hop] at hV hsl hcase ⊢
  obtain ⟨hbx, hbx2, hb⟩ := twoN_new w 28 24 #[.int .i64 op, .int .i64 num, .string s, .slice ka kn kc, .slice na nn nc, .slice la ln lc] #[.slice none 0 0]
  have HP := Lib.hid hP
  have HB := Lib.hid hb
  have H1 := Lib.hid hbx
  have HR := Lib.hid hbx2
  have HG := Lib.hid (Nat.le_succ w.heap.size)
  have HRL := Lib.hid hbx2.lt
  have HCASE := Lib.hid hcase
  clear hP hs hg ht hkd hb hbx hbx2 hn hop hcase
  go_enter Try.func56, Try.ntmps56
  go_upto_region 1 with fail
  generalize (w.alloc (.cells #[.int .i64 op, .int .i64 num, .string s, .slice ka kn kc, .slice na nn nc, .slice la ln lc] 28)).alloc (.cells #[.slice none 0 0] 24) = w2 at *
  have c0 := H1.out.cell 0 (.int .i64 op) rfl
  have c1 := H1.out.cell 1 (.int .i64 num) rfl
  have c3 := H1.out.cell 3 (.slice ka kn kc) rfl
  unfold ownK at hV
  have hcase := HCASE.out
  rw [if_neg (by omega)] at hV
  have q0 : (op == 1) = false := beq_eq_false_iff_ne.2 (by omega)
  rw [if_neg (by omega)] at hV
  have q1 : (op == 2) = false := beq_eq_false_iff_ne.2 (by omega)
  subst hcase
  rw [if_pos rfl] at hV
  have hl1 : ks.length = 1 := by rw [hl]; exact hsl.1 (.inl rfl)
  obtain ⟨-, b, off, rfl, hPb, hke⟩ := ksl_at (HS.out w2.drew HB.out.drew) (by omega)
  obtain ⟨a7, n7, c7, f0, hk7⟩ := hke 0 (by omega)
  rw [Nat.add_zero] at f0
  replace f0 : w2.cell? ⟨b, off, none⟩ = some (.slice a7 n7 c7) := f0
  obtain ⟨k0, hk0⟩ : ∃ k0, k0 = ks[0]'(by omega) := ⟨_, rfl⟩
  rw [← hk0] at hk7
  have hg0 : ks.getD 0 (.mk []) = k0 := by rw [hk0]; exact getD_at ks 0 (by omega)
  have hv0 : K.valid k0 = true := by rw [hk0]; exact hv _ (List.getElem_mem _)
  have HV := Lib.hid (show R = if K.valid (.mk [t.kind, k0]) then .ok (.mk [t.kind, k0]) else .bad 6 [] from by rw [hV, hg0])
  obtain rfl : yn = 1 := by omega
  have HC := Lib.hid (function_any P t.kind k0 w2.drew (.agg #[.slice ka kn kc]) (.agg #[.slice a7 n7 c7]) (HLO.out w2.drew HB.out.drew) ⟨_, rfl, HK.out w2.drew HB.out.drew⟩ ⟨_, rfl, hk7⟩)
  clear hV c1 hk7 hke hg0 hv0 hk0 hl1 hsl hkv hnb hv hyn hl
  replace HB := Lib.hid HB.out.drew
  replace HR := Lib.hid HR.out.drew
  replace HRL := Lib.hid HR.out.lt
  go_upto_region 7 with fail
  go_region_law (go_simp; go_at_call 74; refine HC.out.mono ?_; rintro e w3 ⟨⟨ra, rn, rc, rfl, hk⟩, hb3⟩; (obtain ⟨er, her⟩ : ∃ er, KR.er R = er := ⟨_, rfl⟩); rw [HV.out] at her; rw [her]; have hr9 := HR.out.of_eq (hb3.block _ HR.out.lt); have c9 := hr9.cell 0 (.slice none 0 0) rfl; have f9 := hr9.thaw 0; clear hr9)
  all_goals
    clear c9 f9
    have HX := Lib.hid (hk.mono (fun q hq => (show Ext1 P w w3 (w.heap.size + 1) q from by
      have := HRL.out
      have := HB.out.size
      rcases hq with hq | hq
      · exact ⟨.inl hq, by have := HP.out q hq; omega⟩
      · exact ⟨.inr ⟨by omega, hq.2⟩, by omega⟩)))
    replace HR := Lib.hid (HR.out.of_eq (hb3.block _ HR.out.lt))
    replace HB := Lib.hid (belowStep hb3 HB.out)
    clear hk hb3
    have hr9 := HR.out
    have c9 := hr9.cell 0 (.slice none 0 0) rfl
    have f9 := hr9.thaw 0
    have HE1 := Lib.hid (blk_one (y := .slice ra rn rc) hr9)
    have HE := Lib.hid (krp_end (P := P) HV.out HG.out HB.out ⟨her, HX.out⟩)
    clear hr9
    go_wp2
    have d9 := HE1.out.cell 0 (.slice ra rn rc) rfl
    refine bodyPost_ret (v := .tuple #[.agg #[.slice ra rn rc], .int .i64 er]) (by simp [results, Try.results56, go_sem, d9]) rfl ?_
    exact HE.out
set_option maxRecDepth 100000 in
set_option maxHeartbeats 4000000 in
theorem node_app (P : Nat → Prop) (g ks : List K) (t : Con) (w : World) (v x y : Value) (hP : ∀ b, P b → b < w.heap.size) (hg : KSl w P v g) (ht : ConV w P t x) (hs : KSl w P y ks) (hn : Con.nodeB t = true) (hl : ks.length = t.l.length) (hv : ∀ k ∈ ks, K.valid k = true) (hcase : t.op = 12) :
    Calls Try.prog 56 #[v, x, y] w (KrP P (ownK g.reverse t.op t.n t.kind ks) w) := by
  have hkv := kind_valid t hn
  have hnb := nodeB_n t hn
  have hsl := shape_len t hn
  obtain ⟨R, hV⟩ : ∃ R : KR, R = ownK g.reverse t.op t.n t.kind ks := ⟨_, rfl⟩
  rw [← hV]
  obtain ⟨ka, kn, kc, na, nn, nc, la, ln, lc, rfl, -, -, -⟩ := ht.shape
  have hkd : KidV w P t.kind (.slice ka kn kc) := by
    obtain ⟨hs, kv', nv', lv', e, hk, hn, hl⟩ := (conV_iff _ _ _ _).1 ht
    simp only [Value.agg.injEq, Array.mk.injEq, List.cons.injEq, and_true, true_and] at e
    obtain ⟨rfl, rfl, rfl⟩ := e
    exact hk
  obtain ⟨ya, yc, rfl, -⟩ := hs.each
  obtain ⟨ga, gc, rfl, -⟩ := hg.each
  have HS := Lib.hid (fun W (hW : Below w.heap.size w W) => hs.keep (Same.of_below hW hP))
  have HGG := Lib.hid (fun W (hW : Below w.heap.size w W) => hg.keep (Same.of_below hW hP))
  have HK := Lib.hid (fun W (hW : Below w.heap.size w W) => hkd.keep (Same.of_below hW hP))
  have HLO := Lib.hid (fun W (hW : Below w.heap.size w W) => low_up hP hW)
  obtain ⟨yn, hyn⟩ : ∃ yn, yn = ks.length := ⟨_, rfl⟩
  rw [← hyn] at HS ⊢
  generalize g.length = gn at *
  generalize t.n = num at *
  generalize t.s = s at *
  obtain ⟨op, hop⟩ : ∃ op, op = t.op := ⟨_, rfl⟩
  rw [← hop] at hV hsl hcase ⊢
  obtain ⟨hbx, hbx2, hb⟩ := twoN_new w 28 24 #[.int .i64 op, .int .i64 num, .string s, .slice ka kn kc, .slice na nn nc, .slice la ln lc] #[.slice none 0 0]
  have HP := Lib.hid hP
  have HB := Lib.hid hb
  have H1 := Lib.hid hbx
  have HR := Lib.hid hbx2
  have HG := Lib.hid (Nat.le_succ w.heap.size)
  have HRL := Lib.hid hbx2.lt
  have HCASE := Lib.hid hcase
  clear hP hs hg ht hkd hb hbx hbx2 hn hop hcase
  go_enter Try.func56, Try.ntmps56
  go_upto_region 1 with fail
  generalize (w.alloc (.cells #[.int .i64 op, .int .i64 num, .string s, .slice ka kn kc, .slice na nn nc, .slice la ln lc] 28)).alloc (.cells #[.slice none 0 0] 24) = w2 at *
  have c0 := H1.out.cell 0 (.int .i64 op) rfl
  have c1 := H1.out.cell 1 (.int .i64 num) rfl
  have c3 := H1.out.cell 3 (.slice ka kn kc) rfl
  unfold ownK at hV
  have hcase := HCASE.out
  rw [if_neg (by omega)] at hV
  have q0 : (op == 1) = false := beq_eq_false_iff_ne.2 (by omega)
  rw [if_neg (by omega)] at hV
  have q1 : (op == 2) = false := beq_eq_false_iff_ne.2 (by omega)
  rw [if_neg (by omega)] at hV
  have q2 : (op == 11) = false := beq_eq_false_iff_ne.2 (by omega)
  subst hcase
  rw [if_pos rfl] at hV
  have hl1 : ks.length = 2 := by rw [hl]; exact hsl.2 rfl
  obtain ⟨-, b, off, rfl, hPb, hke⟩ := ksl_at (HS.out w2.drew HB.out.drew) (by omega)
  obtain ⟨a7, n7, c7, f0, hk7⟩ := hke 0 (by omega)
  obtain ⟨a8, n8, c8, f1, hk8⟩ := hke 1 (by omega)
  rw [Nat.add_zero] at f0
  replace f0 : w2.cell? ⟨b, off, none⟩ = some (.slice a7 n7 c7) := f0
  replace f1 : w2.cell? ⟨b, off + 1, none⟩ = some (.slice a8 n8 c8) := f1
  obtain ⟨k0, hk0⟩ : ∃ k0, k0 = ks[0]'(by omega) := ⟨_, rfl⟩
  rw [← hk0] at hk7
  have hg0 : ks.getD 0 (.mk []) = k0 := by rw [hk0]; exact getD_at ks 0 (by omega)
  have hv0 : K.valid k0 = true := by rw [hk0]; exact hv _ (List.getElem_mem _)
  obtain ⟨k1, hk1⟩ : ∃ k1, k1 = ks[1]'(by omega) := ⟨_, rfl⟩
  rw [← hk1] at hk8
  have hg1 : ks.getD 1 (.mk []) = k1 := by rw [hk1]; exact getD_at ks 1 (by omega)
  have hv1 : K.valid k1 = true := by rw [hk1]; exact hv _ (List.getElem_mem _)
  have HV := Lib.hid (show R = appK k0 k1 from by rw [hV, hg0, hg1])
  obtain rfl : yn = 2 := by omega
  have HC := Lib.hid (application_any P k0 k1 w2.drew (.agg #[.slice a7 n7 c7]) (.agg #[.slice a8 n8 c8]) (HLO.out w2.drew HB.out.drew) ⟨_, rfl, hk7⟩ ⟨_, rfl, hk8⟩ hv0 hv1)
  clear hV c1 hk7 hk8 hke hg0 hg1 hv0 hv1 hk0 hk1 hl1 hsl hkv hnb hv hyn hl c3
  replace HB := Lib.hid HB.out.drew
  replace HR := Lib.hid HR.out.drew
  replace HRL := Lib.hid HR.out.lt
  go_upto_region 9 with fail
  go_region_law (go_simp; go_at_call 75; refine HC.out.mono ?_; rintro e w3 ⟨⟨ra, rn, rc, rfl, hk⟩, hb3⟩; (obtain ⟨er, her⟩ : ∃ er, KR.er R = er := ⟨_, rfl⟩); rw [HV.out] at her; rw [her]; have hr9 := HR.out.of_eq (hb3.block _ HR.out.lt); have c9 := hr9.cell 0 (.slice none 0 0) rfl; have f9 := hr9.thaw 0; clear hr9)
  all_goals
    clear c9 f9
    have HX := Lib.hid (hk.mono (fun q hq => (show Ext1 P w w3 (w.heap.size + 1) q from by
      have := HRL.out
      have := HB.out.size
      rcases hq with hq | hq
      · exact ⟨.inl hq, by have := HP.out q hq; omega⟩
      · exact ⟨.inr ⟨by omega, hq.2⟩, by omega⟩)))
    replace HR := Lib.hid (HR.out.of_eq (hb3.block _ HR.out.lt))
    replace HB := Lib.hid (belowStep hb3 HB.out)
    clear hk hb3
    have hr9 := HR.out
    have c9 := hr9.cell 0 (.slice none 0 0) rfl
    have f9 := hr9.thaw 0
    have HE1 := Lib.hid (blk_one (y := .slice ra rn rc) hr9)
    have HE := Lib.hid (krp_end (P := P) HV.out HG.out HB.out ⟨her, HX.out⟩)
    clear hr9
    go_wp2
    have d9 := HE1.out.cell 0 (.slice ra rn rc) rfl
    refine bodyPost_ret (v := .tuple #[.agg #[.slice ra rn rc], .int .i64 er]) (by simp [results, Try.results56, go_sem, d9]) rfl ?_
    exact HE.out
set_option maxRecDepth 100000 in
set_option maxHeartbeats 4000000 in
theorem node_mu (P : Nat → Prop) (g ks : List K) (t : Con) (w : World) (v x y : Value) (hP : ∀ b, P b → b < w.heap.size) (hg : KSl w P v g) (ht : ConV w P t x) (hs : KSl w P y ks) (hn : Con.nodeB t = true) (hl : ks.length = t.l.length) (hv : ∀ k ∈ ks, K.valid k = true) (hcase : t.op = 13) :
    Calls Try.prog 56 #[v, x, y] w (KrP P (ownK g.reverse t.op t.n t.kind ks) w) := by
  have hkv := kind_valid t hn
  have hnb := nodeB_n t hn
  have hsl := shape_len t hn
  obtain ⟨R, hV⟩ : ∃ R : KR, R = ownK g.reverse t.op t.n t.kind ks := ⟨_, rfl⟩
  rw [← hV]
  obtain ⟨ka, kn, kc, na, nn, nc, la, ln, lc, rfl, -, -, -⟩ := ht.shape
  have hkd : KidV w P t.kind (.slice ka kn kc) := by
    obtain ⟨hs, kv', nv', lv', e, hk, hn, hl⟩ := (conV_iff _ _ _ _).1 ht
    simp only [Value.agg.injEq, Array.mk.injEq, List.cons.injEq, and_true, true_and] at e
    obtain ⟨rfl, rfl, rfl⟩ := e
    exact hk
  obtain ⟨ya, yc, rfl, -⟩ := hs.each
  obtain ⟨ga, gc, rfl, -⟩ := hg.each
  have HS := Lib.hid (fun W (hW : Below w.heap.size w W) => hs.keep (Same.of_below hW hP))
  have HGG := Lib.hid (fun W (hW : Below w.heap.size w W) => hg.keep (Same.of_below hW hP))
  have HK := Lib.hid (fun W (hW : Below w.heap.size w W) => hkd.keep (Same.of_below hW hP))
  have HLO := Lib.hid (fun W (hW : Below w.heap.size w W) => low_up hP hW)
  obtain ⟨yn, hyn⟩ : ∃ yn, yn = ks.length := ⟨_, rfl⟩
  rw [← hyn] at HS ⊢
  generalize g.length = gn at *
  generalize t.n = num at *
  generalize t.s = s at *
  obtain ⟨op, hop⟩ : ∃ op, op = t.op := ⟨_, rfl⟩
  rw [← hop] at hV hsl hcase ⊢
  obtain ⟨hbx, hbx2, hb⟩ := twoN_new w 28 24 #[.int .i64 op, .int .i64 num, .string s, .slice ka kn kc, .slice na nn nc, .slice la ln lc] #[.slice none 0 0]
  have HP := Lib.hid hP
  have HB := Lib.hid hb
  have H1 := Lib.hid hbx
  have HR := Lib.hid hbx2
  have HG := Lib.hid (Nat.le_succ w.heap.size)
  have HRL := Lib.hid hbx2.lt
  have HCASE := Lib.hid hcase
  clear hP hs hg ht hkd hb hbx hbx2 hn hop hcase
  go_enter Try.func56, Try.ntmps56
  go_upto_region 1 with fail
  generalize (w.alloc (.cells #[.int .i64 op, .int .i64 num, .string s, .slice ka kn kc, .slice na nn nc, .slice la ln lc] 28)).alloc (.cells #[.slice none 0 0] 24) = w2 at *
  have c0 := H1.out.cell 0 (.int .i64 op) rfl
  have c1 := H1.out.cell 1 (.int .i64 num) rfl
  have c3 := H1.out.cell 3 (.slice ka kn kc) rfl
  unfold ownK at hV
  have hcase := HCASE.out
  rw [if_neg (by omega)] at hV
  have q0 : (op == 1) = false := beq_eq_false_iff_ne.2 (by omega)
  rw [if_neg (by omega)] at hV
  have q1 : (op == 2) = false := beq_eq_false_iff_ne.2 (by omega)
  rw [if_neg (by omega)] at hV
  have q2 : (op == 11) = false := beq_eq_false_iff_ne.2 (by omega)
  rw [if_neg (by omega)] at hV
  have q3 : (op == 12) = false := beq_eq_false_iff_ne.2 (by omega)
  subst hcase
  rw [if_pos rfl] at hV
  have hl1 : ks.length = 1 := by rw [hl]; exact hsl.1 (.inr rfl)
  obtain ⟨-, b, off, rfl, hPb, hke⟩ := ksl_at (HS.out w2.drew HB.out.drew) (by omega)
  obtain ⟨a7, n7, c7, f0, hk7⟩ := hke 0 (by omega)
  rw [Nat.add_zero] at f0
  replace f0 : w2.cell? ⟨b, off, none⟩ = some (.slice a7 n7 c7) := f0
  obtain ⟨k0, hk0⟩ : ∃ k0, k0 = ks[0]'(by omega) := ⟨_, rfl⟩
  rw [← hk0] at hk7
  have hg0 : ks.getD 0 (.mk []) = k0 := by rw [hk0]; exact getD_at ks 0 (by omega)
  have hv0 : K.valid k0 = true := by rw [hk0]; exact hv _ (List.getElem_mem _)
  have HV := Lib.hid (show R = if K.eqv t.kind k0 then .ok t.kind else .bad 11 [] from by rw [hV, hg0])
  obtain rfl : yn = 1 := by omega
  have HC := Lib.hid (recursive_any P t.kind k0 w2.drew (.agg #[.slice ka kn kc]) (.agg #[.slice a7 n7 c7]) (HLO.out w2.drew HB.out.drew) ⟨_, rfl, HK.out w2.drew HB.out.drew⟩ ⟨_, rfl, hk7⟩ hkv hv0)
  clear hV c1 hk7 hke hg0 hv0 hk0 hl1 hsl hkv hnb hv hyn hl
  replace HB := Lib.hid HB.out.drew
  replace HR := Lib.hid HR.out.drew
  replace HRL := Lib.hid HR.out.lt
  go_upto_region 11 with fail
  go_region_law (go_simp; go_at_call 76; refine HC.out.mono ?_; rintro e w3 ⟨⟨ra, rn, rc, rfl, hk⟩, hb3⟩; (obtain ⟨er, her⟩ : ∃ er, KR.er R = er := ⟨_, rfl⟩); rw [HV.out] at her; rw [her]; have hr9 := HR.out.of_eq (hb3.block _ HR.out.lt); have c9 := hr9.cell 0 (.slice none 0 0) rfl; have f9 := hr9.thaw 0; clear hr9)
  all_goals
    clear c9 f9
    have HX := Lib.hid (hk.mono (fun q hq => (show Ext1 P w w3 (w.heap.size + 1) q from by
      have := HRL.out
      have := HB.out.size
      rcases hq with hq | hq
      · exact ⟨.inl hq, by have := HP.out q hq; omega⟩
      · exact ⟨.inr ⟨by omega, hq.2⟩, by omega⟩)))
    replace HR := Lib.hid (HR.out.of_eq (hb3.block _ HR.out.lt))
    replace HB := Lib.hid (belowStep hb3 HB.out)
    clear hk hb3
    have hr9 := HR.out
    have c9 := hr9.cell 0 (.slice none 0 0) rfl
    have f9 := hr9.thaw 0
    have HE1 := Lib.hid (blk_one (y := .slice ra rn rc) hr9)
    have HE := Lib.hid (krp_end (P := P) HV.out HG.out HB.out ⟨her, HX.out⟩)
    clear hr9
    go_wp2
    have d9 := HE1.out.cell 0 (.slice ra rn rc) rfl
    refine bodyPost_ret (v := .tuple #[.agg #[.slice ra rn rc], .int .i64 er]) (by simp [results, Try.results56, go_sem, d9]) rfl ?_
    exact HE.out
set_option maxRecDepth 100000 in
set_option maxHeartbeats 4000000 in
theorem node_type (P : Nat → Prop) (g ks : List K) (t : Con) (w : World) (v x y : Value) (hP : ∀ b, P b → b < w.heap.size) (hg : KSl w P v g) (ht : ConV w P t x) (hs : KSl w P y ks) (hn : Con.nodeB t = true) (hl : ks.length = t.l.length) (hv : ∀ k ∈ ks, K.valid k = true) (hcase : t.op ≠ 1 ∧ t.op ≠ 2 ∧ t.op ≠ 11 ∧ t.op ≠ 12 ∧ t.op ≠ 13) :
    Calls Try.prog 56 #[v, x, y] w (KrP P (ownK g.reverse t.op t.n t.kind ks) w) := by
  have hkv := kind_valid t hn
  have hnb := nodeB_n t hn
  have hsl := shape_len t hn
  obtain ⟨R, hV⟩ : ∃ R : KR, R = ownK g.reverse t.op t.n t.kind ks := ⟨_, rfl⟩
  rw [← hV]
  obtain ⟨ka, kn, kc, na, nn, nc, la, ln, lc, rfl, -, -, -⟩ := ht.shape
  have hkd : KidV w P t.kind (.slice ka kn kc) := by
    obtain ⟨hs, kv', nv', lv', e, hk, hn, hl⟩ := (conV_iff _ _ _ _).1 ht
    simp only [Value.agg.injEq, Array.mk.injEq, List.cons.injEq, and_true, true_and] at e
    obtain ⟨rfl, rfl, rfl⟩ := e
    exact hk
  obtain ⟨ya, yc, rfl, -⟩ := hs.each
  obtain ⟨ga, gc, rfl, -⟩ := hg.each
  have HS := Lib.hid (fun W (hW : Below w.heap.size w W) => hs.keep (Same.of_below hW hP))
  have HGG := Lib.hid (fun W (hW : Below w.heap.size w W) => hg.keep (Same.of_below hW hP))
  have HK := Lib.hid (fun W (hW : Below w.heap.size w W) => hkd.keep (Same.of_below hW hP))
  have HLO := Lib.hid (fun W (hW : Below w.heap.size w W) => low_up hP hW)
  obtain ⟨yn, hyn⟩ : ∃ yn, yn = ks.length := ⟨_, rfl⟩
  rw [← hyn] at HS ⊢
  generalize g.length = gn at *
  generalize t.n = num at *
  generalize t.s = s at *
  obtain ⟨op, hop⟩ : ∃ op, op = t.op := ⟨_, rfl⟩
  rw [← hop] at hV hsl hcase ⊢
  obtain ⟨hbx, hbx2, hb⟩ := twoN_new w 28 24 #[.int .i64 op, .int .i64 num, .string s, .slice ka kn kc, .slice na nn nc, .slice la ln lc] #[.slice none 0 0]
  have HP := Lib.hid hP
  have HB := Lib.hid hb
  have H1 := Lib.hid hbx
  have HR := Lib.hid hbx2
  have HG := Lib.hid (Nat.le_succ w.heap.size)
  have HRL := Lib.hid hbx2.lt
  have HCASE := Lib.hid hcase
  clear hP hs hg ht hkd hb hbx hbx2 hn hop hcase
  go_enter Try.func56, Try.ntmps56
  go_upto_region 1 with fail
  generalize (w.alloc (.cells #[.int .i64 op, .int .i64 num, .string s, .slice ka kn kc, .slice na nn nc, .slice la ln lc] 28)).alloc (.cells #[.slice none 0 0] 24) = w2 at *
  have c0 := H1.out.cell 0 (.int .i64 op) rfl
  have c1 := H1.out.cell 1 (.int .i64 num) rfl
  have c3 := H1.out.cell 3 (.slice ka kn kc) rfl
  unfold ownK at hV
  have hcase := HCASE.out
  rw [if_neg (by omega)] at hV
  have q0 : (op == 1) = false := beq_eq_false_iff_ne.2 (by omega)
  rw [if_neg (by omega)] at hV
  have q1 : (op == 2) = false := beq_eq_false_iff_ne.2 (by omega)
  rw [if_neg (by omega)] at hV
  have q2 : (op == 11) = false := beq_eq_false_iff_ne.2 (by omega)
  rw [if_neg (by omega)] at hV
  have q3 : (op == 12) = false := beq_eq_false_iff_ne.2 (by omega)
  rw [if_neg (by omega)] at hV
  have q4 : (op == 13) = false := beq_eq_false_iff_ne.2 (by omega)
  have HV := Lib.hid hV
  have HC := Lib.hid (typeOf_any P ks w2 (.slice ya yn yc) (HLO.out w2 HB.out) (by rw [hyn]; rw [hyn] at HS; exact HS.out w2 HB.out))
  clear hV c1 c3 hyn hl hv hsl hnb hkv hcase HCASE HS HGG HK HLO
  go_upto_region 12 with fail
  go_wp2_with fail
  clear c0
  refine HC.out.mono ?_
  rintro e w3 ⟨⟨ra, rn, rc, rfl, hk⟩, hb3⟩
  have HX := Lib.hid (hk.mono (fun q hq => (show Ext1 P w w3 (w.heap.size + 1) q from by
    have := HRL.out
    have := HB.out.size
    rcases hq with hq | hq
    · exact ⟨.inl hq, by have := HP.out q hq; omega⟩
    · exact ⟨.inr ⟨by omega, hq.2⟩, by omega⟩)))
  replace HR := Lib.hid (HR.out.of_eq (hb3.block _ HR.out.lt))
  replace HB := Lib.hid (belowStep hb3 HB.out)
  obtain ⟨er, her⟩ : ∃ er, KR.er R = er := ⟨_, rfl⟩
  rw [HV.out] at her
  rw [her]
  clear hk hb3
  have hr9 := HR.out
  have c9 := hr9.cell 0 (.slice none 0 0) rfl
  have f9 := hr9.thaw 0
  have HE1 := Lib.hid (blk_one (y := .slice ra rn rc) hr9)
  have HE := Lib.hid (krp_end (P := P) HV.out HG.out HB.out ⟨her, HX.out⟩)
  clear hr9
  go_wp2
  have d9 := HE1.out.cell 0 (.slice ra rn rc) rfl
  refine bodyPost_ret (v := .tuple #[.agg #[.slice ra rn rc], .int .i64 er]) (by simp [results, Try.results56, go_sem, d9]) rfl ?_
  exact HE.out
theorem kindOfNode_any (P : Nat → Prop) (g ks : List K) (t : Con) (w : World) (v x y : Value) (hP : ∀ b, P b → b < w.heap.size) (hg : KSl w P v g) (ht : ConV w P t x) (hs : KSl w P y ks) (hn : Con.nodeB t = true) (hl : ks.length = t.l.length) (hv : ∀ k ∈ ks, K.valid k = true) :
    Calls Try.prog 56 #[v, x, y] w (KrP P (ownK g.reverse t.op t.n t.kind ks) w) := by
  by_cases h1 : t.op = 1
  · exact node_var P g ks t w v x y hP hg ht hs hn hl hv h1
  by_cases h2 : t.op = 2
  · exact node_const P g ks t w v x y hP hg ht hs hn hl hv h2
  by_cases h3 : t.op = 11
  · exact node_lam P g ks t w v x y hP hg ht hs hn hl hv h3
  by_cases h4 : t.op = 12
  · exact node_app P g ks t w v x y hP hg ht hs hn hl hv h4
  by_cases h5 : t.op = 13
  · exact node_mu P g ks t w v x y hP hg ht hs hn hl hv h5
  exact node_type P g ks t w v x y hP hg ht hs hn hl hv ⟨h1, h2, h3, h4, h5⟩
end Go.Proofs.Ytmjkeejinagokaa
