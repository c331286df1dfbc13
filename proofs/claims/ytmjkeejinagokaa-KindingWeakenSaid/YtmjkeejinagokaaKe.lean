/-
  Walks of layer 8: the reference's Equal, Pair and All; whether a kind is zero.
-/
import Derived.Test.YtmjkeejinagokaaKd
namespace Go.Proofs.Ytmjkeejinagokaa
open Go Go.RowKit
open Pl (K)
set_option linter.unusedSimpArgs false

/-- a kind's value, its parts' cell known -/
theorem KV.form {w : World} {P : Nat → Prop} {t : K} {v : Value} (h : KV w P t v) : ∃ a c, v = .agg #[.slice a t.l.length c] := by
  obtain ⟨a, c, rfl, -⟩ := h.open
  exact ⟨a, c, rfl⟩
theorem KV.kid {w : World} {P : Nat → Prop} {t : K} {x : Value} (h : KV w P t (.agg #[x])) : KidV w P t x := by
  obtain ⟨y, e, h⟩ := h
  injection e with e
  have e : x = y := by simpa using e
  rw [e]; exact h
/-- the blocks P, and new ones -/
def Ext (P : Nat → Prop) (w w' : World) (b : Nat) : Prop := P b ∨ (w.heap.size ≤ b ∧ b < w'.heap.size)
theorem Ext.lt {P : Nat → Prop} {w w' : World} (hP : ∀ b, P b → b < w.heap.size) (hb : Below w.heap.size w w') : ∀ b, Ext P w w' b → b < w'.heap.size := fun b h => by
  rcases h with h | h
  · exact Nat.lt_of_lt_of_le (hP b h) hb.size
  · exact h.2
theorem Ext.left {P : Nat → Prop} {w w' : World} : ∀ b, P b → Ext P w w' b := fun _ h => .inl h
set_option maxRecDepth 100000 in
theorem requal_any (P Q : Nat → Prop) (t u : K) (w : World) (v x : Value) (hP : ∀ b, P b → b < w.heap.size) (hQ : ∀ b, Q b → b < w.heap.size) (ht : KV w P t v) (hu : KV w Q u x) :
    Calls Try.prog 79 #[v, x] w fun e w' => e = .returned (.bool (K.valid t && K.valid u && K.eqv t u)) ∧ Below w.heap.size w w' := by
  have HV := Lib.hid (fun W (hW : Below w.heap.size w W) => rvalid_any P t W v (fun b h => Nat.lt_of_lt_of_le (hP b h) hW.size) (ht.below hP hW))
  have HU := Lib.hid (fun W (hW : Below w.heap.size w W) => rvalid_any Q u W x (fun b h => Nat.lt_of_lt_of_le (hQ b h) hW.size) (hu.below hQ hW))
  have HE := Lib.hid (fun W (hW : Below w.heap.size w W) => reqv_any P Q t u W v x (fun b h => Nat.lt_of_lt_of_le (hP b h) hW.size) (fun b h => Nat.lt_of_lt_of_le (hQ b h) hW.size) (ht.below hP hW) (hu.below hQ hW))
  obtain ⟨a, c, rfl⟩ := ht.form
  obtain ⟨a2, c2, rfl⟩ := hu.form
  generalize K.valid t = r1 at *
  generalize K.valid u = r2 at *
  generalize K.eqv t u = r3 at *
  clear ht hu hP hQ
  generalize t.l.length = n at *
  generalize u.l.length = n2 at *
  obtain ⟨hbx, hbx2, hb⟩ := two_new w 24 (.slice a n c) (.slice a2 n2 c2)
  have c0 := hbx.cell 0 (.slice a n c) rfl
  have d0 := hbx2.cell 0 (.slice a2 n2 c2) rfl
  have HB := Lib.hid hb
  have HBX := Lib.hid hbx
  have HBX2 := Lib.hid hbx2
  clear hb hbx hbx2
  go_enter Try.func79, Try.ntmps79
  go_wp2_with fail
  generalize ((w.alloc (.cells #[.slice a n c] 24)).alloc (.cells #[.slice a2 n2 c2] 24)) = w2 at *
  refine (HV.out _ HB.out).mono ?_
  rintro e w3 ⟨rfl, hb3⟩
  have HB3 := Lib.hid (belowStep hb3 HB.out)
  cases r1
  · clear hb3 c0 d0
    go_wp2
    go_ret
    exact ⟨by rw [Bool.false_and, Bool.false_and]; rfl, HB3.out⟩
  replace HBX := Lib.hid (HBX.out.of_eq (hb3.block _ HBX.out.lt))
  replace HBX2 := Lib.hid (HBX2.out.of_eq (hb3.block _ HBX2.out.lt))
  clear hb3 c0 d0
  have c0 := HBX.out.cell 0 (.slice a n c) rfl
  have d0 := HBX2.out.cell 0 (.slice a2 n2 c2) rfl
  go_wp2_with fail
  refine (HU.out _ HB3.out).mono ?_
  rintro e w4 ⟨rfl, hb4⟩
  have HB4 := Lib.hid (belowStep hb4 HB3.out)
  cases r2
  · clear hb4 c0 d0
    go_wp2
    go_ret
    exact ⟨by rw [Bool.true_and, Bool.false_and]; rfl, HB4.out⟩
  replace HBX := Lib.hid (HBX.out.of_eq (hb4.block _ HBX.out.lt))
  replace HBX2 := Lib.hid (HBX2.out.of_eq (hb4.block _ HBX2.out.lt))
  clear hb4 c0 d0
  have c0 := HBX.out.cell 0 (.slice a n c) rfl
  have d0 := HBX2.out.cell 0 (.slice a2 n2 c2) rfl
  go_wp2_with fail
  refine (HE.out _ HB4.out).mono ?_
  rintro e w5 ⟨rfl, hb5⟩
  have HB5 := Lib.hid (belowStep hb5 HB4.out)
  clear hb5 c0 d0
  go_wp2
  go_ret
  exact ⟨by rw [Bool.true_and, Bool.true_and]; rfl, HB5.out⟩
/-- two kinds in a row -/
theorem pair_kids {w : World} {P : Nat → Prop} {t u : K} {v x : Value} (hP : ∀ b, P b → b < w.heap.size) (ht : KidV w P t v) (hu : KidV w P u x) :
    KidV (w.alloc (.cells #[v, x] 24)) (Ext P w (w.alloc (.cells #[v, x] 24))) (.mk [t, u]) (.slice (some ⟨w.heap.size, 0, none⟩) 2 2) := by
  have hk := blk_new w #[v, x] 24
  have hb : Below w.heap.size w (w.alloc (.cells #[v, x] 24)) := (Below.refl _ _).alloc (Nat.le_refl _) _
  refine (kidV_iff _ _ _ _).2 ⟨_, 2, rfl, Nat.le_refl _, by unfold maxLen; omega, (fun h => by cases h), .inr ⟨w.heap.size, 0, rfl, .inr ⟨Nat.le_refl _, hk.lt⟩, (kidsK_iff _ _ _ _ _).2 fun j hj => ?_⟩⟩
  match j, hj with
  | 0, _ => exact ⟨v, hk.cell 0 _ rfl, (ht.keep (Same.of_below hb hP)).mono Ext.left⟩
  | 1, _ => exact ⟨x, hk.cell 1 _ rfl, (hu.keep (Same.of_below hb hP)).mono Ext.left⟩
theorem rpair_any (P : Nat → Prop) (t u : K) (w : World) (v x : Value) (hP : ∀ b, P b → b < w.heap.size) (ht : KV w P t v) (hu : KV w P u x) :
    Calls Try.prog 78 #[v, x] w fun e w' => (∃ y, e = .returned y ∧ KV w' (Ext P w w') (.mk [t, u]) y) ∧ Below w.heap.size w w' := by
  obtain ⟨a, c, rfl⟩ := ht.form
  obtain ⟨a2, c2, rfl⟩ := hu.form
  generalize t.l.length = n at *
  generalize u.l.length = n2 at *
  obtain ⟨hbx, hbx2, hb⟩ := two_new w 24 (.slice a n c) (.slice a2 n2 c2)
  have h3 := blk_new ((w.alloc (.cells #[.slice a n c] 24)).alloc (.cells #[.slice a2 n2 c2] 24)) #[.slice none 0 0] 24
  rw [size_alloc, size_alloc] at h3
  have e3 : (((w.alloc (.cells #[.slice a n c] 24)).alloc (.cells #[.slice a2 n2 c2] 24)).alloc (.cells #[.slice none 0 0] 24)).heap.size = w.heap.size + 3 := by rw [size_alloc, size_alloc, size_alloc]
  have c0 := (hbx.alloc (.cells #[.slice none 0 0] 24)).cell 0 (.slice a n c) rfl
  have d0 := (hbx2.alloc (.cells #[.slice none 0 0] 24)).cell 0 (.slice a2 n2 c2) rfl
  have HB := Lib.hid (below_new hb : Below w.heap.size w (((w.alloc (.cells #[.slice a n c] 24)).alloc (.cells #[.slice a2 n2 c2] 24)).alloc (.cells #[.slice none 0 0] 24)))
  have HT := Lib.hid ht
  have HU := Lib.hid hu
  clear hbx hbx2 hb ht hu
  go_enter Try.func78, Try.ntmps78
  go_wp2
  obtain ⟨w3, hw3⟩ : ∃ w3, w3 = ((w.alloc (.cells #[.slice a n c] 24)).alloc (.cells #[.slice a2 n2 c2] 24)).alloc (.cells #[.slice (some ⟨w.heap.size + 3, 0, none⟩) 2 2] 24) := ⟨_, rfl⟩
  have hs3 : w3.heap.size = w.heap.size + 3 := by rw [hw3, size_alloc, size_alloc, size_alloc]
  have hb3 : Below w.heap.size w w3 := by rw [hw3]; exact below_new (below_new (below_new (Below.refl _ _)))
  have hk3 : Blk w3 (w.heap.size + 1 + 1) 24 #[.slice (some ⟨w.heap.size + 3, 0, none⟩) 2 2] := by
    have := blk_new ((w.alloc (.cells #[.slice a n c] 24)).alloc (.cells #[.slice a2 n2 c2] 24)) #[.slice (some ⟨w.heap.size + 3, 0, none⟩) 2 2] 24
    rw [size_alloc, size_alloc] at this
    rw [hw3]; exact this
  rw [← hw3]
  clear hw3 c0 d0 e3 h3 HB
  have hx := HT.out.kid
  have hy := HU.out.kid
  have hpk := pair_kids (w := w3) (P := P) (fun b h => Nat.lt_of_lt_of_le (hP b h) hb3.size) (hx.keep (Same.of_below hb3 hP)) (hy.keep (Same.of_below hb3 hP))
  rw [hs3] at hpk
  have hb4 : Below w.heap.size w (w3.alloc (.cells #[.slice a n c, .slice a2 n2 c2] 24)) := below_new hb3
  have d4 := (hk3.alloc (.cells #[.slice a n c, .slice a2 n2 c2] 24)).cell 0 (.slice (some ⟨w.heap.size + 3, 0, none⟩) 2 2) rfl
  refine bodyPost_ret (v := .agg #[.slice (some ⟨w.heap.size + 3, 0, none⟩) 2 2]) (by simp [results, Try.results78, go_sem, d4]) rfl ?_
  refine ⟨⟨_, rfl, _, rfl, hpk.mono fun b h => ?_⟩, hb4⟩
  rcases h with h | h
  · exact .inl h
  · exact .inr ⟨by omega, h.2⟩
theorem KSl.each {w : World} {P : Nat → Prop} {v : Value} {l : List K} (h : KSl w P v l) : ∃ a c, v = .slice a l.length c ∧ l.length ≤ c ∧ c ≤ maxLen ∧ (∀ (j : Nat) (hj : j < l.length), ∃ b off x, a = some ⟨b, off, none⟩ ∧ P b ∧ w.cell? ⟨b, off + j, none⟩ = some x ∧ KidV w P l[j] x) := by
  have h0 : KV w P (.mk l) (.agg #[v]) := ⟨v, rfl, h⟩
  obtain ⟨a, c, e, h1, h2, h3⟩ := h0.open
  injection e with e
  have e : v = .slice a (K.mk l).l.length c := by simpa using e
  exact ⟨a, c, e, h1, h2, h3⟩
theorem all_step (l : List K) (k : Nat) (hk : k < l.length) : (l.drop k).all K.valid = (K.valid l[k] && (l.drop (k + 1)).all K.valid) := by
  rw [List.drop_eq_getElem_cons hk, List.all_cons]
end Go.Proofs.Ytmjkeejinagokaa
