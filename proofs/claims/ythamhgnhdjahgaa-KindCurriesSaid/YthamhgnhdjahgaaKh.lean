/-
  Walks of layer 8: the reference's Parts.
-/
import Derived.Test.YthamhgnhdjahgaaKg
import Derived.Deep.AppendLies
import Derived.Laws.OwnMore
namespace Go.Proofs.Ythamhgnhdjahgaa
open Go Go.RowKit
open Pl (K)
set_option linter.unusedSimpArgs false

theorem info3 {P : Program} {t : TypeId} {z : Value} {n b : Nat} (h : (P.info? t).map (fun i => (i.zero, i.size, i.bytes)) = some (some z, n, b)) : ∃ i, P.info? t = some i ∧ i.zero = some z ∧ i.size = n ∧ i.bytes = b := by
  cases hi : P.info? t with
  | none => rw [hi] at h; cases h
  | some i =>
    rw [hi] at h
    simp only [Option.map_some, Option.some.injEq, Prod.mk.injEq] at h
    exact ⟨i, rfl, h.1, h.2.1, h.2.2⟩
theorem infoKind : (Try.prog.info? 24).map (fun i => (i.zero, i.size, i.bytes)) = some (some (.agg #[.slice none 0 0]), 1, 24) := by kernel_rfl
theorem below_grown {B : Nat} {a w w' : World} {row : Option Nat} (h : Below B a w) (hB : B ≤ w.heap.size) (hg : w.grownBy w' row) (hr : ∀ k, row = some k → B ≤ k) : Below B a w' := h.grown hg hB hr
theorem blk_grown {W W' : World} {b : Nat} {T : TypeId} {cs : Array Value} {row : Option Nat} (h : Blk W b T cs) (hg : W.grownBy W' row) (hr : ∀ k, row = some k → b < k) : Blk W' b T cs := h.of_eq (hg.block b h.lt (fun e => by have := hr b e.symm; omega))
/-- a row of kinds, their parts in the blocks P -/
def KindRow (w : World) (P : Nat → Prop) (us : List Value) (ts : List K) : Prop := us.length = ts.length ∧ ∀ j (h : j < ts.length), ∃ x, us[j]? = some x ∧ KidV w P ts[j] x
theorem KindRow.keep {w w' : World} {P : Nat → Prop} {us : List Value} {ts : List K} (hs : Same P w w') (h : KindRow w P us ts) : KindRow w' P us ts :=
  ⟨h.1, fun j hj => by obtain ⟨x, h1, h2⟩ := h.2 j hj; exact ⟨x, h1, h2.keep hs⟩⟩
theorem KindRow.push {w : World} {P : Nat → Prop} {us : List Value} {ts : List K} {u : K} {x : Value} (h : KindRow w P us ts) (hu : KidV w P u x) : KindRow w P (us ++ [x]) (ts ++ [u]) := by
  refine ⟨by rw [List.length_append, List.length_append, h.1]; rfl, fun j hj => ?_⟩
  rcases Nat.lt_or_ge j ts.length with hlt | hge
  · obtain ⟨y, h1, h2⟩ := h.2 j hlt
    refine ⟨y, ?_, ?_⟩
    · rw [List.getElem?_append_left (by rw [h.1]; exact hlt)]; exact h1
    · rw [List.getElem_append_left hlt]; exact h2
  · have e : j = ts.length := by simp at hj; omega
    subst e
    refine ⟨x, ?_, ?_⟩
    · rw [← h.1]; simp
    · rw [List.getElem_append_right (Nat.le_refl _)]
      simpa using hu
/-- an owned row of kinds, read as a slice -/
theorem row_slice {w : World} {P : Nat → Prop} {base : Nat} {v : Value} {us : List Value} {ts : List K} (h : w.ownsRow base 24 1 v ts.length us) (hr : KindRow w P us ts) : KSl w (fun b => P b ∨ From base w b) v ts := by
  have hc : ∀ {g : Nat}, v.ownBlock = some g → ∀ j u, us[j]? = some u → w.cell? ((⟨g, 0, none⟩ : Addr).add j) = some u := fun e => h.cells e
  refine (kidV_iff _ _ _ _).2 ?_
  rcases h.2 with ⟨rfl, h0⟩ | ⟨g, cap, cur, rfl, hbg, hg, hnc, hcm, -, -⟩
  · obtain rfl := List.eq_nil_of_length_eq_zero h0
    exact ⟨none, 0, rfl, Nat.le_refl _, Nat.zero_le _, fun _ => rfl, .inl rfl⟩
  · refine ⟨_, cap, rfl, hnc, hcm, fun h => (by cases h), .inr ⟨g, 0, rfl, .inr ⟨hbg, (h.lt g rfl).2⟩, (kidsK_iff _ _ _ _ _).2 fun j hj => ?_⟩⟩
    obtain ⟨x, hx, hk⟩ := hr.2 j hj
    refine ⟨x, ?_, hk.mono fun b hb => .inl hb⟩
    have := hc rfl j x hx
    by_cases h0 : j = 0
    · subst h0
      simpa [Addr.add] using this
    · simpa [Addr.add, h0] using this
theorem parts_two (a b : K) : K.parts (.mk [a, b]) = a :: K.parts b := by rw [K.parts]
theorem parts_not (l : List K) (h : l.length ≠ 2) : K.parts (.mk l) = [] := by
  rw [K.parts]
  intro a b e
  injection e with e
  subst e
  exact h rfl
theorem depth_two (a b : K) : K.depth b + 1 ≤ K.depth (.mk [a, b]) := by
  rw [K.depth, K.depths, K.depths, K.depths]; omega
set_option maxRecDepth 100000 in
set_option maxHeartbeats 1000000 in
theorem rparts_any (P : Nat → Prop) (t : K) (w : World) (v : Value) (hP : ∀ b, P b → b < w.heap.size) (ht : KV w P t v) (hd : K.depth t ≤ 100000) :
    Calls Try.prog 25 #[v] w fun e w' => (∃ y, e = .returned y ∧ KSl w' (Ext P w w') y (K.parts t)) ∧ Below w.heap.size w w' := by
  obtain ⟨i28, hi0, hz0, hz1, hz2⟩ := info3 infoKind
  obtain ⟨a, c, rfl⟩ := ht.form
  have hk := ht.kid
  clear ht
  generalize t.l.length = n at *
  obtain ⟨hbx, hb⟩ := box_new w 24 (.slice a n c)
  have HT := Lib.hid (hk.keep (Same.of_below hb hP))
  have HP := Lib.hid hP
  obtain ⟨B, hB⟩ : ∃ B, B = w.heap.size := ⟨_, rfl⟩
  rw [← hB] at hbx
  have hsz : (w.alloc (.cells #[.slice a n c] 24)).heap.size = B + 1 := by rw [size_alloc, hB]
  have HB := Lib.hid hb
  have HBX := Lib.hid hbx
  have HBB := Lib.hid hB
  have HSZ := Lib.hid hsz
  clear hbx hb hk hP
  go_enter Try.func25, Try.ntmps25
  go_wp2_with fail
  rw [← hB]
  clear hB hsz
  generalize w.alloc (.cells #[.slice a n c] 24) = w2 at *
  go_loopg [3] (K.depth t + 1) (fun g o wr => ∃ (u : K) (ts : List K) (us : List Value) (b : Option Addr) (m d : Nat), g = K.depth u + 1 ∧ K.parts t = ts ++ K.parts u ∧ ts.length + K.depth u ≤ K.depth t ∧ Blk wr B 24 #[.slice b m d] ∧ KidV wr P u (.slice b m d) ∧ wr.ownsRow (B + 1) 24 1 o ts.length us ∧ KindRow wr P us ts ∧ Below w.heap.size w wr)
  case atStart => exact ⟨t, [], [], a, n, c, rfl, rfl, by simp, HBX.out, HT.out, World.ownsRow_nil _ _ _ _, ⟨rfl, fun j h => absurd h (Nat.not_lt_zero _)⟩, HB.out⟩
  case round =>
    obtain ⟨u, ts, us, b, m, d, hg, hpt, hdd, h0, hk, ho, hr, hbw⟩ := hrel
    have H0 := Lib.hid h0
    have HK := Lib.hid hk
    have HO := Lib.hid ho
    have HR := Lib.hid hr
    have HBW := Lib.hid hbw
    have HPT := Lib.hid hpt
    have c0 := h0.cell 0 (.slice b m d) rfl
    have f0 := h0.thaw 0
    obtain ⟨l⟩ := u
    obtain ⟨b', d', e, hcm⟩ : ∃ b' d', Value.slice b m d = .slice b' l.length d' ∧ l.length ≤ maxLen := by
      obtain ⟨b', d', e, h1, h2, -⟩ := (kidV_iff _ _ _ _).1 hk
      exact ⟨b', d', e, Nat.le_trans h1 h2⟩
    injection e with e1 e2 e3
    subst e1 e3
    by_cases h2 : l.length = 2
    · obtain ⟨x, y, rfl⟩ : ∃ x y, l = [x, y] := by
        match l, h2 with
        | [x, y], _ => exact ⟨x, y, rfl⟩
      obtain rfl : m = 2 := e2
      obtain ⟨a5, c5, e5, -, -, hka⟩ := KSl.each (show KSl wr P (.slice b 2 d) [x, y] from hk)
      injection e5 with e5 e9 e6
      subst e5 e6
      clear e9 h2 hcm
      obtain ⟨b0, o0, rfl, hPb, hke⟩ := kids_each hka (by simp)
      obtain ⟨x0, hx0, hkx⟩ := hke 0 (by simp)
      obtain ⟨y0, hy0, hky⟩ := hke 1 (by simp)
      have hkx : KidV wr P x x0 := hkx
      have hky : KidV wr P y y0 := hky
      obtain ⟨a7, c7, rfl⟩ := hkx.form
      obtain ⟨a8, c8, rfl⟩ := hky.form
      rw [Nat.add_zero] at hx0
      generalize x.l.length = n7 at *
      generalize y.l.length = n8 at *
      have hb0 := HP.out b0 hPb
      have hdp := depth_two x y
      rw [parts_two] at hpt
      have HPT2 := Lib.hid hpt
      obtain ⟨ln, hln⟩ : ∃ ln, ln = ts.length := ⟨_, rfl⟩
      have HLN := Lib.hid hln
      rw [← hln] at hdd
      have hb1 : Below wr.heap.size wr (wr.alloc (.cells #[.slice a7 n7 c7] 24)) := (Below.refl _ _).alloc (Nat.le_refl _) _
      have HROW := Lib.hid (show (wr.alloc (.cells #[.slice a7 n7 c7] 24)).ownsRow (B + 1) 24 1 u3 ln us from by
        rw [hln]
        exact ho.kept (World.grownBy_alloc wr _ none) (by
          cases hq : u3.ownBlock
          · exact .inl rfl
          · exact .inr (by simp)))
      have HOL := Lib.hid (fun k hk => (ho.lt k hk))
      have HB1 := Lib.hid hb1
      have HX := Lib.hid hkx
      have HY := Lib.hid hky
      have HY0 := Lib.hid hy0
      clear hln ho hr hk hka hke hkx hky hb1 hpt hbw h0 HPT
      go_wp2_with (at_builtin; refine wpList_append_lies _ rfl _ _ 22 rfl (B + 1) 24 i28 (.agg #[.slice none 0 0]) 1 24 Try.underlying22 hi0 hz0 hz1 hz2 rfl (by decide) _ _ _ rfl HROW.out ⟨wr.heap.size, 0, none⟩ 1 1 [.slice a7 n7 c7] rfl rfl ?c1 ?c2 (by decide) ?c3 ?c4 ?c5 (wr.heap.size + 1) (by simp) ?_)
      case c1 => exact World.news_of_block (cs := #[.slice a7 n7 c7]) (t := 24) (fr := (0, 0)) (heap_alloc_new wr _)
      case c2 => simp [Value.oneCell']
      case c3 => unfold maxLen; omega
      case c4 => omega
      case c5 => have := H0.out.lt; simp; omega
      intro gg cap w4 hown hgrow hat hlt
      have hol : ∀ k, u3.ownBlock = some k → B + 1 ≤ k := fun k hk => (HOL.out k hk).1
      have h04 : Blk w4 B 24 #[.slice (some ⟨b0, o0, none⟩) 2 d] := blk_grown (H0.out.alloc _) hgrow (fun k hk => by have := hol k hk; omega)
      have hB4 : Below w.heap.size wr w4 := below_grown ((Below.refl _ _).alloc HBW.out.size _) (by have := HBW.out.size; rw [size_alloc]; omega) hgrow (fun k hk => by have := hol k hk; have := HBB.out; omega)
      have y4 := (hB4.cell (p := ⟨b0, o0 + 1, none⟩) hb0).trans HY0.out
      have c4 := h04.cell 0 (.slice (some ⟨b0, o0, none⟩) 2 d) rfl
      have f4 := h04.thaw 0
      have hs4 : Same P wr w4 := Same.of_below hB4 HP.out
      have hset : Same P w4 (w4.setCell ⟨B, 0, none⟩ (.slice a8 n8 c8)) := Same.set _ _ (fun q hq e => by
        have e : q = B := e
        have := HP.out q hq
        have := HBB.out
        omega)
      have HK5 := Lib.hid (show KidV (w4.setCell ⟨B, 0, none⟩ (.slice a8 n8 c8)) P y (.slice a8 n8 c8) from (HY.out.keep hs4).keep hset)
      have HR5 := Lib.hid (show KindRow (w4.setCell ⟨B, 0, none⟩ (.slice a8 n8 c8)) P (us ++ [.slice a7 n7 c7]) (ts ++ [x]) from ((HR.out.keep hs4).push (HX.out.keep hs4)).keep hset)
      have H05 := Lib.hid (blk_one (y := .slice a8 n8 c8) h04)
      have HB5 := Lib.hid (below_set (HBW.out.trans hB4) (show w.heap.size ≤ B by have := HBB.out; omega) (.slice a8 n8 c8))
      have HO5 := Lib.hid (show (w4.setCell ⟨B, 0, none⟩ (.slice a8 n8 c8)).ownsRow (B + 1) 24 1 (.slice (some ⟨gg, 0, none⟩) (ln + 1) cap) (ts ++ [x]).length (us ++ [.slice a7 n7 c7]) from by
        rw [List.length_append, ← HLN.out]
        refine hown.kept (row := some B) ⟨rfl, rfl, rfl, by rw [size_set]; exact Nat.le_refl _, fun k hk hn => Below.heap_setCell w4 ⟨B, 0, none⟩ _ k (fun e => hn (by rw [e]))⟩ (.inr fun e => ?_)
        have := (hown.lt B e).1
        omega)
      have HDP := Lib.hid (show (ts ++ [x]).length + K.depth y ≤ K.depth t from by rw [List.length_append, ← HLN.out]; simp; omega)
      have HPT5 := Lib.hid (show K.parts t = (ts ++ [x]) ++ K.parts y from by rw [HPT2.out, List.append_assoc]; rfl)
      clear hown hgrow hat hlt hol h04 hB4 hs4 hset c0 f0 hx0 hy0
      go_wp2
      go_roundg (K.depth y + 1)
      case measure => omega
      case rel => exact ⟨y, ts ++ [x], us ++ [.slice a7 n7 c7], a8, n8, c8, rfl, HPT5.out, HDP.out, H05.out, HK5.out, HO5.out, HR5.out, HB5.out⟩
    · have q1 : ((m : Int) == 2) = false := by rw [e2]; simp; omega
      have HF := Lib.hid (show K.parts t = ts from by rw [HPT.out, parts_not l h2, List.append_nil])
      have HS := Lib.hid (row_slice ho hr)
      clear ho hr hk hbw h0 hpt
      go_wp2
      go_ret
      refine ⟨⟨_, rfl, ?_⟩, HBW.out⟩
      rw [HF.out]
      refine HS.out.mono fun q h => ?_
      rcases h with h | h
      · exact .inl h
      · exact .inr ⟨by have := h.1; have := HBB.out; omega, h.2⟩
end Go.Proofs.Ythamhgnhdjahgaa
