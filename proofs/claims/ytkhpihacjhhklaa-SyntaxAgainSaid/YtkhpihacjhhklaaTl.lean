/-
  Walks of layer 3: the names of constructors; data types and sharings.
-/
import Derived.Test.YtkhpihacjhhklaaTh
namespace Go.Proofs.Ytkhpihacjhhklaa
open Go Go.RowKit
open Pl (Syn)
set_option linter.unusedSimpArgs false

theorem infoStr : (Try.prog.info? 9).map (fun i => (i.zero, i.size, i.bytes)) = some (some (.string ByteArray.empty), 1, 16) := by kernel_rfl
/-- a row of the call's own that holds these strings is a slice of them -/
theorem strSl_owns {w : World} {base n : Nat} {v : Value} {zs : List ByteArray} (h : w.ownsRow base 9 1 v n (zs.map Value.string)) (hs : ∀ s ∈ zs, s.size ≤ maxLen) : StrSl w (fun b => base ≤ b ∧ b < w.heap.size) v zs := by
  obtain ⟨hlen, hf⟩ := id h
  have hn : zs.length = n := by simpa using hlen
  rcases hf with ⟨rfl, h0⟩ | ⟨g, cap, cur, rfl, hgb, hg, hnc, hm, _, _⟩
  · subst h0
    have : zs = [] := List.eq_nil_of_length_eq_zero hn
    subst this
    exact ⟨none, 0, rfl, Nat.le_refl _, Nat.zero_le _, fun _ => rfl, fun z hz => (by cases hz), .inl rfl⟩
  · have hlt : g < w.heap.size := by
      rcases Nat.lt_or_ge g w.heap.size with hb | hb
      · exact hb
      · have hx : w.heap[g]? = none := by simp; omega
        rw [hx] at hg; cases hg
    refine ⟨some ⟨g, 0, none⟩, cap, by rw [hn], by omega, hm, fun h => (by cases h), hs, .inr ⟨g, 0, rfl, ⟨hgb, hlt⟩, fun j hj => ?_⟩⟩
    rw [Nat.zero_add, h.cellAt j (by omega)]
    simp [hj]
theorem below_append2 {w wr w1 : World} {v : Value} {B n : Nat} {e : TypeId} {xs : List Value} {size : Nat} {o o2 : Obj} (hbr : Below B w wr) (hB : B ≤ wr.heap.size) (hown : wr.ownsRow B e size v n xs) (hg : ((wr.alloc o).alloc o2).grownBy w1 v.ownBlock) : Below B w w1 :=
  ((hbr.alloc hB o).alloc (by simp; omega) o2).grown hg (by simp; omega) (fun j hj => (hown.lt j hj).1)
def nameCells (l : List Syn) : List Value := (l.map Syn.s).map Value.string
set_option maxRecDepth 100000 in
set_option maxHeartbeats 4000000 in
theorem names_any (P : Nat → Prop) (v : Value) (l : List Syn) (w : World) (hP : ∀ b, P b → b < w.heap.size) (h : SynSl w P v l) (hl : l.length ≤ 1073741824) :
    Calls Try.prog 79 #[v] w fun e w' => (∃ u, e = .returned u ∧ StrSl w' (fun b => w.heap.size ≤ b ∧ b < w'.heap.size) u (l.map Syn.s)) ∧ Below w.heap.size w w' := by
  obtain ⟨i9, hi, hz0, hz1, hz2⟩ := info_parts infoStr
  have HBL := Lib.hid (Below.refl w.heap.size w)
  rcases h.cases with ⟨rfl, a, c, rfl, -, -⟩ | ⟨b, off, n, c, rfl, hnl, hn0, hnc, hcm, hPb, hka⟩
  · clear h
    go_enter Try.func79, Try.ntmps79
    go_wp2_with fail
    go_loopg [3, 8] 1 (fun g u v wr => u = .slice none 0 0 ∧ v = .int .i64 0 ∧ wr = w)
    case atStart => exact ⟨rfl, rfl, rfl⟩
    case round =>
      obtain ⟨rfl, rfl, rfl⟩ := hrel
      go_wp2
      go_ret
      exact ⟨⟨_, rfl, strSl_owns (n := 0) (zs := []) (World.ownsRow_nil _ _ _ _) (fun s hs => (by cases hs))⟩, HBL.out⟩
  · unfold maxLen at hcm
    have HNL := Lib.hid hnl
    have HKA := Lib.hid hka
    have HP := Lib.hid hP
    have HPB := Lib.hid hPb
    have HSS := Lib.hid (show ∀ s ∈ l.map Syn.s, s.size ≤ maxLen from fun s hs => by
      rw [List.mem_map] at hs
      obtain ⟨t, ht, rfl⟩ := hs
      obtain ⟨k, hk, rfl⟩ := List.getElem_of_mem ht
      obtain ⟨x, _, hx⟩ := (kidsAt_iff _ _ _ _ _).1 hka k hk
      rw [synV_iff] at hx
      exact hx.1)
    rw [hnl] at hl
    clear h hnl hka hP hPb
    go_enter Try.func79, Try.ntmps79
    go_wp2_with fail
    go_loopg [3, 8] (n + 1) (fun g u v wr => ∃ k : Nat, k ≤ n ∧ v = .int .i64 k ∧ g = n + 1 - k ∧ Below w.heap.size w wr ∧ wr.ownsRow w.heap.size 9 1 u k (nameCells (l.take k)))
    case atStart => exact ⟨0, by omega, rfl, by omega, HBL.out, by rw [List.take_zero]; exact World.ownsRow_nil _ _ _ _⟩
    case round =>
      rename_i u _
      obtain ⟨k, hk, rfl, hg, hbw, hown⟩ := hrel
      have HBW := Lib.hid hbw
      have hsz := hbw.size
      by_cases hlt : k < n
      · have hkl : k < l.length := by rw [HNL.out]; exact hlt
        obtain ⟨xo, xn, xs, na, nn, nc, la, ln, lc, -, a0, a1, a2, a3, a4, hxs⟩ := (HKA.out.keep (Same.of_below hbw HP.out) HPB.out).part k hkl
        have HXS := Lib.hid (show l[k].s = xs from by
          rw [synV_iff] at hxs
          obtain ⟨_, _, _, e, _⟩ := hxs
          injection e with e
          injection e with e
          injection e with _ e
          injection e with _ e
          injection e with e _
          injection e with e
          exact e.symm)
        have bx := (blk_new wr #[.int .i64 xo, .int .i64 xn, .string xs, .slice na nn nc, .slice la ln lc] 25)
        have d2 := bx.cell 2 _ rfl
        have HTK := Lib.hid (show nameCells (l.take (k + 1)) = nameCells (l.take k) ++ [.string xs] from by
          unfold nameCells
          rw [List.take_succ_eq_append_getElem hkl, List.map_append, List.map_append, ← HXS.out]; rfl)
        have HOWN := Lib.hid hown
        clear hbw hxs bx hown
        go_wp2_with (at_builtin; refine wpList_append_own _ rfl _ _ 22 rfl w.heap.size 9 i9 (.string ByteArray.empty) 1 16 Try.underlying22 hi hz0 hz1 hz2 rfl (by decide) _ _ _ rfl ((HOWN.out.alloc _).alloc _) ⟨wr.heap.size + 1, 0, none⟩ 1 1 [.string xs] rfl rfl ?c1 ?c2 ?c3 ?c4 ?c5 ?_)
        case c1 =>
          intro j u hj
          match j, hj with
          | 0, hj =>
            simp at hj; subst hj
            have := blk_new (wr.alloc (.cells #[.int .i64 xo, .int .i64 xn, .string xs, .slice na nn nc, .slice la ln lc] 25)) #[.string xs] 9
            rw [size_alloc] at this
            exact this.cell 0 _ rfl
        case c2 => intro u hu; simp at hu; subst hu; rfl
        case c3 => unfold maxLen; omega
        case c4 => omega
        case c5 => simp; omega
        intro v' w1 hown' hgrow _
        have HB1 := Lib.hid (below_append2 HBW.out hsz HOWN.out hgrow)
        have HO1 := Lib.hid hown'
        clear hown' hgrow a0 a1 a2 a3 a4 d2
        go_wp2
        go_roundg (gk - 1)
        case measure => omega
        case rel => exact ⟨k + 1, by omega, by go_num, by omega, HB1.out, by rw [HTK.out]; exact HO1.out⟩
      · have HT := Lib.hid (show l.take k = l from List.take_of_length_le (by rw [HNL.out]; omega))
        have HOWN := Lib.hid hown
        clear hbw hown
        go_wp2
        go_ret
        have := HOWN.out
        rw [HT.out] at this
        exact ⟨⟨_, rfl, strSl_owns this HSS.out⟩, HBW.out⟩
end Go.Proofs.Ytkhpihacjhhklaa
