/-
  Walks and plain mathematics, several texts in one (Tl Tm Tn To Sp St Sc).
-/
import Derived.Test.YtjedahcpkcgpeaaGreatDoorH24
import Derived.Test.YtjedahcpkcgpeaaGreatDoorH23
import Derived.Test.YtjedahcpkcgpeaaGreatDoorH25
import Derived.Test.YtjedahcpkcgpeaaGreatDoorH22
/-
  Walks of layer 3: the names of constructors; data types and sharings.
-/
namespace Go.Proofs.YtjedahcpkcgpeaaGreatDoor
open Go Go.RowKit
open Pl (Syn)
set_option linter.unusedSimpArgs false
theorem infoStr : (Tryz.prog.info? 9).map (fun i => (i.zero, i.size, i.bytes)) = some (some (.string ByteArray.empty), 1, 16) := by kernel_rfl
theorem strSl_owns {w : World} {base n : Nat} {v : Value} {zs : List ByteArray} (h : w.ownsRow base 9 1 v n (zs.map Value.string)) (hs : ∀ s ∈ zs, s.size ≤ maxLen) : StrSl w (fun b => base ≤ b ∧ b < w.heap.size) v zs := by
  obtain ⟨hlen, hf⟩ := id h
  have hn : zs.length = n := by simpa using hlen
  rcases hf with ⟨rfl, h0⟩ | ⟨g, cap, cur, rfl, hgb, hg, hnc, hm, _, _⟩
  · subst h0
    have : zs = [] := List.eq_nil_of_length_eq_zero hn
    subst this
    exact ⟨none, 0, rfl, Nat.le_refl _, Nat.zero_le _, fun _ => rfl, fun z hz => (by cases hz), .inl rfl⟩
  · have hlt : g < w.heap.size := by
      rcases Nat.lt_or_ge g w.heap.size with hb | hb
      · exact hb
      · have hx : w.heap[g]? = none := by simp; omega
        rw [hx] at hg; cases hg
    refine ⟨some ⟨g, 0, none⟩, cap, by rw [hn], by omega, hm, fun h => (by cases h), hs, .inr ⟨g, 0, rfl, ⟨hgb, hlt⟩, fun j hj => ?_⟩⟩
    rw [Nat.zero_add, h.cellAt j (by omega)]
    simp [hj]
theorem below_append2 {w wr w1 : World} {v : Value} {B n : Nat} {e : TypeId} {xs : List Value} {size : Nat} {o o2 : Obj} (hbr : Below B w wr) (hB : B ≤ wr.heap.size) (hown : wr.ownsRow B e size v n xs) (hg : ((wr.alloc o).alloc o2).grownBy w1 v.ownBlock) : Below B w w1 :=
  ((hbr.alloc hB o).alloc (by simp; omega) o2).grown hg (by simp; omega) (fun j hj => (hown.lt j hj).1)
def nameCells (l : List Syn) : List Value := (l.map Syn.s).map Value.string
set_option maxRecDepth 100000 in
set_option maxHeartbeats 4000000 in
theorem names_any (P : Nat → Prop) (v : Value) (l : List Syn) (w : World) (hP : ∀ b, P b → b < w.heap.size) (h : SynSl w P v l) (hl : l.length ≤ 1073741824) :
    Calls Tryz.prog 134 #[v] w fun e w' => (∃ u, e = .returned u ∧ StrSl w' (fun b => w.heap.size ≤ b ∧ b < w'.heap.size) u (l.map Syn.s)) ∧ Below w.heap.size w w' := by
  obtain ⟨i9, hi, hz0, hz1, hz2⟩ := info_parts infoStr
  have HBL := Lib.hid (Below.refl w.heap.size w)
  rcases h.cases with ⟨rfl, a, c, rfl, -, -⟩ | ⟨b, off, n, c, rfl, hnl, hn0, hnc, hcm, hPb, hka⟩
  · clear h
    go_enter Tryz.func134, Tryz.ntmps134
    go_wp2_with fail
    go_loopg [3, 8] 1 (fun g u v wr => u = .slice none 0 0 ∧ v = .int .i64 0 ∧ wr = w)
    case atStart => exact ⟨rfl, rfl, rfl⟩
    case round =>
      obtain ⟨rfl, rfl, rfl⟩ := hrel
      go_wp2
      go_ret
      exact ⟨⟨_, rfl, strSl_owns (n := 0) (zs := []) (World.ownsRow_nil _ _ _ _) (fun s hs => (by cases hs))⟩, HBL.out⟩
  · unfold maxLen at hcm
    have HNL := Lib.hid hnl
    have HKA := Lib.hid hka
    have HP := Lib.hid hP
    have HPB := Lib.hid hPb
    have HSS := Lib.hid (show ∀ s ∈ l.map Syn.s, s.size ≤ maxLen from fun s hs => by
      rw [List.mem_map] at hs
      obtain ⟨t, ht, rfl⟩ := hs
      obtain ⟨k, hk, rfl⟩ := List.getElem_of_mem ht
      obtain ⟨x, _, hx⟩ := (kidsAt_iff _ _ _ _ _).1 hka k hk
      rw [synV_iff] at hx
      exact hx.1)
    rw [hnl] at hl
    clear h hnl hka hP hPb
    go_enter Tryz.func134, Tryz.ntmps134
    go_wp2_with fail
    go_loopg [3, 8] (n + 1) (fun g u v wr => ∃ k : Nat, k ≤ n ∧ v = .int .i64 k ∧ g = n + 1 - k ∧ Below w.heap.size w wr ∧ wr.ownsRow w.heap.size 9 1 u k (nameCells (l.take k)))
    case atStart => exact ⟨0, by omega, rfl, by omega, HBL.out, by rw [List.take_zero]; exact World.ownsRow_nil _ _ _ _⟩
    case round =>
      rename_i u _
      obtain ⟨k, hk, rfl, hg, hbw, hown⟩ := hrel
      have HBW := Lib.hid hbw
      have hsz := hbw.size
      by_cases hlt : k < n
      · have hkl : k < l.length := by rw [HNL.out]; exact hlt
        obtain ⟨xo, xn, xs, na, nn, nc, la, ln, lc, -, a0, a1, a2, a3, a4, hxs⟩ := (HKA.out.keep (Same.of_below hbw HP.out) HPB.out).part k hkl
        have HXS := Lib.hid (show l[k].s = xs from by
          rw [synV_iff] at hxs
          obtain ⟨_, _, _, e, _⟩ := hxs
          injection e with e
          injection e with e
          injection e with _ e
          injection e with _ e
          injection e with e _
          injection e with e
          exact e.symm)
        have bx := (blk_new wr #[.int .i64 xo, .int .i64 xn, .string xs, .slice na nn nc, .slice la ln lc] 27)
        have d2 := bx.cell 2 _ rfl
        have HTK := Lib.hid (show nameCells (l.take (k + 1)) = nameCells (l.take k) ++ [.string xs] from by
          unfold nameCells
          rw [List.take_succ_eq_append_getElem hkl, List.map_append, List.map_append, ← HXS.out]; rfl)
        have HOWN := Lib.hid hown
        clear hbw hxs bx hown
        go_wp2_with (at_builtin; refine wpList_append_own _ rfl _ _ 24 rfl w.heap.size 9 i9 (.string ByteArray.empty) 1 16 Tryz.underlying24 hi hz0 hz1 hz2 rfl (by decide) _ _ _ rfl ((HOWN.out.alloc _).alloc _) ⟨wr.heap.size + 1, 0, none⟩ 1 1 [.string xs] rfl rfl ?c1 ?c2 ?c3 ?c4 ?c5 ?_)
        case c1 =>
          intro j u hj
          match j, hj with
          | 0, hj =>
            simp at hj; subst hj
            have := blk_new (wr.alloc (.cells #[.int .i64 xo, .int .i64 xn, .string xs, .slice na nn nc, .slice la ln lc] 27)) #[.string xs] 9
            rw [size_alloc] at this
            exact this.cell 0 _ rfl
        case c2 => intro u hu; simp at hu; subst hu; rfl
        case c3 => unfold maxLen; omega
        case c4 => omega
        case c5 => simp; omega
        intro v' w1 hown' hgrow _
        have HB1 := Lib.hid (below_append2 HBW.out hsz HOWN.out hgrow)
        have HO1 := Lib.hid hown'
        clear hown' hgrow a0 a1 a2 a3 a4 d2
        go_wp2
        go_roundg (gk - 1)
        case measure => omega
        case rel => exact ⟨k + 1, by omega, by go_num, by omega, HB1.out, by rw [HTK.out]; exact HO1.out⟩
      · have HT := Lib.hid (show l.take k = l from List.take_of_length_le (by rw [HNL.out]; omega))
        have HOWN := Lib.hid hown
        clear hbw hown
        go_wp2
        go_ret
        have := HOWN.out
        rw [HT.out] at this
        exact ⟨⟨_, rfl, strSl_owns this HSS.out⟩, HBW.out⟩
end Go.Proofs.YtjedahcpkcgpeaaGreatDoor

/-
  Walks of layer 3: the parts of a node, fifth.
-/
namespace Go.Proofs.YtjedahcpkcgpeaaGreatDoor
open Go Go.RowKit
open Pl (Syn)
set_option linter.unusedSimpArgs false
set_option maxRecDepth 100000 in
set_option maxHeartbeats 4000000 in
theorem modl_44 (P : Nat → Prop) (n : Int) (s : ByteArray) (nv lv : Value) (l : List Syn) (w : World) (hP : ∀ b, P b → b < w.heap.size) (h : SynSl w P lv l) (hbig : l.length ≤ 1073741824) :
    Calls Tryz.prog 100 #[.agg #[.int .i64 44, .int .i64 n, .string s, nv, lv]] w fun e w' => e = .returned (.bool (decide (0 < l.length) && Pl.kinds l [45] && Pl.noTwin (l.map Syn.s))) ∧ Below w.heap.size w w' := by
  have h0 := h
  obtain ⟨la, lc, rfl, hm⟩ := h0.form
  unfold maxLen at hm
  have HL := Lib.hid (fun W (hW : Below w.heap.size w W) => h.keep (Same.of_below hW hP))
  have HPW := Lib.hid (fun W (hW : Below w.heap.size w W) b (hb : P b) => Nat.lt_of_lt_of_le (hP b hb) hW.size)
  generalize hln : l.length = ln at *
  have HLN := Lib.hid hln
  have hb : Below w.heap.size w (w.alloc (.cells #[.int .i64 44, .int .i64 n, .string s, nv, .slice la ln lc] 27)) := (Below.refl _ _).alloc (Nat.le_refl _) _
  have HB := Lib.hid hb
  have hi := intSl_1 (w.alloc (.cells #[.int .i64 44, .int .i64 n, .string s, nv, .slice la ln lc] 27)) 45 1
  rw [size_alloc] at hi
  have HI := Lib.hid hi
  have hb2 : Below w.heap.size w ((w.alloc (.cells #[.int .i64 44, .int .i64 n, .string s, nv, .slice la ln lc] 27)).alloc (.cells #[.int .i64 45] 3)) := ((Below.refl _ _).alloc (Nat.le_refl _) _).alloc (by simp) _
  have HB2 := Lib.hid hb2
  clear hi hb2
  have HA := Lib.hid (areKinds_any P _ _ l [45] _ (HPW.out _ HB2.out) (HL.out _ HB2.out) HI.out)
  have HN := Lib.hid (fun W h1 h2 => names_any P (.slice la ln lc) l W h1 h2 (by omega))
  generalize Pl.kinds l [45] = r at *
  clear h h0 hb hP hln
  by_cases h0 : 0 < ln
  · have q : decide ((0 : Int) < (ln : Int)) = true := by simp; omega
    cases r
    · go_enter Tryz.func100, Tryz.ntmps100
      go_wp2_with fail
      refine HA.out.mono ?_
      rintro e w2 ⟨rfl, hb3⟩
      have HB3 := Lib.hid (HB2.out.trans (hb3.mono HB2.out.size))
      clear hb3
      go_wp2
      go_ret
      exact ⟨ret_bool (by simp), HB3.out⟩
    · go_enter Tryz.func100, Tryz.ntmps100
      go_wp2_with fail
      refine HA.out.mono ?_
      rintro e w2 ⟨rfl, hb3⟩
      have HB3 := Lib.hid (HB2.out.trans (hb3.mono HB2.out.size))
      clear hb3
      go_wp2_with fail
      refine (HN.out _ (HPW.out _ HB3.out) (HL.out _ HB3.out)).mono ?_
      rintro e w3 ⟨⟨u, rfl, hu⟩, hb4⟩
      have HB4 := Lib.hid (HB3.out.trans (hb4.mono HB3.out.size))
      have HD := Lib.hid (differ_any _ u _ w3 (fun b hb => hb.2) hu)
      clear hb4 hu
      generalize hrd : Pl.noTwin (l.map Syn.s) = rd at *
      have HRD := Lib.hid hrd
      clear hrd
      go_wp2_with fail
      refine HD.out.mono ?_
      rintro e w4 ⟨rfl, hb5⟩
      have HB5 := Lib.hid (HB4.out.trans (hb5.mono HB4.out.size))
      clear hb5
      go_wp2
      go_ret
      exact ⟨ret_bool (by rw [decide_eq_true h0, HRD.out]; rfl), HB5.out⟩
  · obtain rfl : ln = 0 := by omega
    go_enter Tryz.func100, Tryz.ntmps100
    go_wp2
    go_ret
    exact ⟨ret_bool (by simp), HB.out⟩
theorem getD_get (l : List Syn) (j : Nat) (h : j < l.length) : l.getD j Pl.none0 = l[j] := by simp [List.getD, h]
theorem synV_len {w : World} {P : Nat → Prop} {t : Syn} {a b : Value} {la : Option Addr} {ln lc : Nat} {s : ByteArray} {nv : Value} (h : SynV w P t (.agg #[a, b, .string s, nv, .slice la ln lc])) : t.l.length = ln ∧ ln ≤ maxLen := by
  rw [synV_iff] at h
  obtain ⟨_, nv', lv', e, _, ⟨a', c', e2, h2, h3, _⟩⟩ := h
  injection e with e
  injection e with e
  injection e with _ e
  injection e with _ e
  injection e with _ e
  injection e with _ e
  injection e with e _
  rw [e2] at e
  injection e with e1 e3 e4
  exact ⟨e3.symm, by omega⟩
set_option maxRecDepth 100000 in
set_option maxHeartbeats 4000000 in
theorem modl_66 (P : Nat → Prop) (n : Int) (s : ByteArray) (nv lv : Value) (l : List Syn) (w : World) (hP : ∀ b, P b → b < w.heap.size) (h : SynSl w P lv l) :
    Calls Tryz.prog 100 #[.agg #[.int .i64 66, .int .i64 n, .string s, nv, lv]] w fun e w' => e = .returned (.bool (Pl.parts l [1] && decide (Pl.opAt l 0 = 2) && decide ((l.getD 0 Pl.none0).l.length = 0))) ∧ Below w.heap.size w w' := by
  have h0 := h
  obtain ⟨la, lc, rfl, hm⟩ := h0.form
  unfold maxLen at hm
  have HL := Lib.hid (fun W (hW : Below w.heap.size w W) => h.keep (Same.of_below hW hP))
  have HPW := Lib.hid (fun W (hW : Below w.heap.size w W) b (hb : P b) => Nat.lt_of_lt_of_le (hP b hb) hW.size)
  generalize hln : l.length = ln at *
  have HLN := Lib.hid hln
  have hb : Below w.heap.size w (w.alloc (.cells #[.int .i64 66, .int .i64 n, .string s, nv, .slice la ln lc] 27)) := (Below.refl _ _).alloc (Nat.le_refl _) _
  have HB := Lib.hid hb
  have hi := intSl_1 (w.alloc (.cells #[.int .i64 66, .int .i64 n, .string s, nv, .slice la ln lc] 27)) 1 1
  rw [size_alloc] at hi
  have HI := Lib.hid hi
  have hb2 : Below w.heap.size w ((w.alloc (.cells #[.int .i64 66, .int .i64 n, .string s, nv, .slice la ln lc] 27)).alloc (.cells #[.int .i64 1] 3)) := ((Below.refl _ _).alloc (Nat.le_refl _) _).alloc (by simp) _
  have HB2 := Lib.hid hb2
  clear hi hb2
  have HA := Lib.hid (areParts_any P _ _ l _ _ (HL.out _ HB2.out) HI.out)
  by_cases hp : Pl.parts l [1] = true
  · have hlen : l.length = 1 := parts_true_len l _ hp
    rcases h.cases with ⟨rfl, _⟩ | ⟨b, off, n', c', hv, hnl, hn0, hnc, hcm, hPb, hka⟩
    · simp at hlen
    · injection hv with hv1 hv2 hv3
      subst hv1 hv2 hv3
      have hl2 : ln = 1 := by omega
      subst hl2
      obtain ⟨xo, xn, xs, na, nn, nc, la, ln, lc', hxo, a0, -, -, -, a4, hx0⟩ := (hka.keep (Same.of_below HB2.out hP) hPb).part 0 (by omega)
      simp only [Nat.zero_mul, Nat.one_mul, Nat.add_zero] at a0 a4
      obtain ⟨hlk, hlm⟩ := synV_len hx0
      have HK := Lib.hid (show decide ((l.getD 0 Pl.none0).l.length = 0) = decide (ln = 0) from by rw [getD_get l 0 (by omega), hlk])
      unfold maxLen at hlm
      clear hlk hx0
      have HO := Lib.hid ((opAt_get l 0 (by omega)).trans hxo)
      have HPT := Lib.hid hp
      rw [hp] at HA
      clear h h0 hb hP hln hka hxo hlen
      have HD := Lib.hid (show ∀ b : Bool, b = (true && decide (xo = 2) && decide (ln = 0)) → b = (Pl.parts l [1] && decide (Pl.opAt l 0 = 2) && decide ((l.getD 0 Pl.none0).l.length = 0)) from fun b hb => by rw [hb, HPT.out, HO.out, HK.out])
      generalize (Pl.parts l [1] && decide (Pl.opAt l 0 = 2) && decide ((l.getD 0 Pl.none0).l.length = 0)) = rr at *
      by_cases hx2 : xo = 2
      · have q : (xo == 2) = true := beq_iff_eq.2 hx2
        have HX2 := Lib.hid hx2
        clear hx2
        go_enter Tryz.func100, Tryz.ntmps100
        go_wp2_with fail
        refine HA.out.mono ?_
        rintro e w2 ⟨rfl, rfl⟩
        go_wp2
        go_ret
        exact ⟨ret_bool (HD.out _ (by rw [decide_eq_true HX2.out]; first | rfl | (rw [Bool.eq_iff_iff]; simp; omega) | (rw [Bool.eq_iff_iff]; simp))), HB2.out⟩
      · have q : (xo == 2) = false := beq_eq_false_iff_ne.2 hx2
        have HX2 := Lib.hid hx2
        clear hx2
        go_enter Tryz.func100, Tryz.ntmps100
        go_wp2_with fail
        refine HA.out.mono ?_
        rintro e w2 ⟨rfl, rfl⟩
        go_wp2
        go_ret
        exact ⟨ret_bool (HD.out _ (by rw [decide_eq_false HX2.out]; rfl)), HB2.out⟩
  · have hp' : Pl.parts l [1] = false := by simpa using hp
    have HPT := Lib.hid hp'
    rw [hp'] at HA
    clear h h0 hb hP hln hp hp'
    go_enter Tryz.func100, Tryz.ntmps100
    go_wp2_with fail
    refine HA.out.mono ?_
    rintro e w2 ⟨rfl, rfl⟩
    go_wp2
    go_ret
    exact ⟨ret_bool (by rw [HPT.out]; rfl), HB2.out⟩
set_option maxRecDepth 100000 in
set_option maxHeartbeats 4000000 in
theorem core_29 (P : Nat → Prop) (n : Int) (s : ByteArray) (nv lv : Value) (l : List Syn) (w : World) (hP : ∀ b, P b → b < w.heap.size) (h : SynSl w P lv l) :
    Calls Tryz.prog 99 #[.agg #[.int .i64 29, .int .i64 n, .string s, nv, lv]] w fun e w' => e = .returned (.bool (decide (1 < l.length) && Pl.parts (l.take 1) [3] && Pl.kinds (l.drop 1) [30])) ∧ Below w.heap.size w w' := by
  have h0 := h
  obtain ⟨la, lc, rfl, hm⟩ := h0.form
  unfold maxLen at hm
  have HL := Lib.hid (fun W (hW : Below w.heap.size w W) => h.keep (Same.of_below hW hP))
  have HPW := Lib.hid (fun W (hW : Below w.heap.size w W) b (hb : P b) => Nat.lt_of_lt_of_le (hP b hb) hW.size)
  generalize hln : l.length = ln at *
  have HLN := Lib.hid hln
  have hb : Below w.heap.size w (w.alloc (.cells #[.int .i64 29, .int .i64 n, .string s, nv, .slice la ln lc] 27)) := (Below.refl _ _).alloc (Nat.le_refl _) _
  have HB := Lib.hid hb
  have hi := intSl_1 (w.alloc (.cells #[.int .i64 29, .int .i64 n, .string s, nv, .slice la ln lc] 27)) 3 1
  rw [size_alloc] at hi
  have HI := Lib.hid hi
  have hb2 : Below w.heap.size w ((w.alloc (.cells #[.int .i64 29, .int .i64 n, .string s, nv, .slice la ln lc] 27)).alloc (.cells #[.int .i64 3] 3)) := ((Below.refl _ _).alloc (Nat.le_refl _) _).alloc (by simp) _
  have HB2 := Lib.hid hb2
  clear hi hb2
  by_cases h1 : 1 < ln
  · have q : decide ((1 : Int) < (ln : Int)) = true := by simp; omega
    rcases h.cases with ⟨rfl, _⟩ | ⟨b, off, n', c', hv, hnl, hn0, hnc, hcm, hPb, hka⟩
    · simp at hln; omega
    · injection hv with hv1 hv2 hv3
      subst hv1 hv2 hv3
      unfold maxLen at hcm
      have HA := Lib.hid (areParts_any P _ _ (l.take 1) _ _ ((HL.out _ HB2.out).sub 1 (by omega)) HI.out)
      have hi2 := intSl_1 ((w.alloc (.cells #[.int .i64 29, .int .i64 n, .string s, nv, .slice (some ⟨b, off, none⟩) ln lc] 27)).alloc (.cells #[.int .i64 3] 3)) 30 1
      rw [size_alloc, size_alloc] at hi2
      have hb3 : Below w.heap.size w (((w.alloc (.cells #[.int .i64 29, .int .i64 n, .string s, nv, .slice (some ⟨b, off, none⟩) ln lc] 27)).alloc (.cells #[.int .i64 3] 3)).alloc (.cells #[.int .i64 30] 3)) := (((Below.refl _ _).alloc (Nat.le_refl _) _).alloc (by simp) _).alloc (by simp; omega) _
      have HB3 := Lib.hid hb3
      have HK := Lib.hid (areKinds_any P _ _ (l.drop 1) [30] _ (HPW.out _ HB3.out) ((HL.out _ HB3.out).rest 1 (by omega)) hi2)
      have HD := Lib.hid (show (decide (1 < ln) && Pl.parts (l.take 1) [3] && Pl.kinds (l.drop 1) [30]) = (Pl.parts (l.take 1) [3] && Pl.kinds (l.drop 1) [30]) from by rw [decide_eq_true (by omega)]; rfl)
      generalize (decide (1 < ln) && Pl.parts (l.take 1) [3] && Pl.kinds (l.drop 1) [30]) = rr at *
      generalize Pl.parts (l.take 1) [3] = r1 at *
      generalize Pl.kinds (l.drop 1) [30] = r2 at *
      clear h h0 hb hP hln hka hi2 hb3
      rw [Nat.one_mul] at HK
      cases r1
      · go_enter Tryz.func99, Tryz.ntmps99
        go_wp2_with fail
        refine HA.out.mono ?_
        rintro e w2 ⟨rfl, rfl⟩
        go_wp2
        go_ret
        exact ⟨ret_bool (by rw [HD.out]; rfl), HB2.out⟩
      · go_enter Tryz.func99, Tryz.ntmps99
        go_wp2_with fail
        refine HA.out.mono ?_
        rintro e w2 ⟨rfl, rfl⟩
        go_wp2_with fail
        refine HK.out.mono ?_
        rintro e w3 ⟨rfl, hb4⟩
        have HB4 := Lib.hid (HB3.out.trans (hb4.mono HB3.out.size))
        clear hb4
        go_wp2
        go_ret
        exact ⟨ret_bool (by rw [HD.out]; rfl), HB4.out⟩
  · have q : decide ((1 : Int) < (ln : Int)) = false := by simp; omega
    have HD := Lib.hid (show (decide (1 < ln) && Pl.parts (l.take 1) [3] && Pl.kinds (l.drop 1) [30]) = false from by rw [decide_eq_false (by omega)]; rfl)
    generalize (decide (1 < ln) && Pl.parts (l.take 1) [3] && Pl.kinds (l.drop 1) [30]) = rr at *
    clear h h0 hb hP hln
    go_enter Tryz.func99, Tryz.ntmps99
    go_wp2
    go_ret
    exact ⟨ret_bool HD.out.symm, HB.out⟩
end Go.Proofs.YtjedahcpkcgpeaaGreatDoor

/-
  Walks of layer 3: the parts of a node, sixth.
-/
namespace Go.Proofs.YtjedahcpkcgpeaaGreatDoor
open Go Go.RowKit
open Pl (Syn)
set_option linter.unusedSimpArgs false
set_option maxRecDepth 100000 in
set_option maxHeartbeats 4000000 in
theorem core_31 (P : Nat → Prop) (n : Int) (s : ByteArray) (nv lv : Value) (l : List Syn) (w : World) (hP : ∀ b, P b → b < w.heap.size) (h : SynSl w P lv l) :
    Calls Tryz.prog 99 #[.agg #[.int .i64 31, .int .i64 n, .string s, nv, lv]] w fun e w' => e = .returned (.bool (decide (1 ≤ l.length) && Pl.kinds (l.take (l.length - 1)) [41, 42, 50] && Pl.parts (l.drop (l.length - 1)) [3])) ∧ Below w.heap.size w w' := by
  have h0 := h
  obtain ⟨la, lc, rfl, hm⟩ := h0.form
  unfold maxLen at hm
  have HL := Lib.hid (fun W (hW : Below w.heap.size w W) => h.keep (Same.of_below hW hP))
  have HPW := Lib.hid (fun W (hW : Below w.heap.size w W) b (hb : P b) => Nat.lt_of_lt_of_le (hP b hb) hW.size)
  generalize hln : l.length = ln at *
  have HLN := Lib.hid hln
  have hb : Below w.heap.size w (w.alloc (.cells #[.int .i64 31, .int .i64 n, .string s, nv, .slice la ln lc] 27)) := (Below.refl _ _).alloc (Nat.le_refl _) _
  have HB := Lib.hid hb
  by_cases h1 : 1 ≤ ln
  · rcases h.cases with ⟨rfl, _⟩ | ⟨b, off, n', c', hv, hnl, hn0, hnc, hcm, hPb, hka⟩
    · simp at hln; omega
    · injection hv with hv1 hv2 hv3
      subst hv1 hv2 hv3
      unfold maxLen at hcm
      obtain ⟨m, rfl⟩ : ∃ m, ln = m + 1 := ⟨ln - 1, by omega⟩
      have hi := intSl_3 (w.alloc (.cells #[.int .i64 31, .int .i64 n, .string s, nv, .slice (some ⟨b, off, none⟩) (m + 1) lc] 27)) 41 42 50 3
      rw [size_alloc] at hi
      have hb2 : Below w.heap.size w ((w.alloc (.cells #[.int .i64 31, .int .i64 n, .string s, nv, .slice (some ⟨b, off, none⟩) (m + 1) lc] 27)).alloc (.cells #[.int .i64 41, .int .i64 42, .int .i64 50] 3)) := ((Below.refl _ _).alloc (Nat.le_refl _) _).alloc (by simp) _
      have HB2 := Lib.hid hb2
      have HK := Lib.hid (areKinds_any P _ _ (l.take m) [41, 42, 50] _ (HPW.out _ HB2.out) ((HL.out _ HB2.out).sub m (by omega)) hi)
      clear hi hb2
      have HQ := Lib.hid (fun W (hW : Below w.heap.size w W) => areParts_any P _ _ (l.drop m) [3] _ ((HL.out _ (hW.trans (((Below.refl W.heap.size W).alloc (Nat.le_refl _) (.cells #[.int .i64 3] 3)).mono hW.size))).rest m (by omega)) (intSl_1 W 3 1))
      have HD := Lib.hid (show (decide (1 ≤ m + 1) && Pl.kinds (l.take (m + 1 - 1)) [41, 42, 50] && Pl.parts (l.drop (m + 1 - 1)) [3]) = (Pl.kinds (l.take m) [41, 42, 50] && Pl.parts (l.drop m) [3]) from by rw [decide_eq_true (by omega), Nat.add_sub_cancel]; rfl)
      generalize (decide (1 ≤ m + 1) && Pl.kinds (l.take (m + 1 - 1)) [41, 42, 50] && Pl.parts (l.drop (m + 1 - 1)) [3]) = rr at *
      generalize Pl.kinds (l.take m) [41, 42, 50] = r1 at *
      generalize Pl.parts (l.drop m) [3] = r2 at *
      clear h h0 hb hP hln hka
      cases r1
      · go_enter Tryz.func99, Tryz.ntmps99
        go_wp2_with fail
        refine HK.out.mono ?_
        rintro e w2 ⟨rfl, hb4⟩
        have HB4 := Lib.hid (HB2.out.trans (hb4.mono HB2.out.size))
        clear hb4
        go_wp2
        go_ret
        exact ⟨ret_bool (by rw [HD.out]; rfl), HB4.out⟩
      · go_enter Tryz.func99, Tryz.ntmps99
        go_wp2_with fail
        refine HK.out.mono ?_
        rintro e w2 ⟨rfl, hb4⟩
        have HB4 := Lib.hid (HB2.out.trans (hb4.mono HB2.out.size))
        clear hb4
        have hq := HQ.out _ HB4.out
        rw [Nat.add_sub_cancel_left] at hq
        have HQ2 := Lib.hid hq
        clear hq
        have HB5 := Lib.hid (HB4.out.trans (((Below.refl w2.heap.size w2).alloc (Nat.le_refl _) (.cells #[.int .i64 3] 3)).mono HB4.out.size))
        go_wp2_with fail
        refine HQ2.out.mono ?_
        rintro e w3 ⟨rfl, rfl⟩
        go_wp2
        go_ret
        exact ⟨ret_bool (by rw [HD.out]; rfl), HB5.out⟩
  · obtain rfl : ln = 0 := by omega
    have HD := Lib.hid (show (decide (1 ≤ 0) && Pl.kinds (l.take (0 - 1)) [41, 42, 50] && Pl.parts (l.drop (0 - 1)) [3]) = false from by simp)
    generalize (decide (1 ≤ 0) && Pl.kinds (l.take (0 - 1)) [41, 42, 50] && Pl.parts (l.drop (0 - 1)) [3]) = rr at *
    clear h h0 hb hP hln
    go_enter Tryz.func99, Tryz.ntmps99
    go_wp2
    go_ret
    exact ⟨ret_bool HD.out.symm, HB.out⟩
set_option maxRecDepth 100000 in
set_option maxHeartbeats 4000000 in
theorem modl_87 (P : Nat → Prop) (n : Int) (s : ByteArray) (nv lv : Value) (l : List Syn) (w : World) (hP : ∀ b, P b → b < w.heap.size) (h : SynSl w P lv l) :
    Calls Tryz.prog 100 #[.agg #[.int .i64 87, .int .i64 n, .string s, nv, lv]] w fun e w' => e = .returned (.bool (decide (1 ≤ l.length) && Pl.allOf (l.take (l.length - 1)) 4 && Pl.parts (l.drop (l.length - 1)) [7])) ∧ Below w.heap.size w w' := by
  have h0 := h
  obtain ⟨la, lc, rfl, hm⟩ := h0.form
  unfold maxLen at hm
  have HL := Lib.hid (fun W (hW : Below w.heap.size w W) => h.keep (Same.of_below hW hP))
  have HPW := Lib.hid (fun W (hW : Below w.heap.size w W) b (hb : P b) => Nat.lt_of_lt_of_le (hP b hb) hW.size)
  generalize hln : l.length = ln at *
  have HLN := Lib.hid hln
  have hb : Below w.heap.size w (w.alloc (.cells #[.int .i64 87, .int .i64 n, .string s, nv, .slice la ln lc] 27)) := (Below.refl _ _).alloc (Nat.le_refl _) _
  have HB := Lib.hid hb
  by_cases h1 : 1 ≤ ln
  · rcases h.cases with ⟨rfl, _⟩ | ⟨b, off, n', c', hv, hnl, hn0, hnc, hcm, hPb, hka⟩
    · simp at hln; omega
    · injection hv with hv1 hv2 hv3
      subst hv1 hv2 hv3
      unfold maxLen at hcm
      obtain ⟨m, rfl⟩ : ∃ m, ln = m + 1 := ⟨ln - 1, by omega⟩
      have HB2 := Lib.hid HB.out
      have HK := Lib.hid (allOf_any P _ (l.take m) 4 _ (HPW.out _ HB2.out) ((HL.out _ HB2.out).sub m (by omega)))
      have HQ := Lib.hid (fun W (hW : Below w.heap.size w W) => areParts_any P _ _ (l.drop m) [7] _ ((HL.out _ (hW.trans (((Below.refl W.heap.size W).alloc (Nat.le_refl _) (.cells #[.int .i64 7] 3)).mono hW.size))).rest m (by omega)) (intSl_1 W 7 1))
      have HD := Lib.hid (show (decide (1 ≤ m + 1) && Pl.allOf (l.take (m + 1 - 1)) 4 && Pl.parts (l.drop (m + 1 - 1)) [7]) = (Pl.allOf (l.take m) 4 && Pl.parts (l.drop m) [7]) from by rw [decide_eq_true (by omega), Nat.add_sub_cancel]; rfl)
      generalize (decide (1 ≤ m + 1) && Pl.allOf (l.take (m + 1 - 1)) 4 && Pl.parts (l.drop (m + 1 - 1)) [7]) = rr at *
      generalize Pl.allOf (l.take m) 4 = r1 at *
      generalize Pl.parts (l.drop m) [7] = r2 at *
      clear h h0 hb hP hln hka
      cases r1
      · go_enter Tryz.func100, Tryz.ntmps100
        go_wp2_with fail
        refine HK.out.mono ?_
        rintro e w2 ⟨rfl, hb4⟩
        have HB4 := Lib.hid (HB2.out.trans (hb4.mono HB2.out.size))
        clear hb4
        go_wp2
        go_ret
        exact ⟨ret_bool (by rw [HD.out]; rfl), HB4.out⟩
      · go_enter Tryz.func100, Tryz.ntmps100
        go_wp2_with fail
        refine HK.out.mono ?_
        rintro e w2 ⟨rfl, hb4⟩
        have HB4 := Lib.hid (HB2.out.trans (hb4.mono HB2.out.size))
        clear hb4
        have hq := HQ.out _ HB4.out
        rw [Nat.add_sub_cancel_left] at hq
        have HQ2 := Lib.hid hq
        clear hq
        have HB5 := Lib.hid (HB4.out.trans (((Below.refl w2.heap.size w2).alloc (Nat.le_refl _) (.cells #[.int .i64 7] 3)).mono HB4.out.size))
        go_wp2_with fail
        refine HQ2.out.mono ?_
        rintro e w3 ⟨rfl, rfl⟩
        go_wp2
        go_ret
        exact ⟨ret_bool (by rw [HD.out]; rfl), HB5.out⟩
  · obtain rfl : ln = 0 := by omega
    have HD := Lib.hid (show (decide (1 ≤ 0) && Pl.allOf (l.take (0 - 1)) 4 && Pl.parts (l.drop (0 - 1)) [7]) = false from by simp)
    generalize (decide (1 ≤ 0) && Pl.allOf (l.take (0 - 1)) 4 && Pl.parts (l.drop (0 - 1)) [7]) = rr at *
    clear h h0 hb hP hln
    go_enter Tryz.func100, Tryz.ntmps100
    go_wp2
    go_ret
    exact ⟨ret_bool HD.out.symm, HB.out⟩
set_option maxRecDepth 100000 in
set_option maxHeartbeats 4000000 in
theorem core_other (P : Nat → Prop) (op n : Int) (s : ByteArray) (nv lv : Value) (l : List Syn) (w : World) (h : SynSl w P lv l) (p1 : (op == 1) = false) (p5 : (op == 5) = false) (p11 : (op == 11) = false) (p12 : (op == 12) = false) (p13 : (op == 13) = false) (p21 : (op == 21) = false) (p22 : (op == 22) = false) (p23 : (op == 23) = false) (p24 : (op == 24) = false) (p2 : (op == 2) = false) (p3 : (op == 3) = false) (p4 : (op == 4) = false) (p14 : (op == 14) = false) (p15 : (op == 15) = false) (p25 : (op == 25) = false) (p26 : (op == 26) = false) (p27 : (op == 27) = false) (p28 : (op == 28) = false) (p29 : (op == 29) = false) (p30 : (op == 30) = false) (p31 : (op == 31) = false) (p32 : (op == 32) = false) (p33 : (op == 33) = false) (p34 : (op == 34) = false) :
    Calls Tryz.prog 99 #[.agg #[.int .i64 op, .int .i64 n, .string s, nv, lv]] w fun e w' => e = .returned (.bool (false)) ∧ Below w.heap.size w w' := by
  have h0 := h
  obtain ⟨la, lc, rfl, hm⟩ := h0.form
  unfold maxLen at hm
  generalize hln : l.length = ln at *
  have hb : Below w.heap.size w (w.alloc (.cells #[.int .i64 op, .int .i64 n, .string s, nv, .slice la ln lc] 27)) := (Below.refl _ _).alloc (Nat.le_refl _) _
  have HB := Lib.hid hb
  clear h h0 hb hln
  go_enter Tryz.func99, Tryz.ntmps99
  go_wp2
  go_ret
  exact ⟨rfl, HB.out⟩
set_option maxRecDepth 100000 in
set_option maxHeartbeats 4000000 in
theorem modl_other (P : Nat → Prop) (op n : Int) (s : ByteArray) (nv lv : Value) (l : List Syn) (w : World) (h : SynSl w P lv l) (p48 : (op == 48) = false) (p49 : (op == 49) = false) (p62 : (op == 62) = false) (p72 : (op == 72) = false) (p82 : (op == 82) = false) (p41 : (op == 41) = false) (p42 : (op == 42) = false) (p43 : (op == 43) = false) (p61 : (op == 61) = false) (p44 : (op == 44) = false) (p45 : (op == 45) = false) (p46 : (op == 46) = false) (p47 : (op == 47) = false) (p63 : (op == 63) = false) (p64 : (op == 64) = false) (p65 : (op == 65) = false) (p50 : (op == 50) = false) (p88 : (op == 88) = false) (p66 : (op == 66) = false) (p71 : (op == 71) = false) (p73 : (op == 73) = false) (p74 : (op == 74) = false) (p81 : (op == 81) = false) (p83 : (op == 83) = false) (p84 : (op == 84) = false) (p85 : (op == 85) = false) (p86 : (op == 86) = false) (p87 : (op == 87) = false) :
    Calls Tryz.prog 100 #[.agg #[.int .i64 op, .int .i64 n, .string s, nv, lv]] w fun e w' => e = .returned (.bool (false)) ∧ Below w.heap.size w w' := by
  have h0 := h
  obtain ⟨la, lc, rfl, hm⟩ := h0.form
  unfold maxLen at hm
  generalize hln : l.length = ln at *
  have hb : Below w.heap.size w (w.alloc (.cells #[.int .i64 op, .int .i64 n, .string s, nv, .slice la ln lc] 27)) := (Below.refl _ _).alloc (Nat.le_refl _) _
  have HB := Lib.hid hb
  clear h h0 hb hln
  go_enter Tryz.func100, Tryz.ntmps100
  go_wp2
  go_ret
  exact ⟨rfl, HB.out⟩
end Go.Proofs.YtjedahcpkcgpeaaGreatDoor

/-
  Walks of layer 3: the parts of a node, whole.
-/
namespace Go.Proofs.YtjedahcpkcgpeaaGreatDoor
open Go Go.RowKit
open Pl (Syn)
set_option linter.unusedSimpArgs false
set_option maxRecDepth 100000 in
theorem core_any (P : Nat → Prop) (op n : Int) (s : ByteArray) (nv lv : Value) (l : List Syn) (w : World) (hP : ∀ b, P b → b < w.heap.size) (h : SynSl w P lv l) :
    Calls Tryz.prog 99 #[.agg #[.int .i64 op, .int .i64 n, .string s, nv, lv]] w fun e w' => e = .returned (.bool (Pl.core op n l)) ∧ Below w.heap.size w w' := by
  by_cases p1 : op = 1
  · subst p1; exact core_1 P n s nv lv l w hP h
  by_cases p5 : op = 5
  · subst p5; exact core_5 P n s nv lv l w hP h
  by_cases p11 : op = 11
  · subst p11; exact core_11 P n s nv lv l w hP h
  by_cases p12 : op = 12
  · subst p12; exact core_12 P n s nv lv l w hP h
  by_cases p13 : op = 13
  · subst p13; exact core_13 P n s nv lv l w hP h
  by_cases p21 : op = 21
  · subst p21; exact core_21 P n s nv lv l w hP h
  by_cases p22 : op = 22
  · subst p22; exact core_22 P n s nv lv l w hP h
  by_cases p23 : op = 23
  · subst p23; exact core_23 P n s nv lv l w hP h
  by_cases p24 : op = 24
  · subst p24; exact core_24 P n s nv lv l w hP h
  by_cases p2 : op = 2
  · subst p2; exact core_2 P n s nv lv l w hP h
  by_cases p3 : op = 3
  · subst p3; exact core_3 P n s nv lv l w hP h
  by_cases p4 : op = 4
  · subst p4; exact core_4 P n s nv lv l w hP h
  by_cases p14 : op = 14
  · subst p14; exact core_14 P n s nv lv l w hP h
  by_cases p15 : op = 15
  · subst p15; exact core_15 P n s nv lv l w hP h
  by_cases p25 : op = 25
  · subst p25; exact core_25 P n s nv lv l w hP h
  by_cases p26 : op = 26
  · subst p26; exact core_26 P n s nv lv l w hP h
  by_cases p27 : op = 27
  · subst p27; exact core_27 P n s nv lv l w hP h
  by_cases p28 : op = 28
  · subst p28; exact core_28 P n s nv lv l w hP h
  by_cases p29 : op = 29
  · subst p29; exact core_29 P n s nv lv l w hP h
  by_cases p30 : op = 30
  · subst p30; exact core_30 P n s nv lv l w hP h
  by_cases p31 : op = 31
  · subst p31; exact core_31 P n s nv lv l w hP h
  by_cases p32 : op = 32
  · subst p32; exact core_32 P n s nv lv l w hP h
  by_cases p33 : op = 33
  · subst p33; exact core_33 P n s nv lv l w hP h
  by_cases p34 : op = 34
  · subst p34; exact core_34 P n s nv lv l w hP h
  have hf : Pl.core op n l = false := by
    unfold Pl.core
    repeat' rw [if_neg (by omega)]
  rw [hf]
  exact core_other P op n s nv lv l w h (beq_eq_false_iff_ne.2 p1) (beq_eq_false_iff_ne.2 p5) (beq_eq_false_iff_ne.2 p11) (beq_eq_false_iff_ne.2 p12) (beq_eq_false_iff_ne.2 p13) (beq_eq_false_iff_ne.2 p21) (beq_eq_false_iff_ne.2 p22) (beq_eq_false_iff_ne.2 p23) (beq_eq_false_iff_ne.2 p24) (beq_eq_false_iff_ne.2 p2) (beq_eq_false_iff_ne.2 p3) (beq_eq_false_iff_ne.2 p4) (beq_eq_false_iff_ne.2 p14) (beq_eq_false_iff_ne.2 p15) (beq_eq_false_iff_ne.2 p25) (beq_eq_false_iff_ne.2 p26) (beq_eq_false_iff_ne.2 p27) (beq_eq_false_iff_ne.2 p28) (beq_eq_false_iff_ne.2 p29) (beq_eq_false_iff_ne.2 p30) (beq_eq_false_iff_ne.2 p31) (beq_eq_false_iff_ne.2 p32) (beq_eq_false_iff_ne.2 p33) (beq_eq_false_iff_ne.2 p34)
set_option maxRecDepth 100000 in
theorem modl_any (P : Nat → Prop) (op n : Int) (s : ByteArray) (nv lv : Value) (l : List Syn) (w : World) (hP : ∀ b, P b → b < w.heap.size) (h : SynSl w P lv l) (hbig : l.length ≤ 1073741824) :
    Calls Tryz.prog 100 #[.agg #[.int .i64 op, .int .i64 n, .string s, nv, lv]] w fun e w' => e = .returned (.bool (Pl.modl op l)) ∧ Below w.heap.size w w' := by
  by_cases p48 : op = 48
  · subst p48; exact modl_48 P n s nv lv l w hP h
  by_cases p49 : op = 49
  · subst p49; exact modl_49 P n s nv lv l w hP h
  by_cases p62 : op = 62
  · subst p62; exact modl_62 P n s nv lv l w hP h
  by_cases p72 : op = 72
  · subst p72; exact modl_72 P n s nv lv l w hP h
  by_cases p82 : op = 82
  · subst p82; exact modl_82 P n s nv lv l w hP h
  by_cases p41 : op = 41
  · subst p41; exact modl_41 P n s nv lv l w hP h
  by_cases p42 : op = 42
  · subst p42; exact modl_42 P n s nv lv l w hP h
  by_cases p43 : op = 43
  · subst p43; exact modl_43 P n s nv lv l w hP h
  by_cases p61 : op = 61
  · subst p61; exact modl_61 P n s nv lv l w hP h
  by_cases p44 : op = 44
  · subst p44; exact modl_44 P n s nv lv l w hP h hbig
  by_cases p45 : op = 45
  · subst p45; exact modl_45 P n s nv lv l w hP h
  by_cases p46 : op = 46
  · subst p46; exact modl_46 P n s nv lv l w hP h
  by_cases p47 : op = 47
  · subst p47; exact modl_47 P n s nv lv l w hP h
  by_cases p63 : op = 63
  · subst p63; exact modl_63 P n s nv lv l w hP h
  by_cases p64 : op = 64
  · subst p64; exact modl_64 P n s nv lv l w hP h
  by_cases p65 : op = 65
  · subst p65; exact modl_65 P n s nv lv l w hP h
  by_cases p50 : op = 50
  · subst p50; exact modl_50 P n s nv lv l w hP h
  by_cases p88 : op = 88
  · subst p88; exact modl_88 P n s nv lv l w hP h
  by_cases p66 : op = 66
  · subst p66; exact modl_66 P n s nv lv l w hP h
  by_cases p71 : op = 71
  · subst p71; exact modl_71 P n s nv lv l w hP h
  by_cases p73 : op = 73
  · subst p73; exact modl_73 P n s nv lv l w hP h
  by_cases p74 : op = 74
  · subst p74; exact modl_74 P n s nv lv l w hP h
  by_cases p81 : op = 81
  · subst p81; exact modl_81 P n s nv lv l w hP h
  by_cases p83 : op = 83
  · subst p83; exact modl_83 P n s nv lv l w hP h
  by_cases p84 : op = 84
  · subst p84; exact modl_84 P n s nv lv l w hP h
  by_cases p85 : op = 85
  · subst p85; exact modl_85 P n s nv lv l w hP h
  by_cases p86 : op = 86
  · subst p86; exact modl_86 P n s nv lv l w hP h
  by_cases p87 : op = 87
  · subst p87; exact modl_87 P n s nv lv l w hP h
  have hf : Pl.modl op l = false := by
    unfold Pl.modl
    repeat' rw [if_neg (by omega)]
  rw [hf]
  exact modl_other P op n s nv lv l w h (beq_eq_false_iff_ne.2 p48) (beq_eq_false_iff_ne.2 p49) (beq_eq_false_iff_ne.2 p62) (beq_eq_false_iff_ne.2 p72) (beq_eq_false_iff_ne.2 p82) (beq_eq_false_iff_ne.2 p41) (beq_eq_false_iff_ne.2 p42) (beq_eq_false_iff_ne.2 p43) (beq_eq_false_iff_ne.2 p61) (beq_eq_false_iff_ne.2 p44) (beq_eq_false_iff_ne.2 p45) (beq_eq_false_iff_ne.2 p46) (beq_eq_false_iff_ne.2 p47) (beq_eq_false_iff_ne.2 p63) (beq_eq_false_iff_ne.2 p64) (beq_eq_false_iff_ne.2 p65) (beq_eq_false_iff_ne.2 p50) (beq_eq_false_iff_ne.2 p88) (beq_eq_false_iff_ne.2 p66) (beq_eq_false_iff_ne.2 p71) (beq_eq_false_iff_ne.2 p73) (beq_eq_false_iff_ne.2 p74) (beq_eq_false_iff_ne.2 p81) (beq_eq_false_iff_ne.2 p83) (beq_eq_false_iff_ne.2 p84) (beq_eq_false_iff_ne.2 p85) (beq_eq_false_iff_ne.2 p86) (beq_eq_false_iff_ne.2 p87)
end Go.Proofs.YtjedahcpkcgpeaaGreatDoor

/-
  Walks of layer 3: Size and Depth, whole.
-/
namespace Go.Proofs.YtjedahcpkcgpeaaGreatDoor
open Go Go.RowKit
open Pl (Syn)
theorem fr_above {B : Nat} {own own' : Nat → Prop} {a w w' : World} (hb : Below B a w) (h : Fr own own' w w') (hB2 : B ≤ w.heap.size) (ho : ∀ i, own i → B ≤ i) : Below B a w' :=
  ⟨h.1.trans hb.os, h.2.1.trans hb.tape, h.2.2.1.trans hb.output, Nat.le_trans hb.size h.size, fun i hi => (h.block (Nat.lt_of_lt_of_le hi hB2) (fun g => by have := ho i g; omega)).trans (hb.block i hi)⟩
theorem cell1_set {g : Nat} {n x y : Int} {w : World} (h : Cell1 g n w) (hx : x = y) (o : Obj) : Cell1 g y ((w.setCell ⟨g, 0, none⟩ (.int .i64 x)).alloc o) := by
  subst hx
  have := (Blk.set h 0 (.int .i64 x)).alloc o
  simpa [Cell1] using this
end Go.Proofs.YtjedahcpkcgpeaaGreatDoor

/-
  Walks of layer 3: few.
-/
namespace Go.Proofs.YtjedahcpkcgpeaaGreatDoor
open Go Go.RowKit
open Pl (Syn)
theorem size_setCell (w : World) (p : Addr) (v : Value) : (w.setCell p v).heap.size = w.heap.size := by simp [World.setCell]
end Go.Proofs.YtjedahcpkcgpeaaGreatDoor

/-
  Plain mathematics of layer 3: the two ways to look up a form agree. No program.
-/
namespace Go.Proofs.YtjedahcpkcgpeaaGreatDoor.Pl
open Go
theorem parts_nil (l : List Syn) : parts l [] = decide (l.length = 0) := by cases l <;> simp [parts]
theorem parts_exact (l : List Syn) : ∀ cs : List Int, (∀ c ∈ cs, c ≠ 0) → parts l cs = exact l cs := by
  induction l with
  | nil => intro cs _; cases cs <;> rfl
  | cons t r ih =>
    intro cs h
    cases cs with
    | nil => rfl
    | cons c cs =>
      rw [parts, exact, ih cs (fun x hx => h x (List.mem_cons_of_mem _ hx)), bel_eq _ _ (h c List.mem_cons_self), if_neg (h c List.mem_cons_self)]
theorem allOf_eq (l : List Syn) (c : Int) (h : c ≠ 0) : allOf l c = rall l c := by
  unfold allOf rall
  congr 1
  funext t
  exact bel_eq _ _ h
theorem rall_one (t : Syn) (c : Int) : rall [t] c = rbel t.op c := by simp [rall]
theorem parts_one (l : List Syn) (c : Int) (h : c ≠ 0) : parts l [c] = (decide (l.length = 1) && rall l c) := by
  match l with
  | [] => rfl
  | [t] => simp [parts, rall, bel_eq _ _ h]
  | t :: u :: r => simp [parts]
theorem parts_opt (l : List Syn) (c : Int) (h : c ≠ 0) : (parts l [] || parts l [c]) = (decide (l.length ≤ 1) && rall l c) := by
  rw [parts_nil, parts_one l c h]
  match l with
  | [] => simp [rall]
  | [t] => simp
  | t :: u :: r => simp
theorem parts_tuple (l : List Syn) (c : Int) (h : c ≠ 0) : (parts l [] || tuple l c) = (decide (l.length ≠ 1) && decide (l.length ≤ 9) && rall l c) := by
  rw [parts_nil, tuple, allOf_eq l c h]
  match l with
  | [] => simp [rall]
  | [t] => simp
  | t :: u :: r => simp
theorem tuple_eq (l : List Syn) (c : Int) (h : c ≠ 0) : tuple l c = (decide (2 ≤ l.length) && decide (l.length ≤ 9) && rall l c) := by
  rw [tuple, allOf_eq l c h, Bool.decide_and]
theorem exact_zero (l : List Syn) : (parts l [6] && decide (opAt l 0 = 72)) = exact l [0] := by
  match l with
  | [] => rfl
  | [t] =>
    simp only [parts, exact, opAt, List.getD_cons_zero, if_true, Bool.and_true]
    by_cases h : t.op = 72
    · rw [h]; rfl
    · simp [h]
  | t :: u :: r => simp [parts, exact]
theorem exact_two (l : List Syn) : (parts l [3, 6] && decide (opAt l 1 = 72)) = exact l [3, 0] := by
  match l with
  | [] => rfl
  | [t] => simp [parts, exact]
  | [t, u] =>
    simp only [parts, exact, opAt, List.getD_cons_succ, List.getD_cons_zero, if_true, Bool.and_true]
    rw [bel_eq _ 3 (by decide), if_neg (by decide)]
    by_cases h : u.op = 72
    · rw [h]; simp [bel, cat]
    · simp [h]
  | t :: u :: x :: r => simp [parts, exact]
theorem share_eq (l : List Syn) : (parts l [1] && decide (opAt l 0 = 2) && decide ((l.getD 0 none0).l.length = 0)) = (decide (l.length = 1) && decide (opAt l 0 = 2) && decide ((l.getD 0 none0).l.length = 0)) := by
  match l with
  | [] => rfl
  | [t] =>
    simp only [parts, opAt, List.getD_cons_zero, Bool.and_true, List.length_cons, List.length_nil]
    by_cases h : t.op = 2
    · rw [h]; rfl
    · simp [h]
  | t :: u :: r => simp [parts]
theorem with_eq (l : List Syn) : (parts l [6, 4] && decide (opAt l 1 = 43)) = (decide (l.length = 2) && rall (l.take 1) 6 && decide (opAt l 1 = 43)) := by
  match l with
  | [] => rfl
  | [t] => simp [parts]
  | [t, u] =>
    simp only [parts, opAt, List.getD_cons_succ, List.getD_cons_zero, Bool.and_true, List.length_cons, List.length_nil, List.take_succ_cons, List.take_zero, rall_one]
    rw [bel_eq _ 6 (by decide)]
    by_cases h : u.op = 43
    · rw [h]; simp [bel]
    · simp [h]
  | t :: u :: x :: r => simp [parts]
theorem case_eq (l : List Syn) : (decide (1 < l.length) && parts (l.take 1) [3] && kinds (l.drop 1) [30]) = (decide (2 ≤ l.length) && rall (l.take 1) 3 && kinds (l.drop 1) [30]) := by
  match l with
  | [] => rfl
  | [t] => simp
  | t :: u :: r => simp [parts, rall, bel_eq _ 3 (by decide)]
theorem last_eq (l : List Syn) (c : Int) (hc : c ≠ 0) (h : 1 ≤ l.length) : parts (l.drop (l.length - 1)) [c] = rall (l.drop (l.length - 1)) c := by
  rw [parts_one _ _ hc]
  have : (l.drop (l.length - 1)).length = 1 := by rw [List.length_drop]; omega
  rw [this]; simp
theorem let_eq (l : List Syn) : (decide (1 ≤ l.length) && kinds (l.take (l.length - 1)) [41, 42, 50] && parts (l.drop (l.length - 1)) [3]) = (decide (1 ≤ l.length) && rall (l.drop (l.length - 1)) 3 && kinds (l.take (l.length - 1)) [41, 42, 50]) := by
  by_cases h : 1 ≤ l.length
  · rw [last_eq l 3 (by decide) h]; simp only [decide_eq_true h, Bool.true_and, Bool.and_comm]
  · simp [h]
theorem mlet_eq (l : List Syn) : (decide (1 ≤ l.length) && allOf (l.take (l.length - 1)) 4 && parts (l.drop (l.length - 1)) [7]) = (decide (1 ≤ l.length) && rall (l.take (l.length - 1)) 4 && rall (l.drop (l.length - 1)) 7) := by
  by_cases h : 1 ≤ l.length
  · rw [last_eq l 7 (by decide) h, allOf_eq _ 4 (by decide)]
  · simp [h]
theorem core_or (op n : Int) (l : List Syn) (h : op ≤ 40) : (core op n l || modl op l) = core op n l := by
  have : modl op l = false := by
    unfold modl
    repeat' rw [if_neg (by omega)]
  rw [this, Bool.or_false]
theorem modl_or (op n : Int) (l : List Syn) (h : 40 ≤ op) : (core op n l || modl op l) = modl op l := by
  have : core op n l = false := by
    unfold core
    repeat' rw [if_neg (by omega)]
  rw [this, Bool.false_or]
theorem low_not_empty (s : ByteArray) (h : lowS s = true) : emptyS s = false := by
  have := isLower_le _ h
  unfold emptyS
  cases hs : s.toList
  · rw [hs] at this; simp at this
  · rfl
end Go.Proofs.YtjedahcpkcgpeaaGreatDoor.Pl
