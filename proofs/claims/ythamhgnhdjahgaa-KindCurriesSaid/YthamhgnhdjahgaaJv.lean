/-
  Walks of layer 8: slices.Grow and slices.Concat of two lists of kinds.
-/
import Derived.Test.YthamhgnhdjahgaaJo
import Derived.Test.YthamhgnhdjahgaaKw
import Derived.Shelf.Spec.SlicesGrow
namespace Go.Proofs
open Go.Shelf
def Try.growT_ren : Go.Shelf.Ren := ⟨fun | 4 => 50 | n => n, fun | 22 => 22 | 25 => 24 | 3 => 3 | 4 => 4 | 9 => 9 | 20 => 20 | 0 => 0 | n => n, fun | n => n⟩
theorem Try.growT : Go.Proofs.Lays8.n4 Try.prog Try.growT_ren := {
  mixed := by kernel_rfl
  f4 := Exists.intro "slices.Grow[[]pilaster/api.Kind,pilaster/api.Kind]" ⟨by decide, Try.func50.trans (congrArg some (by kernel_rfl))⟩
  t0 := Try.underlying0
  a0 := Try.isAgg0
  z0 := Try.sizeOf0
  v0 := Try.zeroValue0
  t3 := Try.underlying3
  a3 := Try.isAgg3
  z3 := Try.sizeOf3
  v3 := Try.zeroValue3
  t4 := Try.underlying4
  a4 := Try.isAgg4
  z4 := Try.sizeOf4
  v4 := Try.zeroValue4
  t9 := Try.underlying9
  a9 := Try.isAgg9
  z9 := Try.sizeOf9
  v9 := Try.zeroValue9
  t20 := Try.underlying20
  a20 := Try.isAgg20
  z20 := Try.sizeOf20
  v20 := Try.zeroValue20
  t22 := Try.underlying22
  a22 := Try.isAgg22
  z22 := Try.sizeOf22
  v22 := Try.zeroValue22
}
end Go.Proofs
namespace Go.Proofs.Ythamhgnhdjahgaa
open Go Go.RowKit
open Pl (K)
set_option linter.unusedSimpArgs false
theorem grow_none (w : World) :
    Calls Try.prog 50 #[.slice none 0 0, .int .i64 0] w fun e w' => e = .returned (.slice none 0 0) ∧ w' = w :=
  Any8.slices_Grow_room Try.growT none 0 0 0 w (by omega) (by omega) (by omega) (by omega)
theorem grow_any (n : Nat) (w : World) (hn : n ≤ 100000) :
    Calls Try.prog 50 #[.slice none 0 0, .int .i64 n] w fun e w' => (∃ v, e = .returned v ∧ w'.ownsRow w.heap.size 24 1 v 0 []) ∧ Below w.heap.size w w' := by
  by_cases h : n = 0
  · subst h
    refine (grow_none w).mono ?_
    rintro e w' ⟨rfl, rfl⟩
    exact ⟨⟨_, rfl, World.ownsRow_nil _ _ _ _⟩, Below.refl _ _⟩
  obtain ⟨i9, hi, hz0, hz1, hz2⟩ := info3 infoKind
  refine (Any8.slices_Grow_grow Try.growT i9 (.agg #[.slice none 0 0]) hi hz0 (by rw [hz1]; decide) none 0 0 n [] w (by omega) (by omega) (by rw [hz2]; omega) (by omega) (by simp) (fun _ => rfl) (fun a h => by cases h)).mono ?_
  rintro e w' ⟨rfl, rfl⟩
  have hG1 := grownCap_ge w (0 + n) 0 (Try.growT_ren.t 25)
  have hG2 := grownCap_le_maxLen w (0 + n) 0 (Try.growT_ren.t 25) (by unfold maxLen; omega)
  refine ⟨⟨_, rfl, rfl, .inr ⟨w.heap.size, _, _, rfl, Nat.le_refl _, blk_new w.drew _ _, Nat.zero_le _, hG2, ?_, by simp⟩⟩, ?_⟩
  · generalize grownCap w (0 + n) 0 (Try.growT_ren.t 25) = G at hG1 hG2 ⊢
    simp [size_zeroCells, Value.cells]
    omega
  · exact ((Below.refl _ _).drew).alloc (Nat.le_refl _) _
/-- appending nothing -/
theorem run_append_none {P : Program} (w : World) (t ty e : TypeId) (i : TypeInfo) (ht : P.underlying t = some (.slice e)) (hi : P.info? e = some i) (a : Option Addr) (n c : Nat) (hn : n ≤ c) :
    (Builtin.append_ #[t, t] ty #[.slice a n c, .slice none 0 0]).run P w = .ok (.slice a n c) w := by
  cases a <;> simp [Builtin.append_, run_underlying ht, sizeOf, typeInfo, hi, Builtin.lenOf, hn, run_firstCells_none, storeCells]
theorem wpList_append_none {P : Program} {w : World} {ops : Array Oper} {rest : List Oper} {o : Oper} {a : Act} {Q : Exit → Act → World → Prop} (hgd : o.guard = none) (s x : Operand) (t : TypeId)
    (ho : o.op = .call { callee := .builtin .append, args := #[s, x], argTypes := #[t, t] })
    (e : TypeId) (i : TypeInfo) (ht : P.underlying t = some (.slice e)) (hi : P.info? e = some i) (b : Option Addr) (n c : Nat) (hs : a.eval s = .slice b n c) (hx : a.eval x = .slice none 0 0) (hn : n ≤ c)
    (h : wpList P ops Q rest (a.put o.dst (.slice b n c)) w) : wpList P ops Q (o :: rest) a w := by
  refine wpList_plain hgd fun K hK => ?_
  have hr := run_append_none (P := P) w t o.type e i ht hi b n c hn
  unfold Oper.wp execOp
  simp only [ho, resolve, invoke, builtin, Sem.run_bind, Sem.run_pure, Result.andThen_ok, List.map_toArray, List.map_cons, List.map_nil, hs, hx, hr]
  exact hK _ _ h
/-- the values of a row -/
theorem KSl.row {w : World} {P : Nat → Prop} {l : List K} {v : Value} (h : KSl w P v l) : ∃ a c, v = .slice a l.length c ∧ ((a = none ∧ c = 0 ∧ l = []) ∨ ∃ ad, a = some ad ∧ ∃ us, KindRow w P us l ∧ ∀ j u, us[j]? = some u → w.cell? (ad.add j) = some u) := by
  obtain ⟨a, c, rfl, h4, h5, h6, h7⟩ := (kidV_iff _ _ _ _).1 h
  refine ⟨a, c, rfl, ?_⟩
  cases a with
  | none =>
    left
    have hc := h6 rfl
    exact ⟨rfl, hc, List.eq_nil_of_length_eq_zero (by omega)⟩
  | some ad =>
    right
    refine ⟨ad, rfl, ?_⟩
    rcases h7 with rfl | ⟨b, off, e, hb, hk⟩
    · exact ⟨[], ⟨rfl, fun j hj => absurd hj (Nat.not_lt_zero _)⟩, fun j u hu => by cases hu⟩
    · injection e with e
      subst e
      rw [kidsK_iff] at hk
      obtain ⟨T, hT⟩ := Go.Deep.choose_lt (n := l.length) (p := fun j x => w.cell? ⟨b, off + j, none⟩ = some x ∧ ∀ hj : j < l.length, KidV w P l[j] x) (fun j hj => by
        obtain ⟨x, h1, h2⟩ := hk j hj
        exact ⟨x, h1, fun _ => h2⟩)
      refine ⟨(List.range l.length).map T, ⟨by simp, fun j hj => ⟨T j, by simp [hj], (hT j hj).2 hj⟩⟩, fun j u hu => ?_⟩
      have hj : j < l.length := by
        have := (List.getElem?_eq_some_iff.1 hu).1
        simpa using this
      have : T j = u := by simpa [hj] using hu
      rw [← this]
      have hadd : (⟨b, off, none⟩ : Addr).add j = ⟨b, off + j, none⟩ := by unfold Addr.add; split <;> simp_all
      rw [hadd]
      exact (hT j hj).1
theorem KindRow.app {w : World} {P : Nat → Prop} {us vs : List Value} {ts rs : List K} (h : KindRow w P us ts) (k : KindRow w P vs rs) : KindRow w P (us ++ vs) (ts ++ rs) := by
  refine ⟨by rw [List.length_append, List.length_append, h.1, k.1], fun j hj => ?_⟩
  rcases Nat.lt_or_ge j ts.length with hlt | hge
  · obtain ⟨y, h1, h2⟩ := h.2 j hlt
    refine ⟨y, ?_, ?_⟩
    · rw [List.getElem?_append_left (by rw [h.1]; exact hlt)]; exact h1
    · rw [List.getElem_append_left hlt]; exact h2
  · have hk : j - ts.length < rs.length := by rw [List.length_append] at hj; omega
    obtain ⟨y, h1, h2⟩ := k.2 (j - ts.length) hk
    refine ⟨y, ?_, ?_⟩
    · rw [List.getElem?_append_right (by rw [h.1]; exact hge), h.1]; exact h1
    · rw [List.getElem_append_right hge]; exact h2
theorem KidV.one {w : World} {P : Nat → Prop} {t : K} {v : Value} (h : KidV w P t v) : v.oneCell' = true := by
  obtain ⟨a, c, rfl⟩ := h.form
  rfl
theorem KindRow.one {w : World} {P : Nat → Prop} {us : List Value} {ts : List K} (h : KindRow w P us ts) : ∀ u ∈ us, u.oneCell' = true := by
  intro u hu
  obtain ⟨j, hj, rfl⟩ := List.getElem_of_mem hu
  obtain ⟨x, h1, h2⟩ := h.2 j (by rw [← h.1]; exact hj)
  rw [List.getElem?_eq_getElem hj] at h1
  injection h1 with h1
  rw [h1]
  exact h2.one
theorem ownK_form {w : World} {base : Nat} {v : Value} {n : Nat} {xs : List Value} (h : w.ownsRow base 24 1 v n xs) : ∃ a c, v = .slice a n c ∧ n ≤ c := by
  rcases h.2 with ⟨hv, h0⟩ | ⟨g, cap, cur, hv, _, _, hnc, _⟩
  · exact ⟨none, 0, by rw [hv, h0], by omega⟩
  · exact ⟨_, _, hv, hnc⟩
/-- one more row behind the row that the call owns -/
theorem wpList_append_kinds {w : World} {ops : Array Oper} {rest : List Oper} {o : Oper} {a : Act} {Q : Exit → Act → World → Prop} (hgd : o.guard = none) (s x : Operand)
    (ho : o.op = .call { callee := .builtin .append, args := #[s, x], argTypes := #[22, 22] })
    (P : Nat → Prop) (base : Nat) (v : Value) (ts rs : List K) (us : List Value) (hs : a.eval s = v) (hown : w.ownsRow base 24 1 v ts.length us) (hP : ∀ q, P q → q < base) (hr : KindRow w P us ts) (x0 : Value) (hx : a.eval x = x0) (hk : KSl w P x0 rs) (hlen : ts.length + rs.length ≤ 100000) (hbase : base ≤ w.heap.size)
    (h : ∀ v' w' us', w'.ownsRow base 24 1 v' (ts ++ rs).length us' → KindRow w' P us' (ts ++ rs) → Below base w w' → wpList Try.prog ops Q rest (a.put o.dst v') w') : wpList Try.prog ops Q (o :: rest) a w := by
  obtain ⟨i9, hi, hz0, hz1, hz2⟩ := info3 infoKind
  obtain ⟨ax, cx, rfl, hcase⟩ := hk.row
  rcases hcase with ⟨rfl, rfl, rfl⟩ | ⟨ad, rfl, ns, hns, hcs⟩
  · obtain ⟨b, c, rfl, hnc⟩ := ownK_form hown
    refine wpList_append_none hgd s x _ ho _ i9 Try.underlying22 hi b ts.length c hs hx hnc ?_
    rw [List.append_nil] at h
    exact h _ _ us hown hr (Below.refl _ _)
  · refine wpList_append_own (P := Try.prog) (w := w) hgd s x 22 ho base 24 i9 (.agg #[.slice none 0 0]) 1 24 Try.underlying22 hi hz0 hz1 hz2 rfl (by decide) v ts.length us hs hown ad rs.length cx ns hx (by rw [hns.1]; omega) hcs hns.one (by unfold maxLen; omega) (by omega) hbase ?_
    intro v' w' hown' hgrow _
    have hb : Below base w w' := (Below.refl base w).grown hgrow hbase (fun k hk => (hown.lt k hk).1)
    refine h v' w' (us ++ ns) ?_ ?_ hb
    · rw [List.length_append]; exact hown'
    · exact (hr.app hns).keep (Same.of_below hb hP)
set_option maxRecDepth 100000 in
set_option maxHeartbeats 4000000 in
theorem concatK_any (P : Nat → Prop) (g : Nat) (v1 v2 : Value) (A B : List K) (w : World) (hP : ∀ q, P q → q < w.heap.size) (hg : Blk w g 22 #[v1, v2]) (h1 : KSl w P v1 A) (h2 : KSl w P v2 B) (ha : A.length ≤ 10000) (hb : B.length ≤ 10000) :
    Calls Try.prog 32 #[.slice (some ⟨g, 0, none⟩) 2 2] w fun e w' => (∃ a n c, e = .returned (.slice a n c) ∧ KSl w' (Ext P w w') (.slice a n c) (A ++ B)) ∧ Below w.heap.size w w' := by
  obtain ⟨a1, c1, rfl, -⟩ := h1.each
  obtain ⟨a2, c2, rfl, -⟩ := h2.each
  have HK1 := Lib.hid h1
  have HK2 := Lib.hid h2
  have HP := Lib.hid hP
  have G0 := Lib.hid (hg.cell 0 (.slice a1 A.length c1) rfl)
  have G1 := Lib.hid (hg.cell 1 (.slice a2 B.length c2) rfl)
  have hgl := hg.lt
  obtain ⟨n1, hn1⟩ : ∃ n, n = A.length := ⟨_, rfl⟩
  obtain ⟨n2, hn2⟩ : ∃ n, n = B.length := ⟨_, rfl⟩
  have HN1 := Lib.hid hn1
  have HN2 := Lib.hid hn2
  rw [← hn1] at G0 ha
  rw [← hn2] at G1 hb
  clear hg h1 h2 hP hn1 hn2
  have g0 := G0.out
  have g1 := G1.out
  go_enter Try.func32, Try.ntmps32
  go_wp2_with fail
  go_loopg [3, 11] 3 (fun m sz i wr => wr = w ∧ ((i = .int .i64 0 ∧ sz = .int .i64 0 ∧ m = 3) ∨ (i = .int .i64 1 ∧ sz = .int .i64 n1 ∧ m = 2) ∨ (i = .int .i64 2 ∧ sz = .int .i64 ((n1 : Int) + (n2 : Int)) ∧ m = 1)))
  case atStart => exact ⟨rfl, .inl ⟨rfl, rfl, rfl⟩⟩
  case round =>
    obtain ⟨rfl, ⟨rfl, rfl, hm⟩ | ⟨rfl, rfl, hm⟩ | ⟨rfl, rfl, hm⟩⟩ := hrel
    · go_wp2
      go_roundg (gk - 1)
      case measure => omega
      case rel => exact ⟨rfl, .inr (.inl ⟨rfl, by go_num, by omega⟩)⟩
    · have q0 : decide ((n1 : Int) + (n2 : Int) < 0) = false := by simp; omega
      go_wp2
      go_roundg (gk - 1)
      case measure => omega
      case rel => exact ⟨rfl, .inr (.inr ⟨rfl, by go_num, by omega⟩)⟩
    · have hgr := grow_any (n1 + n2) wr (by omega)
      rw [Int.natCast_add] at hgr
      have HGR := Lib.hid hgr
      clear hgr hm g0 g1
      go_wp2_with fail
      rename World => wa
      refine HGR.out.mono ?_
      rintro e w2 ⟨⟨v, rfl, hown⟩, hbw⟩
      obtain ⟨Av, cv, rfl, -⟩ := ownK_form hown
      have HOWN0 := Lib.hid hown
      have HBW0 := Lib.hid hbw
      clear hown hbw HGR
      go_wp2_with fail
      go_loopg [6, 27] 3 (fun m v i wr => ∃ (ts : List K) (us : List Value), wr.ownsRow wa.heap.size 24 1 v ts.length us ∧ KindRow wr P us ts ∧ Below wa.heap.size wa wr ∧ ((i = .int .i64 0 ∧ m = 3 ∧ ts = []) ∨ (i = .int .i64 1 ∧ m = 2 ∧ ts = A) ∨ (i = .int .i64 2 ∧ m = 1 ∧ ts = A ++ B)))
      case atStart => exact ⟨[], [], HOWN0.out, ⟨rfl, fun j hj => absurd hj (Nat.not_lt_zero _)⟩, HBW0.out, .inl ⟨rfl, rfl, rfl⟩⟩
      case round =>
        obtain ⟨ts, us, hown, hrow, hbw, ⟨rfl, hm, rfl⟩ | ⟨rfl, hm, rfl⟩ | ⟨rfl, hm, rfl⟩⟩ := hrel
        · have hcell := (hbw.cell (p := ⟨g, 0, none⟩) hgl).trans G0.out
          have hk := HK1.out.keep (Same.of_below hbw HP.out)
          rw [← HN1.out] at hk
          obtain ⟨Av, cv, rfl, -⟩ := ownK_form hown
          have HOWN := Lib.hid hown
          have HROW := Lib.hid hrow
          have HBW := Lib.hid hbw
          have HK := Lib.hid hk
          clear hown hbw hrow hk
          go_wp2_with (at_builtin; refine wpList_append_kinds rfl _ _ rfl P wa.heap.size _ [] A us rfl HOWN.out HP.out HROW.out _ rfl HK.out ?b1 HBW.out.size ?_)
          case b1 => have := HN1.out; simp; omega
          intro v' w4 us' hown' hrow' hb4
          obtain ⟨A4, c4, rfl, -⟩ := ownK_form hown'
          have HO4 := Lib.hid hown'
          have HR4 := Lib.hid hrow'
          have HB4 := Lib.hid (HBW.out.trans hb4)
          clear hown' hrow' hb4 hcell
          go_wp2
          go_roundg (gk - 1)
          case measure => omega
          case rel => exact ⟨[] ++ A, us', HO4.out, HR4.out, HB4.out, .inr (.inl ⟨by go_num, by omega, rfl⟩)⟩
        · have hcell := (hbw.cell (p := ⟨g, 1, none⟩) hgl).trans G1.out
          have hk := HK2.out.keep (Same.of_below hbw HP.out)
          rw [← HN2.out] at hk
          obtain ⟨Av, cv, rfl, -⟩ := ownK_form hown
          have HOWN := Lib.hid hown
          have HROW := Lib.hid hrow
          have HBW := Lib.hid hbw
          have HK := Lib.hid hk
          clear hown hbw hrow hk
          go_wp2_with (at_builtin; refine wpList_append_kinds rfl _ _ rfl P wa.heap.size _ _ B us rfl HOWN.out HP.out HROW.out _ rfl HK.out ?b1 HBW.out.size ?_)
          case b1 => have := HN1.out; have := HN2.out; omega
          intro v' w4 us' hown' hrow' hb4
          obtain ⟨A4, c4, rfl, -⟩ := ownK_form hown'
          have HO4 := Lib.hid hown'
          have HR4 := Lib.hid hrow'
          have HB4 := Lib.hid (HBW.out.trans hb4)
          clear hown' hrow' hb4 hcell
          go_wp2
          go_roundg (gk - 1)
          case measure => omega
          case rel => exact ⟨ts ++ B, us', (by rw [List.length_append]; exact HO4.out), HR4.out, HB4.out, .inr (.inr ⟨by go_num, by omega, rfl⟩)⟩
        · have hks := row_slice hown hrow
          obtain ⟨Av, cv, rfl, -⟩ := ownK_form hown
          have HT := Lib.hid (hks.mono (fun q hq => (show Ext P wa wr q from hq.elim .inl .inr)))
          have HBW := Lib.hid hbw
          clear hks hbw hown hrow
          go_wp2
          go_ret
          exact ⟨⟨_, _, _, rfl, HT.out⟩, HBW.out⟩
end Go.Proofs.Ythamhgnhdjahgaa
