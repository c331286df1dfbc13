/-
  Several texts in one (Td Te Tf Tg Th Ti Tj Sc Sa Sd).
-/
import Derived.Test.YtpkgiemdnfbopaaGreatMKd
import Derived.Deep.LoopGhost
import Derived.Test.YtpkgiemdnfbopaaGreatMKb
import Derived.Deep.RegionHeld3
import Derived.Deep.AppendLies
import Derived.Test.YtpkgiemdnfbopaaGreatMKa
import Derived.Test.YtpkgiemdnfbopaaGreatMKc
namespace Go.Proofs.YtpkgiemdnfbopaaGreat
open Go Go.RowKit
open Pl (K Con)
set_option linter.unusedSimpArgs false
set_option linter.unusedVariables false

theorem IdxAt.kept {w w' : World} {b n N : Nat} {zs : List ByteArray} {G : Nat} (h : IdxAt w b n N zs) (hg : Only G w w') (hne : (some b : Option Nat) ≠ some G) : IdxAt w' b n N zs := by
  obtain ⟨D, h1, h2⟩ := h
  exact ⟨D, h1.kept (row := some G) hg hne, h2⟩
theorem conV_leaf9 (op n : Int) (w : World) (P : Nat → Prop) : ConV w P ⟨op, n, ByteArray.empty, .mk [], [], []⟩ (.agg #[.int .i64 op, .int .i64 n, .string ⟨#[]⟩, .slice none 0 0, .slice none 0 0, .slice none 0 0]) := conV_leaf op n w P
/-- where a name stands -/
def posB (s : ByteArray) : List ByteArray → Option Nat
  | [] => none
  | z :: r => if z = s then some 0 else (posB s r).map (· + 1)
theorem posB_some (s : ByteArray) : ∀ (zs : List ByteArray) (i : Nat), posB s zs = some i → ∃ h : i < zs.length, zs[i] = s := by
  intro zs
  induction zs with
  | nil => intro i h; cases h
  | cons z r ih =>
    intro i h
    rw [posB] at h
    split at h
    · injection h with h
      subst h
      rename_i hz
      exact ⟨by simp, hz⟩
    · cases hr : posB s r with
      | none => rw [hr] at h; cases h
      | some j =>
        rw [hr] at h
        injection h with h
        subst h
        obtain ⟨h1, h2⟩ := ih j hr
        exact ⟨by simp; omega, by simpa using h2⟩
theorem posB_none (s : ByteArray) : ∀ (zs : List ByteArray), posB s zs = none → s ∉ zs := by
  intro zs
  induction zs with
  | nil => intro _ h; cases h
  | cons z r ih =>
    intro h hm
    rw [posB] at h
    split at h
    · cases h
    · rename_i hz
      cases hr : posB s r with
      | none =>
        rcases List.mem_cons.1 hm with e | e
        · exact hz e.symm
        · exact ih hr e
      | some j => rw [hr] at h; cases h
set_option maxRecDepth 100000 in
theorem idx_look {w : World} {b n N : Nat} {zs : List ByteArray} (h : IdxAt w b n N zs) (hnd : zs.Nodup) (s : ByteArray) (hs : s.size ≤ maxLen) :
    (∀ i, posB s zs = some i → (Instr.lookup 90 (.map (some b)) (.string s) true).run Tryz.prog w = .ok (.tuple #[.int .i64 ((N : Int) - 1 - (i : Nat)), .bool true]) w) ∧
    (posB s zs = none → (Instr.lookup 90 (.map (some b)) (.string s) true).run Tryz.prog w = .ok (.tuple #[.int .i64 0, .bool false]) w) := by
  obtain ⟨D, hD, hT, hS, hH, hV⟩ := h
  obtain ⟨v, ps, hrun, hv⟩ := hD.look_ok (Maps.string_keyed Tryz.underlying9) Tryz.underlying90 (z := .int .i64 0) (by simp [go_sem]) (zd := .lit (.int .i64 0)) (zp := []) (plainElem_int Tryz.underlying3 (by decide)) (WideMaps.keyOf_string_mk Tryz.underlying9 hs)
  obtain ⟨x, rfl, hx, -⟩ := plainElem_int_inv Tryz.underlying3 hv
  simp only [Prod.mk.injEq] at hx
  have hx1 := hx.1
  constructor
  · intro i hp
    obtain ⟨hi, hzi⟩ := posB_some s zs i hp
    have hm : s ∈ zs := by rw [← hzi]; exact List.getElem_mem hi
    have e := hV hnd i hi (.lit (.int .i64 0))
    rw [hzi] at e
    rw [e] at hx1
    injection hx1 with hx1
    injection hx1 with _ hx1
    rw [hrun, (hH s).2 hm, hx1]
  · intro hp
    have hm := posB_none s zs hp
    have hh : Maps.has D (.string s.data.toList) = false := by
      cases hh : Maps.has D (.string s.data.toList)
      · rfl
      · exact absurd ((hH s).1 hh) hm
    rw [Maps.atKey_of_not_has hh] at hx1
    injection hx1 with hx1
    injection hx1 with _ hx1
    rw [hrun, hh, hx1]
/-- what Bind makes of a leaf -/
def biF (names : List ByteArray) (t : Con) (d : Int) : Con :=
  if t.op = 1 then ⟨t.op, t.n + (names.length : Int), t.s, t.kind, t.names, t.l⟩ else match posB t.s names with | some i => ⟨1, d + ((names.length : Int) - 1 - (i : Nat)), ByteArray.empty, .mk [], [], []⟩ | none => t
/-- the boxes of Bind -/
structure BindBoxes (w : World) (g1 g2 g3 G : Nat) (x : Value) (mb : Nat) : Prop where
  lst : Blk w g1 25 #[x]
  idx : Blk w g2 90 #[.map (some mb)]
  bld : Blk w g3 93 #[.pointer (some ⟨G, 0, none⟩)]
set_option maxRecDepth 100000 in
set_option maxHeartbeats 4000000 in
theorem bindF_any (N G g1 g2 g3 mb mn : Nat) (names : List ByteArray) (xv : Value) (t : Con) (b d L : Int) (w : World) (v : Value) (hN : N ≤ G) (hs : BindBoxes w g1 g2 g3 G xv mb) (hx : IdxAt w mb mn names.length names) (hnd : names.Nodup) (hmb : mb ≠ G) (hxv : ∃ a c, xv = .slice a names.length c) (hnn2 : names.length ≤ 1000) (hG : Blk w G 139 #[.int .i64 L]) (ht : ConV w (· < N) t v) (ha : Con.nodeB t = true) (hlf : Con.leafy t b) (h0 : 0 ≤ L) (h1 : L ≤ 20000) (hb0 : 0 ≤ b) (hbd : b ≤ d) (hd0 : 1 ≤ d) (hd : d ≤ 401) :
    Calls Tryz.prog 62 #[v, .int .i64 b, .int .i64 d, .pointer (some ⟨g1, 0, none⟩), .pointer (some ⟨g2, 0, none⟩), .pointer (some ⟨g3, 0, none⟩)] w (RebP N G (biF names t b) L d w) := by
  obtain ⟨hkv, hnl, hll⟩ := node_facts t ha
  have hnn := nodeB_n t ha
  have hgl := hG.lt
  have hl0 : t.l = [] := leaf_none t ha (by rcases hlf with h | h; exact .inr h; exact .inl h.1)
  have htt := (conV_iff _ _ _ _).1 ht
  obtain ⟨ka, kn, kc, na, nn, nc, la, ln, lc, rfl, -, -, -⟩ := ht.shape
  have HPRT := Lib.hid (show t.s.size ≤ maxLen ∧ KidV w (· < N) t.kind (.slice ka kn kc) ∧ StrSl w (· < N) (.slice na nn nc) t.names ∧ ConSl w (· < N) (.slice la ln lc) t.l from by
    obtain ⟨hs, kv', nv', lv', e, hk, hn, hl⟩ := htt
    simp only [Value.agg.injEq, Array.mk.injEq, List.cons.injEq, and_true, true_and] at e
    obtain ⟨rfl, rfl, rfl⟩ := e
    exact ⟨hs, hk, hn, hl⟩)
  clear htt
  obtain ⟨sa, sc, rfl⟩ := hxv
  obtain ⟨n, hn⟩ : ∃ n, n = names.length := ⟨_, rfl⟩
  have HN := Lib.hid hn
  rw [← hn] at hs hnn2
  clear hn
  obtain ⟨hbx, hbx2, hb⟩ := twoN_new w 28 28 #[.int .i64 t.op, .int .i64 t.n, .string t.s, .slice ka kn kc, .slice na nn nc, .slice la ln lc] #[.int .i64 0, .int .i64 0, .string ⟨#[]⟩, .slice none 0 0, .slice none 0 0, .slice none 0 0]
  have HGL := Lib.hid hgl
  have HB := Lib.hid hb
  have HSB := Lib.hid (⟨hs.lst.of_eq (hb.block _ hs.lst.lt), hs.idx.of_eq (hb.block _ hs.idx.lt), hs.bld.of_eq (hb.block _ hs.bld.lt)⟩ : BindBoxes _ g1 g2 g3 G _ mb)
  have x1 := HSB.out.lst.cell 0 (.slice sa n sc) rfl
  have x2 := HSB.out.idx.cell 0 (.map (some mb)) rfl
  have x3 := HSB.out.bld.cell 0 (.pointer (some ⟨G, 0, none⟩)) rfl
  have c0 := hbx.cell 0 (.int .i64 t.op) rfl
  have c1 := hbx.cell 1 (.int .i64 t.n) rfl
  have c2 := hbx.cell 2 (.string t.s) rfl
  have c3 := hbx.cell 3 (.slice ka kn kc) rfl
  have c4 := hbx.cell 4 (.slice na nn nc) rfl
  have c5 := hbx.cell 5 (.slice la ln lc) rfl
  have fz := hbx.thaw 1
  by_cases h2 : t.op = 1
  · have q1 : (t.op == 1) = true := by rw [h2]; rfl
    have HW := Lib.hid (show biF names t b = (⟨t.op, t.n + (n : Int), t.s, t.kind, t.names, t.l⟩ : Con) from by unfold biF; rw [if_pos h2, ← HN.out])
    rw [HW.out]
    have w2 : wrap64 (t.n + (n : Int)) = t.n + (n : Int) := by rw [wrap64]; omega
    obtain ⟨hbx9, hby9, hb9⟩ := twoN_new w 28 28 #[.int .i64 t.op, .int .i64 (t.n + (n : Int)), .string t.s, .slice ka kn kc, .slice na nn nc, .slice la ln lc] #[.int .i64 0, .int .i64 0, .string ⟨#[]⟩, .slice none 0 0, .slice none 0 0, .slice none 0 0]
    have HSZ := Lib.hid (show ((w.alloc (.cells #[.int .i64 t.op, .int .i64 (t.n + (n : Int)), .string t.s, .slice ka kn kc, .slice na nn nc, .slice la ln lc] 28)).alloc (.cells #[.int .i64 0, .int .i64 0, .string ⟨#[]⟩, .slice none 0 0, .slice none 0 0, .slice none 0 0] 28)).heap.size = w.heap.size + 2 by simp)
    have hgg := hG.of_eq (hb9.block _ hG.lt)
    have HBY := Lib.hid hby9
    have HOW := Lib.hid (only_below (N := G) hb9)
    have HNODE := Lib.hid (node_leaf N G (⟨t.op, t.n + (n : Int), t.s, t.kind, t.names, t.l⟩ : Con) L d ((w.alloc (.cells #[.int .i64 t.op, .int .i64 (t.n + (n : Int)), .string t.s, .slice ka kn kc, .slice na nn nc, .slice la ln lc] 28)).alloc (.cells #[.int .i64 0, .int .i64 0, .string ⟨#[]⟩, .slice none 0 0, .slice none 0 0, .slice none 0 0] 28)) (.agg #[.int .i64 t.op, .int .i64 (t.n + (n : Int)), .string t.s, .slice ka kn kc, .slice na nn nc, .slice la ln lc]) hN hgg ((conV_iff _ _ _ _).2 ⟨HPRT.out.1, _, _, _, rfl, HPRT.out.2.1.keep (Same.of_below hb9 (fun q (hq : q < N) => by omega)), HPRT.out.2.2.1.keep (Same.of_below hb9 (fun q (hq : q < N) => by omega)), HPRT.out.2.2.2.keep (Same.of_below hb9 (fun q (hq : q < N) => by omega))⟩) hkv hl0 hnl h0 h1)
    have d0 := hbx9.cell 0 (.int .i64 t.op) rfl
    have d1 := hbx9.cell 1 (.int .i64 (t.n + (n : Int))) rfl
    have d2 := hbx9.cell 2 (.string t.s) rfl
    have d3 := hbx9.cell 3 (.slice ka kn kc) rfl
    have d4 := hbx9.cell 4 (.slice na nn nc) rfl
    have d5 := hbx9.cell 5 (.slice la ln lc) rfl
    have HS9 : BindBoxes ((w.alloc (.cells #[.int .i64 t.op, .int .i64 (t.n + (n : Int)), .string t.s, .slice ka kn kc, .slice na nn nc, .slice la ln lc] 28)).alloc (.cells #[.int .i64 0, .int .i64 0, .string ⟨#[]⟩, .slice none 0 0, .slice none 0 0, .slice none 0 0] 28)) g1 g2 g3 G _ mb := ⟨hs.lst.of_eq (hb9.block _ hs.lst.lt), hs.idx.of_eq (hb9.block _ hs.idx.lt), hs.bld.of_eq (hb9.block _ hs.bld.lt)⟩
    have y1 := HS9.lst.cell 0 (.slice sa n sc) rfl
    have y3 := HS9.bld.cell 0 (.pointer (some ⟨G, 0, none⟩)) rfl
    clear hG ht ha hs hgl hlf HPRT hbx9 hby9 hb9 hgg HW HSB HB hbx hbx2 hb hx HS9 h2 hkv hnl hl0
    go_enter Tryz.func62, Tryz.ntmps62
    go_wp2_with fail
    clear c0 c1 c2 c3 c4 c5 d0 d1 d2 d3 d4 d5 x1 x2 x3 fz
    generalize ((w.alloc (.cells #[.int .i64 t.op, .int .i64 (t.n + (n : Int)), .string t.s, .slice ka kn kc, .slice na nn nc, .slice la ln lc] 28)).alloc (.cells #[.int .i64 0, .int .i64 0, .string ⟨#[]⟩, .slice none 0 0, .slice none 0 0, .slice none 0 0] 28)) = wa at *
    refine HNODE.out.mono ?_
    rintro e w3 ⟨ho3, y, u, c, rfl, hy, hg3, hc0, hc1, hfit⟩
    have hsz := HSZ.out
    have hss := ho3.size
    have hgl2 := HGL.out
    obtain ⟨ua, un, uc, va, vn, vc, xa, xn, xc, rfl, -, -, -⟩ := hy.shape
    have hby := ho3.blk HBY.out (show w.heap.size + 1 ≠ G from by have := HGL.out; omega)
    have t0 := hby.thaw 0
    have t1 := hby.thaw 1
    have t2 := hby.thaw 2
    have t3 := hby.thaw 3
    have t4 := hby.thaw 4
    have t5 := hby.thaw 5
    have r0 := hby.cell 0 (.int .i64 0) rfl
    have r1 := hby.cell 1 (.int .i64 0) rfl
    have r2 := hby.cell 2 (.string ⟨#[]⟩) rfl
    have r3 := hby.cell 3 (.slice none 0 0) rfl
    have r4 := hby.cell 4 (.slice none 0 0) rfl
    have r5 := hby.cell 5 (.slice none 0 0) rfl
    have hz := store6_blk hby 0 (.int .i64 u.op) (.int .i64 u.n) (.string u.s) (.slice ua un uc) (.slice va vn vc) (.slice xa xn xc)
    rw [put6_all] at hz
    have HE := Lib.hid (show RebP N G (⟨t.op, t.n + (n : Int), t.s, t.kind, t.names, t.l⟩ : Con) L d w (.returned (.tuple #[.agg #[.int .i64 u.op, .int .i64 u.n, .string u.s, .slice ua un uc, .slice va vn vc, .slice xa xn xc], .bool (fitB (⟨t.op, t.n + (n : Int), t.s, t.kind, t.names, t.l⟩ : Con) L d)])) (store6 w3 (w.heap.size + 1) 0 (.int .i64 u.op) (.int .i64 u.n) (.string u.s) (.slice ua un uc) (.slice va vn vc) (.slice xa xn xc)) from by
      refine ⟨store6_only (HOW.out.trans ho3) _ _ _ _ _ _ _ _ (.inr (Nat.le_succ _)), _, u, c, rfl, ?_, hg3.of_eq (store6_other _ _ _ _ _ _ _ _ _ G (by have := HGL.out; omega)), hc0, hc1, hfit⟩
      refine (hy.keep (fun q hq => store6_other _ _ _ _ _ _ _ _ _ q (by rcases hq with hq | hq <;> omega))).mono (fun q hq => ?_)
      rcases hq with hq | hq
      · exact .inl hq
      · exact .inr ⟨by omega, by rw [store6_size]; exact hq.2⟩)
    unfold store6 at hz HE
    simp only [Nat.zero_add] at hz HE
    have z0 := hz.cell 0 (.int .i64 u.op) rfl
    have z1 := hz.cell 1 (.int .i64 u.n) rfl
    have z2 := hz.cell 2 (.string u.s) rfl
    have z3 := hz.cell 3 (.slice ua un uc) rfl
    have z4 := hz.cell 4 (.slice va vn vc) rfl
    have z5 := hz.cell 5 (.slice xa xn xc) rfl
    clear hy hg3 hfit hby hz ho3 hsz hss hgl2 HNODE HOW HBY HSZ
    generalize fitB (⟨t.op, t.n + (n : Int), t.s, t.kind, t.names, t.l⟩ : Con) L d = r at *
    go_wp2
    refine bodyPost_ret (v := .tuple #[.agg #[.int .i64 u.op, .int .i64 u.n, .string u.s, .slice ua un uc, .slice va vn vc, .slice xa xn xc], .bool r]) (by simp [results, Tryz.results62, go_sem, z0, z1, z2, z3, z4, z5]) rfl ?_
    exact HE.out
  have q1 : (t.op == 1) = false := by simpa using h2
  have hlk := idx_look (hx.kept (only_below (N := G) hb) (fun e => by injection e with e; exact hmb e)) hnd t.s HPRT.out.1
  cases hm : posB t.s names with
  | some ix =>
    have hl9 := hlk.1 ix hm
    obtain ⟨hi9, -⟩ := posB_some _ _ _ hm
    have HW := Lib.hid (show biF names t b = (⟨1, b + ((n : Int) - 1 - (ix : Nat)), ByteArray.empty, .mk [], [], []⟩ : Con) from by unfold biF; rw [if_neg h2, hm, ← HN.out])
    rw [HW.out]
    rw [← HN.out] at hl9 hi9
    have w2 : wrap64 (b + ((n : Int) - 1 - (ix : Nat))) = b + ((n : Int) - 1 - (ix : Nat)) := by rw [wrap64]; omega
    obtain ⟨hbx9, hby9, hb9⟩ := twoN_new w 28 28 #[.int .i64 1, .int .i64 (b + ((n : Int) - 1 - (ix : Nat))), .string ⟨#[]⟩, .slice none 0 0, .slice none 0 0, .slice none 0 0] #[.int .i64 0, .int .i64 0, .string ⟨#[]⟩, .slice none 0 0, .slice none 0 0, .slice none 0 0]
    have HSZ := Lib.hid (show ((w.alloc (.cells #[.int .i64 1, .int .i64 (b + ((n : Int) - 1 - (ix : Nat))), .string ⟨#[]⟩, .slice none 0 0, .slice none 0 0, .slice none 0 0] 28)).alloc (.cells #[.int .i64 0, .int .i64 0, .string ⟨#[]⟩, .slice none 0 0, .slice none 0 0, .slice none 0 0] 28)).heap.size = w.heap.size + 2 by simp)
    have hgg := hG.of_eq (hb9.block _ hG.lt)
    have HBY := Lib.hid hby9
    have HOW := Lib.hid (only_below (N := G) hb9)
    have HNODE := Lib.hid (node_leaf N G (⟨1, b + ((n : Int) - 1 - (ix : Nat)), ByteArray.empty, .mk [], [], []⟩ : Con) L d ((w.alloc (.cells #[.int .i64 1, .int .i64 (b + ((n : Int) - 1 - (ix : Nat))), .string ⟨#[]⟩, .slice none 0 0, .slice none 0 0, .slice none 0 0] 28)).alloc (.cells #[.int .i64 0, .int .i64 0, .string ⟨#[]⟩, .slice none 0 0, .slice none 0 0, .slice none 0 0] 28)) (.agg #[.int .i64 1, .int .i64 (b + ((n : Int) - 1 - (ix : Nat))), .string ⟨#[]⟩, .slice none 0 0, .slice none 0 0, .slice none 0 0]) hN hgg (conV_leaf9 _ _ _ _) (show K.valid (.mk []) = true from by decide +kernel) rfl (Nat.zero_le _) h0 h1)
    have d0 := hbx9.cell 0 (.int .i64 1) rfl
    have d1 := hbx9.cell 1 (.int .i64 (b + ((n : Int) - 1 - (ix : Nat)))) rfl
    have d2 := hbx9.cell 2 (.string ⟨#[]⟩) rfl
    have d3 := hbx9.cell 3 (.slice none 0 0) rfl
    have d4 := hbx9.cell 4 (.slice none 0 0) rfl
    have d5 := hbx9.cell 5 (.slice none 0 0) rfl
    have HS9 : BindBoxes ((w.alloc (.cells #[.int .i64 1, .int .i64 (b + ((n : Int) - 1 - (ix : Nat))), .string ⟨#[]⟩, .slice none 0 0, .slice none 0 0, .slice none 0 0] 28)).alloc (.cells #[.int .i64 0, .int .i64 0, .string ⟨#[]⟩, .slice none 0 0, .slice none 0 0, .slice none 0 0] 28)) g1 g2 g3 G _ mb := ⟨hs.lst.of_eq (hb9.block _ hs.lst.lt), hs.idx.of_eq (hb9.block _ hs.idx.lt), hs.bld.of_eq (hb9.block _ hs.bld.lt)⟩
    have y3 := HS9.bld.cell 0 (.pointer (some ⟨G, 0, none⟩)) rfl
    clear hG ht ha hs hgl hlf HPRT hbx9 hby9 hb9 hgg HW HSB HB hbx hbx2 hb hx HS9 h2 hkv hnl hl0 hlk hm hi9
    go_enter Tryz.func62, Tryz.ntmps62
    go_wp2_with fail
    clear c0 c1 c2 c3 c4 c5 d0 d1 d2 d3 d4 d5 x1 x2 x3 fz
    generalize ((w.alloc (.cells #[.int .i64 1, .int .i64 (b + ((n : Int) - 1 - (ix : Nat))), .string ⟨#[]⟩, .slice none 0 0, .slice none 0 0, .slice none 0 0] 28)).alloc (.cells #[.int .i64 0, .int .i64 0, .string ⟨#[]⟩, .slice none 0 0, .slice none 0 0, .slice none 0 0] 28)) = wa at *
    refine HNODE.out.mono ?_
    rintro e w3 ⟨ho3, y, u, c, rfl, hy, hg3, hc0, hc1, hfit⟩
    have hsz := HSZ.out
    have hss := ho3.size
    have hgl2 := HGL.out
    obtain ⟨ua, un, uc, va, vn, vc, xa, xn, xc, rfl, -, -, -⟩ := hy.shape
    have hby := ho3.blk HBY.out (show w.heap.size + 1 ≠ G from by have := HGL.out; omega)
    have t0 := hby.thaw 0
    have t1 := hby.thaw 1
    have t2 := hby.thaw 2
    have t3 := hby.thaw 3
    have t4 := hby.thaw 4
    have t5 := hby.thaw 5
    have r0 := hby.cell 0 (.int .i64 0) rfl
    have r1 := hby.cell 1 (.int .i64 0) rfl
    have r2 := hby.cell 2 (.string ⟨#[]⟩) rfl
    have r3 := hby.cell 3 (.slice none 0 0) rfl
    have r4 := hby.cell 4 (.slice none 0 0) rfl
    have r5 := hby.cell 5 (.slice none 0 0) rfl
    have hz := store6_blk hby 0 (.int .i64 u.op) (.int .i64 u.n) (.string u.s) (.slice ua un uc) (.slice va vn vc) (.slice xa xn xc)
    rw [put6_all] at hz
    have HE := Lib.hid (show RebP N G (⟨1, b + ((n : Int) - 1 - (ix : Nat)), ByteArray.empty, .mk [], [], []⟩ : Con) L d w (.returned (.tuple #[.agg #[.int .i64 u.op, .int .i64 u.n, .string u.s, .slice ua un uc, .slice va vn vc, .slice xa xn xc], .bool (fitB (⟨1, b + ((n : Int) - 1 - (ix : Nat)), ByteArray.empty, .mk [], [], []⟩ : Con) L d)])) (store6 w3 (w.heap.size + 1) 0 (.int .i64 u.op) (.int .i64 u.n) (.string u.s) (.slice ua un uc) (.slice va vn vc) (.slice xa xn xc)) from by
      refine ⟨store6_only (HOW.out.trans ho3) _ _ _ _ _ _ _ _ (.inr (Nat.le_succ _)), _, u, c, rfl, ?_, hg3.of_eq (store6_other _ _ _ _ _ _ _ _ _ G (by have := HGL.out; omega)), hc0, hc1, hfit⟩
      refine (hy.keep (fun q hq => store6_other _ _ _ _ _ _ _ _ _ q (by rcases hq with hq | hq <;> omega))).mono (fun q hq => ?_)
      rcases hq with hq | hq
      · exact .inl hq
      · exact .inr ⟨by omega, by rw [store6_size]; exact hq.2⟩)
    unfold store6 at hz HE
    simp only [Nat.zero_add] at hz HE
    have z0 := hz.cell 0 (.int .i64 u.op) rfl
    have z1 := hz.cell 1 (.int .i64 u.n) rfl
    have z2 := hz.cell 2 (.string u.s) rfl
    have z3 := hz.cell 3 (.slice ua un uc) rfl
    have z4 := hz.cell 4 (.slice va vn vc) rfl
    have z5 := hz.cell 5 (.slice xa xn xc) rfl
    clear hy hg3 hfit hby hz ho3 hsz hss hgl2 HNODE HOW HBY HSZ
    generalize fitB (⟨1, b + ((n : Int) - 1 - (ix : Nat)), ByteArray.empty, .mk [], [], []⟩ : Con) L d = r at *
    go_wp2
    refine bodyPost_ret (v := .tuple #[.agg #[.int .i64 u.op, .int .i64 u.n, .string u.s, .slice ua un uc, .slice va vn vc, .slice xa xn xc], .bool r]) (by simp [results, Tryz.results62, go_sem, z0, z1, z2, z3, z4, z5]) rfl ?_
    exact HE.out
  | none =>
    have hl9 := hlk.2 hm
    have HW := Lib.hid (show biF names t b = t from by unfold biF; rw [if_neg h2, hm])
    rw [HW.out]
    obtain ⟨hbx9, hby9, hb9⟩ := twoN_new w 28 28 #[.int .i64 t.op, .int .i64 t.n, .string t.s, .slice ka kn kc, .slice na nn nc, .slice la ln lc] #[.int .i64 0, .int .i64 0, .string ⟨#[]⟩, .slice none 0 0, .slice none 0 0, .slice none 0 0]
    have HSZ := Lib.hid (show ((w.alloc (.cells #[.int .i64 t.op, .int .i64 t.n, .string t.s, .slice ka kn kc, .slice na nn nc, .slice la ln lc] 28)).alloc (.cells #[.int .i64 0, .int .i64 0, .string ⟨#[]⟩, .slice none 0 0, .slice none 0 0, .slice none 0 0] 28)).heap.size = w.heap.size + 2 by simp)
    have hgg := hG.of_eq (hb9.block _ hG.lt)
    have HBY := Lib.hid hby9
    have HOW := Lib.hid (only_below (N := G) hb9)
    have HNODE := Lib.hid (node_leaf N G (t) L d ((w.alloc (.cells #[.int .i64 t.op, .int .i64 t.n, .string t.s, .slice ka kn kc, .slice na nn nc, .slice la ln lc] 28)).alloc (.cells #[.int .i64 0, .int .i64 0, .string ⟨#[]⟩, .slice none 0 0, .slice none 0 0, .slice none 0 0] 28)) (.agg #[.int .i64 t.op, .int .i64 t.n, .string t.s, .slice ka kn kc, .slice na nn nc, .slice la ln lc]) hN hgg ((conV_iff _ _ _ _).2 ⟨HPRT.out.1, _, _, _, rfl, HPRT.out.2.1.keep (Same.of_below hb9 (fun q (hq : q < N) => by omega)), HPRT.out.2.2.1.keep (Same.of_below hb9 (fun q (hq : q < N) => by omega)), HPRT.out.2.2.2.keep (Same.of_below hb9 (fun q (hq : q < N) => by omega))⟩) hkv hl0 hnl h0 h1)
    have d0 := hbx9.cell 0 (.int .i64 t.op) rfl
    have d1 := hbx9.cell 1 (.int .i64 t.n) rfl
    have d2 := hbx9.cell 2 (.string t.s) rfl
    have d3 := hbx9.cell 3 (.slice ka kn kc) rfl
    have d4 := hbx9.cell 4 (.slice na nn nc) rfl
    have d5 := hbx9.cell 5 (.slice la ln lc) rfl
    clear hG ht ha hs hgl hlf HPRT hbx9 hby9 hb9 hgg HW HSB HB hbx hbx2 hb hx h2 hkv hnl hl0 hlk hm
    go_enter Tryz.func62, Tryz.ntmps62
    go_wp2_with fail
    clear c0 c1 c2 c3 c4 c5 d0 d1 d2 d3 d4 d5 x1 x2 x3 fz
    generalize ((w.alloc (.cells #[.int .i64 t.op, .int .i64 t.n, .string t.s, .slice ka kn kc, .slice na nn nc, .slice la ln lc] 28)).alloc (.cells #[.int .i64 0, .int .i64 0, .string ⟨#[]⟩, .slice none 0 0, .slice none 0 0, .slice none 0 0] 28)) = wa at *
    refine HNODE.out.mono ?_
    rintro e w3 ⟨ho3, y, u, c, rfl, hy, hg3, hc0, hc1, hfit⟩
    have hsz := HSZ.out
    have hss := ho3.size
    have hgl2 := HGL.out
    obtain ⟨ua, un, uc, va, vn, vc, xa, xn, xc, rfl, -, -, -⟩ := hy.shape
    have hby := ho3.blk HBY.out (show w.heap.size + 1 ≠ G from by have := HGL.out; omega)
    have t0 := hby.thaw 0
    have t1 := hby.thaw 1
    have t2 := hby.thaw 2
    have t3 := hby.thaw 3
    have t4 := hby.thaw 4
    have t5 := hby.thaw 5
    have r0 := hby.cell 0 (.int .i64 0) rfl
    have r1 := hby.cell 1 (.int .i64 0) rfl
    have r2 := hby.cell 2 (.string ⟨#[]⟩) rfl
    have r3 := hby.cell 3 (.slice none 0 0) rfl
    have r4 := hby.cell 4 (.slice none 0 0) rfl
    have r5 := hby.cell 5 (.slice none 0 0) rfl
    have hz := store6_blk hby 0 (.int .i64 u.op) (.int .i64 u.n) (.string u.s) (.slice ua un uc) (.slice va vn vc) (.slice xa xn xc)
    rw [put6_all] at hz
    have HE := Lib.hid (show RebP N G (t) L d w (.returned (.tuple #[.agg #[.int .i64 u.op, .int .i64 u.n, .string u.s, .slice ua un uc, .slice va vn vc, .slice xa xn xc], .bool (fitB (t) L d)])) (store6 w3 (w.heap.size + 1) 0 (.int .i64 u.op) (.int .i64 u.n) (.string u.s) (.slice ua un uc) (.slice va vn vc) (.slice xa xn xc)) from by
      refine ⟨store6_only (HOW.out.trans ho3) _ _ _ _ _ _ _ _ (.inr (Nat.le_succ _)), _, u, c, rfl, ?_, hg3.of_eq (store6_other _ _ _ _ _ _ _ _ _ G (by have := HGL.out; omega)), hc0, hc1, hfit⟩
      refine (hy.keep (fun q hq => store6_other _ _ _ _ _ _ _ _ _ q (by rcases hq with hq | hq <;> omega))).mono (fun q hq => ?_)
      rcases hq with hq | hq
      · exact .inl hq
      · exact .inr ⟨by omega, by rw [store6_size]; exact hq.2⟩)
    unfold store6 at hz HE
    simp only [Nat.zero_add] at hz HE
    have z0 := hz.cell 0 (.int .i64 u.op) rfl
    have z1 := hz.cell 1 (.int .i64 u.n) rfl
    have z2 := hz.cell 2 (.string u.s) rfl
    have z3 := hz.cell 3 (.slice ua un uc) rfl
    have z4 := hz.cell 4 (.slice va vn vc) rfl
    have z5 := hz.cell 5 (.slice xa xn xc) rfl
    clear hy hg3 hfit hby hz ho3 hsz hss hgl2 HNODE HOW HBY HSZ
    generalize fitB (t) L d = r at *
    go_wp2
    refine bodyPost_ret (v := .tuple #[.agg #[.int .i64 u.op, .int .i64 u.n, .string u.s, .slice ua un uc, .slice va vn vc, .slice xa xn xc], .bool r]) (by simp [results, Tryz.results62, go_sem, z0, z1, z2, z3, z4, z5]) rfl ?_
    exact HE.out
end Go.Proofs.YtpkgiemdnfbopaaGreat
namespace Go.Proofs.YtpkgiemdnfbopaaGreat
open Go Go.RowKit
open Pl (K Con)
set_option linter.unusedSimpArgs false
set_option linter.unusedVariables false

theorem idxCode_zero (names : List ByteArray) (h : idxCode names = 0) : names.length ≤ 1000 ∧ names.Nodup := by
  unfold idxCode at h
  split at h
  · cases h
  · split at h
    · rename_i h1 h2
      exact ⟨by omega, h2⟩
    · cases h
theorem bind_change (N G g1 g2 g3 mb mn : Nat) (names : List ByteArray) (xv : Value) (w : World) (hN : N ≤ G) (hgl : G < w.heap.size) (hs : BindBoxes w g1 g2 g3 G xv mb) (hx : IdxAt w mb mn names.length names) (hnd : names.Nodup) (hmb : mb ≠ G) (h1 : g1 ≠ G) (h2 : g2 ≠ G) (h3 : g3 ≠ G) (hxv : ∃ a c, xv = .slice a names.length c) (hnn2 : names.length ≤ 1000) :
    ChangeOk N G 62 #[.pointer (some ⟨g1, 0, none⟩), .pointer (some ⟨g2, 0, none⟩), .pointer (some ⟨g3, 0, none⟩)] (biF names) w :=
  ⟨fun _ _ => by kernel_rfl, fun W t v b2 d L hW hg h0 h1' hb0 hbd hd0 hd1 hlf ha ht => bindF_any N G g1 g2 g3 mb mn names xv t b2 d L W v hN ⟨hW.blk hs.lst h1, hW.blk hs.idx h2, hW.blk hs.bld h3⟩ (hx.kept hW (fun e => by injection e with e; exact hmb e)) hnd hmb hxv hnn2 hg ht ha hlf h0 h1' hb0 hbd hd0 hd1⟩
/-- what Bind answers -/
def bindOut (t : Con) (names : List ByteArray) : Con × Int :=
  if (Con.validB t && names.all (fun s => Pl.cname s.toList)) = true then (if idxCode names = 0 then fitOut (Con.reb (biF names) t 0) else (Con.none0, idxCode names)) else (Con.none0, 1)
set_option maxRecDepth 100000 in
set_option maxHeartbeats 4000000 in
theorem cbind_new (t : Con) (names : List ByteArray) (w : World) (v xv : Value) (ht : ConV w (· < w.heap.size) t v) (hl : StrSl w (· < w.heap.size) xv names) :
    Calls Tryz.prog 14 #[v, xv] w (OutF (bindOut t names) w) := by
  have HV := Lib.hid (fun W (hW : Below w.heap.size w W) => cvalid_any (· < w.heap.size) t W v (fun q hq => Nat.lt_of_lt_of_le hq hW.size) (ht.keep (Same.of_below hW (fun _ h => h))))
  have HALL := Lib.hid (fun W (hW : Below w.heap.size w W) => allS_any 58 (fun _ _ => by kernel_rfl) (fun s => Pl.cname s.toList) (fun s W hs => ccname_any s W hs) (· < w.heap.size) names W xv (fun q hq => Nat.lt_of_lt_of_le hq hW.size) (hl.keep (Same.of_below hW (fun _ h => h))))
  have HIX := Lib.hid (fun W (hW : Below w.heap.size w W) => indices_any (· < w.heap.size) xv names W (fun q hq => Nat.lt_of_lt_of_le hq hW.size) (hl.keep (Same.of_below hW (fun _ h => h))))
  have HO := Lib.hid (show bindOut t names = if (Con.validB t && names.all (fun s => Pl.cname s.toList)) = true then (if idxCode names = 0 then fitOut (Con.reb (biF names) t 0) else (Con.none0, idxCode names)) else (Con.none0, 1) from rfl)
  have hxf : ∃ a c, xv = .slice a names.length c := by obtain ⟨a, c, e, -⟩ := hl; exact ⟨a, c, e⟩
  have HR := Lib.hid (fun (wb : World) (G g1 g2 g3 mb mn : Nat) (hG : w.heap.size ≤ G) (hv : Con.validB t = true) (hnc : names.length ≤ 1000 ∧ names.Nodup) (hw : Below w.heap.size w wb) (hbl : Blk wb G 139 #[.int .i64 20000]) (hs : BindBoxes wb g1 g2 g3 G xv mb) (hx : IdxAt wb mb mn names.length names) (hmb : mb ≠ G) (h1 : g1 ≠ G) (h2 : g2 ≠ G) (h3 : g3 ≠ G) =>
    result_any w.heap.size G _ _ (biF names) wb (bind_change w.heap.size G g1 g2 g3 mb mn names xv wb hG hbl.lt hs hx hnc.2 hmb h1 h2 h3 hxf hnc.1) hG t v (valid_all t hv) hbl (ht.keep (Same.of_below hw (fun _ h => h))))
  obtain ⟨ka, kn, kc, na, nn, nc, la, ln, lc, rfl, -, -, -⟩ := ht.shape
  obtain ⟨sa, sc, rfl⟩ := hxf
  obtain ⟨n, hn⟩ : ∃ n, n = names.length := ⟨_, rfl⟩
  have HN := Lib.hid hn
  rw [← hn] at HALL HIX HR ⊢
  have hb1 := boxN_new w 28 #[.int .i64 t.op, .int .i64 t.n, .string t.s, .slice ka kn kc, .slice na nn nc, .slice la ln lc]
  have hb2 := boxN_new (w.alloc (.cells #[.int .i64 t.op, .int .i64 t.n, .string t.s, .slice ka kn kc, .slice na nn nc, .slice la ln lc] 28)) 25 #[.slice sa n sc]
  have hb3 := boxN_new ((w.alloc (.cells #[.int .i64 t.op, .int .i64 t.n, .string t.s, .slice ka kn kc, .slice na nn nc, .slice la ln lc] 28)).alloc (.cells #[.slice sa n sc] 25)) 28 #[.int .i64 0, .int .i64 0, .string ⟨#[]⟩, .slice none 0 0, .slice none 0 0, .slice none 0 0]
  have k1 := (hb1.1.alloc (.cells #[.slice sa n sc] 25)).alloc (.cells #[.int .i64 0, .int .i64 0, .string ⟨#[]⟩, .slice none 0 0, .slice none 0 0, .slice none 0 0] 28)
  have k2 := hb2.1.alloc (.cells #[.int .i64 0, .int .i64 0, .string ⟨#[]⟩, .slice none 0 0, .slice none 0 0, .slice none 0 0] 28)
  have k3 := hb3.1
  have hbb := belowStep hb3.2 (belowStep hb2.2 hb1.2)
  rw [size_alloc] at k2
  rw [size_alloc, size_alloc] at k3
  have HBX := Lib.hid k1
  have HBL := Lib.hid k2
  have HZ := Lib.hid k3
  have HB := Lib.hid hbb
  clear hb1 hb2 hb3 k1 k2 k3 hbb ht hl hn
  go_enter Tryz.func14, Tryz.ntmps14
  go_upto_region 1 with fail
  generalize ((w.alloc (.cells #[.int .i64 t.op, .int .i64 t.n, .string t.s, .slice ka kn kc, .slice na nn nc, .slice la ln lc] 28)).alloc (.cells #[.slice sa n sc] 25)).alloc (.cells #[.int .i64 0, .int .i64 0, .string ⟨#[]⟩, .slice none 0 0, .slice none 0 0, .slice none 0 0] 28) = w1 at *
  have c0 := HBX.out.cell 0 (.int .i64 t.op) rfl
  have c1 := HBX.out.cell 1 (.int .i64 t.n) rfl
  have c2 := HBX.out.cell 2 (.string t.s) rfl
  have c3 := HBX.out.cell 3 (.slice ka kn kc) rfl
  have c4 := HBX.out.cell 4 (.slice na nn nc) rfl
  have c5 := HBX.out.cell 5 (.slice la ln lc) rfl
  go_wp2_with fail
  clear c0 c1 c2 c3 c4 c5
  refine (HV.out _ HB.out).mono ?_
  rintro e w2 ⟨rfl, h2⟩
  replace HBX := Lib.hid (HBX.out.of_eq (h2.block _ HBX.out.lt))
  replace HBL := Lib.hid (HBL.out.of_eq (h2.block _ HBL.out.lt))
  replace HZ := Lib.hid (HZ.out.of_eq (h2.block _ HZ.out.lt))
  replace HB := Lib.hid (belowStep h2 HB.out)
  clear h2
  cases hv : Con.validB t
  · have HO2 := Lib.hid (show bindOut t names = (Con.none0, 1) from by rw [HO.out, if_neg (by rw [hv]; simp)])
    have hzz := HZ.out
    have hz := store6_blk hzz 0 (.int .i64 0) (.int .i64 0) (.string ⟨#[]⟩) (.slice none 0 0) (.slice none 0 0) (.slice none 0 0)
    rw [put6_all] at hz
    have HE := Lib.hid (show OutF (bindOut t names) w (.returned (.tuple #[.agg #[.int .i64 0, .int .i64 0, .string ⟨#[]⟩, .slice none 0 0, .slice none 0 0, .slice none 0 0], .int .i64 1])) (store6 w2 (w.heap.size + 1 + 1) 0 (.int .i64 0) (.int .i64 0) (.string ⟨#[]⟩) (.slice none 0 0) (.slice none 0 0) (.slice none 0 0)) from ⟨⟨_, by rw [HO2.out], by rw [HO2.out]; exact conV_none _ _⟩, store6_below HB.out _ _ _ _ _ _ _ _ (by omega)⟩)
    unfold store6 at hz HE
    simp only [Nat.zero_add] at hz HE
    have z0 := hz.cell 0 (.int .i64 0) rfl
    have z1 := hz.cell 1 (.int .i64 0) rfl
    have z2 := hz.cell 2 (.string ⟨#[]⟩) rfl
    have z3 := hz.cell 3 (.slice none 0 0) rfl
    have z4 := hz.cell 4 (.slice none 0 0) rfl
    have z5 := hz.cell 5 (.slice none 0 0) rfl
    have r0 := hzz.cell 0 (.int .i64 0) rfl
    have r1 := hzz.cell 1 (.int .i64 0) rfl
    have r2 := hzz.cell 2 (.string ⟨#[]⟩) rfl
    have r3 := hzz.cell 3 (.slice none 0 0) rfl
    have r4 := hzz.cell 4 (.slice none 0 0) rfl
    have r5 := hzz.cell 5 (.slice none 0 0) rfl
    have t0 := hzz.thaw 0
    have t1 := hzz.thaw 1
    have t2 := hzz.thaw 2
    have t3 := hzz.thaw 3
    have t4 := hzz.thaw 4
    have t5 := hzz.thaw 5
    clear hz hzz HV HALL HO HBX HBL HZ HO2 HIX HR
    go_wp2
    refine bodyPost_ret (v := .tuple #[.agg #[.int .i64 0, .int .i64 0, .string ⟨#[]⟩, .slice none 0 0, .slice none 0 0, .slice none 0 0], .int .i64 1]) (by simp [results, Tryz.results14, go_sem, z0, z1, z2, z3, z4, z5]) rfl ?_
    exact HE.out
  have HVT := Lib.hid hv
  clear hv HV
  have x0 := HBL.out.cell 0 (.slice sa n sc) rfl
  go_wp2_with fail
  clear x0
  refine (HALL.out _ HB.out).mono ?_
  rintro e w3 ⟨rfl, h3⟩
  replace HBX := Lib.hid (HBX.out.of_eq (h3.block _ HBX.out.lt))
  replace HBL := Lib.hid (HBL.out.of_eq (h3.block _ HBL.out.lt))
  replace HZ := Lib.hid (HZ.out.of_eq (h3.block _ HZ.out.lt))
  replace HB := Lib.hid (belowStep h3 HB.out)
  clear h3
  cases hlv : names.all (fun s => Pl.cname s.toList)
  · have HO2 := Lib.hid (show bindOut t names = (Con.none0, 1) from by rw [HO.out, if_neg (by rw [hlv]; simp)])
    have hzz := HZ.out
    have hz := store6_blk hzz 0 (.int .i64 0) (.int .i64 0) (.string ⟨#[]⟩) (.slice none 0 0) (.slice none 0 0) (.slice none 0 0)
    rw [put6_all] at hz
    have HE := Lib.hid (show OutF (bindOut t names) w (.returned (.tuple #[.agg #[.int .i64 0, .int .i64 0, .string ⟨#[]⟩, .slice none 0 0, .slice none 0 0, .slice none 0 0], .int .i64 1])) (store6 w3 (w.heap.size + 1 + 1) 0 (.int .i64 0) (.int .i64 0) (.string ⟨#[]⟩) (.slice none 0 0) (.slice none 0 0) (.slice none 0 0)) from ⟨⟨_, by rw [HO2.out], by rw [HO2.out]; exact conV_none _ _⟩, store6_below HB.out _ _ _ _ _ _ _ _ (by omega)⟩)
    unfold store6 at hz HE
    simp only [Nat.zero_add] at hz HE
    have z0 := hz.cell 0 (.int .i64 0) rfl
    have z1 := hz.cell 1 (.int .i64 0) rfl
    have z2 := hz.cell 2 (.string ⟨#[]⟩) rfl
    have z3 := hz.cell 3 (.slice none 0 0) rfl
    have z4 := hz.cell 4 (.slice none 0 0) rfl
    have z5 := hz.cell 5 (.slice none 0 0) rfl
    have r0 := hzz.cell 0 (.int .i64 0) rfl
    have r1 := hzz.cell 1 (.int .i64 0) rfl
    have r2 := hzz.cell 2 (.string ⟨#[]⟩) rfl
    have r3 := hzz.cell 3 (.slice none 0 0) rfl
    have r4 := hzz.cell 4 (.slice none 0 0) rfl
    have r5 := hzz.cell 5 (.slice none 0 0) rfl
    have t0 := hzz.thaw 0
    have t1 := hzz.thaw 1
    have t2 := hzz.thaw 2
    have t3 := hzz.thaw 3
    have t4 := hzz.thaw 4
    have t5 := hzz.thaw 5
    clear hz hzz HALL HO HBX HBL HZ HO2 HIX HR
    go_wp2
    refine bodyPost_ret (v := .tuple #[.agg #[.int .i64 0, .int .i64 0, .string ⟨#[]⟩, .slice none 0 0, .slice none 0 0, .slice none 0 0], .int .i64 1]) (by simp [results, Tryz.results14, go_sem, z0, z1, z2, z3, z4, z5]) rfl ?_
    exact HE.out
  have HLV := Lib.hid hlv
  clear hlv HALL
  have x0 := HBL.out.cell 0 (.slice sa n sc) rfl
  go_wp2_with fail
  clear x0
  refine (HIX.out _ HB.out).mono ?_
  rintro e w4 ⟨⟨m, rfl, hm1, hm2⟩, h4⟩
  replace HBX := Lib.hid (HBX.out.of_eq (h4.block _ HBX.out.lt))
  replace HBL := Lib.hid (HBL.out.of_eq (h4.block _ HBL.out.lt))
  replace HZ := Lib.hid (HZ.out.of_eq (h4.block _ HZ.out.lt))
  replace HB := Lib.hid (belowStep h4 HB.out)
  by_cases hic : idxCode names = 0
  rotate_left
  · obtain rfl := hm1 hic
    have HO2 := Lib.hid (show bindOut t names = (Con.none0, idxCode names) from by rw [HO.out, if_pos (by rw [HVT.out, HLV.out]; rfl), if_neg hic])
    clear hm1 hm2 h4
    obtain ⟨ic, hi⟩ : ∃ c, c = idxCode names := ⟨_, rfl⟩
    rw [← hi] at HO2 hic ⊢
    clear hi
    have q1 : (ic != 0) = true := by simpa using hic
    clear hic
    obtain ⟨hq, hbq⟩ := boxN_new w4 90 #[.map none]
    replace HBX := Lib.hid (HBX.out.of_eq (hbq.block _ HBX.out.lt))
    replace HBL := Lib.hid (HBL.out.of_eq (hbq.block _ HBL.out.lt))
    replace HZ := Lib.hid (HZ.out.of_eq (hbq.block _ HZ.out.lt))
    replace HB := Lib.hid (belowStep hbq HB.out)
    clear hq
    go_upto_region 5 with fail
    generalize w4.alloc (.cells #[.map none] 90) = w5 at *
    have hzz := HZ.out
    have hz := store6_blk hzz 0 (.int .i64 0) (.int .i64 0) (.string ⟨#[]⟩) (.slice none 0 0) (.slice none 0 0) (.slice none 0 0)
    rw [put6_all] at hz
    have HE := Lib.hid (show OutF (bindOut t names) w (.returned (.tuple #[.agg #[.int .i64 0, .int .i64 0, .string ⟨#[]⟩, .slice none 0 0, .slice none 0 0, .slice none 0 0], .int .i64 ic])) (store6 w5 (w.heap.size + 1 + 1) 0 (.int .i64 0) (.int .i64 0) (.string ⟨#[]⟩) (.slice none 0 0) (.slice none 0 0) (.slice none 0 0)) from ⟨⟨_, by rw [HO2.out], by rw [HO2.out]; exact conV_none _ _⟩, store6_below HB.out _ _ _ _ _ _ _ _ (by omega)⟩)
    unfold store6 at hz HE
    simp only [Nat.zero_add] at hz HE
    have z0 := hz.cell 0 (.int .i64 0) rfl
    have z1 := hz.cell 1 (.int .i64 0) rfl
    have z2 := hz.cell 2 (.string ⟨#[]⟩) rfl
    have z3 := hz.cell 3 (.slice none 0 0) rfl
    have z4 := hz.cell 4 (.slice none 0 0) rfl
    have z5 := hz.cell 5 (.slice none 0 0) rfl
    have r0 := hzz.cell 0 (.int .i64 0) rfl
    have r1 := hzz.cell 1 (.int .i64 0) rfl
    have r2 := hzz.cell 2 (.string ⟨#[]⟩) rfl
    have r3 := hzz.cell 3 (.slice none 0 0) rfl
    have r4 := hzz.cell 4 (.slice none 0 0) rfl
    have r5 := hzz.cell 5 (.slice none 0 0) rfl
    have t0 := hzz.thaw 0
    have t1 := hzz.thaw 1
    have t2 := hzz.thaw 2
    have t3 := hzz.thaw 3
    have t4 := hzz.thaw 4
    have t5 := hzz.thaw 5
    clear hz hzz hbq HO HBX HBL HZ HO2 HIX HR
    go_wp2
    refine bodyPost_ret (v := .tuple #[.agg #[.int .i64 0, .int .i64 0, .string ⟨#[]⟩, .slice none 0 0, .slice none 0 0, .slice none 0 0], .int .i64 ic]) (by simp [results, Tryz.results14, go_sem, z0, z1, z2, z3, z4, z5]) rfl ?_
    exact HE.out
  obtain ⟨mb, mn, rfl, hmb1, hmb2, hix⟩ := hm2 hic
  have HNC := Lib.hid (show n ≤ 1000 ∧ names.Nodup from by rw [HN.out]; exact idxCode_zero names hic)
  rw [← HN.out] at hix
  rw [hic]
  have HOUT := Lib.hid (show bindOut t names = fitOut (Con.reb (biF names) t 0) from by rw [HO.out, if_pos (by rw [HVT.out, HLV.out]; rfl), if_pos hic])
  clear hm1 hm2 hic HO HIX
  obtain ⟨hq, hbq⟩ := boxN_new w4 90 #[.map (some mb)]
  have hix5 := hix.kept (G := w4.heap.size) (only_below (N := w4.heap.size) hbq) (fun e => by injection e with e; omega)
  have HMB := Lib.hid hmb2
  replace HBX := Lib.hid (HBX.out.of_eq (hbq.block _ HBX.out.lt))
  replace HBL := Lib.hid (HBL.out.of_eq (hbq.block _ HBL.out.lt))
  replace HZ := Lib.hid (HZ.out.of_eq (hbq.block _ HZ.out.lt))
  replace HB := Lib.hid (belowStep hbq HB.out)
  clear hix h4
  go_upto_region 6 with fail
  have hsz5 := size_alloc w4 (.cells #[.map (some mb)] 90)
  obtain ⟨gm, hgm⟩ : ∃ g, g = w4.heap.size := ⟨_, rfl⟩
  rw [← hgm] at hq hsz5 HMB ⊢
  generalize w4.alloc (.cells #[.map (some mb)] 90) = w5 at *
  clear hbq hgm
  go_wp2_with fail
  refine (newBuilder_any _).mono ?_
  rintro e wb ⟨rfl, rfl⟩
  have hnb := boxN_new w5 139 #[.int .i64 20000]
  have hnc := boxN_new (w5.alloc (.cells #[.int .i64 20000] 139)) 93 #[.pointer (some ⟨w5.heap.size, 0, none⟩)]
  have hnd := hnb.1.alloc (.cells #[.pointer (some ⟨w5.heap.size, 0, none⟩)] 93)
  have hne := hnc.1
  rw [size_alloc] at hne
  have h4 := belowStep hnc.2 hnb.2
  have HGS := Lib.hid (show w.heap.size + 1 + 1 < w5.heap.size from HZ.out.lt)
  have hqm := hq.of_eq (h4.block _ hq.lt)
  have hix6 := hix5.kept (G := w5.heap.size) (only_below (N := w5.heap.size) h4) (fun e => by injection e with e; have := HMB.out; omega)
  have hgl5 := hq.lt
  replace HBX := Lib.hid (HBX.out.of_eq (h4.block _ HBX.out.lt))
  replace HBL := Lib.hid (HBL.out.of_eq (h4.block _ HBL.out.lt))
  replace HZ := Lib.hid (HZ.out.of_eq (h4.block _ HZ.out.lt))
  replace HB := Lib.hid (belowStep h4 HB.out)
  obtain ⟨⟨u, c⟩, hfo⟩ : ∃ z : Con × Int, z = fitOut (Con.reb (biF names) t 0) := ⟨_, rfl⟩
  have HO2 := Lib.hid (show bindOut t names = (u, c) from by rw [HOUT.out, hfo])
  have HRR := Lib.hid ((HR.out ((w5.alloc (.cells #[.int .i64 20000] 139)).alloc (.cells #[.pointer (some ⟨w5.heap.size, 0, none⟩)] 93)) w5.heap.size (w.heap.size + 1) gm (w5.heap.size + 1) mb mn (by have := HGS.out; omega) HVT.out HNC.out HB.out hnd ⟨HBL.out, hqm, hne⟩ hix6 (by have := HMB.out; omega) (by have := HGS.out; omega) (by omega) (by omega)).mono (R' := fun e w' => Only w5.heap.size ((w5.alloc (.cells #[.int .i64 20000] 139)).alloc (.cells #[.pointer (some ⟨w5.heap.size, 0, none⟩)] 93)) w' ∧ ∃ y, e = .returned (.tuple #[y, .int .i64 c]) ∧ ConV w' (fun q => ((w5.alloc (.cells #[.int .i64 20000] 139)).alloc (.cells #[.pointer (some ⟨w5.heap.size, 0, none⟩)] 93)).heap.size ≤ q ∧ q < w'.heap.size) u y) (by
    rintro e w' ⟨h1, y, h2, h3⟩
    rw [← hfo] at h2 h3
    exact ⟨h1, y, h2, h3⟩))
  have HGL := Lib.hid hnd.lt
  have c0 := HBX.out.cell 0 (.int .i64 t.op) rfl
  have c1 := HBX.out.cell 1 (.int .i64 t.n) rfl
  have c2 := HBX.out.cell 2 (.string t.s) rfl
  have c3 := HBX.out.cell 3 (.slice ka kn kc) rfl
  have c4 := HBX.out.cell 4 (.slice na nn nc) rfl
  have c5 := HBX.out.cell 5 (.slice la ln lc) rfl
  have x1 := hne.cell 0 (.pointer (some ⟨w5.heap.size, 0, none⟩)) rfl
  have x9 := hne.thaw 0
  clear hfo HOUT hnb hnc hnd hne h4 HR hix5 hix6 hqm hq hsz5 HMB hgl5
  go_wp2_with fail
  clear c0 c1 c2 c3 c4 c5
  clear x1 x9
  generalize ((w5.alloc (.cells #[.int .i64 20000] 139)).alloc (.cells #[.pointer (some ⟨w5.heap.size, 0, none⟩)] 93)) = wb at *
  generalize w5.heap.size = G at *
  refine HRR.out.mono ?_
  rintro e wr ⟨hor, y, rfl, hy⟩
  obtain ⟨yka, ykn, ykc, yna, ynn, ync, yla, yln, ylc, rfl, -, -, -⟩ := hy.shape
  have hzr := hor.blk HZ.out (by have := HGS.out; omega)
  have HLT := Lib.hid (show w.heap.size + 1 + 1 < wb.heap.size from HZ.out.lt)
  have t0 := hzr.thaw 0
  have t1 := hzr.thaw 1
  have t2 := hzr.thaw 2
  have t3 := hzr.thaw 3
  have t4 := hzr.thaw 4
  have t5 := hzr.thaw 5
  have r0 := hzr.cell 0 (.int .i64 0) rfl
  have r1 := hzr.cell 1 (.int .i64 0) rfl
  have r2 := hzr.cell 2 (.string ⟨#[]⟩) rfl
  have r3 := hzr.cell 3 (.slice none 0 0) rfl
  have r4 := hzr.cell 4 (.slice none 0 0) rfl
  have r5 := hzr.cell 5 (.slice none 0 0) rfl
  have hz := store6_blk hzr 0 (.int .i64 u.op) (.int .i64 u.n) (.string u.s) (.slice yka ykn ykc) (.slice yna ynn ync) (.slice yla yln ylc)
  rw [put6_all] at hz
  have HE := Lib.hid (show OutF (bindOut t names) w (.returned (.tuple #[.agg #[.int .i64 u.op, .int .i64 u.n, .string u.s, .slice yka ykn ykc, .slice yna ynn ync, .slice yla yln ylc], .int .i64 c])) (store6 wr (w.heap.size + 1 + 1) 0 (.int .i64 u.op) (.int .i64 u.n) (.string u.s) (.slice yka ykn ykc) (.slice yna ynn ync) (.slice yla yln ylc)) from by
    rw [HO2.out]
    refine ⟨⟨_, rfl, (hy.keep (fun q hq => store6_other _ _ _ _ _ _ _ _ _ q (by have := HLT.out; have := hq.1; omega))).mono (fun q hq => ?_)⟩, store6_below (HB.out.trans (hor.to (by have := HGS.out; omega) HB.out.size)) _ _ _ _ _ _ _ _ (by omega)⟩
    rw [store6_size]
    exact ⟨by have := HLT.out; have := hq.1; omega, hq.2⟩)
  unfold store6 at hz HE
  simp only [Nat.zero_add] at hz HE
  have z0 := hz.cell 0 (.int .i64 u.op) rfl
  have z1 := hz.cell 1 (.int .i64 u.n) rfl
  have z2 := hz.cell 2 (.string u.s) rfl
  have z3 := hz.cell 3 (.slice yka ykn ykc) rfl
  have z4 := hz.cell 4 (.slice yna ynn ync) rfl
  have z5 := hz.cell 5 (.slice yla yln ylc) rfl
  clear hz hy hzr HRR HBX HBL HZ HB
  go_wp2
  refine bodyPost_ret (v := .tuple #[.agg #[.int .i64 u.op, .int .i64 u.n, .string u.s, .slice yka ykn ykc, .slice yna ynn ync, .slice yla yln ylc], .int .i64 c]) (by simp [results, Tryz.results14, go_sem, z0, z1, z2, z3, z4, z5]) rfl ?_
  exact HE.out
end Go.Proofs.YtpkgiemdnfbopaaGreat
namespace Go.Proofs.YtpkgiemdnfbopaaGreat
open Go Go.RowKit
open Pl (K Con)
set_option linter.unusedSimpArgs false

mutual
/-- a constructor under binders with constants bound -/
def Con.bindC (names : List ByteArray) : Con → Int → Con
  | ⟨op, n, s, k, ns, l⟩, d =>
    if op = 2 then (match posB s names with | some i => Con.var (d + ((names.length : Int) - 1 - (i : Nat))) | none => ⟨op, n, s, k, ns, l⟩)
    else if op = 1 then (if d ≤ n then Con.var (n + (names.length : Int)) else ⟨op, n, s, k, ns, l⟩) else ⟨op, n, s, k, ns, Con.bindCs names l (Con.deep op d)⟩
def Con.bindCs (names : List ByteArray) : List Con → Int → List Con
  | [], _ => []
  | t :: r, d => Con.bindC names t d :: Con.bindCs names r d
end
theorem bindCs_map (names : List ByteArray) (d : Int) (l : List Con) : Con.bindCs names l d = l.map (fun t => Con.bindC names t d) := by
  induction l with
  | nil => rw [Con.bindCs]; rfl
  | cons t r ih => rw [Con.bindCs, ih]; rfl
theorem bindC_const (names : List ByteArray) (d : Int) (t : Con) (h : t.op = 2) : Con.bindC names t d = match posB t.s names with | some i => Con.var (d + ((names.length : Int) - 1 - (i : Nat))) | none => t := by
  obtain ⟨op, n, s, k, ns, l⟩ := t
  have h : op = 2 := h
  rw [Con.bindC, if_pos h]
theorem bindC_var (names : List ByteArray) (d : Int) (t : Con) (h : t.op = 1) : Con.bindC names t d = if d ≤ t.n then Con.var (t.n + (names.length : Int)) else t := by
  obtain ⟨op, n, s, k, ns, l⟩ := t
  have h : op = 1 := h
  rw [Con.bindC, if_neg (by omega), if_pos h]
theorem bindC_node (names : List ByteArray) (d : Int) (t : Con) (h : t.op ≠ 1) (h2 : t.op ≠ 2) : Con.bindC names t d = Con.inside t (t.l.map (fun x => Con.bindC names x (Con.deep t.op d))) := by
  obtain ⟨op, n, s, k, ns, l⟩ := t
  have h : op ≠ 1 := h
  have h2 : op ≠ 2 := h2
  rw [Con.bindC, if_neg h2, if_neg h, bindCs_map]
  rfl
theorem reb_bind (names : List ByteArray) (t : Con) : ∀ d, Con.allB t = true → Con.reb (biF names) t d = Con.bindC names t d := by
  induction t using Con.ind with
  | h t ih =>
  intro d ha
  rw [allB_eq, Bool.and_eq_true, List.all_eq_true] at ha
  obtain ⟨hn, ha⟩ := ha
  by_cases h1 : t.op = 1
  · have hc := clean_node t hn h1
    have hl := leaf_none t hn (.inl h1)
    rw [bindC_var _ _ t h1]
    by_cases h2 : d ≤ t.n
    · rw [reb_leaf _ _ _ (.inr ⟨h1, h2⟩), if_pos h2]
      unfold biF
      rw [if_pos h1]
      obtain ⟨op, n, s, k, ns, l⟩ := t
      have hc : (⟨op, n, s, k, ns, l⟩ : Con) = ⟨1, n, ByteArray.empty, .mk [], [], []⟩ := hc
      injection hc with e1 e2 e3 e4 e5 e6
      subst e1 e3 e4 e5 e6
      rfl
    · rw [reb_node _ _ _ (fun h => by rcases h with h | h <;> omega), hl, if_neg h2]
      conv => rhs; rw [← Con.inside_self t, hl]
      rfl
  · by_cases h2 : t.op = 2
    · rw [reb_leaf _ _ _ (.inl h2), bindC_const _ _ t h2]
      unfold biF
      rw [if_neg h1]
      cases posB t.s names <;> rfl
    · rw [reb_node _ _ _ (fun h => by rcases h with h | h <;> omega), bindC_node _ _ t h1 h2]
      congr 1
      refine List.map_congr_left (fun x hx => ih x hx _ (ha x hx))
theorem half_bind (names : List ByteArray) (t : Con) : ∀ d, 0 ≤ d → Con.allB t = true → Con.half (Con.bindC names t d) := by
  induction t using Con.ind with
  | h t ih =>
  intro d hd ha
  have ha' := half_of_all t ha
  have hn := ((half_iff t).1 ha')
  rw [allB_eq, Bool.and_eq_true, List.all_eq_true] at ha
  by_cases h1 : t.op = 1
  · rw [bindC_var _ _ t h1]
    split
    · exact half_var _ (by omega)
    · exact ha'
  · by_cases h2 : t.op = 2
    · rw [bindC_const _ _ t h2]
      cases hp : posB t.s names with
      | none => exact ha'
      | some i =>
        obtain ⟨hi, -⟩ := posB_some _ _ _ hp
        exact half_var _ (by omega)
    · rw [bindC_node _ _ t h1 h2, half_iff]
      refine ⟨fun h2 => by rw [node_inside _ _ (by simp)]; exact hn.1 h2, fun x hx => ?_⟩
      obtain ⟨y, hy, rfl⟩ := List.mem_map.1 hx
      exact ih y hy _ (by have := Con.deep_le t.op d; omega) (ha.2 y hy)
theorem bindOut_eq (t : Con) (names : List ByteArray) : bindOut t names = if (Con.validB t && names.all (fun s => Pl.cname s.toList)) = true then (if idxCode names = 0 then outB (Con.bindC names t 0) else (Con.none0, idxCode names)) else (Con.none0, 1) := by
  unfold bindOut
  by_cases hv : (Con.validB t && names.all (fun s => Pl.cname s.toList)) = true
  · rw [if_pos hv, if_pos hv]
    rw [Bool.and_eq_true] at hv
    have h : fitOut (Con.reb (biF names) t 0) = outB (Con.bindC names t 0) := by
      rw [reb_bind names t 0 (valid_all t hv.1)]
      unfold fitOut outB
      rw [half_valid _ (half_bind names t 0 (Int.le_refl _) (valid_all t hv.1))]
    rw [h]
  · rw [if_neg hv, if_neg hv]
/-- a constant as a constructor -/
def cst (c : ByteArray × K) : Con := ⟨2, 0, c.1, c.2, [], []⟩
/-- what the variables become -/
def unb (cs : List (ByteArray × K)) : List Con := cs.reverse.map cst
theorem unb_len (cs : List (ByteArray × K)) : (unb cs).length = cs.length := by simp [unb]
theorem unb_at (cs : List (ByteArray × K)) (i : Nat) (h : i < cs.length) : (unb cs).getD i Con.none0 = cst (cs[cs.length - 1 - i]) := by
  have h2 : i < (unb cs).length := by rw [unb_len]; exact h
  have e : (unb cs).getD i Con.none0 = (unb cs)[i] := by simp [List.getD, List.getElem?_eq_getElem h2]
  rw [e]
  simp [unb, List.getElem_reverse]
def cstB (c : ByteArray × K) : Bool := Pl.cname c.1.toList && K.valid c.2
theorem cst_all (c : ByteArray × K) (h : cstB c = true) : Con.allB (cst c) = true := by
  unfold cstB at h
  rw [Bool.and_eq_true] at h
  rw [allB_eq, Bool.and_eq_true]
  refine ⟨?_, rfl⟩
  have e1 : Con.shapeB (cst c) = true := by simp [Con.shapeB, cst, Con.partsOf, Con.binder]
  have e2 : Con.numB (cst c) = true := by simp [Con.numB, cst]
  have e3 : Con.strB (cst c) = true := by unfold Con.strB; rw [if_pos (show (cst c).op = 2 from rfl)]; exact h.1
  have e4 : Con.kindB (cst c) = true := by unfold Con.kindB; rw [if_pos (.inl (show (cst c).op = 2 from rfl))]; exact h.2
  have e5 : (decide (1 ≤ (cst c).op) && decide ((cst c).op ≤ 13)) = true := by simp [cst]
  unfold Con.nodeB
  rw [e1, e2, e3, e4, e5]
  rfl
theorem unb_all (cs : List (ByteArray × K)) (h : cs.all cstB = true) : ∀ x ∈ unb cs, Con.allB x = true := by
  intro x hx
  obtain ⟨c, hc, rfl⟩ := List.mem_map.1 hx
  exact cst_all c (List.all_eq_true.1 h c (List.mem_reverse.1 hc))
/-- a constant stays itself -/
theorem suF_const (cs : List (ByteArray × K)) (t : Con) (d : Int) (h1 : t.op = 1) (i : Nat) (hi : t.n - d = (i : Int)) (h : i < cs.length) : suF (unb cs) t d = cst (cs[cs.length - 1 - i]) := by
  unfold suF
  rw [if_pos h1, if_pos (by rw [unb_len]; omega), hi, Int.toNat_natCast, unb_at cs i h, reb_leaf _ _ _ (.inl rfl)]
  unfold shF
  rw [if_neg (fun e => by have : (2 : Int) = 1 := e.1; omega)]
/-- what Unbind answers -/
def unbindOut (t : Con) (cs : List (ByteArray × K)) : Con × Int :=
  if (Con.validB t && cs.all cstB) = true then (if idxCode (cs.map (·.1)) = 0 then fitOut (Con.reb (suF (unb cs)) t 0) else (Con.none0, idxCode (cs.map (·.1)))) else (Con.none0, 1)
end Go.Proofs.YtpkgiemdnfbopaaGreat
namespace Go.Proofs.YtpkgiemdnfbopaaGreat
open Go Go.RowKit
open Pl (K Con)
set_option linter.unusedSimpArgs false
set_option linter.unusedVariables false

/-- constants side by side, their kinds in the blocks P -/
def CstAt (w : World) (P : Nat → Prop) (b off : Nat) (cs : List (ByteArray × K)) : Prop := ∀ j (h : j < cs.length), cs[j].1.size ≤ maxLen ∧ ∃ ka kn kc, w.cell? ⟨b, off + j * 2, none⟩ = some (.string cs[j].1) ∧ w.cell? ⟨b, off + j * 2 + 1, none⟩ = some (.slice ka kn kc) ∧ KidV w P cs[j].2 (.slice ka kn kc)
def CstSl (w : World) (P : Nat → Prop) (v : Value) (cs : List (ByteArray × K)) : Prop :=
  ∃ a c, v = .slice a cs.length c ∧ cs.length ≤ c ∧ c ≤ maxLen ∧ (a = none → c = 0) ∧ (cs = [] ∨ ∃ b off, a = some ⟨b, off, none⟩ ∧ P b ∧ CstAt w P b off cs)
theorem CstSl.keep {w w' : World} {P : Nat → Prop} {v : Value} {cs : List (ByteArray × K)} (h : CstSl w P v cs) (hs : Same P w w') : CstSl w' P v cs := by
  obtain ⟨a, c, h1, h2, h3, h4, h5⟩ := h
  refine ⟨a, c, h1, h2, h3, h4, ?_⟩
  rcases h5 with h5 | ⟨b, off, h6, h7, h8⟩
  · exact .inl h5
  · refine .inr ⟨b, off, h6, h7, fun j hj => ?_⟩
    obtain ⟨e0, ka, kn, kc, e1, e2, e3⟩ := h8 j hj
    exact ⟨e0, ka, kn, kc, (cell_same (hs b h7)).trans e1, (cell_same (hs b h7)).trans e2, e3.keep hs⟩
theorem CstSl.mono {w : World} {P Q : Nat → Prop} {v : Value} {cs : List (ByteArray × K)} (h : CstSl w P v cs) (hq : ∀ b, P b → Q b) : CstSl w Q v cs := by
  obtain ⟨a, c, h1, h2, h3, h4, h5⟩ := h
  refine ⟨a, c, h1, h2, h3, h4, ?_⟩
  rcases h5 with h5 | ⟨b, off, h6, h7, h8⟩
  · exact .inl h5
  · refine .inr ⟨b, off, h6, hq b h7, fun j hj => ?_⟩
    obtain ⟨e0, ka, kn, kc, e1, e2, e3⟩ := h8 j hj
    exact ⟨e0, ka, kn, kc, e1, e2, e3.mono hq⟩
theorem CstSl.part {w : World} {P : Nat → Prop} {v : Value} {cs : List (ByteArray × K)} (h : CstSl w P v cs) (k : Nat) (hk : k < cs.length) : ∃ b off c ka kn kc, v = .slice (some ⟨b, off, none⟩) cs.length c ∧ P b ∧ cs[k].1.size ≤ maxLen ∧
    w.cell? ⟨b, off + k * 2, none⟩ = some (.string cs[k].1) ∧ w.cell? ⟨b, off + k * 2 + 1, none⟩ = some (.slice ka kn kc) ∧ KidV w P cs[k].2 (.slice ka kn kc) := by
  obtain ⟨a, c, h1, h2, h3, h4, h5⟩ := h
  rcases h5 with h5 | ⟨b, off, rfl, h7, h8⟩
  · rw [h5] at hk; exact absurd hk (Nat.not_lt_zero _)
  · obtain ⟨e0, ka, kn, kc, e1, e2, e3⟩ := h8 k hk
    exact ⟨b, off, c, ka, kn, kc, h1, h7, e0, e1, e2, e3⟩
set_option maxRecDepth 100000 in
theorem isConst_any (P : Nat → Prop) (c : ByteArray × K) (w : World) (ka : Option Addr) (kn kc : Nat) (hP : ∀ b, P b → b < w.heap.size) (hs : c.1.size ≤ maxLen) (hk : KidV w P c.2 (.slice ka kn kc)) :
    Calls Tryz.prog 65 #[.agg #[.string c.1, .slice ka kn kc]] w fun e w' => e = .returned (.bool (cstB c)) ∧ Below w.heap.size w w' := by
  have HC := Lib.hid (fun W => ccname_any c.1 W hs)
  have HV := Lib.hid (fun W (hW : Below w.heap.size w W) => valid_any P c.2 W (.agg #[.slice ka kn kc]) (fun b hb => Nat.lt_of_lt_of_le (hP b hb) hW.size) ⟨_, rfl, hk.keep (Same.of_below hW hP)⟩)
  have HR := Lib.hid (show cstB c = (Pl.cname c.1.toList && K.valid c.2) from rfl)
  rw [HR.out]
  generalize Pl.cname c.1.toList = r1 at *
  generalize K.valid c.2 = r2 at *
  generalize c.1 = s at *
  obtain ⟨hbx, hb⟩ := boxN_new w 36 #[.string s, .slice ka kn kc]
  have HB := Lib.hid hb
  have HBX := Lib.hid hbx
  have c0 := hbx.cell 0 (.string s) rfl
  have c1 := hbx.cell 1 (.slice ka kn kc) rfl
  clear hbx hb hk hP HR
  go_enter Tryz.func65, Tryz.ntmps65
  go_wp2_with fail
  generalize w.alloc (.cells #[.string s, .slice ka kn kc] 36) = w2 at *
  clear c0 c1
  refine (HC.out _).mono ?_
  rintro e w3 ⟨rfl, hb3⟩
  replace HB := Lib.hid (belowStep hb3 HB.out)
  replace HBX := Lib.hid (HBX.out.of_eq (hb3.block _ HBX.out.lt))
  have c0 := HBX.out.cell 0 (.string s) rfl
  have c1 := HBX.out.cell 1 (.slice ka kn kc) rfl
  clear hb3
  cases r1
  · go_wp2
    go_ret
    exact ⟨rfl, HB.out⟩
  · go_wp2_with fail
    refine (HV.out _ HB.out).mono ?_
    rintro e w4 ⟨rfl, hb4⟩
    have HB4 := Lib.hid (belowStep hb4 HB.out)
    clear hb4 c0 c1
    go_wp2
    go_ret
    exact ⟨rfl, HB4.out⟩
set_option maxRecDepth 100000 in
set_option maxHeartbeats 1000000 in
theorem allCst_any (P : Nat → Prop) (cs : List (ByteArray × K)) (w : World) (v : Value) (hP : ∀ b, P b → b < w.heap.size) (hl : CstSl w P v cs) :
    Calls Tryz.prog 64 #[v, .func (.func 65) #[] #[]] w fun e w' => e = .returned (.bool (cs.all cstB)) ∧ Below w.heap.size w w' := by
  have HP := Lib.hid hP
  have HSL := Lib.hid (fun W (hW : Below w.heap.size w W) => hl.keep (Same.of_below hW hP))
  have hen : ∀ (W : World) (args : Array Value), Sem.run Tryz.prog (callFunc 65 args) W = .ok (.enter 65 args) W := fun _ _ => by kernel_rfl
  obtain ⟨la, lc, rfl, hlc, hcm, -⟩ := hl
  obtain ⟨n, hn⟩ : ∃ n, n = cs.length := ⟨_, rfl⟩
  have HN := Lib.hid hn
  rw [← hn] at HSL hlc ⊢
  have hn63 : n ≤ 9223372036854775807 := by unfold maxLen at hcm; omega
  clear hn hcm hlc hP
  go_enter Tryz.func64, Tryz.ntmps64
  go_wp2_with fail
  go_loopg [9] (n + 1) (fun g i wr => ∃ k : Nat, k ≤ n ∧ i = .int .i64 k ∧ g = n + 1 - k ∧ (cs.take k).all cstB = true ∧ Below w.heap.size w wr)
  case atStart => exact ⟨0, by omega, rfl, by omega, by simp, Below.refl _ _⟩
  case round =>
    obtain ⟨k, hk, rfl, hg, hin, hbw⟩ := hrel
    have HI := Lib.hid hin
    have HBW := Lib.hid hbw
    clear hin
    by_cases hlt : k < n
    · have q5 : decide ((k : Int) < (n : Int)) = true := decide_eq_true (by omega)
      have hkl : k < cs.length := by rw [← HN.out]; exact hlt
      obtain ⟨b, off, c', ka, kn, kc, e, -, hsz, f0, f1, hx⟩ := (HSL.out wr hbw).part k hkl
      injection e with e1 e2 e3
      subst e1 e3
      clear e2
      obtain ⟨hbx, hb⟩ := boxN_new wr 36 #[.string cs[k].1, .slice ka kn kc]
      have d0 := hbx.cell 0 (.string cs[k].1) rfl
      have d1 := hbx.cell 1 (.slice ka kn kc) rfl
      have HC := Lib.hid (isConst_any P cs[k] (wr.alloc (.cells #[.string cs[k].1, .slice ka kn kc] 36)) ka kn kc (fun b hb' => Nat.lt_of_lt_of_le (HP.out b hb') (Nat.le_trans hbw.size hb.size)) hsz (hx.keep (Same.of_below hb (fun b hb' => Nat.lt_of_lt_of_le (HP.out b hb') hbw.size))))
      have HB1 := Lib.hid (belowStep hb hbw)
      have HT := Lib.hid (all_take_step cstB cs k hkl)
      have HM := Lib.hid (all_miss cstB cs k hkl)
      generalize hr : cstB cs[k] = r at HC HT HM
      generalize cs[k].1 = s at *
      clear hbx hb hbw hx hr hsz
      go_wp2_with fail
      refine HC.out.mono ?_
      rintro e w' ⟨rfl, hb3⟩
      have HB3 := Lib.hid (belowStep hb3 HB1.out)
      clear hb3 f0 f1 d0 d1
      cases r
      · have HF := Lib.hid (HM.out rfl)
        go_wp2
        go_ret
        exact ⟨by rw [HF.out]; rfl, HB3.out⟩
      · have HT2 := Lib.hid (show (cs.take (k + 1)).all cstB = true from by rw [HT.out, HI.out]; rfl)
        clear HM HT
        go_wp2
        go_roundg (gk - 1)
        case measure => omega
        case rel => exact ⟨k + 1, by omega, by go_num, by omega, HT2.out, HB3.out⟩
    · have q5 : decide ((k : Int) < (n : Int)) = false := decide_eq_false (by omega)
      have HA := Lib.hid (show cs.all cstB = true from by have := HI.out; rwa [List.take_of_length_le (by rw [← HN.out]; omega)] at this)
      clear hbw
      go_wp2
      go_ret
      exact ⟨by rw [HA.out]; rfl, HBW.out⟩
end Go.Proofs.YtpkgiemdnfbopaaGreat
namespace Go.Proofs.YtpkgiemdnfbopaaGreat
open Go Go.RowKit
open Pl (K Con)
set_option linter.unusedSimpArgs false
set_option linter.unusedVariables false

theorem below_appT {w wr w1 : World} {v : Value} {B n : Nat} {e : TypeId} {xs : List Value} {o : Obj} (hbr : Below B w wr) (hB : B ≤ wr.heap.size) (hown : wr.ownsRow B e 1 v n xs) (hg : (wr.alloc o).grownBy w1 v.ownBlock) : Below B w w1 :=
  (hbr.alloc hB o).grown hg (by simp; omega) (fun j hj => (hown.lt j hj).1)
theorem infoStr9 : (Tryz.prog.info? 9).map (fun i => (i.zero, i.size, i.bytes)) = some (some (.string ByteArray.empty), 1, 16) := by kernel_rfl
theorem strSl_row {w : World} {B : Nat} {v : Value} {zs : List ByteArray} (h : w.ownsRow B 9 1 v zs.length (zs.map Value.string)) (hs : ∀ z ∈ zs, z.size ≤ maxLen) : StrSl w (fun q => B ≤ q ∧ q < w.heap.size) v zs := by
  have hc := h
  rcases h.2 with ⟨rfl, h0⟩ | ⟨g, cap, cu, rfl, hbg, hg, hnc, hcm, hcs, htake⟩
  · obtain rfl : zs = [] := List.eq_nil_of_length_eq_zero h0
    exact ⟨none, 0, rfl, Nat.le_refl _, Nat.zero_le _, fun _ => rfl, (fun z hz => by cases hz), .inl rfl⟩
  · refine ⟨_, cap, rfl, hnc, hcm, (fun h => by cases h), hs, .inr ⟨g, 0, rfl, ⟨hbg, (hc.lt g rfl).2⟩, fun j hj => ?_⟩⟩
    rw [Nat.zero_add, hc.cellAt j (by omega), List.getElem?_map, List.getElem?_eq_getElem hj]
    rfl
theorem strRow_app {w : World} {B m : Nat} {v : Value} {l : List ByteArray} {s : ByteArray} {us : List Value} (h : w.ownsRow B 9 1 v m us) (hm : m = (l ++ [s]).length) (hu : us = (l ++ [s]).map Value.string) : w.ownsRow B 9 1 v (l ++ [s]).length ((l ++ [s]).map Value.string) := by
  subst hm hu
  exact h
set_option maxRecDepth 100000 in
set_option maxHeartbeats 2000000 in
theorem namesOf_any (P : Nat → Prop) (cs : List (ByteArray × K)) (w : World) (v : Value) (hP : ∀ b, P b → b < w.heap.size) (hl : CstSl w P v cs) (hlen : cs.length ≤ 1000000) :
    Calls Tryz.prog 66 #[v] w fun e w' => (∃ y, e = .returned y ∧ StrSl w' (fun q => w.heap.size ≤ q ∧ q < w'.heap.size) y (cs.map (·.1))) ∧ Below w.heap.size w w' := by
  have HP := Lib.hid hP
  have HSL := Lib.hid (fun W (hW : Below w.heap.size w W) => hl.keep (Same.of_below hW hP))
  have HZS := Lib.hid (show ∀ z ∈ cs.map (·.1), z.size ≤ maxLen from fun z hz => by
    obtain ⟨x, hx, rfl⟩ := List.mem_map.1 hz
    obtain ⟨j, hj, rfl⟩ := List.getElem_of_mem hx
    obtain ⟨_, _, _, _, _, _, -, -, h, -⟩ := hl.part j hj
    exact h)
  obtain ⟨la, lc, rfl, hlc, hcm, -⟩ := hl
  obtain ⟨n, hn⟩ : ∃ n, n = cs.length := ⟨_, rfl⟩
  have HN := Lib.hid hn
  rw [← hn] at HSL hlen ⊢
  have hn63 : n ≤ 9223372036854775807 := by omega
  clear hn hcm hlc hP
  obtain ⟨iI, hi, hz0, hz1, hz2⟩ := info_parts infoStr9
  go_enter Tryz.func66, Tryz.ntmps66
  go_wp2_with fail
  go_loopg [3, 8] (n + 1) (fun gk ov i wr => ∃ k : Nat, k ≤ n ∧ i = .int .i64 k ∧ gk = n + 1 - k ∧ wr.ownsRow w.heap.size 9 1 ov ((cs.take k).map (·.1)).length (((cs.take k).map (·.1)).map Value.string) ∧ Below w.heap.size w wr)
  case atStart => exact ⟨0, Nat.zero_le _, rfl, by omega, by rw [List.take_zero]; exact World.ownsRow_nil _ _ _ _, Below.refl _ _⟩
  case round =>
    obtain ⟨k, hk, rfl, hgk, hrow, hbw⟩ := hrel
    have HO := Lib.hid hrow
    have HBR := Lib.hid hbw
    by_cases hlt : k < n
    · have q5 : decide ((k : Int) < (n : Int)) = true := decide_eq_true (by omega)
      have hkl : k < cs.length := by rw [← HN.out]; exact hlt
      obtain ⟨b, off, c', ka, kn, kc, e, -, hsz, f0, f1, -⟩ := (HSL.out wr hbw).part k hkl
      injection e with e1 e2 e3
      subst e1 e3
      clear e2
      have HTK := Lib.hid (show (cs.take (k + 1)).map (·.1) = (cs.take k).map (·.1) ++ [cs[k].1] from by rw [List.take_succ_eq_append_getElem hkl, List.map_append]; rfl)
      have HLK := Lib.hid (show ((cs.take k).map (·.1)).length = k from by rw [List.length_map, List.length_take]; omega)
      obtain ⟨hbx, hb⟩ := boxN_new wr 36 #[.string cs[k].1, .slice ka kn kc]
      have d0 := hbx.cell 0 (.string cs[k].1) rfl
      have d1 := hbx.cell 1 (.slice ka kn kc) rfl
      obtain ⟨ov, hov⟩ : ∃ o, o = ((cs.take k).map (·.1)) := ⟨_, rfl⟩
      rw [← hov] at HO HTK HLK
      generalize cs[k].1 = s at *
      have HO2 := Lib.hid (HO.out.alloc (.cells #[.string s, .slice ka kn kc] 36))
      have HBR2 := Lib.hid (belowStep hb hbw)
      clear hrow hbw hov
      go_upto_region 5 with fail
      clear f0 f1
      generalize wr.alloc (.cells #[.string s, .slice ka kn kc] 36) = wa at *
      have h9 := HLK.out
      go_wp2_with (at_builtin; refine wpList_append_own _ rfl _ _ 25 rfl w.heap.size 9 iI (.string ByteArray.empty) 1 16 Tryz.underlying25 hi hz0 hz1 hz2 rfl (by decide) _ _ _ rfl (HO2.out.alloc _) ⟨wa.heap.size, 0, none⟩ 1 1 [.string s] rfl rfl ?c1 ?c2 ?c3 ?c4 ?c5 ?_)
      try case c1 =>
        intro j u hj
        match j, hj with
        | 0, hj => simp at hj; subst hj; simp [Addr.add]
      case c2 => first | rfl | (intro u hu; simp at hu; subst hu; rfl)
      case c3 => unfold maxLen; omega
      case c4 => omega
      case c5 => have := HBR2.out.size; simp; omega
      intro v' w1 hown' hgrow _
      have HB1 := Lib.hid (below_appT HBR2.out HBR2.out.size HO2.out hgrow)
      have HO1 := Lib.hid (strRow_app (l := ov) (s := s) hown' (by simp; omega) (by simp))
      rw [← HTK.out] at HO1
      clear hown' hgrow HO HO2 HBR HBR2 d0 d1 hbx hb h9
      go_wp2
      go_roundg (gk - 1)
      case measure => omega
      case rel => exact ⟨k + 1, by omega, by go_num, by omega, HO1.out, HB1.out⟩
    · have hkn : k = n := by omega
      subst hkn
      have q5 : decide ((k : Int) < (k : Int)) = false := decide_eq_false (by omega)
      have hta : cs.take k = cs := List.take_of_length_le (by rw [HN.out]; exact Nat.le_refl _)
      rw [hta] at HO
      have HE := Lib.hid (strSl_row HO.out HZS.out)
      clear hrow hbw hta
      go_wp2
      go_ret
      exact ⟨⟨_, rfl, HE.out⟩, HBR.out⟩
end Go.Proofs.YtpkgiemdnfbopaaGreat
namespace Go.Proofs.YtpkgiemdnfbopaaGreat
open Go Go.RowKit
open Pl (K Con)
set_option linter.unusedSimpArgs false
set_option linter.unusedVariables false

theorem conSl_none9 (w : World) (P : Nat → Prop) : ConSl w P (.slice none 0 0) [] := ((conV_iff _ _ _ _).1 (conV_leaf9 0 0 w P)).2.elim (fun _ h => by
  obtain ⟨_, lv, e, -, -, h⟩ := h
  simp only [Value.agg.injEq, Array.mk.injEq, List.cons.injEq, and_true, true_and] at e
  obtain ⟨-, -, -, rfl⟩ := e
  exact h)
/-- the boxes of Unbind -/
structure UnbBoxes (w : World) (g1 g3 G : Nat) (x : Value) : Prop where
  lst : Blk w g1 29 #[x]
  bld : Blk w g3 93 #[.pointer (some ⟨G, 0, none⟩)]
set_option maxRecDepth 100000 in
set_option maxHeartbeats 4000000 in
theorem unbF_any (N G g1 g3 : Nat) (cs : List (ByteArray × K)) (xv : Value) (t : Con) (b d L : Int) (w : World) (v : Value) (hN : N ≤ G) (hs : UnbBoxes w g1 g3 G xv) (hcs : CstSl w (· < N) xv cs) (hcb : cs.all cstB = true) (hnn2 : cs.length ≤ 1000) (hG : Blk w G 139 #[.int .i64 L]) (ht : ConV w (· < N) t v) (ha : Con.nodeB t = true) (hlf : Con.leafy t b) (h0 : 0 ≤ L) (h1 : L ≤ 20000) (hb0 : 0 ≤ b) (hbd : b ≤ d) (hd0 : 1 ≤ d) (hd : d ≤ 401) :
    Calls Tryz.prog 67 #[v, .int .i64 b, .int .i64 d, .pointer (some ⟨g1, 0, none⟩), .pointer (some ⟨g3, 0, none⟩)] w (RebP N G (suF (unb cs) t b) L d w) := by
  obtain ⟨hkv, hnl, hll⟩ := node_facts t ha
  have hnn := nodeB_n t ha
  have hgl := hG.lt
  have hl0 : t.l = [] := leaf_none t ha (by rcases hlf with h | h; exact .inr h; exact .inl h.1)
  have htt := (conV_iff _ _ _ _).1 ht
  obtain ⟨ka, kn, kc, na, nn, nc, la, ln, lc, rfl, -, -, -⟩ := ht.shape
  have HPRT := Lib.hid (show t.s.size ≤ maxLen ∧ KidV w (· < N) t.kind (.slice ka kn kc) ∧ StrSl w (· < N) (.slice na nn nc) t.names ∧ ConSl w (· < N) (.slice la ln lc) t.l from by
    obtain ⟨hs, kv', nv', lv', e, hk, hn, hl⟩ := htt
    simp only [Value.agg.injEq, Array.mk.injEq, List.cons.injEq, and_true, true_and] at e
    obtain ⟨rfl, rfl, rfl⟩ := e
    exact ⟨hs, hk, hn, hl⟩)
  clear htt
  have HCS := Lib.hid hcs
  obtain ⟨sa, sc, rfl, -⟩ := hcs
  obtain ⟨n, hn⟩ : ∃ n, n = cs.length := ⟨_, rfl⟩
  have HN := Lib.hid hn
  rw [← hn] at hs hnn2 HCS
  clear hn
  obtain ⟨hbx, hbx2, hb⟩ := twoN_new w 28 28 #[.int .i64 t.op, .int .i64 t.n, .string t.s, .slice ka kn kc, .slice na nn nc, .slice la ln lc] #[.int .i64 0, .int .i64 0, .string ⟨#[]⟩, .slice none 0 0, .slice none 0 0, .slice none 0 0]
  have HGL := Lib.hid hgl
  have HB := Lib.hid hb
  have HSB := Lib.hid (⟨hs.lst.of_eq (hb.block _ hs.lst.lt), hs.bld.of_eq (hb.block _ hs.bld.lt)⟩ : UnbBoxes _ g1 g3 G _)
  have x1 := HSB.out.lst.cell 0 (.slice sa n sc) rfl
  have x3 := HSB.out.bld.cell 0 (.pointer (some ⟨G, 0, none⟩)) rfl
  have c0 := hbx.cell 0 (.int .i64 t.op) rfl
  have c1 := hbx.cell 1 (.int .i64 t.n) rfl
  have c2 := hbx.cell 2 (.string t.s) rfl
  have c3 := hbx.cell 3 (.slice ka kn kc) rfl
  have c4 := hbx.cell 4 (.slice na nn nc) rfl
  have c5 := hbx.cell 5 (.slice la ln lc) rfl
  have fz := hbx.thaw 1
  by_cases h2 : t.op = 1
  · have q1 : (t.op == 1) = true := by rw [h2]; rfl
    have hle : b ≤ t.n := by rcases hlf with h | h; exact absurd h (by omega); exact h.2
    obtain ⟨i, hi⟩ : ∃ i : Nat, t.n - b = (i : Int) := ⟨(t.n - b).toNat, by omega⟩
    have w1 : wrap64 (t.n - b) = (i : Int) := by rw [wrap64]; omega
    by_cases hin : i < n
    · have q2 : decide ((i : Int) < (n : Int)) = true := decide_eq_true (by omega)
      obtain ⟨k, hk⟩ : ∃ k, k = n - 1 - i := ⟨_, rfl⟩
      have hkn : k < n := by omega
      have w2 : wrap64 ((n : Int) - 1) = (n : Int) - 1 := by rw [wrap64]; omega
      have w3 : wrap64 ((n : Int) - 1 - (i : Int)) = (k : Int) := by rw [wrap64]; omega
      have hkc : k < cs.length := by rw [← HN.out]; exact hkn
      obtain ⟨b0, off, c', cka, ckn, ckc, ee, hbN, hsz0, f0, f1, hkd⟩ := HCS.out.part k hkc
      injection ee with e1 e2 e3
      subst e1 e3
      clear e2
      have hval := (Bool.and_eq_true _ _).mp (List.all_eq_true.1 hcb cs[k] (List.getElem_mem hkc))
      have HW := Lib.hid (show suF (unb cs) t b = cst cs[k] from by rw [suF_const cs t b h2 i hi (by rw [← HN.out]; exact hin)]; congr 1; congr 1; rw [← HN.out, hk])
      rw [HW.out]
      have HCC := Lib.hid (show cst cs[k] = (⟨2, 0, cs[k].1, cs[k].2, [], []⟩ : Con) from rfl)
      rw [HCC.out]
      generalize cs[k].1 = cn at *
      generalize cs[k].2 = ck at *
      obtain ⟨hbx9, hby9, hb9⟩ := twoN_new w 28 28 #[.int .i64 t.op, .int .i64 t.n, .string t.s, .slice ka kn kc, .slice na nn nc, .slice la ln lc] #[.int .i64 0, .int .i64 0, .string ⟨#[]⟩, .slice none 0 0, .slice none 0 0, .slice none 0 0]
      obtain ⟨hbc9, hbd9⟩ := boxN_new ((w.alloc (.cells #[.int .i64 t.op, .int .i64 t.n, .string t.s, .slice ka kn kc, .slice na nn nc, .slice la ln lc] 28)).alloc (.cells #[.int .i64 0, .int .i64 0, .string ⟨#[]⟩, .slice none 0 0, .slice none 0 0, .slice none 0 0] 28)) 36 #[.string cn, .slice cka ckn ckc]
      replace hbx9 := hbx9.alloc (.cells #[.string cn, .slice cka ckn ckc] 36)
      replace hby9 := hby9.alloc (.cells #[.string cn, .slice cka ckn ckc] 36)
      replace hb9 := belowStep hbd9 hb9
      simp only [size_alloc] at hbc9
      have HSZ := Lib.hid (show (((w.alloc (.cells #[.int .i64 t.op, .int .i64 t.n, .string t.s, .slice ka kn kc, .slice na nn nc, .slice la ln lc] 28)).alloc (.cells #[.int .i64 0, .int .i64 0, .string ⟨#[]⟩, .slice none 0 0, .slice none 0 0, .slice none 0 0] 28)).alloc (.cells #[.string cn, .slice cka ckn ckc] 36)).heap.size = w.heap.size + 3 by simp)
      have hgg := hG.of_eq (hb9.block _ hG.lt)
      have HBY := Lib.hid hby9
      have HOW := Lib.hid (only_below (N := G) hb9)
      have HNODE := Lib.hid (node_leaf N G (⟨2, 0, cn, ck, [], []⟩ : Con) L d (((w.alloc (.cells #[.int .i64 t.op, .int .i64 t.n, .string t.s, .slice ka kn kc, .slice na nn nc, .slice la ln lc] 28)).alloc (.cells #[.int .i64 0, .int .i64 0, .string ⟨#[]⟩, .slice none 0 0, .slice none 0 0, .slice none 0 0] 28)).alloc (.cells #[.string cn, .slice cka ckn ckc] 36)) (.agg #[.int .i64 2, .int .i64 0, .string cn, .slice cka ckn ckc, .slice none 0 0, .slice none 0 0]) hN hgg ((conV_iff _ _ _ _).2 ⟨hsz0, _, _, _, rfl, hkd.keep (Same.of_below hb9 (fun q (hq : q < N) => by omega)), ⟨none, 0, rfl, Nat.le_refl _, Nat.zero_le _, fun _ => rfl, (fun z hz => by cases hz), .inl rfl⟩, conSl_none9 _ _⟩) hval.2 rfl (Nat.zero_le _) h0 h1)
      have d0 := hbx9.cell 0 (.int .i64 t.op) rfl
      have d1 := hbx9.cell 1 (.int .i64 t.n) rfl
      have d2 := hbx9.cell 2 (.string t.s) rfl
      have d3 := hbx9.cell 3 (.slice ka kn kc) rfl
      have d4 := hbx9.cell 4 (.slice na nn nc) rfl
      have d5 := hbx9.cell 5 (.slice la ln lc) rfl
      have e0 := hbc9.cell 0 (.string cn) rfl
      have e1 := hbc9.cell 1 (.slice cka ckn ckc) rfl
      have HS9 : UnbBoxes (((w.alloc (.cells #[.int .i64 t.op, .int .i64 t.n, .string t.s, .slice ka kn kc, .slice na nn nc, .slice la ln lc] 28)).alloc (.cells #[.int .i64 0, .int .i64 0, .string ⟨#[]⟩, .slice none 0 0, .slice none 0 0, .slice none 0 0] 28)).alloc (.cells #[.string cn, .slice cka ckn ckc] 36)) g1 g3 G _ := ⟨hs.lst.of_eq (hb9.block _ hs.lst.lt), hs.bld.of_eq (hb9.block _ hs.bld.lt)⟩
      have y1 := HS9.lst.cell 0 (.slice (some ⟨b0, off, none⟩) n sc) rfl
      have y3 := HS9.bld.cell 0 (.pointer (some ⟨G, 0, none⟩)) rfl
      subst hk
      have hb0 : b0 < w.heap.size := Nat.lt_of_lt_of_le hbN (by omega)
      have g0 := (cell_same (hb.block b0 hb0)).trans f0
      have g1' := (cell_same (hb.block b0 hb0)).trans f1
      clear hG ht ha hs hgl hlf HPRT hbx9 hby9 hb9 hgg HW HSB HB hbx hbx2 hb HS9 HCS HCC f0 f1 hkd hval h2 hkv hnl hl0 hsz0 hbN hcb hbc9 hbd9
      go_enter Tryz.func67, Tryz.ntmps67
      go_wp2_with fail
      clear c0 c1 c2 c3 c4 c5 d0 d1 d2 d3 d4 d5 e0 e1 x1 x3 fz y1 y3
      generalize (((w.alloc (.cells #[.int .i64 t.op, .int .i64 t.n, .string t.s, .slice ka kn kc, .slice na nn nc, .slice la ln lc] 28)).alloc (.cells #[.int .i64 0, .int .i64 0, .string ⟨#[]⟩, .slice none 0 0, .slice none 0 0, .slice none 0 0] 28)).alloc (.cells #[.string cn, .slice cka ckn ckc] 36)) = wa at *
      refine HNODE.out.mono ?_
      rintro e w3 ⟨ho3, y, u, c, rfl, hy, hg3, hc0, hc1, hfit⟩
      have hsz := HSZ.out
      have hss := ho3.size
      have hgl2 := HGL.out
      obtain ⟨ua, un, uc, va, vn, vc, xa, xn, xc, rfl, -, -, -⟩ := hy.shape
      have hby := ho3.blk HBY.out (show w.heap.size + 1 ≠ G from by have := HGL.out; omega)
      have t0 := hby.thaw 0
      have t1 := hby.thaw 1
      have t2 := hby.thaw 2
      have t3 := hby.thaw 3
      have t4 := hby.thaw 4
      have t5 := hby.thaw 5
      have r0 := hby.cell 0 (.int .i64 0) rfl
      have r1 := hby.cell 1 (.int .i64 0) rfl
      have r2 := hby.cell 2 (.string ⟨#[]⟩) rfl
      have r3 := hby.cell 3 (.slice none 0 0) rfl
      have r4 := hby.cell 4 (.slice none 0 0) rfl
      have r5 := hby.cell 5 (.slice none 0 0) rfl
      have hz := store6_blk hby 0 (.int .i64 u.op) (.int .i64 u.n) (.string u.s) (.slice ua un uc) (.slice va vn vc) (.slice xa xn xc)
      rw [put6_all] at hz
      have HE := Lib.hid (show RebP N G (⟨2, 0, cn, ck, [], []⟩ : Con) L d w (.returned (.tuple #[.agg #[.int .i64 u.op, .int .i64 u.n, .string u.s, .slice ua un uc, .slice va vn vc, .slice xa xn xc], .bool (fitB (⟨2, 0, cn, ck, [], []⟩ : Con) L d)])) (store6 w3 (w.heap.size + 1) 0 (.int .i64 u.op) (.int .i64 u.n) (.string u.s) (.slice ua un uc) (.slice va vn vc) (.slice xa xn xc)) from by
        refine ⟨store6_only (HOW.out.trans ho3) _ _ _ _ _ _ _ _ (.inr (Nat.le_succ _)), _, u, c, rfl, ?_, hg3.of_eq (store6_other _ _ _ _ _ _ _ _ _ G (by have := HGL.out; omega)), hc0, hc1, hfit⟩
        refine (hy.keep (fun q hq => store6_other _ _ _ _ _ _ _ _ _ q (by rcases hq with hq | hq <;> omega))).mono (fun q hq => ?_)
        rcases hq with hq | hq
        · exact .inl hq
        · exact .inr ⟨by omega, by rw [store6_size]; exact hq.2⟩)
      unfold store6 at hz HE
      simp only [Nat.zero_add] at hz HE
      have z0 := hz.cell 0 (.int .i64 u.op) rfl
      have z1 := hz.cell 1 (.int .i64 u.n) rfl
      have z2 := hz.cell 2 (.string u.s) rfl
      have z3 := hz.cell 3 (.slice ua un uc) rfl
      have z4 := hz.cell 4 (.slice va vn vc) rfl
      have z5 := hz.cell 5 (.slice xa xn xc) rfl
      clear hy hg3 hfit hby hz ho3 hsz hss hgl2 HNODE HOW HBY HSZ
      generalize fitB (⟨2, 0, cn, ck, [], []⟩ : Con) L d = r at *
      go_wp2
      refine bodyPost_ret (v := .tuple #[.agg #[.int .i64 u.op, .int .i64 u.n, .string u.s, .slice ua un uc, .slice va vn vc, .slice xa xn xc], .bool r]) (by simp [results, Tryz.results67, go_sem, z0, z1, z2, z3, z4, z5]) rfl ?_
      exact HE.out
    · have q2 : decide ((i : Int) < (n : Int)) = false := decide_eq_false (by omega)
      have w2 : wrap64 (t.n - (n : Int)) = t.n - (n : Int) := by rw [wrap64]; omega
      have HW := Lib.hid (show suF (unb cs) t b = (⟨t.op, t.n - (n : Int), t.s, t.kind, t.names, t.l⟩ : Con) from by unfold suF; rw [if_pos h2, unb_len, ← HN.out, if_neg (by omega)])
      rw [HW.out]
      obtain ⟨hbx9, hby9, hb9⟩ := twoN_new w 28 28 #[.int .i64 t.op, .int .i64 (t.n - (n : Int)), .string t.s, .slice ka kn kc, .slice na nn nc, .slice la ln lc] #[.int .i64 0, .int .i64 0, .string ⟨#[]⟩, .slice none 0 0, .slice none 0 0, .slice none 0 0]
      have HSZ := Lib.hid (show ((w.alloc (.cells #[.int .i64 t.op, .int .i64 (t.n - (n : Int)), .string t.s, .slice ka kn kc, .slice na nn nc, .slice la ln lc] 28)).alloc (.cells #[.int .i64 0, .int .i64 0, .string ⟨#[]⟩, .slice none 0 0, .slice none 0 0, .slice none 0 0] 28)).heap.size = w.heap.size + 2 by simp)
      have hgg := hG.of_eq (hb9.block _ hG.lt)
      have HBY := Lib.hid hby9
      have HOW := Lib.hid (only_below (N := G) hb9)
      have HNODE := Lib.hid (node_leaf N G (⟨t.op, t.n - (n : Int), t.s, t.kind, t.names, t.l⟩ : Con) L d ((w.alloc (.cells #[.int .i64 t.op, .int .i64 (t.n - (n : Int)), .string t.s, .slice ka kn kc, .slice na nn nc, .slice la ln lc] 28)).alloc (.cells #[.int .i64 0, .int .i64 0, .string ⟨#[]⟩, .slice none 0 0, .slice none 0 0, .slice none 0 0] 28)) (.agg #[.int .i64 t.op, .int .i64 (t.n - (n : Int)), .string t.s, .slice ka kn kc, .slice na nn nc, .slice la ln lc]) hN hgg ((conV_iff _ _ _ _).2 ⟨HPRT.out.1, _, _, _, rfl, HPRT.out.2.1.keep (Same.of_below hb9 (fun q (hq : q < N) => by omega)), HPRT.out.2.2.1.keep (Same.of_below hb9 (fun q (hq : q < N) => by omega)), HPRT.out.2.2.2.keep (Same.of_below hb9 (fun q (hq : q < N) => by omega))⟩) hkv hl0 hnl h0 h1)
      have d0 := hbx9.cell 0 (.int .i64 t.op) rfl
      have d1 := hbx9.cell 1 (.int .i64 (t.n - (n : Int))) rfl
      have d2 := hbx9.cell 2 (.string t.s) rfl
      have d3 := hbx9.cell 3 (.slice ka kn kc) rfl
      have d4 := hbx9.cell 4 (.slice na nn nc) rfl
      have d5 := hbx9.cell 5 (.slice la ln lc) rfl
      have HS9 : UnbBoxes ((w.alloc (.cells #[.int .i64 t.op, .int .i64 (t.n - (n : Int)), .string t.s, .slice ka kn kc, .slice na nn nc, .slice la ln lc] 28)).alloc (.cells #[.int .i64 0, .int .i64 0, .string ⟨#[]⟩, .slice none 0 0, .slice none 0 0, .slice none 0 0] 28)) g1 g3 G _ := ⟨hs.lst.of_eq (hb9.block _ hs.lst.lt), hs.bld.of_eq (hb9.block _ hs.bld.lt)⟩
      have y1 := HS9.lst.cell 0 (.slice sa n sc) rfl
      have y3 := HS9.bld.cell 0 (.pointer (some ⟨G, 0, none⟩)) rfl
      clear hG ht ha hs hgl hlf HPRT hbx9 hby9 hb9 hgg HW HSB HB hbx hbx2 hb HS9 HCS h2 hkv hnl hl0
      go_enter Tryz.func67, Tryz.ntmps67
      go_wp2_with fail
      clear c0 c1 c2 c3 c4 c5 d0 d1 d2 d3 d4 d5 x1 x3 fz y1 y3
      generalize ((w.alloc (.cells #[.int .i64 t.op, .int .i64 (t.n - (n : Int)), .string t.s, .slice ka kn kc, .slice na nn nc, .slice la ln lc] 28)).alloc (.cells #[.int .i64 0, .int .i64 0, .string ⟨#[]⟩, .slice none 0 0, .slice none 0 0, .slice none 0 0] 28)) = wa at *
      refine HNODE.out.mono ?_
      rintro e w3 ⟨ho3, y, u, c, rfl, hy, hg3, hc0, hc1, hfit⟩
      have hsz := HSZ.out
      have hss := ho3.size
      have hgl2 := HGL.out
      obtain ⟨ua, un, uc, va, vn, vc, xa, xn, xc, rfl, -, -, -⟩ := hy.shape
      have hby := ho3.blk HBY.out (show w.heap.size + 1 ≠ G from by have := HGL.out; omega)
      have t0 := hby.thaw 0
      have t1 := hby.thaw 1
      have t2 := hby.thaw 2
      have t3 := hby.thaw 3
      have t4 := hby.thaw 4
      have t5 := hby.thaw 5
      have r0 := hby.cell 0 (.int .i64 0) rfl
      have r1 := hby.cell 1 (.int .i64 0) rfl
      have r2 := hby.cell 2 (.string ⟨#[]⟩) rfl
      have r3 := hby.cell 3 (.slice none 0 0) rfl
      have r4 := hby.cell 4 (.slice none 0 0) rfl
      have r5 := hby.cell 5 (.slice none 0 0) rfl
      have hz := store6_blk hby 0 (.int .i64 u.op) (.int .i64 u.n) (.string u.s) (.slice ua un uc) (.slice va vn vc) (.slice xa xn xc)
      rw [put6_all] at hz
      have HE := Lib.hid (show RebP N G (⟨t.op, t.n - (n : Int), t.s, t.kind, t.names, t.l⟩ : Con) L d w (.returned (.tuple #[.agg #[.int .i64 u.op, .int .i64 u.n, .string u.s, .slice ua un uc, .slice va vn vc, .slice xa xn xc], .bool (fitB (⟨t.op, t.n - (n : Int), t.s, t.kind, t.names, t.l⟩ : Con) L d)])) (store6 w3 (w.heap.size + 1) 0 (.int .i64 u.op) (.int .i64 u.n) (.string u.s) (.slice ua un uc) (.slice va vn vc) (.slice xa xn xc)) from by
        refine ⟨store6_only (HOW.out.trans ho3) _ _ _ _ _ _ _ _ (.inr (Nat.le_succ _)), _, u, c, rfl, ?_, hg3.of_eq (store6_other _ _ _ _ _ _ _ _ _ G (by have := HGL.out; omega)), hc0, hc1, hfit⟩
        refine (hy.keep (fun q hq => store6_other _ _ _ _ _ _ _ _ _ q (by rcases hq with hq | hq <;> omega))).mono (fun q hq => ?_)
        rcases hq with hq | hq
        · exact .inl hq
        · exact .inr ⟨by omega, by rw [store6_size]; exact hq.2⟩)
      unfold store6 at hz HE
      simp only [Nat.zero_add] at hz HE
      have z0 := hz.cell 0 (.int .i64 u.op) rfl
      have z1 := hz.cell 1 (.int .i64 u.n) rfl
      have z2 := hz.cell 2 (.string u.s) rfl
      have z3 := hz.cell 3 (.slice ua un uc) rfl
      have z4 := hz.cell 4 (.slice va vn vc) rfl
      have z5 := hz.cell 5 (.slice xa xn xc) rfl
      clear hy hg3 hfit hby hz ho3 hsz hss hgl2 HNODE HOW HBY HSZ
      generalize fitB (⟨t.op, t.n - (n : Int), t.s, t.kind, t.names, t.l⟩ : Con) L d = r at *
      go_wp2
      refine bodyPost_ret (v := .tuple #[.agg #[.int .i64 u.op, .int .i64 u.n, .string u.s, .slice ua un uc, .slice va vn vc, .slice xa xn xc], .bool r]) (by simp [results, Tryz.results67, go_sem, z0, z1, z2, z3, z4, z5]) rfl ?_
      exact HE.out
  have q1 : (t.op == 1) = false := by simpa using h2
  have HW := Lib.hid (show suF (unb cs) t b = t from by unfold suF; rw [if_neg h2])
  rw [HW.out]
  obtain ⟨hbx9, hby9, hb9⟩ := twoN_new w 28 28 #[.int .i64 t.op, .int .i64 t.n, .string t.s, .slice ka kn kc, .slice na nn nc, .slice la ln lc] #[.int .i64 0, .int .i64 0, .string ⟨#[]⟩, .slice none 0 0, .slice none 0 0, .slice none 0 0]
  have HSZ := Lib.hid (show ((w.alloc (.cells #[.int .i64 t.op, .int .i64 t.n, .string t.s, .slice ka kn kc, .slice na nn nc, .slice la ln lc] 28)).alloc (.cells #[.int .i64 0, .int .i64 0, .string ⟨#[]⟩, .slice none 0 0, .slice none 0 0, .slice none 0 0] 28)).heap.size = w.heap.size + 2 by simp)
  have hgg := hG.of_eq (hb9.block _ hG.lt)
  have HBY := Lib.hid hby9
  have HOW := Lib.hid (only_below (N := G) hb9)
  have HNODE := Lib.hid (node_leaf N G (t) L d ((w.alloc (.cells #[.int .i64 t.op, .int .i64 t.n, .string t.s, .slice ka kn kc, .slice na nn nc, .slice la ln lc] 28)).alloc (.cells #[.int .i64 0, .int .i64 0, .string ⟨#[]⟩, .slice none 0 0, .slice none 0 0, .slice none 0 0] 28)) (.agg #[.int .i64 t.op, .int .i64 t.n, .string t.s, .slice ka kn kc, .slice na nn nc, .slice la ln lc]) hN hgg ((conV_iff _ _ _ _).2 ⟨HPRT.out.1, _, _, _, rfl, HPRT.out.2.1.keep (Same.of_below hb9 (fun q (hq : q < N) => by omega)), HPRT.out.2.2.1.keep (Same.of_below hb9 (fun q (hq : q < N) => by omega)), HPRT.out.2.2.2.keep (Same.of_below hb9 (fun q (hq : q < N) => by omega))⟩) hkv hl0 hnl h0 h1)
  have d0 := hbx9.cell 0 (.int .i64 t.op) rfl
  have d1 := hbx9.cell 1 (.int .i64 t.n) rfl
  have d2 := hbx9.cell 2 (.string t.s) rfl
  have d3 := hbx9.cell 3 (.slice ka kn kc) rfl
  have d4 := hbx9.cell 4 (.slice na nn nc) rfl
  have d5 := hbx9.cell 5 (.slice la ln lc) rfl
  have HS9 : UnbBoxes ((w.alloc (.cells #[.int .i64 t.op, .int .i64 t.n, .string t.s, .slice ka kn kc, .slice na nn nc, .slice la ln lc] 28)).alloc (.cells #[.int .i64 0, .int .i64 0, .string ⟨#[]⟩, .slice none 0 0, .slice none 0 0, .slice none 0 0] 28)) g1 g3 G _ := ⟨hs.lst.of_eq (hb9.block _ hs.lst.lt), hs.bld.of_eq (hb9.block _ hs.bld.lt)⟩
  have y1 := HS9.lst.cell 0 (.slice sa n sc) rfl
  have y3 := HS9.bld.cell 0 (.pointer (some ⟨G, 0, none⟩)) rfl
  clear hG ht ha hs hgl hlf HPRT hbx9 hby9 hb9 hgg HW HSB HB hbx hbx2 hb HS9 HCS h2 hkv hnl hl0
  go_enter Tryz.func67, Tryz.ntmps67
  go_wp2_with fail
  clear c0 c1 c2 c3 c4 c5 d0 d1 d2 d3 d4 d5 x1 x3 fz y1 y3
  generalize ((w.alloc (.cells #[.int .i64 t.op, .int .i64 t.n, .string t.s, .slice ka kn kc, .slice na nn nc, .slice la ln lc] 28)).alloc (.cells #[.int .i64 0, .int .i64 0, .string ⟨#[]⟩, .slice none 0 0, .slice none 0 0, .slice none 0 0] 28)) = wa at *
  refine HNODE.out.mono ?_
  rintro e w3 ⟨ho3, y, u, c, rfl, hy, hg3, hc0, hc1, hfit⟩
  have hsz := HSZ.out
  have hss := ho3.size
  have hgl2 := HGL.out
  obtain ⟨ua, un, uc, va, vn, vc, xa, xn, xc, rfl, -, -, -⟩ := hy.shape
  have hby := ho3.blk HBY.out (show w.heap.size + 1 ≠ G from by have := HGL.out; omega)
  have t0 := hby.thaw 0
  have t1 := hby.thaw 1
  have t2 := hby.thaw 2
  have t3 := hby.thaw 3
  have t4 := hby.thaw 4
  have t5 := hby.thaw 5
  have r0 := hby.cell 0 (.int .i64 0) rfl
  have r1 := hby.cell 1 (.int .i64 0) rfl
  have r2 := hby.cell 2 (.string ⟨#[]⟩) rfl
  have r3 := hby.cell 3 (.slice none 0 0) rfl
  have r4 := hby.cell 4 (.slice none 0 0) rfl
  have r5 := hby.cell 5 (.slice none 0 0) rfl
  have hz := store6_blk hby 0 (.int .i64 u.op) (.int .i64 u.n) (.string u.s) (.slice ua un uc) (.slice va vn vc) (.slice xa xn xc)
  rw [put6_all] at hz
  have HE := Lib.hid (show RebP N G (t) L d w (.returned (.tuple #[.agg #[.int .i64 u.op, .int .i64 u.n, .string u.s, .slice ua un uc, .slice va vn vc, .slice xa xn xc], .bool (fitB (t) L d)])) (store6 w3 (w.heap.size + 1) 0 (.int .i64 u.op) (.int .i64 u.n) (.string u.s) (.slice ua un uc) (.slice va vn vc) (.slice xa xn xc)) from by
    refine ⟨store6_only (HOW.out.trans ho3) _ _ _ _ _ _ _ _ (.inr (Nat.le_succ _)), _, u, c, rfl, ?_, hg3.of_eq (store6_other _ _ _ _ _ _ _ _ _ G (by have := HGL.out; omega)), hc0, hc1, hfit⟩
    refine (hy.keep (fun q hq => store6_other _ _ _ _ _ _ _ _ _ q (by rcases hq with hq | hq <;> omega))).mono (fun q hq => ?_)
    rcases hq with hq | hq
    · exact .inl hq
    · exact .inr ⟨by omega, by rw [store6_size]; exact hq.2⟩)
  unfold store6 at hz HE
  simp only [Nat.zero_add] at hz HE
  have z0 := hz.cell 0 (.int .i64 u.op) rfl
  have z1 := hz.cell 1 (.int .i64 u.n) rfl
  have z2 := hz.cell 2 (.string u.s) rfl
  have z3 := hz.cell 3 (.slice ua un uc) rfl
  have z4 := hz.cell 4 (.slice va vn vc) rfl
  have z5 := hz.cell 5 (.slice xa xn xc) rfl
  clear hy hg3 hfit hby hz ho3 hsz hss hgl2 HNODE HOW HBY HSZ
  generalize fitB (t) L d = r at *
  go_wp2
  refine bodyPost_ret (v := .tuple #[.agg #[.int .i64 u.op, .int .i64 u.n, .string u.s, .slice ua un uc, .slice va vn vc, .slice xa xn xc], .bool r]) (by simp [results, Tryz.results67, go_sem, z0, z1, z2, z3, z4, z5]) rfl ?_
  exact HE.out
end Go.Proofs.YtpkgiemdnfbopaaGreat
namespace Go.Proofs.YtpkgiemdnfbopaaGreat
open Go Go.RowKit
open Pl (K Con)
set_option linter.unusedSimpArgs false
set_option linter.unusedVariables false

theorem unb_change (N G g1 g3 : Nat) (cs : List (ByteArray × K)) (xv : Value) (w : World) (hN : N ≤ G) (hgl : G < w.heap.size) (hs : UnbBoxes w g1 g3 G xv) (hx : CstSl w (· < N) xv cs) (hcb : cs.all cstB = true) (h1 : g1 ≠ G) (h3 : g3 ≠ G) (hnn2 : cs.length ≤ 1000) :
    ChangeOk N G 67 #[.pointer (some ⟨g1, 0, none⟩), .pointer (some ⟨g3, 0, none⟩)] (suF (unb cs)) w :=
  ⟨fun _ _ => by kernel_rfl, fun W t v b2 d L hW hg h0 h1' hb0 hbd hd0 hd1 hlf ha ht => unbF_any N G g1 g3 cs xv t b2 d L W v hN ⟨hW.blk hs.lst h1, hW.blk hs.bld h3⟩ (hx.keep (Same.of_only hW (fun q (hq : q < N) => ⟨by omega, by omega⟩))) hcb hnn2 hg ht ha hlf h0 h1' hb0 hbd hd0 hd1⟩
set_option maxRecDepth 100000 in
set_option maxHeartbeats 4000000 in
theorem cunbind_new (t : Con) (cs : List (ByteArray × K)) (w : World) (v xv : Value) (ht : ConV w (· < w.heap.size) t v) (hl : CstSl w (· < w.heap.size) xv cs) (hlen : cs.length ≤ 1000000) :
    Calls Tryz.prog 15 #[v, xv] w (OutF (unbindOut t cs) w) := by
  have HV := Lib.hid (fun W (hW : Below w.heap.size w W) => cvalid_any (· < w.heap.size) t W v (fun q hq => Nat.lt_of_lt_of_le hq hW.size) (ht.keep (Same.of_below hW (fun _ h => h))))
  have HALL := Lib.hid (fun W (hW : Below w.heap.size w W) => allCst_any (· < w.heap.size) cs W xv (fun q hq => Nat.lt_of_lt_of_le hq hW.size) (hl.keep (Same.of_below hW (fun _ h => h))))
  have HNM := Lib.hid (fun W (hW : Below w.heap.size w W) => namesOf_any (· < w.heap.size) cs W xv (fun q hq => Nat.lt_of_lt_of_le hq hW.size) (hl.keep (Same.of_below hW (fun _ h => h))) hlen)
  have HIX := Lib.hid (fun (N : Nat) (W : World) (y : Value) (hy : StrSl W (fun q => N ≤ q ∧ q < W.heap.size) y (cs.map (·.1))) => indices_any _ y (cs.map (·.1)) W (fun q hq => hq.2) hy)
  have HO := Lib.hid (show unbindOut t cs = if (Con.validB t && cs.all cstB) = true then (if idxCode (cs.map (·.1)) = 0 then fitOut (Con.reb (suF (unb cs)) t 0) else (Con.none0, idxCode (cs.map (·.1)))) else (Con.none0, 1) from rfl)
  have hxf : ∃ a c, xv = .slice a cs.length c := by obtain ⟨a, c, e, -⟩ := hl; exact ⟨a, c, e⟩
  have HR := Lib.hid (fun (wb : World) (G g1 g3 : Nat) (hG : w.heap.size ≤ G) (hv : Con.validB t = true) (hcb : cs.all cstB = true) (hnc : cs.length ≤ 1000) (hw : Below w.heap.size w wb) (hbl : Blk wb G 139 #[.int .i64 20000]) (hs : UnbBoxes wb g1 g3 G xv) (h1 : g1 ≠ G) (h3 : g3 ≠ G) =>
    result_any w.heap.size G _ _ (suF (unb cs)) wb (unb_change w.heap.size G g1 g3 cs xv wb hG hbl.lt hs (hl.keep (Same.of_below hw (fun _ h => h))) hcb h1 h3 hnc) hG t v (valid_all t hv) hbl (ht.keep (Same.of_below hw (fun _ h => h))))
  obtain ⟨ka, kn, kc, na, nn, nc, la, ln, lc, rfl, -, -, -⟩ := ht.shape
  obtain ⟨sa, sc, rfl⟩ := hxf
  obtain ⟨n, hn⟩ : ∃ n, n = cs.length := ⟨_, rfl⟩
  have HN := Lib.hid hn
  rw [← hn] at HALL HNM HR ⊢
  have hb1 := boxN_new w 28 #[.int .i64 t.op, .int .i64 t.n, .string t.s, .slice ka kn kc, .slice na nn nc, .slice la ln lc]
  have hb2 := boxN_new (w.alloc (.cells #[.int .i64 t.op, .int .i64 t.n, .string t.s, .slice ka kn kc, .slice na nn nc, .slice la ln lc] 28)) 29 #[.slice sa n sc]
  have hb3 := boxN_new ((w.alloc (.cells #[.int .i64 t.op, .int .i64 t.n, .string t.s, .slice ka kn kc, .slice na nn nc, .slice la ln lc] 28)).alloc (.cells #[.slice sa n sc] 29)) 28 #[.int .i64 0, .int .i64 0, .string ⟨#[]⟩, .slice none 0 0, .slice none 0 0, .slice none 0 0]
  have k1 := (hb1.1.alloc (.cells #[.slice sa n sc] 29)).alloc (.cells #[.int .i64 0, .int .i64 0, .string ⟨#[]⟩, .slice none 0 0, .slice none 0 0, .slice none 0 0] 28)
  have k2 := hb2.1.alloc (.cells #[.int .i64 0, .int .i64 0, .string ⟨#[]⟩, .slice none 0 0, .slice none 0 0, .slice none 0 0] 28)
  have k3 := hb3.1
  have hbb := belowStep hb3.2 (belowStep hb2.2 hb1.2)
  rw [size_alloc] at k2
  rw [size_alloc, size_alloc] at k3
  have HBX := Lib.hid k1
  have HBL := Lib.hid k2
  have HZ := Lib.hid k3
  have HB := Lib.hid hbb
  clear hb1 hb2 hb3 k1 k2 k3 hbb ht hl hn
  go_enter Tryz.func15, Tryz.ntmps15
  go_upto_region 1 with fail
  generalize ((w.alloc (.cells #[.int .i64 t.op, .int .i64 t.n, .string t.s, .slice ka kn kc, .slice na nn nc, .slice la ln lc] 28)).alloc (.cells #[.slice sa n sc] 29)).alloc (.cells #[.int .i64 0, .int .i64 0, .string ⟨#[]⟩, .slice none 0 0, .slice none 0 0, .slice none 0 0] 28) = w1 at *
  have c0 := HBX.out.cell 0 (.int .i64 t.op) rfl
  have c1 := HBX.out.cell 1 (.int .i64 t.n) rfl
  have c2 := HBX.out.cell 2 (.string t.s) rfl
  have c3 := HBX.out.cell 3 (.slice ka kn kc) rfl
  have c4 := HBX.out.cell 4 (.slice na nn nc) rfl
  have c5 := HBX.out.cell 5 (.slice la ln lc) rfl
  go_wp2_with fail
  clear c0 c1 c2 c3 c4 c5
  refine (HV.out _ HB.out).mono ?_
  rintro e w2 ⟨rfl, h2⟩
  replace HBX := Lib.hid (HBX.out.of_eq (h2.block _ HBX.out.lt))
  replace HBL := Lib.hid (HBL.out.of_eq (h2.block _ HBL.out.lt))
  replace HZ := Lib.hid (HZ.out.of_eq (h2.block _ HZ.out.lt))
  replace HB := Lib.hid (belowStep h2 HB.out)
  clear h2
  cases hv : Con.validB t
  · have HO2 := Lib.hid (show unbindOut t cs = (Con.none0, 1) from by rw [HO.out, if_neg (by rw [hv]; simp)])
    have hzz := HZ.out
    have hz := store6_blk hzz 0 (.int .i64 0) (.int .i64 0) (.string ⟨#[]⟩) (.slice none 0 0) (.slice none 0 0) (.slice none 0 0)
    rw [put6_all] at hz
    have HE := Lib.hid (show OutF (unbindOut t cs) w (.returned (.tuple #[.agg #[.int .i64 0, .int .i64 0, .string ⟨#[]⟩, .slice none 0 0, .slice none 0 0, .slice none 0 0], .int .i64 1])) (store6 w2 (w.heap.size + 1 + 1) 0 (.int .i64 0) (.int .i64 0) (.string ⟨#[]⟩) (.slice none 0 0) (.slice none 0 0) (.slice none 0 0)) from ⟨⟨_, by rw [HO2.out], by rw [HO2.out]; exact conV_none _ _⟩, store6_below HB.out _ _ _ _ _ _ _ _ (by omega)⟩)
    unfold store6 at hz HE
    simp only [Nat.zero_add] at hz HE
    have z0 := hz.cell 0 (.int .i64 0) rfl
    have z1 := hz.cell 1 (.int .i64 0) rfl
    have z2 := hz.cell 2 (.string ⟨#[]⟩) rfl
    have z3 := hz.cell 3 (.slice none 0 0) rfl
    have z4 := hz.cell 4 (.slice none 0 0) rfl
    have z5 := hz.cell 5 (.slice none 0 0) rfl
    have r0 := hzz.cell 0 (.int .i64 0) rfl
    have r1 := hzz.cell 1 (.int .i64 0) rfl
    have r2 := hzz.cell 2 (.string ⟨#[]⟩) rfl
    have r3 := hzz.cell 3 (.slice none 0 0) rfl
    have r4 := hzz.cell 4 (.slice none 0 0) rfl
    have r5 := hzz.cell 5 (.slice none 0 0) rfl
    have t0 := hzz.thaw 0
    have t1 := hzz.thaw 1
    have t2 := hzz.thaw 2
    have t3 := hzz.thaw 3
    have t4 := hzz.thaw 4
    have t5 := hzz.thaw 5
    clear hz hzz HV HALL HO HBX HBL HZ HO2 HIX HR HNM
    go_wp2
    refine bodyPost_ret (v := .tuple #[.agg #[.int .i64 0, .int .i64 0, .string ⟨#[]⟩, .slice none 0 0, .slice none 0 0, .slice none 0 0], .int .i64 1]) (by simp [results, Tryz.results15, go_sem, z0, z1, z2, z3, z4, z5]) rfl ?_
    exact HE.out
  have HVT := Lib.hid hv
  clear hv HV
  have x0 := HBL.out.cell 0 (.slice sa n sc) rfl
  go_wp2_with fail
  clear x0
  refine (HALL.out _ HB.out).mono ?_
  rintro e w3 ⟨rfl, h3⟩
  replace HBX := Lib.hid (HBX.out.of_eq (h3.block _ HBX.out.lt))
  replace HBL := Lib.hid (HBL.out.of_eq (h3.block _ HBL.out.lt))
  replace HZ := Lib.hid (HZ.out.of_eq (h3.block _ HZ.out.lt))
  replace HB := Lib.hid (belowStep h3 HB.out)
  clear h3
  cases hlv : cs.all cstB
  · have HO2 := Lib.hid (show unbindOut t cs = (Con.none0, 1) from by rw [HO.out, if_neg (by rw [hlv]; simp)])
    have hzz := HZ.out
    have hz := store6_blk hzz 0 (.int .i64 0) (.int .i64 0) (.string ⟨#[]⟩) (.slice none 0 0) (.slice none 0 0) (.slice none 0 0)
    rw [put6_all] at hz
    have HE := Lib.hid (show OutF (unbindOut t cs) w (.returned (.tuple #[.agg #[.int .i64 0, .int .i64 0, .string ⟨#[]⟩, .slice none 0 0, .slice none 0 0, .slice none 0 0], .int .i64 1])) (store6 w3 (w.heap.size + 1 + 1) 0 (.int .i64 0) (.int .i64 0) (.string ⟨#[]⟩) (.slice none 0 0) (.slice none 0 0) (.slice none 0 0)) from ⟨⟨_, by rw [HO2.out], by rw [HO2.out]; exact conV_none _ _⟩, store6_below HB.out _ _ _ _ _ _ _ _ (by omega)⟩)
    unfold store6 at hz HE
    simp only [Nat.zero_add] at hz HE
    have z0 := hz.cell 0 (.int .i64 0) rfl
    have z1 := hz.cell 1 (.int .i64 0) rfl
    have z2 := hz.cell 2 (.string ⟨#[]⟩) rfl
    have z3 := hz.cell 3 (.slice none 0 0) rfl
    have z4 := hz.cell 4 (.slice none 0 0) rfl
    have z5 := hz.cell 5 (.slice none 0 0) rfl
    have r0 := hzz.cell 0 (.int .i64 0) rfl
    have r1 := hzz.cell 1 (.int .i64 0) rfl
    have r2 := hzz.cell 2 (.string ⟨#[]⟩) rfl
    have r3 := hzz.cell 3 (.slice none 0 0) rfl
    have r4 := hzz.cell 4 (.slice none 0 0) rfl
    have r5 := hzz.cell 5 (.slice none 0 0) rfl
    have t0 := hzz.thaw 0
    have t1 := hzz.thaw 1
    have t2 := hzz.thaw 2
    have t3 := hzz.thaw 3
    have t4 := hzz.thaw 4
    have t5 := hzz.thaw 5
    clear hz hzz HALL HO HBX HBL HZ HO2 HIX HR HNM
    go_wp2
    refine bodyPost_ret (v := .tuple #[.agg #[.int .i64 0, .int .i64 0, .string ⟨#[]⟩, .slice none 0 0, .slice none 0 0, .slice none 0 0], .int .i64 1]) (by simp [results, Tryz.results15, go_sem, z0, z1, z2, z3, z4, z5]) rfl ?_
    exact HE.out
  have HLV := Lib.hid hlv
  clear hlv HALL
  have x0 := HBL.out.cell 0 (.slice sa n sc) rfl
  go_wp2_with fail
  clear x0
  refine (HNM.out _ HB.out).mono ?_
  rintro e w35 ⟨⟨y9, rfl, hy9⟩, h35⟩
  replace HBX := Lib.hid (HBX.out.of_eq (h35.block _ HBX.out.lt))
  replace HBL := Lib.hid (HBL.out.of_eq (h35.block _ HBL.out.lt))
  replace HZ := Lib.hid (HZ.out.of_eq (h35.block _ HZ.out.lt))
  replace HB := Lib.hid (belowStep h35 HB.out)
  have HIX2 := Lib.hid (HIX.out _ w35 _ hy9)
  clear HIX hy9 h35 HNM
  go_wp2_with fail
  refine HIX2.out.mono ?_
  rintro e w4 ⟨⟨m, rfl, hm1, hm2⟩, h4⟩
  replace HBX := Lib.hid (HBX.out.of_eq (h4.block _ HBX.out.lt))
  replace HBL := Lib.hid (HBL.out.of_eq (h4.block _ HBL.out.lt))
  replace HZ := Lib.hid (HZ.out.of_eq (h4.block _ HZ.out.lt))
  replace HB := Lib.hid (belowStep h4 HB.out)
  clear hm1 hm2 h4 HIX2
  by_cases hic : idxCode (cs.map (·.1)) = 0
  rotate_left
  · have HO2 := Lib.hid (show unbindOut t cs = (Con.none0, idxCode (cs.map (·.1))) from by rw [HO.out, if_pos (by rw [HVT.out, HLV.out]; rfl), if_neg hic])
    obtain ⟨ic, hi⟩ : ∃ c, c = idxCode (cs.map (·.1)) := ⟨_, rfl⟩
    rw [← hi] at HO2 hic ⊢
    clear hi
    have q1 : (ic != 0) = true := by simpa using hic
    clear hic
    have hzz := HZ.out
    have hz := store6_blk hzz 0 (.int .i64 0) (.int .i64 0) (.string ⟨#[]⟩) (.slice none 0 0) (.slice none 0 0) (.slice none 0 0)
    rw [put6_all] at hz
    have HE := Lib.hid (show OutF (unbindOut t cs) w (.returned (.tuple #[.agg #[.int .i64 0, .int .i64 0, .string ⟨#[]⟩, .slice none 0 0, .slice none 0 0, .slice none 0 0], .int .i64 ic])) (store6 w4 (w.heap.size + 1 + 1) 0 (.int .i64 0) (.int .i64 0) (.string ⟨#[]⟩) (.slice none 0 0) (.slice none 0 0) (.slice none 0 0)) from ⟨⟨_, by rw [HO2.out], by rw [HO2.out]; exact conV_none _ _⟩, store6_below HB.out _ _ _ _ _ _ _ _ (by omega)⟩)
    unfold store6 at hz HE
    simp only [Nat.zero_add] at hz HE
    have z0 := hz.cell 0 (.int .i64 0) rfl
    have z1 := hz.cell 1 (.int .i64 0) rfl
    have z2 := hz.cell 2 (.string ⟨#[]⟩) rfl
    have z3 := hz.cell 3 (.slice none 0 0) rfl
    have z4 := hz.cell 4 (.slice none 0 0) rfl
    have z5 := hz.cell 5 (.slice none 0 0) rfl
    have r0 := hzz.cell 0 (.int .i64 0) rfl
    have r1 := hzz.cell 1 (.int .i64 0) rfl
    have r2 := hzz.cell 2 (.string ⟨#[]⟩) rfl
    have r3 := hzz.cell 3 (.slice none 0 0) rfl
    have r4 := hzz.cell 4 (.slice none 0 0) rfl
    have r5 := hzz.cell 5 (.slice none 0 0) rfl
    have t0 := hzz.thaw 0
    have t1 := hzz.thaw 1
    have t2 := hzz.thaw 2
    have t3 := hzz.thaw 3
    have t4 := hzz.thaw 4
    have t5 := hzz.thaw 5
    clear hz hzz HO HBX HBL HZ HO2 HR
    go_wp2
    refine bodyPost_ret (v := .tuple #[.agg #[.int .i64 0, .int .i64 0, .string ⟨#[]⟩, .slice none 0 0, .slice none 0 0, .slice none 0 0], .int .i64 ic]) (by simp [results, Tryz.results15, go_sem, z0, z1, z2, z3, z4, z5]) rfl ?_
    exact HE.out
  have HNC := Lib.hid (show n ≤ 1000 from by have := (idxCode_zero _ hic).1; rw [List.length_map] at this; rw [HN.out]; exact this)
  rw [hic]
  have HOUT := Lib.hid (show unbindOut t cs = fitOut (Con.reb (suF (unb cs)) t 0) from by rw [HO.out, if_pos (by rw [HVT.out, HLV.out]; rfl), if_pos hic])
  clear hic HO
  go_wp2_with fail
  refine (newBuilder_any _).mono ?_
  rintro e wb ⟨rfl, rfl⟩
  have hnb := boxN_new w4 139 #[.int .i64 20000]
  have hnc := boxN_new (w4.alloc (.cells #[.int .i64 20000] 139)) 93 #[.pointer (some ⟨w4.heap.size, 0, none⟩)]
  have hnd := hnb.1.alloc (.cells #[.pointer (some ⟨w4.heap.size, 0, none⟩)] 93)
  have hne := hnc.1
  rw [size_alloc] at hne
  have h4 := belowStep hnc.2 hnb.2
  have HGS := Lib.hid (show w.heap.size + 1 + 1 < w4.heap.size from HZ.out.lt)
  replace HBX := Lib.hid (HBX.out.of_eq (h4.block _ HBX.out.lt))
  replace HBL := Lib.hid (HBL.out.of_eq (h4.block _ HBL.out.lt))
  replace HZ := Lib.hid (HZ.out.of_eq (h4.block _ HZ.out.lt))
  replace HB := Lib.hid (belowStep h4 HB.out)
  obtain ⟨⟨u, c⟩, hfo⟩ : ∃ z : Con × Int, z = fitOut (Con.reb (suF (unb cs)) t 0) := ⟨_, rfl⟩
  have HO2 := Lib.hid (show unbindOut t cs = (u, c) from by rw [HOUT.out, hfo])
  have HRR := Lib.hid ((HR.out ((w4.alloc (.cells #[.int .i64 20000] 139)).alloc (.cells #[.pointer (some ⟨w4.heap.size, 0, none⟩)] 93)) w4.heap.size (w.heap.size + 1) (w4.heap.size + 1) (by have := HGS.out; omega) HVT.out HLV.out HNC.out HB.out hnd ⟨HBL.out, hne⟩ (by have := HGS.out; omega) (by omega)).mono (R' := fun e w' => Only w4.heap.size ((w4.alloc (.cells #[.int .i64 20000] 139)).alloc (.cells #[.pointer (some ⟨w4.heap.size, 0, none⟩)] 93)) w' ∧ ∃ y, e = .returned (.tuple #[y, .int .i64 c]) ∧ ConV w' (fun q => ((w4.alloc (.cells #[.int .i64 20000] 139)).alloc (.cells #[.pointer (some ⟨w4.heap.size, 0, none⟩)] 93)).heap.size ≤ q ∧ q < w'.heap.size) u y) (by
    rintro e w' ⟨h1, y, h2, h3⟩
    rw [← hfo] at h2 h3
    exact ⟨h1, y, h2, h3⟩))
  have HGL := Lib.hid hnd.lt
  have c0 := HBX.out.cell 0 (.int .i64 t.op) rfl
  have c1 := HBX.out.cell 1 (.int .i64 t.n) rfl
  have c2 := HBX.out.cell 2 (.string t.s) rfl
  have c3 := HBX.out.cell 3 (.slice ka kn kc) rfl
  have c4 := HBX.out.cell 4 (.slice na nn nc) rfl
  have c5 := HBX.out.cell 5 (.slice la ln lc) rfl
  have x1 := hne.cell 0 (.pointer (some ⟨w4.heap.size, 0, none⟩)) rfl
  have x9 := hne.thaw 0
  clear hfo HOUT hnb hnc hnd hne h4 HR
  go_wp2_with fail
  clear c0 c1 c2 c3 c4 c5
  clear x1 x9
  generalize ((w4.alloc (.cells #[.int .i64 20000] 139)).alloc (.cells #[.pointer (some ⟨w4.heap.size, 0, none⟩)] 93)) = wb at *
  generalize w4.heap.size = G at *
  refine HRR.out.mono ?_
  rintro e wr ⟨hor, y, rfl, hy⟩
  obtain ⟨yka, ykn, ykc, yna, ynn, ync, yla, yln, ylc, rfl, -, -, -⟩ := hy.shape
  have hzr := hor.blk HZ.out (by have := HGS.out; omega)
  have HLT := Lib.hid (show w.heap.size + 1 + 1 < wb.heap.size from HZ.out.lt)
  have t0 := hzr.thaw 0
  have t1 := hzr.thaw 1
  have t2 := hzr.thaw 2
  have t3 := hzr.thaw 3
  have t4 := hzr.thaw 4
  have t5 := hzr.thaw 5
  have r0 := hzr.cell 0 (.int .i64 0) rfl
  have r1 := hzr.cell 1 (.int .i64 0) rfl
  have r2 := hzr.cell 2 (.string ⟨#[]⟩) rfl
  have r3 := hzr.cell 3 (.slice none 0 0) rfl
  have r4 := hzr.cell 4 (.slice none 0 0) rfl
  have r5 := hzr.cell 5 (.slice none 0 0) rfl
  have hz := store6_blk hzr 0 (.int .i64 u.op) (.int .i64 u.n) (.string u.s) (.slice yka ykn ykc) (.slice yna ynn ync) (.slice yla yln ylc)
  rw [put6_all] at hz
  have HE := Lib.hid (show OutF (unbindOut t cs) w (.returned (.tuple #[.agg #[.int .i64 u.op, .int .i64 u.n, .string u.s, .slice yka ykn ykc, .slice yna ynn ync, .slice yla yln ylc], .int .i64 c])) (store6 wr (w.heap.size + 1 + 1) 0 (.int .i64 u.op) (.int .i64 u.n) (.string u.s) (.slice yka ykn ykc) (.slice yna ynn ync) (.slice yla yln ylc)) from by
    rw [HO2.out]
    refine ⟨⟨_, rfl, (hy.keep (fun q hq => store6_other _ _ _ _ _ _ _ _ _ q (by have := HLT.out; have := hq.1; omega))).mono (fun q hq => ?_)⟩, store6_below (HB.out.trans (hor.to (by have := HGS.out; omega) HB.out.size)) _ _ _ _ _ _ _ _ (by omega)⟩
    rw [store6_size]
    exact ⟨by have := HLT.out; have := hq.1; omega, hq.2⟩)
  unfold store6 at hz HE
  simp only [Nat.zero_add] at hz HE
  have z0 := hz.cell 0 (.int .i64 u.op) rfl
  have z1 := hz.cell 1 (.int .i64 u.n) rfl
  have z2 := hz.cell 2 (.string u.s) rfl
  have z3 := hz.cell 3 (.slice yka ykn ykc) rfl
  have z4 := hz.cell 4 (.slice yna ynn ync) rfl
  have z5 := hz.cell 5 (.slice yla yln ylc) rfl
  clear hz hy hzr HRR HBX HBL HZ HB
  go_wp2
  refine bodyPost_ret (v := .tuple #[.agg #[.int .i64 u.op, .int .i64 u.n, .string u.s, .slice yka ykn ykc, .slice yna ynn ync, .slice yla yln ylc], .int .i64 c]) (by simp [results, Tryz.results15, go_sem, z0, z1, z2, z3, z4, z5]) rfl ?_
  exact HE.out
end Go.Proofs.YtpkgiemdnfbopaaGreat
namespace Go.Proofs.YtpkgiemdnfbopaaGreat
open Go Go.RowKit
open Pl (K Con)
set_option linter.unusedSimpArgs false
set_option linter.unusedVariables false

/-- an answer that is a constructor, in the blocks of P and in new ones -/
def RcP (P : Nat → Prop) (x : Con) (w : World) (e : Ending) (w' : World) : Prop := (∃ y, e = .returned y ∧ ConV w' (Ext P w w') x y) ∧ Below w.heap.size w w'
/-- a row of its own that holds these constructors -/
structure CB (P : Nat → Prop) (B : Nat) (wr : World) (l : List Con) (us : List Value) (sv : Value) : Prop where
  row : wr.ownsRow B 28 6 sv l.length us
  kids : ConRow wr (fun q => (P q ∨ (B ≤ q ∧ q < wr.heap.size)) ∧ sv.ownBlock ≠ some q) us l
theorem CB.nil (P : Nat → Prop) (B : Nat) (wr : World) : CB P B wr [] [] (.slice none 0 0) := ⟨World.ownsRow_nil _ _ _ _, ConRow.nil _ _⟩
theorem CB.below {P : Nat → Prop} {B : Nat} {wr W : World} {l : List Con} {us : List Value} {sv : Value} (h : CB P B wr l us sv) (hP : ∀ b, P b → b < wr.heap.size) (hb : Below wr.heap.size wr W) : CB P B W l us sv :=
  ⟨ownsRow6_below h.row hb, (h.kids.keep (Same.of_below hb (fun q hq => by rcases hq.1 with h1 | h1; exact hP q h1; exact h1.2))).mono (fun q hq => ⟨by rcases hq.1 with h1 | h1; exact .inl h1; exact .inr ⟨h1.1, Nat.lt_of_lt_of_le h1.2 hb.size⟩, hq.2⟩)⟩
theorem CB.cons {P S : Nat → Prop} {B : Nat} {wr : World} {l : List Con} {us : List Value} {sv : Value} (h : CB P B wr l us sv) (hP : ∀ b, P b → S b) (hS : ∀ b, B ≤ b → b < wr.heap.size → S b) : ConSl wr S sv l :=
  ConRow.cons h.row h.kids (fun q hq => by rcases hq.1 with h1 | h1; exact hP q h1; exact hS q h1.1 h1.2) hS
theorem CB.push {P Q : Nat → Prop} {B gg cap n : Nat} {wr w1 : World} {l : List Con} {us : List Value} {sv x0 x1 x2 x3 x4 x5 : Value} {y : Con} (h : CB P B wr l us sv) (hn : n = l.length) (hP : ∀ b, P b → b < wr.heap.size)
    (hy : ConV wr Q y (.agg #[x0, x1, x2, x3, x4, x5])) (hQ : ∀ q, Q q → (P q ∨ (B ≤ q ∧ q < wr.heap.size)) ∧ sv.ownBlock ≠ some q)
    (hown : w1.ownsRow B 28 6 (.slice (some ⟨gg, 0, none⟩) (n + 1) cap) (n + 1) (us ++ [x0, x1, x2, x3, x4, x5])) (hgrow : (wr.alloc (.cells #[x0, x1, x2, x3, x4, x5] 28)).grownBy w1 sv.ownBlock) (hat : sv.ownBlock = some gg ∨ gg = wr.heap.size + 1) :
    CB P B w1 (l ++ [y]) (us ++ [x0, x1, x2, x3, x4, x5]) (.slice (some ⟨gg, 0, none⟩) (n + 1) cap) := by
  subst hn
  have hlt : ∀ q, (P q ∨ (B ≤ q ∧ q < wr.heap.size)) → q < wr.heap.size := fun q hq => by rcases hq with h1 | h1; exact hP q h1; exact h1.2
  have hgB : ∀ q, (P q ∨ (B ≤ q ∧ q < wr.heap.size)) ∧ sv.ownBlock ≠ some q → q ≠ gg := by
    rintro q ⟨h1, h2⟩ rfl
    rcases hat with h5 | h5
    · exact h2 h5
    · have := hlt _ h1; omega
  have hs1 : wr.heap.size ≤ w1.heap.size := by have h1 := hgrow.size; rw [size_alloc] at h1; omega
  have hS : Same (fun q => (P q ∨ (B ≤ q ∧ q < wr.heap.size)) ∧ sv.ownBlock ≠ some q) wr w1 := fun q hq =>
    (hgrow.block q (by rw [size_alloc]; have := hlt q hq.1; omega) (fun e => hq.2 e.symm)).trans (Below.heap_alloc wr _ q (hlt q hq.1))
  refine ⟨by rw [List.length_append]; exact hown, ((h.kids.keep hS).push ((hy.mono hQ).keep hS)).mono (fun q hq => ⟨?_, fun e => ?_⟩)⟩
  · rcases hq.1 with h1 | h1
    · exact .inl h1
    · exact .inr ⟨h1.1, by omega⟩
  · have e : (some gg : Option Nat) = some q := e
    injection e with e
    exact hgB q hq e.symm
theorem CB.low {P : Nat → Prop} {B : Nat} {wr : World} {l : List Con} {us : List Value} {sv : Value} (h : CB P B wr l us sv) : ∀ q, sv.ownBlock = some q → B ≤ q ∧ q < wr.heap.size := h.row.lt
theorem cell_eq9 {w w' : World} {g o : Nat} (h : w'.heap[g]? = w.heap[g]?) : w'.cell? ⟨g, o, none⟩ = w.cell? ⟨g, o, none⟩ := by
  simp only [World.cell?]
  rw [h]
theorem row_form6 {w : World} {B z n : Nat} {T : TypeId} {v : Value} {us : List Value} (h : w.ownsRow B T z v n us) : ∃ a c, v = .slice a n c := by
  rcases h.2 with ⟨rfl, rfl⟩ | ⟨q, cap, cur, e, -⟩
  · exact ⟨_, _, rfl⟩
  · exact ⟨_, _, e⟩
theorem con_list {w : World} {P : Nat → Prop} {u : Con} {ka na la : Option Addr} {kn kc nn nc ln lc : Nat} {x0 x1 x2 : Value} (h : ConV w P u (.agg #[x0, x1, x2, .slice ka kn kc, .slice na nn nc, .slice la ln lc])) : ConSl w P (.slice la ln lc) u.l := by
  obtain ⟨-, kv', nv', lv', e, hk, hn, hl⟩ := (conV_iff _ _ _ _).1 h
  simp only [Value.agg.injEq, Array.mk.injEq, List.cons.injEq, and_true, true_and] at e
  obtain ⟨-, -, -, rfl, rfl, rfl⟩ := e
  exact hl
/-- the blocks but for a row's, as they were -/
theorem grown_block {w W : World} {g : Nat} {row : Option Nat} {T : TypeId} {cs : Array Value} (h : Blk w g T cs) (hg : w.grownBy W row) (hn : row ≠ some g) : Blk W g T cs := h.of_eq (hg.block g h.lt (fun e => hn e.symm))
end Go.Proofs.YtpkgiemdnfbopaaGreat
namespace Go.Proofs.YtpkgiemdnfbopaaGreat
open Go Go.RowKit
open Pl (K Con)
set_option linter.unusedSimpArgs false

/-- a number put into an ascending list -/
def addGo (n : Int) : List Int → Bool → List Int
  | [], done => if done = true then [] else [n]
  | x :: r, done => (if done = false ∧ n ≤ x then [n] else []) ++ ((if x ≠ n then [x] else []) ++ addGo n r (done || decide (n ≤ x)))
def addL (l : List Int) (n : Int) : List Int := addGo n l false
theorem addGo_mem (n y : Int) : ∀ (l : List Int) (done : Bool), y ∈ addGo n l done ↔ (done = false ∧ y = n) ∨ (y ∈ l ∧ y ≠ n) := by
  intro l
  induction l with
  | nil => intro done; rw [addGo]; cases done <;> simp
  | cons x r ih =>
    intro done
    rw [addGo, List.mem_append, List.mem_append, ih]
    have e1 : (y ∈ (if done = false ∧ n ≤ x then [n] else [])) ↔ (done = false ∧ n ≤ x) ∧ y = n := by
      split
      · rename_i h; simp [h]
      · rename_i h; simp [h]
    have e2 : (y ∈ (if x ≠ n then [x] else [])) ↔ x ≠ n ∧ y = x := by
      split
      · rename_i h; simp [h]
      · rename_i h; simp [h]
    rw [e1, e2, List.mem_cons, Bool.or_eq_false_iff, decide_eq_false_iff_not]
    constructor
    · rintro (⟨⟨h1, -⟩, h2⟩ | ⟨h1, h2⟩ | ⟨⟨h1, -⟩, h2⟩ | ⟨h1, h2⟩)
      · exact .inl ⟨h1, h2⟩
      · exact .inr ⟨.inl h2, by rw [h2]; exact h1⟩
      · exact .inl ⟨h1, h2⟩
      · exact .inr ⟨.inr h1, h2⟩
    · rintro (⟨h1, h2⟩ | ⟨h1 | h1, h2⟩)
      · by_cases h3 : n ≤ x
        · exact .inl ⟨⟨h1, h3⟩, h2⟩
        · exact .inr (.inr (.inl ⟨⟨h1, h3⟩, h2⟩))
      · exact .inr (.inl ⟨by rw [← h1]; exact h2, h1⟩)
      · exact .inr (.inr (.inr ⟨h1, h2⟩))
theorem addGo_asc (n : Int) : ∀ (l : List Int) (done : Bool), l.Pairwise (· < ·) → (addGo n l done).Pairwise (· < ·) := by
  intro l
  induction l with
  | nil => intro done _; rw [addGo]; cases done <;> simp
  | cons x r ih =>
    intro done h
    rw [List.pairwise_cons] at h
    rw [addGo]
    have hr := ih (done || decide (n ≤ x)) h.2
    have hx : ∀ y ∈ addGo n r (done || decide (n ≤ x)), (¬ n ≤ x ∧ y = n) ∨ (x < y ∧ y ≠ n) := by
      intro y hy
      rcases (addGo_mem n y r _).1 hy with ⟨h1, h2⟩ | ⟨h1, h2⟩
      · rw [Bool.or_eq_false_iff, decide_eq_false_iff_not] at h1
        exact .inl ⟨h1.2, h2⟩
      · exact .inr ⟨h.1 y h1, h2⟩
    have h2 : ((if x ≠ n then [x] else []) ++ addGo n r (done || decide (n ≤ x))).Pairwise (· < ·) := by
      by_cases hn : x = n
      · rw [if_neg (fun e => e hn), List.nil_append]; exact hr
      · rw [if_pos hn, List.singleton_append, List.pairwise_cons]
        refine ⟨fun y hy => ?_, hr⟩
        rcases hx y hy with ⟨h3, h4⟩ | ⟨h3, -⟩
        · omega
        · exact h3
    by_cases hd : done = false ∧ n ≤ x
    · rw [if_pos hd, List.singleton_append, List.pairwise_cons]
      refine ⟨fun y hy => ?_, h2⟩
      rcases List.mem_append.1 hy with hy | hy
      · by_cases hn : x = n
        · rw [if_neg (fun e => e hn)] at hy; cases hy
        · rw [if_pos hn, List.mem_singleton] at hy
          have := hd.2
          omega
      · rcases hx y hy with ⟨h3, -⟩ | ⟨h3, -⟩
        · exact absurd hd.2 h3
        · have := hd.2
          omega
    · rw [if_neg hd, List.nil_append]; exact h2
theorem foldl_add : ∀ (xs l : List Int), l.Pairwise (· < ·) → (xs.foldl addL l).Pairwise (· < ·) ∧ ∀ y, y ∈ xs.foldl addL l ↔ y ∈ l ∨ y ∈ xs := by
  intro xs
  induction xs with
  | nil => intro l h; exact ⟨h, fun y => by simp⟩
  | cons x r ih =>
    intro l h
    obtain ⟨h1, h2⟩ := ih (addL l x) (addGo_asc x l false h)
    refine ⟨h1, fun y => ?_⟩
    rw [List.foldl_cons, h2 y, List.mem_cons]
    have := addGo_mem x y l false
    unfold addL
    rw [this]
    by_cases hy : y = x
    · simp [hy]
    · simp [hy]
theorem asc_ext : ∀ (l m : List Int), l.Pairwise (· < ·) → m.Pairwise (· < ·) → (∀ y, y ∈ l ↔ y ∈ m) → l = m := by
  intro l
  induction l with
  | nil =>
    intro m _ _ h
    cases m with
    | nil => rfl
    | cons x r => exact absurd ((h x).2 (by simp)) (by simp)
  | cons a l ih =>
    intro m hl hm h
    cases m with
    | nil => exact absurd ((h a).1 (by simp)) (by simp)
    | cons b m =>
      rw [List.pairwise_cons] at hl hm
      have hab : a = b := by
        rcases List.mem_cons.1 ((h a).1 (by simp)) with h1 | h1
        · exact h1
        · rcases List.mem_cons.1 ((h b).2 (by simp)) with h2 | h2
          · exact h2.symm
          · have := hl.1 b h2
            have := hm.1 a h1
            omega
      subst hab
      rw [ih m hl.2 hm.2 (fun y => ?_)]
      constructor
      · intro hy
        rcases List.mem_cons.1 ((h y).1 (List.mem_cons_of_mem _ hy)) with h1 | h1
        · have := hl.1 y hy; omega
        · exact h1
      · intro hy
        rcases List.mem_cons.1 ((h y).2 (List.mem_cons_of_mem _ hy)) with h1 | h1
        · have := hm.1 y hy; omega
        · exact h1
theorem shift_big (m : Int) (t : Con) : ∀ f, Con.allB t = true → 20001 ≤ f → Con.shift m t f = t := by
  induction t using Con.ind with
  | h t ih =>
  intro f h hf
  rw [allB_eq, Bool.and_eq_true, List.all_eq_true] at h
  by_cases h1 : t.op = 1
  · rw [Con.shift_var _ _ t h1, if_neg]
    have := (nodeB_n t h.1).2
    omega
  · rw [Con.shift_node _ _ t h1]
    have : t.l.map (fun x => Con.shift m x (Con.deep t.op f)) = t.l := by
      conv => rhs; rw [← List.map_id t.l]
      exact List.map_congr_left (fun x hx => ih x hx _ (h.2 x hx) (by have := (Con.deep_le t.op f).1; omega))
    rw [this, Con.inside_self]
theorem shift_min (m : Int) (t : Con) (f : Int) (h : Con.allB t = true) : Con.shift m t (min f 20001) = Con.shift m t f := by
  by_cases hf : f ≤ 20001
  · rw [show min f 20001 = f from by omega]
  · rw [show min f 20001 = 20001 from by omega, shift_big m t 20001 h (by omega), shift_big m t f h (by omega)]
theorem shift_min_part (m : Int) (t x : Con) (f : Int) (h : Con.allB x = true) : Con.shift m x (Con.deep t.op (min f 20001)) = Con.shift m x (Con.deep t.op f) := by
  by_cases hf : f ≤ 20001
  · rw [show min f 20001 = f from by omega]
  · rw [shift_big m x _ h (by have := (Con.deep_le t.op (min f 20001)).1; omega), shift_big m x _ h (by have := (Con.deep_le t.op f).1; omega)]
end Go.Proofs.YtpkgiemdnfbopaaGreat
namespace Go.Proofs.YtpkgiemdnfbopaaGreat
open Go Go.RowKit
open Pl (K Con)
set_option linter.unusedSimpArgs false
set_option linter.unusedVariables false

theorem conV_lf (op n : Int) (w : World) (P : Nat → Prop) : ConV w P ⟨op, n, ByteArray.empty, .mk [], [], []⟩ (.agg #[.int .i64 op, .int .i64 n, .string ⟨#[]⟩, .slice none 0 0, .slice none 0 0, .slice none 0 0]) := by
  rw [conV_iff]
  exact ⟨Nat.zero_le _, _, _, _, rfl, kidV_none _ _, ⟨none, 0, rfl, Nat.le_refl _, Nat.zero_le _, fun _ => rfl, (fun z hz => by cases hz), .inl rfl⟩, ⟨none, 0, rfl, Nat.le_refl _, Nat.zero_le _, fun _ => rfl, .inl rfl⟩⟩
theorem allB_part {t : Con} (h : Con.allB t = true) {i : Nat} (hi : i < t.l.length) : Con.allB t.l[i] = true := by
  rw [allB_eq, Bool.and_eq_true, List.all_eq_true] at h
  exact h.2 _ (List.getElem_mem hi)
theorem ext_up {P : Nat → Prop} {w w1 w2 : World} (h : w.heap.size ≤ w1.heap.size) : ∀ q, Ext P w1 w2 q → Ext P w w2 q := fun q hq => by
  rcases hq with hq | hq
  · exact .inl hq
  · exact .inr ⟨Nat.le_trans h hq.1, hq.2⟩
set_option maxRecDepth 100000 in
set_option maxHeartbeats 4000000 in
theorem rshift_any (P : Nat → Prop) (t : Con) (b : Int) (hb0 : -1000000 ≤ b) (hb1 : b ≤ 1000000) : Con.allB t = true → ∀ (f : Int) (w : World) (v : Value), (∀ q, P q → q < w.heap.size) → ConV w P t v → 0 ≤ f → f ≤ 9223372036854775807 →
    Calls Tryz.prog 163 #[v, .int .i64 b, .int .i64 f] w (RcP P (Con.shift b t f) w) := by
  induction t using Con.ind with
  | h t ih =>
  intro hall f w v hP ht hf0 hf1
  have hnode : Con.nodeB t = true := by rw [allB_eq, Bool.and_eq_true] at hall; exact hall.1
  have hnn := nodeB_n t hnode
  obtain ⟨f2, hf2⟩ : ∃ f2, f2 = min f 20001 := ⟨_, rfl⟩
  have hf20 : 0 ≤ f2 ∧ f2 ≤ 20001 := by omega
  have HSM := Lib.hid (show Con.shift b t f2 = Con.shift b t f from by rw [hf2]; exact shift_min b t f hall)
  have HSP := Lib.hid (fun (i : Nat) (hi : i < t.l.length) => (show Con.shift b t.l[i] (Con.deep t.op f2) = Con.shift b t.l[i] (Con.deep t.op f) from by rw [hf2]; exact shift_min_part b t t.l[i] f (allB_part hall hi)))
  have HIH := Lib.hid (fun (i : Nat) (hi : i < t.l.length) (g : Int) (W : World) (x : Value) (h1 : ∀ q, P q → q < W.heap.size) (h2 : ConV W P t.l[i] x) (h3 : 0 ≤ g) (h4 : g ≤ 9223372036854775807) => ih t.l[i] (List.getElem_mem hi) (allB_part hall hi) g W x h1 h2 h3 h4)
  have HCV := Lib.hid (fun W (hW : Same P w W) => ht.keep hW)
  have HP := Lib.hid hP
  obtain ⟨ka, kn, kc, na, nn, nc, la, ln, lc, rfl, -, -, hln⟩ := ht.shape
  have HLN := Lib.hid hln
  obtain ⟨op, hop⟩ : ∃ op, op = t.op := ⟨_, rfl⟩
  obtain ⟨num, hnum⟩ : ∃ num, num = t.n := ⟨_, rfl⟩
  obtain ⟨s, hs⟩ : ∃ s, s = t.s := ⟨_, rfl⟩
  have HOP := Lib.hid hop
  have HSV := Lib.hid (show op = 1 → Con.shift b t f2 = if f2 ≤ num then Con.var (num + b) else t from fun h => by rw [Con.shift_var _ _ t (by rw [← hop]; exact h), hnum])
  have HSN := Lib.hid (show op ≠ 1 → Con.shift b t f2 = Con.inside t (t.l.map (fun x => Con.shift b x (Con.deep t.op f2))) from fun h => Con.shift_node b f2 t (by rw [← hop]; exact h))
  rw [← hop, ← hnum, ← hs] at HCV ⊢
  rw [← hnum] at hnn
  have HF2 := Lib.hid hf2
  have hllen := (node_facts t hnode).2.2
  clear hf2 hop hnum hs hln ih hnode hall
  have hbx := boxN_new w 28 #[.int .i64 op, .int .i64 num, .string s, .slice ka kn kc, .slice na nn nc, .slice la ln lc]
  have hr0 := boxN_new (w.alloc (.cells #[.int .i64 op, .int .i64 num, .string s, .slice ka kn kc, .slice na nn nc, .slice la ln lc] 28)) 28 #[.int .i64 0, .int .i64 0, .string ⟨#[]⟩, .slice none 0 0, .slice none 0 0, .slice none 0 0]
  have hr1 := hr0.1
  rw [size_alloc] at hr1
  have HBX := Lib.hid (hbx.1.alloc (.cells #[.int .i64 0, .int .i64 0, .string ⟨#[]⟩, .slice none 0 0, .slice none 0 0, .slice none 0 0] 28))
  have HRX := Lib.hid hr1
  have HB := Lib.hid (belowStep hr0.2 hbx.2)
  have hmin : ∀ W : World, True := fun _ => trivial
  clear hbx hr0 hr1 ht hP hmin
  by_cases h1 : op = 1
  · have q1 : (op == 1) = true := by rw [h1]; rfl
    have HV := Lib.hid (HSV.out h1)
    clear HSV HSN HSP HIH h1
    by_cases h2 : f2 ≤ num
    · have q2 : decide (f2 ≤ num) = true := decide_eq_true h2
      have HV2 := Lib.hid (show Con.shift b t f = ⟨1, num + b, ByteArray.empty, .mk [], [], []⟩ from by rw [← HSM.out, HV.out, if_pos h2]; rfl)
      have hr := boxN_new (w.alloc (.cells #[.int .i64 op, .int .i64 num, .string s, .slice ka kn kc, .slice na nn nc, .slice la ln lc] 28)) 28 #[.int .i64 1, .int .i64 (num + b), .string ⟨#[]⟩, .slice none 0 0, .slice none 0 0, .slice none 0 0]
      have hr1 := hr.1
      rw [size_alloc] at hr1
      have d0 := hr1.cell 0 (.int .i64 1) rfl
      have d1 := hr1.cell 1 (.int .i64 (num + b)) rfl
      have d2 := hr1.cell 2 (.string ⟨#[]⟩) rfl
      have d3 := hr1.cell 3 (.slice none 0 0) rfl
      have d4 := hr1.cell 4 (.slice none 0 0) rfl
      have d5 := hr1.cell 5 (.slice none 0 0) rfl
      have HB9 := Lib.hid (belowStep hr.2 (boxN_new w 28 #[.int .i64 op, .int .i64 num, .string s, .slice ka kn kc, .slice na nn nc, .slice la ln lc]).2)
      clear hr hr1 HV HSM
      have c0 := HBX.out.cell 0 (.int .i64 op) rfl
      have c1 := HBX.out.cell 1 (.int .i64 num) rfl
      have c2 := HBX.out.cell 2 (.string s) rfl
      have c3 := HBX.out.cell 3 (.slice ka kn kc) rfl
      have c4 := HBX.out.cell 4 (.slice na nn nc) rfl
      have c5 := HBX.out.cell 5 (.slice la ln lc) rfl
      go_enter Tryz.func163, Tryz.ntmps163
      go_upto_region 2 with fail
      rw [← HF2.out]
      go_wp2
      refine bodyPost_ret (v := .agg #[.int .i64 1, .int .i64 (num + b), .string ⟨#[]⟩, .slice none 0 0, .slice none 0 0, .slice none 0 0]) (by simp [results, Tryz.results163, go_sem, d0, d1, d2, d3, d4, d5]) rfl ?_
      rw [HV2.out]
      exact ⟨⟨_, rfl, conV_lf 1 (num + b) _ _⟩, HB9.out⟩
    · have q2 : decide (f2 ≤ num) = false := decide_eq_false h2
      have HV2 := Lib.hid (show Con.shift b t f = t from by rw [← HSM.out, HV.out, if_neg h2])
      have hr := boxN_new (w.alloc (.cells #[.int .i64 op, .int .i64 num, .string s, .slice ka kn kc, .slice na nn nc, .slice la ln lc] 28)) 28 #[.int .i64 op, .int .i64 num, .string s, .slice ka kn kc, .slice na nn nc, .slice la ln lc]
      have hr1 := hr.1
      rw [size_alloc] at hr1
      have d0 := hr1.cell 0 (.int .i64 op) rfl
      have d1 := hr1.cell 1 (.int .i64 num) rfl
      have d2 := hr1.cell 2 (.string s) rfl
      have d3 := hr1.cell 3 (.slice ka kn kc) rfl
      have d4 := hr1.cell 4 (.slice na nn nc) rfl
      have d5 := hr1.cell 5 (.slice la ln lc) rfl
      have HB9 := Lib.hid (belowStep hr.2 (boxN_new w 28 #[.int .i64 op, .int .i64 num, .string s, .slice ka kn kc, .slice na nn nc, .slice la ln lc]).2)
      clear hr hr1 HV HSM
      have c0 := HBX.out.cell 0 (.int .i64 op) rfl
      have c1 := HBX.out.cell 1 (.int .i64 num) rfl
      have c2 := HBX.out.cell 2 (.string s) rfl
      have c3 := HBX.out.cell 3 (.slice ka kn kc) rfl
      have c4 := HBX.out.cell 4 (.slice na nn nc) rfl
      have c5 := HBX.out.cell 5 (.slice la ln lc) rfl
      go_enter Tryz.func163, Tryz.ntmps163
      go_upto_region 2 with fail
      rw [← HF2.out]
      go_wp2
      refine bodyPost_ret (v := .agg #[.int .i64 op, .int .i64 num, .string s, .slice ka kn kc, .slice na nn nc, .slice la ln lc]) (by simp [results, Tryz.results163, go_sem, d0, d1, d2, d3, d4, d5]) rfl ?_
      rw [HV2.out]
      exact ⟨⟨_, rfl, (HCV.out _ (fun q hq => HB9.out.block q (HP.out q hq))).mono (fun q hq => .inl hq)⟩, HB9.out⟩
  have q1 : (op == 1) = false := by simpa using h1
  have HV := Lib.hid (HSN.out h1)
  clear HSV HSN
  have c0 := HBX.out.cell 0 (.int .i64 op) rfl
  have c1 := HBX.out.cell 1 (.int .i64 num) rfl
  have c2 := HBX.out.cell 2 (.string s) rfl
  have c3 := HBX.out.cell 3 (.slice ka kn kc) rfl
  have c4 := HBX.out.cell 4 (.slice na nn nc) rfl
  have c5 := HBX.out.cell 5 (.slice la ln lc) rfl
  go_enter Tryz.func163, Tryz.ntmps163
  go_upto_region 2 with fail
  rw [← HF2.out]
  generalize hw1 : (w.alloc (.cells #[.int .i64 op, .int .i64 num, .string s, .slice ka kn kc, .slice na nn nc, .slice la ln lc] 28)).alloc (.cells #[.int .i64 0, .int .i64 0, .string ⟨#[]⟩, .slice none 0 0, .slice none 0 0, .slice none 0 0] 28) = w1 at *
  have HSZ := Lib.hid (show w1.heap.size = w.heap.size + 2 from by rw [← hw1, size_alloc, size_alloc])
  clear hw1
  go_upto_region 8 with fail
  clear c0 c1 c2 c3 c4 c5 q1
  obtain ⟨dp, hdp⟩ : ∃ dp, dp = Con.deep t.op f2 := ⟨_, rfl⟩
  have hdp2 : 0 ≤ dp ∧ dp ≤ 20002 := by have := Con.deep_le t.op f2; omega
  have HDP := Lib.hid (fun W (hW : Same P w W) => (rdeep_any P t f2 W (.agg #[.int .i64 op, .int .i64 num, .string s, .slice ka kn kc, .slice na nn nc, .slice la ln lc]) (HCV.out W hW) (by omega) (by omega)))
  rw [← hdp] at HDP
  rw [← hdp] at HSP
  rw [← hdp] at HV
  clear hdp
  obtain ⟨F, hF⟩ : ∃ F : Con → Con, F = fun x => Con.shift b x dp := ⟨_, rfl⟩
  have HV2 := Lib.hid (show Con.shift b t f = Con.inside t (t.l.map F) from by rw [← HSM.out, HV.out, hF])
  replace HIH := Lib.hid (fun (i : Nat) (hi : i < t.l.length) (W : World) (x : Value) (h1 : ∀ q, P q → q < W.heap.size) (h2 : ConV W P t.l[i] x) => (show Calls Tryz.prog 163 #[x, .int .i64 b, .int .i64 dp] W (RcP P (F t.l[i]) W) from by rw [hF]; exact HIH.out i hi dp W x h1 h2 hdp2.1 (by omega)))
  clear HV HSP HSM hF
  obtain ⟨iC, ci0, ci1, ci2, ci3⟩ := info_parts infoCon
  go_loopg [7, 8] (ln + 1) (fun gk sl i wr => ∃ (k : Nat) (us : List Value), k ≤ ln ∧ i = .int .i64 k ∧ gk = ln + 1 - k ∧ CB P w1.heap.size wr ((t.l.take k).map F) us sl ∧ Below w1.heap.size w1 wr)
  case atStart => exact ⟨0, [], Nat.zero_le _, rfl, by omega, by rw [List.take_zero]; exact CB.nil _ _ _, Below.refl _ _⟩
  case round =>
    obtain ⟨k, us, hk, rfl, hgk, hcb, hbw⟩ := hrel
    have HCB := Lib.hid hcb
    have HBW := Lib.hid hbw
    replace HBX := Lib.hid (HBX.out.of_eq (hbw.block _ HBX.out.lt))
    replace HRX := Lib.hid (HRX.out.of_eq (hbw.block _ HRX.out.lt))
    have HPR := Lib.hid (fun q (hq : P q) => (show q < wr.heap.size from Nat.lt_of_lt_of_le (HP.out q hq) (Nat.le_trans HB.out.size hbw.size)))
    have HSR := Lib.hid (show Same P w wr from fun q hq => (hbw.block q (by have := HP.out q hq; have := HSZ.out; omega)).trans (HB.out.block q (HP.out q hq)))
    clear hcb hbw
    by_cases hlt : k < ln
    · have hkl : k < t.l.length := by rw [← HLN.out]; exact hlt
      have q5 : decide ((k : Int) < (ln : Int)) = true := decide_eq_true (by omega)
      have q6 : decide ((k : Int) < 0) = false := decide_eq_false (by omega)
      have q7 : decide ((ln : Int) ≤ (k : Int)) = false := decide_eq_false (by omega)
      obtain ⟨eb, off, c', ya, yn, yc, za, zn, zc, pa, pn, pc, e, hpb, f0, f1, f2, f3, f4, f5, hx⟩ := (con_list (HCV.out wr HSR.out)).part k hkl
      injection e with e1 e2 e3
      subst e1 e3
      clear e2
      have HSF := Lib.hid (fun W (hW : Below wr.heap.size wr W) => HIH.out k hkl W _ (fun q hq => Nat.lt_of_lt_of_le (HPR.out q hq) hW.size) (hx.keep (Same.of_below hW HPR.out)))
      have HTK := Lib.hid (show (t.l.take (k + 1)).map F = (t.l.take k).map F ++ [F t.l[k]] from by rw [List.take_succ_eq_append_getElem hkl, List.map_append]; rfl)
      obtain ⟨u, hu⟩ : ∃ u, u = t.l[k] := ⟨_, rfl⟩
      rw [← hu] at HSF HTK f0 f1 f2
      clear hx hu
      obtain ⟨op2, hop2⟩ : ∃ op2, op2 = u.op := ⟨_, rfl⟩
      obtain ⟨num2, hnum2⟩ : ∃ num2, num2 = u.n := ⟨_, rfl⟩
      obtain ⟨s2, hs2⟩ : ∃ s2, s2 = u.s := ⟨_, rfl⟩
      rw [← hop2] at f0 HSF
      rw [← hnum2] at f1 HSF
      rw [← hs2] at f2 HSF
      clear hop2 hnum2 hs2
      have hLk : k = ((t.l.take k).map F).length := by rw [List.length_map, List.length_take]; omega
      obtain ⟨L, hL⟩ : ∃ L, L = (t.l.take k).map F := ⟨_, rfl⟩
      rw [← hL] at HTK HCB hLk
      have HLK := Lib.hid hLk
      clear hLk hL
      obtain ⟨sa, sc, hsv⟩ := row_form6 HCB.out.row
      subst hsv
      rw [← HLK.out] at HCB ⊢
      have HEL := Lib.hid (show ∀ W : World, (∀ q, P q → W.heap[q]? = wr.heap[q]?) → W.cell? ⟨eb, off + k * 6, none⟩ = some (.int .i64 op2) ∧ W.cell? ⟨eb, off + k * 6 + 1, none⟩ = some (.int .i64 num2) ∧ W.cell? ⟨eb, off + k * 6 + 2, none⟩ = some (.string s2) ∧ W.cell? ⟨eb, off + k * 6 + 3, none⟩ = some (.slice ya yn yc) ∧ W.cell? ⟨eb, off + k * 6 + 4, none⟩ = some (.slice za zn zc) ∧ W.cell? ⟨eb, off + k * 6 + 5, none⟩ = some (.slice pa pn pc) from fun W hW => by
        have e := hW eb hpb
        exact ⟨(cell_eq9 e).trans f0, (cell_eq9 e).trans f1, (cell_eq9 e).trans f2, (cell_eq9 e).trans f3, (cell_eq9 e).trans f4, (cell_eq9 e).trans f5⟩)
      have HLOW := Lib.hid HCB.out.low
      have HSS := Lib.hid (show ∀ W : World, Blk W w.heap.size 28 #[.int .i64 op, .int .i64 num, .string s, .slice ka kn kc, .slice na nn nc, .slice (some ⟨eb, off, none⟩) ln lc] → (∀ q, P q → W.heap[q]? = wr.heap[q]?) → (fun W : World => W.cell? ⟨w.heap.size, 0, none⟩ = some (.int .i64 op) ∧ W.cell? ⟨w.heap.size, 1, none⟩ = some (.int .i64 num) ∧ W.cell? ⟨w.heap.size, 2, none⟩ = some (.string s) ∧ W.cell? ⟨w.heap.size, 3, none⟩ = some (.slice ka kn kc) ∧ W.cell? ⟨w.heap.size, 4, none⟩ = some (.slice na nn nc) ∧ W.cell? ⟨w.heap.size, 5, none⟩ = some (.slice (some ⟨eb, off, none⟩) ln lc) ∧ W.cell? ⟨eb, off + k * 6, none⟩ = some (.int .i64 op2) ∧ W.cell? ⟨eb, off + k * 6 + 1, none⟩ = some (.int .i64 num2) ∧ W.cell? ⟨eb, off + k * 6 + 2, none⟩ = some (.string s2) ∧ W.cell? ⟨eb, off + k * 6 + 3, none⟩ = some (.slice ya yn yc) ∧ W.cell? ⟨eb, off + k * 6 + 4, none⟩ = some (.slice za zn zc) ∧ W.cell? ⟨eb, off + k * 6 + 5, none⟩ = some (.slice pa pn pc)) W from fun W h1 h2 => ⟨h1.cell 0 _ rfl, h1.cell 1 _ rfl, h1.cell 2 _ rfl, h1.cell 3 _ rfl, h1.cell 4 _ rfl, h1.cell 5 _ rfl, HEL.out W h2⟩)
      have HKP := Lib.hid (fun W (hW : Below wr.heap.size wr W) => HSS.out W (HBX.out.of_eq (hW.block _ HBX.out.lt)) (fun q hq => hW.block q (HPR.out q hq)))
      have HKG := Lib.hid (fun ws x0 x1 x2 x3 x4 x5 w8 (hW : Below wr.heap.size wr ws) (hg : (ws.alloc (.cells #[x0, x1, x2, x3, x4, x5] 28)).grownBy w8 (Value.slice sa k sc).ownBlock) => HSS.out w8
        (grown_block ((HBX.out.of_eq (hW.block _ HBX.out.lt)).alloc _) hg (fun e => by have := (HLOW.out _ e).1; have := HSZ.out; omega))
        (fun q hq => ((hg.block q (by rw [size_alloc]; have := HPR.out q hq; have := hW.size; omega) (fun e => by have := (HLOW.out _ e.symm).1; have := HP.out q hq; have := HSZ.out; omega)).trans (Below.heap_alloc ws _ q (Nat.lt_of_lt_of_le (HPR.out q hq) hW.size))).trans (hW.block q (HPR.out q hq))))
      simp only at HKP HKG
      have HALC := Lib.hid (fun W o (hW : Below wr.heap.size wr W) => (hW.alloc hW.size o))
      have HD0 := Lib.hid (Below.refl wr.heap.size wr).drew
      have HDQ := Lib.hid (fun W (hW : Below wr.heap.size wr W) => HDP.out W (fun q hq => (hW.block q (HPR.out q hq)).trans (HSR.out q hq)))
      have HS7 := Lib.hid (fun ws x0 x1 x2 x3 x4 x5 (hW : Below wr.heap.size wr ws) => (show (ws.alloc (.cells #[x0, x1, x2, x3, x4, x5] 28)).ownsRow w1.heap.size 28 6 (.slice sa k sc) k us ∧ (∀ j u, [x0, x1, x2, x3, x4, x5][j]? = some u → (ws.alloc (.cells #[x0, x1, x2, x3, x4, x5] 28)).cell? ((⟨ws.heap.size, 0, none⟩ : Addr).add j) = some u) ∧ (ws.alloc (.cells #[x0, x1, x2, x3, x4, x5] 28)).heap.size = ws.heap.size + 1 from by
        have h := (HCB.out.below HPR.out hW).row
        rw [← HLK.out] at h
        exact ⟨h.alloc _, World.news_of_block (cs := #[x0, x1, x2, x3, x4, x5]) (t := 28) (fr := (0, 0)) (boxN_new ws 28 #[x0, x1, x2, x3, x4, x5]).1, size_alloc _ _⟩))
      have hwb : w1.heap.size ≤ wr.heap.size := HBW.out.size
      clear f0 f1 f2 f3 f4 f5 hpb HEL HSS
      have c0 := HBX.out.cell 0 (.int .i64 op) rfl
      have c1 := HBX.out.cell 1 (.int .i64 num) rfl
      have c2 := HBX.out.cell 2 (.string s) rfl
      have c3 := HBX.out.cell 3 (.slice ka kn kc) rfl
      have c4 := HBX.out.cell 4 (.slice na nn nc) rfl
      have c5 := HBX.out.cell 5 (.slice (some ⟨eb, off, none⟩) ln lc) rfl
      go_wp2_with fail
      clear c0 c1 c2 c3 c4 c5
      go_region_held3 (fun W => W.cell? ⟨w.heap.size, 0, none⟩ = some (.int .i64 op) ∧ W.cell? ⟨w.heap.size, 1, none⟩ = some (.int .i64 num) ∧ W.cell? ⟨w.heap.size, 2, none⟩ = some (.string s) ∧ W.cell? ⟨w.heap.size, 3, none⟩ = some (.slice ka kn kc) ∧ W.cell? ⟨w.heap.size, 4, none⟩ = some (.slice na nn nc) ∧ W.cell? ⟨w.heap.size, 5, none⟩ = some (.slice (some ⟨eb, off, none⟩) ln lc) ∧ W.cell? ⟨eb, off + k * 6, none⟩ = some (.int .i64 op2) ∧ W.cell? ⟨eb, off + k * 6 + 1, none⟩ = some (.int .i64 num2) ∧ W.cell? ⟨eb, off + k * 6 + 2, none⟩ = some (.string s2) ∧ W.cell? ⟨eb, off + k * 6 + 3, none⟩ = some (.slice ya yn yc) ∧ W.cell? ⟨eb, off + k * 6 + 4, none⟩ = some (.slice za zn zc) ∧ W.cell? ⟨eb, off + k * 6 + 5, none⟩ = some (.slice pa pn pc))
        (first | (with_reducible exact HKP.out _ HD0.out) | (with_reducible exact HKP.out _ (by assumption)) | (with_reducible exact HKP.out _ (HALC.out _ _ (by assumption))) | (with_reducible exact HKG.out _ _ _ _ _ _ _ _ (by assumption) (by assumption)))
        (first
        | (go_at_call 125; (with_reducible refine (HDQ.out _ (by first | exact HD0.out | assumption)).mono ?_); rintro e wd ⟨rfl, hbd⟩; have hbd2 := belowStep (a := wr) hbd (by first | exact HD0.out | assumption))
        | (go_at_call 163; (with_reducible refine (HSF.out _ (by assumption)).mono ?_); rintro e ws ⟨⟨yv, rfl, hy⟩, hbs⟩; have hbs2 := belowStep (a := wr) hbs (by assumption); obtain ⟨ua, un, uc, va, vn, vc, xa, xn, xc, hyv, -, -, -⟩ := hy.shape; subst hyv; obtain ⟨hrow7, hnew7, hsz7⟩ := HS7.out ws (.int .i64 (F u).op) (.int .i64 (F u).n) (.string (F u).s) (.slice ua un uc) (.slice va vn vc) (.slice xa xn xc) hbs2; have hws := hbs2.size)
        | (refine step_append_lies _ rfl (.tmp 31) (.tmp 42) 26 rfl w1.heap.size 28 iC (.agg #[.int .i64 0, .int .i64 0, .string ByteArray.empty, .slice none 0 0, .slice none 0 0, .slice none 0 0]) 6 104 Tryz.underlying26 ci0 ci1 ci2 ci3 rfl (by decide) (.slice sa k sc) k us (by simp [Act.eval, Act.put]) hrow7 ⟨ws.heap.size, 0, none⟩ 1 1 [.int .i64 (F u).op, .int .i64 (F u).n, .string (F u).s, .slice ua un uc, .slice va vn vc, .slice xa xn xc] (by simp [Act.eval, Act.put]) rfl hnew7 (by simp [Value.oneCell']) (by decide) (by unfold maxLen; omega) (by omega) (by rw [hsz7]; omega) (ws.heap.size + 1) hsz7 ?_; intro gg cap w8 hown hgrow hat hlt8))
      have hcb2 := HCB.out.below HPR.out hbs2
      have hlow := HLOW.out
      have hwd := hbd2.size
      have HCB2 := Lib.hid (hcb2.push HLK.out (fun q hq => Nat.lt_of_lt_of_le (HPR.out q hq) hbs2.size) hy (fun q hq => ⟨by
        rcases hq with hq | hq
        · exact .inl hq
        · exact .inr ⟨by omega, hq.2⟩, fun e => by
        have h1 := hlow q e
        rcases hq with hq | hq
        · have := HP.out q hq; have := HSZ.out; omega
        · have := hq.1; omega⟩) hown hgrow hat)
      have HBW2 := Lib.hid (((belowStep hbs2 HBW.out).alloc (by omega) (.cells #[.int .i64 (F u).op, .int .i64 (F u).n, .string (F u).s, .slice ua un uc, .slice va vn vc, .slice xa xn xc] 28)).grown hgrow (by rw [hsz7]; omega) (fun j hj => (hlow j hj).1))
      rw [← HTK.out] at HCB2
      clear hcb2 hlow hwd hy hown hgrow hat hlt8 hrow7 hnew7 hsz7 hws hbs hbs2 hbd hbd2 HKP HKG HALC HD0 HDQ HS7 HSF HTK HLOW HCB HLK
      go_wp2
      go_roundg (gk - 1)
      case measure => omega
      case rel => exact ⟨k + 1, _, by omega, by go_num, by omega, HCB2.out, HBW2.out⟩
    · have hkn : ln = k := by omega
      subst hkn
      have q5 : decide ((ln : Int) < (ln : Int)) = false := decide_eq_false (by omega)
      have hta : t.l.take ln = t.l := List.take_of_length_le (by rw [HLN.out]; exact Nat.le_refl _)
      rw [hta] at HCB
      clear hta
      obtain ⟨L, hL⟩ : ∃ L, L = t.l.map F := ⟨_, rfl⟩
      rw [← hL] at HCB HV2
      clear hL
      obtain ⟨sa, sc, hsv⟩ := row_form6 HCB.out.row
      subst hsv
      have hcl := HCB.out.cons (S := fun q => P q ∨ (w1.heap.size ≤ q ∧ q < wr.heap.size)) (fun q hq => .inl hq) (fun q h1 h2 => .inr ⟨h1, h2⟩)
      have HIN := Lib.hid (rinside_any (fun q => P q ∨ (w1.heap.size ≤ q ∧ q < wr.heap.size)) t L wr (.agg #[.int .i64 op, .int .i64 num, .string s, .slice ka kn kc, .slice na nn nc, .slice la ln lc]) (.slice sa L.length sc) (fun q hq => by
        rcases hq with hq | hq
        · exact HPR.out q hq
        · exact hq.2) ((HCV.out wr HSR.out).mono (fun q hq => .inl hq)) hcl)
      rw [← HV2.out] at HIN
      generalize L.length = sn at *
      have HBR := Lib.hid (show Below w.heap.size w wr from ⟨HBW.out.os.trans HB.out.os, HBW.out.tape.trans HB.out.tape, HBW.out.output.trans HB.out.output, Nat.le_trans HB.out.size HBW.out.size, fun q hq => (HBW.out.block q (by have := HSZ.out; omega)).trans (HB.out.block q hq)⟩)
      have HWB := Lib.hid (show w.heap.size + 2 ≤ wr.heap.size from by have := HBW.out.size; have := HSZ.out; omega)
      clear hcl HCB HV2
      have c0 := HBX.out.cell 0 (.int .i64 op) rfl
      have c1 := HBX.out.cell 1 (.int .i64 num) rfl
      have c2 := HBX.out.cell 2 (.string s) rfl
      have c3 := HBX.out.cell 3 (.slice ka kn kc) rfl
      have c4 := HBX.out.cell 4 (.slice na nn nc) rfl
      have c5 := HBX.out.cell 5 (.slice la ln lc) rfl
      go_wp2_with fail
      clear c0 c1 c2 c3 c4 c5
      refine HIN.out.mono ?_
      rintro e wq ⟨⟨yv, rfl, hy⟩, hbq⟩
      obtain ⟨ua, un, uc, va, vn, vc, xa, xn, xc, hyv, -, -, -⟩ := hy.shape
      subst hyv
      generalize Con.shift b t f = z at *
      have hzr := HRX.out.of_eq (hbq.block _ HRX.out.lt)
      have t0 := hzr.thaw 0
      have t1 := hzr.thaw 1
      have t2 := hzr.thaw 2
      have t3 := hzr.thaw 3
      have t4 := hzr.thaw 4
      have t5 := hzr.thaw 5
      have r0 := hzr.cell 0 (.int .i64 0) rfl
      have r1 := hzr.cell 1 (.int .i64 0) rfl
      have r2 := hzr.cell 2 (.string ⟨#[]⟩) rfl
      have r3 := hzr.cell 3 (.slice none 0 0) rfl
      have r4 := hzr.cell 4 (.slice none 0 0) rfl
      have r5 := hzr.cell 5 (.slice none 0 0) rfl
      have hz := store6_blk hzr 0 (.int .i64 z.op) (.int .i64 z.n) (.string z.s) (.slice ua un uc) (.slice va vn vc) (.slice xa xn xc)
      rw [put6_all] at hz
      have HE := Lib.hid (show RcP P z w (.returned (.agg #[.int .i64 z.op, .int .i64 z.n, .string z.s, .slice ua un uc, .slice va vn vc, .slice xa xn xc])) (store6 wq (w.heap.size + 1) 0 (.int .i64 z.op) (.int .i64 z.n) (.string z.s) (.slice ua un uc) (.slice va vn vc) (.slice xa xn xc)) from
        ⟨⟨_, rfl, (hy.keep (fun q hq => store6_other _ _ _ _ _ _ _ _ _ q (by
          have := HSZ.out
          rcases hq with hq | hq
          · have := HP.out q hq; omega
          · omega))).mono (fun q hq => by
          rcases hq with hq | hq
          · exact .inl hq
          · exact .inr ⟨by have := HSZ.out; omega, by rw [store6_size]; have := hbq.size; omega⟩)⟩, store6_below (belowStep hbq HBR.out) _ _ _ _ _ _ _ _ (Nat.le_succ _)⟩)
      unfold store6 at hz HE
      simp only [Nat.zero_add] at hz HE
      have z0 := hz.cell 0 (.int .i64 z.op) rfl
      have z1 := hz.cell 1 (.int .i64 z.n) rfl
      have z2 := hz.cell 2 (.string z.s) rfl
      have z3 := hz.cell 3 (.slice ua un uc) rfl
      have z4 := hz.cell 4 (.slice va vn vc) rfl
      have z5 := hz.cell 5 (.slice xa xn xc) rfl
      clear hy hzr hz hbq HIN
      go_wp2
      refine bodyPost_ret (v := .agg #[.int .i64 z.op, .int .i64 z.n, .string z.s, .slice ua un uc, .slice va vn vc, .slice xa xn xc]) (by simp [results, Tryz.results163, go_sem, z0, z1, z2, z3, z4, z5]) rfl ?_
      exact HE.out
end Go.Proofs.YtpkgiemdnfbopaaGreat
