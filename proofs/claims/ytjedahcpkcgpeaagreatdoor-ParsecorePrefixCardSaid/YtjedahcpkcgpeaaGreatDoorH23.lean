/-
  Walks and plain mathematics, several texts in one (Tc Td Te Tf Tg).
-/
import Derived.Test.YtjedahcpkcgpeaaGreatDoorH22
import Derived.Maps.OwnSet
import Derived.Maps.Views
import Derived.Carry
import Derived.Deep.QuietTactic
import Derived.BigQuiet
/-
  Walks of layer 3: paths, and lists of names, of the program and of the reference.
-/
namespace Go.Proofs.YtjedahcpkcgpeaaGreatDoor
open Go Go.RowKit
open Pl (Syn)
set_option linter.unusedSimpArgs false
structure NameFn where
  fid : FuncId
  p : ByteArray → Bool
  enter : ∀ (args : Array Value) (w : World), Sem.run Tryz.prog (callFunc fid args) w = .ok (.enter fid args) w
  calls : ∀ (s : ByteArray) (w : World), s.size ≤ maxLen → Calls Tryz.prog fid #[.string s] w fun e w' => e = .returned (.bool (p s)) ∧ w = w'
def lowFn : NameFn where
  fid := 44
  p := Pl.lowS
  enter := fun args w => by kernel_rfl
  calls := fun s w hs => isLower_any s w hs
def upFn : NameFn where
  fid := 45
  p := Pl.upS
  enter := fun args w => by kernel_rfl
  calls := fun s w hs => isUpper_any s w hs
def varFn : NameFn where
  fid := 46
  p := Pl.varS
  enter := fun args w => by kernel_rfl
  calls := fun s w hs => isVar_any s w hs
theorem all_false_at (p : ByteArray → Bool) (zs : List ByteArray) (k : Nat) (hk : k < zs.length) (h : p zs[k] = false) : zs.all p = false := by
  rw [List.all_eq_false]; exact ⟨zs[k], List.getElem_mem hk, by simp [h]⟩
theorem all_take_snoc (p : ByteArray → Bool) (zs : List ByteArray) (k : Nat) (hk : k < zs.length) : (zs.take (k + 1)).all p = ((zs.take k).all p && p zs[k]) := by
  rw [List.take_succ_eq_append_getElem hk, List.all_append]; simp
set_option maxRecDepth 100000 in
set_option maxHeartbeats 4000000 in
theorem allNames_any (F : NameFn) (P : Nat → Prop) (v : Value) (zs : List ByteArray) (w : World) (h : StrSl w P v zs) :
    Calls Tryz.prog 128 #[v, .func (.func F.fid) #[] #[]] w fun e w' => e = .returned (.bool (zs.all F.p)) ∧ w = w' := by
  obtain ⟨a, c, rfl, h1, h2, -, h4, h5⟩ := h
  unfold maxLen at h2
  rcases h5 with rfl | ⟨b, off, rfl, -, h5⟩
  · clear h4
    go_enter Tryz.func128, Tryz.ntmps128
    go_wp2_with fail
    go_loopg [9] 1 (fun g v wr => v = .int .i64 0 ∧ wr = w)
    case atStart => exact ⟨rfl, rfl⟩
    case round =>
      obtain ⟨rfl, rfl⟩ := hrel
      go_wp2
      go_ret
      exact ⟨rfl, rfl⟩
  · have H5 := Lib.hid h5
    have HZ := Lib.hid h4
    generalize hn : zs.length = n at *
    have HN := Lib.hid hn
    have HF := Lib.hid F.calls
    have HE := Lib.hid F.enter
    clear h4 h5 hn
    go_enter Tryz.func128, Tryz.ntmps128
    go_wp2_with fail
    go_loopg [9] (n + 1) (fun g v wr => ∃ k : Nat, k ≤ n ∧ v = .int .i64 k ∧ g = n + 1 - k ∧ wr = w ∧ (zs.take k).all F.p = true)
    case atStart => exact ⟨0, by omega, rfl, by omega, rfl, by simp⟩
    case round =>
      obtain ⟨k, hk, rfl, hg, rfl, hall⟩ := hrel
      have HA := Lib.hid hall
      clear hall
      by_cases hlt : k < n
      · have hkl : k < zs.length := by rw [HN.out]; exact hlt
        have a0 := H5.out k hkl
        have HC := Lib.hid (fun W => HF.out zs[k] W (HZ.out _ (List.getElem_mem hkl)))
        have HNO := Lib.hid (fun h => all_false_at F.p zs k hkl h)
        have HYS := Lib.hid (all_take_snoc F.p zs k hkl)
        generalize zs[k] = z at *
        go_wp2_with fail
        rw [HE.out, Oper.upon_enter]
        refine (HC.out _).mono ?_
        rintro e w2 ⟨rfl, rfl⟩
        generalize F.p z = r at *
        cases r
        · go_wp2
          go_ret
          exact ⟨ret_bool (HNO.out trivial).symm, rfl⟩
        · go_wp2
          go_roundg (gk - 1)
          case measure => omega
          case rel => exact ⟨k + 1, by omega, by go_num, by omega, rfl, by rw [HYS.out, HA.out]; rfl⟩
      · go_wp2
        go_ret
        have := HA.out
        rw [List.take_of_length_le (by rw [HN.out]; omega)] at this
        exact ⟨ret_bool this.symm, rfl⟩
theorem StrSl.sub {w : World} {P : Nat → Prop} {a : Option Addr} {n c : Nat} {zs : List ByteArray} (h : StrSl w P (.slice a n c) zs) (m : Nat) (hm : m ≤ n) : StrSl w P (.slice a m c) (zs.take m) := by
  obtain ⟨a', c', e, h1, h2, h3, h4, h5⟩ := h
  injection e with e1 e2 e3
  subst e1 e2 e3
  refine ⟨a, c, by rw [List.length_take, Nat.min_eq_left hm], by rw [List.length_take]; omega, h2, h3, fun z hz => h4 z (List.mem_of_mem_take hz), ?_⟩
  rcases h5 with rfl | ⟨b, off, rfl, h6, h7⟩
  · exact .inl (by simp)
  · refine .inr ⟨b, off, rfl, h6, fun j hj => ?_⟩
    rw [List.length_take] at hj
    rw [h7 j (by omega), List.getElem_take]
def pathG (p : ByteArray → Bool) (zs : List ByteArray) : Bool := decide (1 ≤ zs.length ∧ zs.length ≤ 8) && ((zs.take (zs.length - 1)).all Pl.upS && p (zs.getD (zs.length - 1) ByteArray.empty))
theorem path_G (low : Bool) (zs : List ByteArray) : Pl.path low zs = (decide (1 ≤ zs.length) && ((zs.take (zs.length - 1)).all Pl.upS && (if low then Pl.lowS else Pl.upS) (zs.getD (zs.length - 1) ByteArray.empty))) := by
  induction zs with
  | nil => rfl
  | cons z r ih =>
    cases r with
    | nil => cases low <;> simp [Pl.path]
    | cons y r =>
      rw [Pl.path, ih]
      have h1 : (z :: y :: r).length - 1 = (y :: r).length - 1 + 1 := by simp
      rw [h1, List.take_succ_cons, List.getD_cons_succ, List.all_cons]
      simp [Bool.and_assoc]
theorem pathOk_G (low : Bool) (zs : List ByteArray) : Pl.pathOk low zs = pathG (if low then Pl.lowS else Pl.upS) zs := by
  unfold Pl.pathOk pathG
  rw [path_G, Bool.decide_and]
  cases decide (zs.length ≤ 8) <;> simp
set_option maxRecDepth 100000 in
set_option maxHeartbeats 4000000 in
theorem isPath_any (F : NameFn) (P : Nat → Prop) (v : Value) (zs : List ByteArray) (w : World) (h : StrSl w P v zs) :
    Calls Tryz.prog 126 #[v, .func (.func F.fid) #[] #[]] w fun e w' => e = .returned (.bool (pathG F.p zs)) ∧ w = w' := by
  have h' := h
  obtain ⟨a, c, rfl, h1, h2, -, h4, h5⟩ := h
  unfold maxLen at h2
  by_cases hn : 1 ≤ zs.length ∧ zs.length ≤ 8
  · rcases h5 with rfl | ⟨b, off, rfl, -, h5⟩
    · simp at hn
    · have HS := Lib.hid (allNames_any upFn P _ _ w (h'.sub (zs.length - 1) (by omega)))
      have hkl : zs.length - 1 < zs.length := by omega
      have hg : zs.getD (zs.length - 1) ByteArray.empty = zs[zs.length - 1] := by simp [List.getD, hkl]
      have HG := Lib.hid (show pathG F.p zs = ((zs.take (zs.length - 1)).all Pl.upS && F.p zs[zs.length - 1]) from by unfold pathG; rw [decide_eq_true hn, hg]; rfl)
      have a0 := h5 (zs.length - 1) hkl
      have HC := Lib.hid (F.calls zs[zs.length - 1] w (h4 _ (List.getElem_mem hkl)))
      have HE := Lib.hid F.enter
      rw [show upFn.p = Pl.upS from rfl, show upFn.fid = 45 from rfl] at HS
      generalize zs[zs.length - 1] = z at *
      generalize (zs.take (zs.length - 1)).all Pl.upS = r1 at *
      generalize F.p z = r2 at *
      generalize pathG F.p zs = rr at *
      clear h' h4 h5 hg
      generalize hnn : zs.length = nn at *
      obtain ⟨n, rfl⟩ : ∃ n, nn = n + 1 := ⟨nn - 1, by omega⟩
      rw [show n + 1 - 1 = n from rfl] at *
      clear hnn hkl
      cases r1
      · go_enter Tryz.func126, Tryz.ntmps126
        go_wp2_with fail
        refine HS.out.mono ?_
        rintro e w2 ⟨rfl, rfl⟩
        go_wp2
        go_ret
        exact ⟨ret_bool HG.out.symm, rfl⟩
      · go_enter Tryz.func126, Tryz.ntmps126
        go_wp2_with fail
        refine HS.out.mono ?_
        rintro e w2 ⟨rfl, rfl⟩
        go_wp2_with fail
        rw [HE.out, Oper.upon_enter]
        refine HC.out.mono ?_
        rintro e w2 ⟨rfl, rfl⟩
        go_wp2
        go_ret
        exact ⟨ret_bool (by rw [HG.out]; rfl), rfl⟩
  · have HG := Lib.hid (show pathG F.p zs = false from by unfold pathG; rw [decide_eq_false hn]; rfl)
    generalize zs.length = n at *
    clear h' h4 h5
    by_cases h0 : n = 0
    · subst h0
      go_enter Tryz.func126, Tryz.ntmps126
      go_wp2
      go_ret
      exact ⟨ret_bool HG.out.symm, rfl⟩
    · have q : decide ((n : Int) - 1 < 8) = false := by simp; omega
      go_enter Tryz.func126, Tryz.ntmps126
      go_wp2
      go_ret
      exact ⟨ret_bool HG.out.symm, rfl⟩
end Go.Proofs.YtjedahcpkcgpeaaGreatDoor

/-
  Walks of layer 3: no two names are equal.
-/
namespace Go.Proofs.YtjedahcpkcgpeaaGreatDoor
open Go Go.RowKit
open Pl (Syn)
set_option linter.unusedSimpArgs false
def memB (s : ByteArray) (zs : List ByteArray) : Bool := zs.any fun z => decide (z = s)
theorem memB_iff (s : ByteArray) (zs : List ByteArray) : memB s zs = true ↔ s ∈ zs := by
  unfold memB
  rw [List.any_eq_true]
  constructor
  · rintro ⟨z, hz, h⟩
    have h' : z = s := by simpa using h
    rw [← h']; exact hz
  · intro h; exact ⟨s, h, by simp⟩
def Seen (w : World) (b n : Nat) (zs : List ByteArray) : Prop :=
  ∃ D : DataW Unit, w.ownsMap Tryz.prog 9 (plainElem Tryz.prog 4) b n D ∧ ∀ s : ByteArray, D.atKey (.string s.data.toList) (.lit (.bool false)) = .lit (.bool (memB s zs))
set_option maxRecDepth 100000 in
theorem make_seen (n : Int) (w : World) : (Instr.makeMap 143 (some (.int .i64 n))).run Tryz.prog w = .ok (.map (some w.heap.size)) (w.alloc (.map #[] 0)) := by
  first | kernel_rfl | simp [Instr.makeMap, go_sem]
set_option maxRecDepth 100000 in
theorem seen_new (w : World) : Seen (w.alloc (.map #[] 0)) w.heap.size 0 [] := ⟨.map [], w.ownsMap_made _ _ _, fun s => by simp [DataW.atKey, memB]⟩
set_option maxRecDepth 100000 in
theorem seen_look {w : World} {b n : Nat} {zs : List ByteArray} (h : Seen w b n zs) (s : ByteArray) (hs : s.size ≤ maxLen) : (Instr.lookup 143 (.map (some b)) (.string s) false).run Tryz.prog w = .ok (.bool (memB s zs)) w := by
  obtain ⟨D, hD, hat⟩ := h
  obtain ⟨v, ps, h1, h2⟩ := hD.lookup (Maps.string_keyed Tryz.underlying9) Tryz.underlying143 (z := .bool false) (by simp [go_sem]) (zd := .lit (.bool false)) (zp := []) (by simp [plainElem, go_sem]) (WideMaps.keyOf_string_mk Tryz.underlying9 hs)
  rw [hat s] at h2
  rw [h1]
  have : v = .bool (memB s zs) := by
    unfold plainElem at h2
    rw [Tryz.underlying4] at h2
    cases v <;> simp at h2
    rw [h2.1]
  rw [this]
theorem str_key (s z : ByteArray) : Lit.string s.data.toList = Lit.string z.data.toList ↔ s = z := by
  constructor
  · intro h
    injection h with h
    have h1 : s.data = z.data := Array.toList_inj.1 h
    cases s; cases z; simp at h1; rw [h1]
  · intro h; rw [h]
set_option maxRecDepth 100000 in
theorem seen_put {w : World} {b n : Nat} {zs : List ByteArray} (s : ByteArray) {D : DataW Unit} {w' : World}
    (hD : w.ownsMap Tryz.prog 9 (plainElem Tryz.prog 4) b n D) (hat : ∀ s : ByteArray, D.atKey (.string s.data.toList) (.lit (.bool false)) = .lit (.bool (memB s zs)))
    (h' : w'.ownsMap Tryz.prog 9 (plainElem Tryz.prog 4) b (n + 1) (D.put (.string s.data.toList) (.lit (.bool true)))) : Seen w' b (n + 1) (zs ++ [s]) := by
  refine ⟨_, h', fun z => ?_⟩
  by_cases hz : z = s
  · subst hz
    rw [Maps.atKey_put_same hD.isMap (by trivial), (memB_iff _ _).2 (by simp)]
  · rw [Maps.atKey_put_other (fun e => hz ((str_key z s).1 e)), hat z]
    have : memB z (zs ++ [s]) = memB z zs := by
      rw [Bool.eq_iff_iff, memB_iff, memB_iff]; simp [hz]
    rw [this]
theorem nodup_snoc (zs : List ByteArray) (k : Nat) (hk : k < zs.length) (h : (zs.take k).Nodup) : (zs.take (k + 1)).Nodup ↔ zs[k] ∉ zs.take k := by
  rw [List.take_succ_eq_append_getElem hk, List.nodup_append]
  simp [h]
  constructor
  · intro h1 h2; exact h1 _ h2 rfl
  · intro h1 a ha e; rw [e] at ha; exact h1 ha
theorem nodup_take {zs : List ByteArray} (h : zs.Nodup) (k : Nat) : (zs.take k).Nodup := h.sublist (List.take_sublist _ _)
set_option maxRecDepth 100000 in
set_option maxHeartbeats 4000000 in
theorem differ_any (P : Nat → Prop) (v : Value) (zs : List ByteArray) (w : World) (hP : ∀ b, P b → b < w.heap.size) (h : StrSl w P v zs) :
    Calls Tryz.prog 129 #[v] w fun e w' => e = .returned (.bool (Pl.noTwin zs)) ∧ Below w.heap.size w w' := by
  obtain ⟨a, c, rfl, h1, h2, -, h4, h5⟩ := h
  unfold maxLen at h2
  have HB := Lib.hid (show Below w.heap.size w (w.alloc (.map #[] 0)) from (Below.refl _ _).alloc (Nat.le_refl _) _)
  have HS := Lib.hid (seen_new w)
  have hmm := make_seen
  rcases h5 with rfl | ⟨b, off, rfl, hPb, h5⟩
  · go_enter Tryz.func129, Tryz.ntmps129
    go_wp2_with fail
    generalize w.alloc _ = w1 at *
    go_loopg [11] 1 (fun g v wr => v = .int .i64 0 ∧ wr = w1)
    case atStart => exact ⟨rfl, rfl⟩
    case round =>
      obtain ⟨rfl, rfl⟩ := hrel
      go_wp2
      go_ret
      exact ⟨rfl, HB.out⟩
  · have H5 := Lib.hid h5
    have HZ := Lib.hid h4
    have HPB := Lib.hid (hP b hPb)
    generalize hn : zs.length = n at *
    have HN := Lib.hid hn
    clear h4 h5 hn hP hPb
    go_enter Tryz.func129, Tryz.ntmps129
    go_wp2_with fail
    generalize w.alloc _ = w1 at *
    go_loopg [11] (n + 1) (fun g v wr => ∃ k : Nat, k ≤ n ∧ v = .int .i64 k ∧ g = n + 1 - k ∧ Seen wr w.heap.size k (zs.take k) ∧ Below w.heap.size w wr ∧ (zs.take k).Nodup)
    case atStart => exact ⟨0, by omega, rfl, by omega, HS.out, HB.out, by simp⟩
    case round =>
      obtain ⟨k, hk, rfl, hg, hseen, hbw, hnd⟩ := hrel
      by_cases hlt : k < n
      · have hkl : k < zs.length := by rw [HN.out]; exact hlt
        have a0 := (hbw.cell (p := ⟨b, off + k, none⟩) HPB.out).trans (H5.out k hkl)
        have hzk := HZ.out _ (List.getElem_mem hkl)
        have hlook := seen_look hseen zs[k] hzk
        have HSN := Lib.hid (nodup_snoc zs k hkl hnd)
        have HNT := Lib.hid (fun h : zs.Nodup => nodup_take h (k + 1))
        have HTK := Lib.hid (List.take_succ_eq_append_getElem hkl)
        obtain ⟨D, hD, hat⟩ := hseen
        have HD := Lib.hid hD
        have HAT := Lib.hid hat
        have HBW := Lib.hid hbw
        have HZK := Lib.hid hzk
        generalize zs[k] = z at *
        clear hD hat hbw hnd hzk
        by_cases hm : z ∈ zs.take k
        · rw [(memB_iff _ _).2 hm] at hlook
          have HM := Lib.hid hm
          clear hm
          go_wp2
          go_ret
          refine ⟨ret_bool ?_, HBW.out⟩
          unfold Pl.noTwin
          symm
          rw [decide_eq_false_iff_not]
          exact fun h => HSN.out.1 (HNT.out h) HM.out
        · rw [show memB z (zs.take k) = false from by rw [Bool.eq_false_iff]; exact fun e => hm ((memB_iff _ _).1 e)] at hlook
          have HM := Lib.hid hm
          clear hm
          go_wp2_with (at_mapUpdate; refine wpList_mapUpdate_own _ rfl _ _ _ 143 rfl 9 4 (Maps.string_keyed Tryz.underlying9) Tryz.underlying143 _ w.heap.size k D rfl HD.out (by unfold maxLen; omega) _ _ _ rfl rfl (WideMaps.keyOf_string_mk Tryz.underlying9 HZK.out) (.lit (.bool true)) [] (by simp [plainElem, go_sem]) ?_)
          intro w3 hown hgrow
          have HO := Lib.hid (seen_put z HD.out HAT.out hown)
          have HB3 := Lib.hid (show Below w.heap.size w w3 from ⟨(World.grownBy.os hgrow).trans HBW.out.os, (World.grownBy.tape hgrow).trans HBW.out.tape, (World.grownBy.output hgrow).trans HBW.out.output, Nat.le_trans HBW.out.size (World.grownBy.size hgrow), fun i hi => (World.grownBy.block hgrow i (Nat.lt_of_lt_of_le hi HBW.out.size) (fun e => by injection e with e; omega)).trans (HBW.out.block i hi)⟩)
          clear hown hgrow a0 hlook
          go_wp2
          go_roundg (gk - 1)
          case measure => omega
          case rel => exact ⟨k + 1, by omega, by go_num, by omega, by rw [HTK.out]; exact HO.out, HB3.out, HSN.out.2 HM.out⟩
      · have HT := Lib.hid (show zs.take k = zs from List.take_of_length_le (by rw [HN.out]; omega))
        have HND := Lib.hid hnd
        have HBW := Lib.hid hbw
        clear hnd hbw hseen
        go_wp2
        go_ret
        refine ⟨ret_bool ?_, HBW.out⟩
        have := HND.out
        rw [HT.out] at this
        unfold Pl.noTwin
        exact (decide_eq_true this).symm
end Go.Proofs.YtjedahcpkcgpeaaGreatDoor

/-
  Walks of layer 3: the names of a node.
-/
namespace Go.Proofs.YtjedahcpkcgpeaaGreatDoor
open Go Go.RowKit
open Pl (Syn)
set_option linter.unusedSimpArgs false
def endFn (op : Int) : NameFn := if Pl.lowEnd op then lowFn else upFn
set_option maxHeartbeats 2000000 in
theorem pathEnd_any (op : Int) (w : World) : Calls Tryz.prog 127 #[.int .i64 op] w fun e w' => e = .returned (.func (.func (endFn op).fid) #[] #[]) ∧ w = w' := by
  have HL := Lib.hid (show (op = 2 ∨ op = 23 ∨ op = 66 ∨ op = 74) → (endFn op).fid = 44 from fun h => by unfold endFn Pl.lowEnd; rw [decide_eq_true h]; rfl)
  have HU := Lib.hid (show ¬ (op = 2 ∨ op = 23 ∨ op = 66 ∨ op = 74) → (endFn op).fid = 45 from fun h => by unfold endFn Pl.lowEnd; rw [decide_eq_false h]; rfl)
  generalize (endFn op).fid = f at *
  go_enter Tryz.func127, Tryz.ntmps127
  go_wp2
  all_goals
    go_ret
    (try simp only [beq_iff_eq, beq_eq_false_iff_ne] at *)
    first | exact ⟨by rw [HL.out (by omega)]; rfl, by first | rfl | trivial⟩ | exact ⟨by rw [HU.out (by omega)]; rfl, by first | rfl | trivial⟩
theorem endFn_G (op : Int) (zs : List ByteArray) : pathG (endFn op).p zs = Pl.pathOk (Pl.lowEnd op) zs := by
  rw [pathOk_G]
  unfold endFn
  cases Pl.lowEnd op <;> rfl
set_option maxRecDepth 100000 in
set_option maxHeartbeats 8000000 in
theorem namesFit_any (P : Nat → Prop) (op n : Int) (s : ByteArray) (names : List ByteArray) (nv lv : Value) (w : World) (hP : ∀ b, P b → b < w.heap.size) (h : StrSl w P nv names) :
    Calls Tryz.prog 98 #[.agg #[.int .i64 op, .int .i64 n, .string s, nv, lv]] w fun e w' => e = .returned (.bool (Pl.nam op names)) ∧ Below w.heap.size w w' := by
  have hb : Below w.heap.size w (w.alloc (.cells #[.int .i64 op, .int .i64 n, .string s, nv, lv] 27)) := (Below.refl _ _).alloc (Nat.le_refl _) _
  have h1 := h.keep (Same.of_below hb hP)
  have bx := blk_new w #[.int .i64 op, .int .i64 n, .string s, nv, lv] 27
  obtain ⟨na, nc, rfl, hnl⟩ := h.form
  unfold maxLen at hnl
  have HH := Lib.hid (fun W => hasPath_any op W)
  have HB := Lib.hid hb
  have x0 := bx.cell 0 _ rfl
  have x3 := bx.cell 3 _ rfl
  by_cases hp : Pl.hasPath op = true
  · have HN := Lib.hid (show Pl.nam op names = pathG (endFn op).p names from by unfold Pl.nam; rw [hp, if_pos rfl, endFn_G])
    have HPE := Lib.hid (fun W => pathEnd_any op W)
    have HIP := Lib.hid (fun q => isPath_any (endFn op) P _ _ _ (h1.keep (same_drewN _ _ q)))
    rw [hp] at HH
    generalize (endFn op).fid = fe at *
    generalize pathG (endFn op).p names = r at *
    generalize names.length = nn at *
    clear h h1 hb bx hp hP
    go_enter Tryz.func98, Tryz.ntmps98
    go_wp2_with fail
    refine (HH.out _).mono ?_
    rintro e w2 ⟨rfl, rfl⟩
    go_wp2
    go_quiet ((first | (go_at_call 127; exact Calls.quiet_of_same ((HPE.out _).mono fun _ _ ⟨he, hw⟩ => ⟨he, hw.symm⟩)) | (go_at_call 126; exact Calls.quiet_of_same ((HIP.out _).mono fun _ _ ⟨he, hw⟩ => ⟨he, hw.symm⟩))))
    go_wp2
    go_ret
    exact ⟨ret_bool HN.out.symm, below_drewN HB.out _⟩
  · have hp' : Pl.hasPath op = false := by simpa using hp
    have HN := Lib.hid (show Pl.nam op names = (if op = 42 then decide (1 ≤ names.length ∧ names.length ≤ 9) && names.all Pl.lowS else if op = 43 ∨ op = 44 ∨ op = 62 then Pl.params names else decide (names.length = 0)) from by unfold Pl.nam; rw [hp', if_neg (by decide)])
    rw [hp'] at HH
    have HLW := Lib.hid (allNames_any lowFn P _ _ _ h1)
    have HVR := Lib.hid (allNames_any varFn P _ _ _ h1)
    have HDF := Lib.hid (differ_any P _ _ _ (fun b hb' => Nat.lt_of_lt_of_le (hP b hb') hb.size) h1)
    have HPR := Lib.hid (show Pl.params names = (decide (names.length ≤ 4) && names.all Pl.varS && Pl.noTwin names) from rfl)
    rw [show lowFn.p = Pl.lowS from rfl, show lowFn.fid = 44 from rfl] at HLW
    rw [show varFn.p = Pl.varS from rfl, show varFn.fid = 46 from rfl] at HVR
    generalize names.all Pl.lowS = rl at *
    generalize names.all Pl.varS = rv at *
    generalize Pl.noTwin names = rd at *
    generalize Pl.params names = rp at *
    generalize Pl.nam op names = rn at *
    generalize names.length = nn at *
    clear h h1 hb bx hp hp' hP
    by_cases c1 : op = 42
    · have HN2 := Lib.hid (show rn = (decide (1 ≤ nn ∧ nn ≤ 9) && rl) from by rw [HN.out, if_pos c1])
      subst c1
      by_cases c2 : 1 ≤ nn ∧ nn ≤ 9
      · go_enter Tryz.func98, Tryz.ntmps98
        go_wp2_with fail
        refine (HH.out _).mono ?_
        rintro e w2 ⟨rfl, rfl⟩
        go_wp2_with fail
        refine HLW.out.mono ?_
        rintro e w2 ⟨rfl, rfl⟩
        go_wp2
        go_ret
        exact ⟨ret_bool (by rw [HN2.out, decide_eq_true c2]; rfl), HB.out⟩
      · have HN3 := Lib.hid (show rn = false from by rw [HN2.out, decide_eq_false c2]; rfl)
        by_cases c3 : nn = 0
        · subst c3
          go_enter Tryz.func98, Tryz.ntmps98
          go_wp2_with fail
          refine (HH.out _).mono ?_
          rintro e w2 ⟨rfl, rfl⟩
          go_wp2
          go_ret
          exact ⟨ret_bool HN3.out.symm, HB.out⟩
        · have q : decide ((nn : Int) ≤ 9) = false := by simp; omega
          go_enter Tryz.func98, Tryz.ntmps98
          go_wp2_with fail
          refine (HH.out _).mono ?_
          rintro e w2 ⟨rfl, rfl⟩
          go_wp2
          go_ret
          exact ⟨ret_bool HN3.out.symm, HB.out⟩
    · by_cases c4 : op = 43 ∨ op = 44 ∨ op = 62
      · have HN2 := Lib.hid (show rn = (decide (nn ≤ 4) && rv && rd) from by rw [HN.out, if_neg c1, if_pos c4, HPR.out])
        have c4' : (op == 43) = true ∨ ((op == 43) = false ∧ (op == 44) = true) ∨ ((op == 43) = false ∧ (op == 44) = false ∧ (op == 62) = true) := by simp; omega
        have c1' : (op == 42) = false := by simpa using c1
        clear c1 c4
        by_cases c5 : nn ≤ 4
        · have q : decide ((nn : Int) ≤ 4) = true := by simp; omega
          rw [decide_eq_true c5] at HN2
          rcases c4' with p1 | ⟨p0, p1⟩ | ⟨p00, p0, p1⟩
          all_goals
            cases rv
            · go_enter Tryz.func98, Tryz.ntmps98
              go_wp2_with fail
              refine (HH.out _).mono ?_
              rintro e w2 ⟨rfl, rfl⟩
              go_wp2_with fail
              refine HVR.out.mono ?_
              rintro e w2 ⟨rfl, rfl⟩
              go_wp2
              go_ret
              exact ⟨ret_bool (by rw [HN2.out]; rfl), HB.out⟩
            · go_enter Tryz.func98, Tryz.ntmps98
              go_wp2_with fail
              refine (HH.out _).mono ?_
              rintro e w2 ⟨rfl, rfl⟩
              go_wp2_with fail
              refine HVR.out.mono ?_
              rintro e w2 ⟨rfl, rfl⟩
              go_wp2_with fail
              refine HDF.out.mono ?_
              rintro e w2 ⟨rfl, hb2⟩
              have HB2 := Lib.hid (HB.out.trans (hb2.mono HB.out.size))
              clear hb2
              go_wp2
              go_ret
              exact ⟨ret_bool (by rw [HN2.out]; rfl), HB2.out⟩
        · have q : decide ((nn : Int) ≤ 4) = false := by simp; omega
          rw [decide_eq_false c5] at HN2
          rcases c4' with p1 | ⟨p0, p1⟩ | ⟨p00, p0, p1⟩
          all_goals
            go_enter Tryz.func98, Tryz.ntmps98
            go_wp2_with fail
            refine (HH.out _).mono ?_
            rintro e w2 ⟨rfl, rfl⟩
            go_wp2
            go_ret
            exact ⟨ret_bool (by rw [HN2.out]; rfl), HB.out⟩
      · have HN2 := Lib.hid (show rn = decide (nn = 0) from by rw [HN.out, if_neg c1, if_neg c4])
        have p1 : (op == 42) = false := by simpa using c1
        have p2 : (op == 43) = false := by simp; omega
        have p3 : (op == 44) = false := by simp; omega
        have p4 : (op == 62) = false := by simp; omega
        clear c1 c4
        by_cases c5 : nn = 0
        · subst c5
          go_enter Tryz.func98, Tryz.ntmps98
          go_wp2_with fail
          refine (HH.out _).mono ?_
          rintro e w2 ⟨rfl, rfl⟩
          go_wp2
          go_ret
          exact ⟨ret_bool HN2.out.symm, HB.out⟩
        · rw [decide_eq_false c5] at HN2
          have q : ((nn : Int) == 0) = false := by simp; omega
          go_enter Tryz.func98, Tryz.ntmps98
          go_wp2_with fail
          refine (HH.out _).mono ?_
          rintro e w2 ⟨rfl, rfl⟩
          go_wp2
          go_ret
          exact ⟨ret_bool HN2.out.symm, HB.out⟩
end Go.Proofs.YtjedahcpkcgpeaaGreatDoor

/-
  Walks of layer 3: the kinds of parts.
-/
namespace Go.Proofs.YtjedahcpkcgpeaaGreatDoor
open Go Go.RowKit
open Pl (Syn)
set_option linter.unusedSimpArgs false
theorem parts_len (l : List Syn) : ∀ cs : List Int, l.length ≠ cs.length → Pl.parts l cs = false := by
  induction l with
  | nil => intro cs h; cases cs with | nil => exact absurd rfl h | cons c cs => rfl
  | cons t r ih => intro cs h; cases cs with | nil => rfl | cons c cs => rw [Pl.parts, ih cs (by simpa using h), Bool.and_false]
theorem parts_iff (l : List Syn) : ∀ cs : List Int, l.length = cs.length → (Pl.parts l cs = true ↔ ∀ j (h : j < l.length) (h' : j < cs.length), Pl.bel l[j].op cs[j] = true) := by
  induction l with
  | nil => intro cs h; cases cs with | nil => simp [Pl.parts] | cons c cs => simp at h
  | cons t r ih =>
    intro cs h
    cases cs with
    | nil => simp at h
    | cons c cs =>
      rw [Pl.parts, Bool.and_eq_true, ih cs (by simpa using h)]
      constructor
      · rintro ⟨h1, h2⟩ j hj hj'
        cases j with
        | zero => exact h1
        | succ j => exact h2 j (by simpa using hj) (by simpa using hj')
      · intro hh
        exact ⟨hh 0 (by simp) (by simp), fun j hj hj' => hh (j + 1) (by simpa using hj) (by simpa using hj')⟩
def IntSl (w : World) (v : Value) (cs : List Int) : Prop := ∃ a c, v = .slice a cs.length c ∧ cs.length ≤ 100 ∧ (cs = [] ∨ ∃ b off, a = some ⟨b, off, none⟩ ∧ b < w.heap.size ∧ IntsAt w b off cs)
theorem intSl_nil (w : World) : IntSl w (.slice none 0 0) [] := ⟨none, 0, rfl, by decide, .inl rfl⟩
theorem intSl_1 (w : World) (x : Int) (c : Nat) : IntSl (w.alloc (.cells #[.int .i64 x] 3)) (.slice (some ⟨w.heap.size, 0, none⟩) 1 c) [x] :=
  ⟨_, c, rfl, by simp, .inr ⟨_, 0, rfl, by rw [size_alloc]; omega, fun j hj => by
    have := blk_new w #[.int .i64 x] 3
    match j, hj with
    | 0, _ => exact this.cell 0 _ rfl⟩⟩
theorem intSl_2 (w : World) (x y : Int) (c : Nat) : IntSl (w.alloc (.cells #[.int .i64 x, .int .i64 y] 3)) (.slice (some ⟨w.heap.size, 0, none⟩) 2 c) [x, y] :=
  ⟨_, c, rfl, by simp, .inr ⟨_, 0, rfl, by rw [size_alloc]; omega, fun j hj => by
    have := blk_new w #[.int .i64 x, .int .i64 y] 3
    match j, hj with
    | 0, _ => exact this.cell 0 _ rfl
    | 1, _ => exact this.cell 1 _ rfl⟩⟩
theorem intSl_3 (w : World) (x y z : Int) (c : Nat) : IntSl (w.alloc (.cells #[.int .i64 x, .int .i64 y, .int .i64 z] 3)) (.slice (some ⟨w.heap.size, 0, none⟩) 3 c) [x, y, z] :=
  ⟨_, c, rfl, by simp, .inr ⟨_, 0, rfl, by rw [size_alloc]; omega, fun j hj => by
    have := blk_new w #[.int .i64 x, .int .i64 y, .int .i64 z] 3
    match j, hj with
    | 0, _ => exact this.cell 0 _ rfl
    | 1, _ => exact this.cell 1 _ rfl
    | 2, _ => exact this.cell 2 _ rfl⟩⟩
theorem IntSl.below {w w' : World} {v : Value} {cs : List Int} (h : IntSl w v cs) (hb : Below w.heap.size w w') : IntSl w' v cs := by
  obtain ⟨a, c, rfl, h1, h2⟩ := h
  refine ⟨a, c, rfl, h1, ?_⟩
  rcases h2 with h2 | ⟨b, off, rfl, h3, h4⟩
  · exact .inl h2
  · exact .inr ⟨b, off, rfl, Nat.lt_of_lt_of_le h3 hb.size, fun j hj => (hb.cell (p := ⟨b, off + j, none⟩) h3).trans (h4 j hj)⟩
set_option maxRecDepth 100000 in
set_option maxHeartbeats 4000000 in
theorem areParts_any (P : Nat → Prop) (v u : Value) (l : List Syn) (cs : List Int) (w : World) (h : SynSl w P v l) (hc : IntSl w u cs) :
    Calls Tryz.prog 130 #[v, u] w fun e w' => e = .returned (.bool (Pl.parts l cs)) ∧ w = w' := by
  obtain ⟨ca, cc, rfl, hc1, hc2⟩ := hc
  by_cases hl : l.length = cs.length
  · rcases hc2 with rfl | ⟨cb, co, rfl, -, hci⟩
    · have : l = [] := List.eq_nil_of_length_eq_zero (by simpa using hl)
      subst this
      obtain ⟨a, c, rfl, -⟩ := h
      go_enter Tryz.func130, Tryz.ntmps130
      go_wp2_with fail
      go_loopg [14] 1 (fun g v wr => v = .int .i64 0 ∧ wr = w)
      case atStart => exact ⟨rfl, rfl⟩
      case round =>
        obtain ⟨rfl, rfl⟩ := hrel
        go_wp2
        go_ret
        exact ⟨rfl, rfl⟩
    · rcases h.cases with ⟨rfl, -⟩ | ⟨b, off, n, c, rfl, hnl, hn0, hnc, hcm, hPb, hka⟩
      · have : cs = [] := List.eq_nil_of_length_eq_zero (by simpa using hl.symm)
        subst this
        obtain ⟨a, c, rfl, -⟩ := h
        go_enter Tryz.func130, Tryz.ntmps130
        go_wp2_with fail
        go_loopg [14] 1 (fun g v wr => v = .int .i64 0 ∧ wr = w)
        case atStart => exact ⟨rfl, rfl⟩
        case round =>
          obtain ⟨rfl, rfl⟩ := hrel
          go_wp2
          go_ret
          exact ⟨rfl, rfl⟩
      · generalize hcn : cs.length = m at *
        have hmn : m = n := by omega
        subst hmn
        have HNL := Lib.hid hnl
        have HCN := Lib.hid hcn
        have HKA := Lib.hid hka
        have HCI := Lib.hid hci
        have HPI := Lib.hid (parts_iff l cs (by omega))
        unfold maxLen at hcm
        generalize Pl.parts l cs = pr at *
        clear h hl hnl hcn hka hci hPb
        go_enter Tryz.func130, Tryz.ntmps130
        go_wp2_with fail
        go_loopg [14] (m + 1) (fun g v wr => ∃ k : Nat, k ≤ m ∧ v = .int .i64 k ∧ g = m + 1 - k ∧ wr = w ∧ ∀ j (h : j < l.length) (h' : j < cs.length), j < k → Pl.bel l[j].op cs[j] = true)
        case atStart => exact ⟨0, by omega, rfl, by omega, rfl, fun j h h' hj => absurd hj (Nat.not_lt_zero _)⟩
        case round =>
          obtain ⟨k, hk, rfl, hg, rfl, hall⟩ := hrel
          have HA := Lib.hid hall
          clear hall
          by_cases hlt : k < m
          · have hkl : k < l.length := by rw [HNL.out]; exact hlt
            have hkc : k < cs.length := by rw [HCN.out]; exact hlt
            obtain ⟨xo, xn, xs, na, nn, nc, la, ln, lc, hxo, a0, -⟩ := HKA.out.part k hkl
            have i0 := HCI.out k hkc
            have HC := Lib.hid (belongs_any xo cs[k] wr)
            have HX := Lib.hid (show Pl.bel xo cs[k] = true → ∀ j (h : j < l.length) (h' : j < cs.length), j < k + 1 → Pl.bel l[j].op cs[j] = true from fun hb j h h' hj => by
              rcases Nat.lt_or_ge j k with h1 | h1
              · exact HA.out j h h' h1
              · obtain rfl : j = k := by omega
                rw [hxo]; exact hb)
            have HN := Lib.hid (show Pl.bel xo cs[k] = false → pr = false from fun hb => by
              rw [Bool.eq_false_iff]
              intro he
              have := HPI.out.1 he k hkl hkc
              rw [hxo, hb] at this; cases this)
            clear hxo
            generalize Pl.bel xo cs[k] = r at *
            generalize cs[k] = ck at *
            cases r
            · go_wp2_with (go_at_call 34; refine HC.out.mono ?_; rintro e w2 ⟨rfl, rfl⟩)
              go_ret
              exact ⟨ret_bool (HN.out (by first | rfl | trivial)).symm, rfl⟩
            · go_wp2_with (go_at_call 34; refine HC.out.mono ?_; rintro e w2 ⟨rfl, rfl⟩)
              go_roundg (gk - 1)
              case measure => omega
              case rel => exact ⟨k + 1, by omega, by go_num, by omega, rfl, HX.out (by first | rfl | trivial)⟩
          · go_wp2
            go_ret
            exact ⟨ret_bool (HPI.out.2 (fun j h h' => HA.out j h h' (by rw [HNL.out] at h; omega))).symm, rfl⟩
  · have HN := Lib.hid (parts_len l cs hl)
    obtain ⟨a, c, rfl, h1, h2, -⟩ := h
    unfold maxLen at h2
    generalize Pl.parts l cs = pr at *
    generalize l.length = n at *
    generalize cs.length = m at *
    have q : ((n : Int) != (m : Int)) = true := by simp; omega
    clear hc2
    go_enter Tryz.func130, Tryz.ntmps130
    go_wp2
    go_ret
    exact ⟨ret_bool HN.out.symm, rfl⟩
end Go.Proofs.YtjedahcpkcgpeaaGreatDoor

/-
  Walks of layer 3: all parts of one kind, and their names.
-/
namespace Go.Proofs.YtjedahcpkcgpeaaGreatDoor
open Go Go.RowKit
open Pl (Syn)
set_option linter.unusedSimpArgs false
structure SynFn where
  fid : FuncId
  cb : Nat
  p : Syn → Bool
  J : World → Prop
  enter : ∀ (args : Array Value) (w : World), Sem.run Tryz.prog (callFunc fid args) w = .ok (.enter fid args) w
  keep : ∀ (w w' : World), J w → Below w.heap.size w w' → J w'
  calls : ∀ (P : Nat → Prop) (t : Syn) (v : Value) (w : World), J w → (∀ b, P b → b < w.heap.size) → SynV w P t v → Calls Tryz.prog fid #[v, .pointer (some ⟨cb, 0, none⟩)] w fun e w' => e = .returned (.bool (p t)) ∧ Below w.heap.size w w'
theorem allS_false_at (p : Syn → Bool) (l : List Syn) (k : Nat) (hk : k < l.length) (h : p l[k] = false) : l.all p = false := by
  rw [List.all_eq_false]; exact ⟨l[k], List.getElem_mem hk, by simp [h]⟩
theorem allS_take_snoc (p : Syn → Bool) (l : List Syn) (k : Nat) (hk : k < l.length) : (l.take (k + 1)).all p = ((l.take k).all p && p l[k]) := by
  rw [List.take_succ_eq_append_getElem hk, List.all_append]; simp
set_option maxRecDepth 100000 in
set_option maxHeartbeats 4000000 in
theorem allSyn_any (F : SynFn) (P : Nat → Prop) (v : Value) (l : List Syn) (w : World) (hJ : F.J w) (hP : ∀ b, P b → b < w.heap.size) (h : SynSl w P v l) :
    Calls Tryz.prog 143 #[v, .func (.func F.fid) #[] #[.pointer (some ⟨F.cb, 0, none⟩)]] w fun e w' => e = .returned (.bool (l.all F.p)) ∧ Below w.heap.size w w' := by
  have HBL := Lib.hid (Below.refl w.heap.size w)
  rcases h.cases with ⟨rfl, a, c, rfl, -, -⟩ | ⟨b, off, n, c, rfl, hnl, hn0, hnc, hcm, hPb, hka⟩
  · clear h hJ
    go_enter Tryz.func143, Tryz.ntmps143
    go_wp2_with fail
    go_loopg [9] 1 (fun g v wr => v = .int .i64 0 ∧ wr = w)
    case atStart => exact ⟨rfl, rfl⟩
    case round =>
      obtain ⟨rfl, rfl⟩ := hrel
      go_wp2
      go_ret
      exact ⟨rfl, HBL.out⟩
  · unfold maxLen at hcm
    have HNL := Lib.hid hnl
    have HKA := Lib.hid hka
    have HP := Lib.hid hP
    have HPB := Lib.hid hPb
    have HJ := Lib.hid hJ
    have HF := Lib.hid F.calls
    have HE := Lib.hid F.enter
    have HKP := Lib.hid F.keep
    clear h hnl hka hP hPb hJ
    go_enter Tryz.func143, Tryz.ntmps143
    go_wp2_with fail
    go_loopg [9] (n + 1) (fun g v wr => ∃ k : Nat, k ≤ n ∧ v = .int .i64 k ∧ g = n + 1 - k ∧ Below w.heap.size w wr ∧ (l.take k).all F.p = true)
    case atStart => exact ⟨0, by omega, rfl, by omega, HBL.out, by simp⟩
    case round =>
      obtain ⟨k, hk, rfl, hg, hbw, hall⟩ := hrel
      have HA := Lib.hid hall
      have HBW := Lib.hid hbw
      clear hall
      by_cases hlt : k < n
      · have hkl : k < l.length := by rw [HNL.out]; exact hlt
        obtain ⟨xo, xn, xs, na, nn, nc, la, ln, lc, -, a0, a1, a2, a3, a4, hxs⟩ := (HKA.out.keep (Same.of_below hbw HP.out) HPB.out).part k hkl
        have hb2 : Below wr.heap.size wr (wr.alloc (.cells #[.int .i64 xo, .int .i64 xn, .string xs, .slice na nn nc, .slice la ln lc] 27)) := (Below.refl _ _).alloc (Nat.le_refl _) _
        have hPw : ∀ b, P b → b < wr.heap.size := fun b hb => Nat.lt_of_lt_of_le (HP.out b hb) hbw.size
        have HC := Lib.hid (HF.out P l[k] _ _ (HKP.out _ _ HJ.out (hbw.trans (hb2.mono hbw.size))) (fun b hb => Nat.lt_of_lt_of_le (hPw b hb) hb2.size) (hxs.keep (Same.of_below hb2 hPw)))
        have HNO := Lib.hid (fun h => allS_false_at F.p l k hkl h)
        have HYS := Lib.hid (allS_take_snoc F.p l k hkl)
        have HB2 := Lib.hid (hbw.trans (hb2.mono hbw.size))
        generalize F.p l[k] = r at *
        clear hbw hb2 hPw hxs
        go_wp2_with fail
        rw [HE.out, Oper.upon_enter]
        refine HC.out.mono ?_
        rintro e w3 ⟨rfl, hb3⟩
        have HB3 := Lib.hid (HB2.out.trans (hb3.mono HB2.out.size))
        clear hb3 a0 a1 a2 a3 a4
        cases r
        · go_wp2
          go_ret
          exact ⟨ret_bool (HNO.out (by first | rfl | trivial)).symm, HB3.out⟩
        · go_wp2
          go_roundg (gk - 1)
          case measure => omega
          case rel => exact ⟨k + 1, by omega, by go_num, by omega, HB3.out, by rw [HYS.out, HA.out]; rfl⟩
      · have HT := Lib.hid (show l.take k = l from List.take_of_length_le (by rw [HNL.out]; omega))
        clear hbw
        go_wp2
        go_ret
        have := HA.out
        rw [HT.out] at this
        exact ⟨ret_bool this.symm, HBW.out⟩
set_option maxHeartbeats 2000000 in
theorem allOf1_any (c : Int) (cb : Nat) (P : Nat → Prop) (t : Syn) (v : Value) (w : World) (hc : Blk w cb 3 #[.int .i64 c]) (hv : SynV w P t v) :
    Calls Tryz.prog 144 #[v, .pointer (some ⟨cb, 0, none⟩)] w fun e w' => e = .returned (.bool (Pl.bel t.op c)) ∧ Below w.heap.size w w' := by
  obtain ⟨na, nn, nc, la, ln, lc, rfl⟩ := hv.form
  have c0 := (hc.alloc (.cells #[.int .i64 t.op, .int .i64 t.n, .string t.s, .slice na nn nc, .slice la ln lc] 27)).cell 0 _ rfl
  have HB := Lib.hid (show Below w.heap.size w (w.alloc (.cells #[.int .i64 t.op, .int .i64 t.n, .string t.s, .slice na nn nc, .slice la ln lc] 27)) from (Below.refl _ _).alloc (Nat.le_refl _) _)
  clear hv hc
  go_enter Tryz.func144, Tryz.ntmps144
  go_wp2_with (go_at_call 34; refine (belongs_any _ _ _).mono ?_; rintro e w2 ⟨rfl, rfl⟩)
  go_ret
  exact ⟨rfl, HB.out⟩
def allOfFn (c : Int) (cb : Nat) : SynFn where
  fid := 144
  cb := cb
  p t := Pl.bel t.op c
  J w := Blk w cb 3 #[.int .i64 c]
  enter := fun args w => by kernel_rfl
  keep := fun w w' h hb => h.of_eq (hb.block _ h.lt)
  calls := fun P t v w hJ _ hv => allOf1_any c cb P t v w hJ hv
set_option maxHeartbeats 2000000 in
theorem allOf_any (P : Nat → Prop) (v : Value) (l : List Syn) (c : Int) (w : World) (hP : ∀ b, P b → b < w.heap.size) (h : SynSl w P v l) :
    Calls Tryz.prog 131 #[v, .int .i64 c] w fun e w' => e = .returned (.bool (Pl.allOf l c)) ∧ Below w.heap.size w w' := by
  have hb : Below w.heap.size w (w.alloc (.cells #[.int .i64 c] 3)) := (Below.refl _ _).alloc (Nat.le_refl _) _
  have HC := Lib.hid (allSyn_any (allOfFn c w.heap.size) P v l _ (blk_new w #[.int .i64 c] 3) (fun b hb' => Nat.lt_of_lt_of_le (hP b hb') hb.size) (h.keep (Same.of_below hb hP)))
  rw [show (allOfFn c w.heap.size).fid = 144 from rfl, show (allOfFn c w.heap.size).cb = w.heap.size from rfl, show l.all (allOfFn c w.heap.size).p = Pl.allOf l c from rfl] at HC
  have HB := Lib.hid hb
  clear hb h hP
  go_enter Tryz.func131, Tryz.ntmps131
  go_wp2_with fail
  refine HC.out.mono ?_
  rintro e w2 ⟨rfl, hb2⟩
  have HB2 := Lib.hid (HB.out.trans (hb2.mono HB.out.size))
  clear hb2
  go_wp2
  go_ret
  exact ⟨rfl, HB2.out⟩
theorem contains_ints (w : World) (u : Value) (ks : List Int) (x : Int) (h : IntSl w u ks) : Calls Tryz.prog 146 #[u, .int .i64 x] w fun e w' => e = .returned (.bool (ks.contains x)) ∧ w = w' := by
  obtain ⟨a, c, rfl, h1, h2⟩ := h
  rcases h2 with rfl | ⟨b, off, rfl, -, h3⟩
  · refine (Tryz.slices_Contains_int_empty a c x w).mono ?_
    rintro e w' ⟨rfl, rfl⟩
    exact ⟨rfl, rfl⟩
  · have := Tryz.slices_Contains_int b off ks.length c ks x w (Nat.le_refl _) (by omega) (fun j hj => by rw [h3 j hj]; simp [List.getD, hj])
    rw [List.take_length] at this
    refine this.mono ?_
    rintro e w' ⟨rfl, rfl⟩
    exact ⟨rfl, rfl⟩
set_option maxHeartbeats 2000000 in
theorem areKinds1_any (ks : List Int) (u : Value) (cb : Nat) (P : Nat → Prop) (t : Syn) (v : Value) (w : World) (hc : Blk w cb 51 #[u]) (hu : IntSl w u ks) (hv : SynV w P t v) :
    Calls Tryz.prog 145 #[v, .pointer (some ⟨cb, 0, none⟩)] w fun e w' => e = .returned (.bool (ks.contains t.op)) ∧ Below w.heap.size w w' := by
  obtain ⟨na, nn, nc, la, ln, lc, rfl⟩ := hv.form
  have c0 := (hc.alloc (.cells #[.int .i64 t.op, .int .i64 t.n, .string t.s, .slice na nn nc, .slice la ln lc] 27)).cell 0 _ rfl
  have hb : Below w.heap.size w (w.alloc (.cells #[.int .i64 t.op, .int .i64 t.n, .string t.s, .slice na nn nc, .slice la ln lc] 27)) := (Below.refl _ _).alloc (Nat.le_refl _) _
  have HC := Lib.hid (contains_ints _ u ks t.op (hu.below hb))
  have HB := Lib.hid hb
  generalize ks.contains t.op = r at HC ⊢
  clear hv hc hu hb
  go_enter Tryz.func145, Tryz.ntmps145
  go_wp2_with fail
  refine HC.out.mono ?_
  rintro e w2 ⟨rfl, rfl⟩
  go_wp2
  go_ret
  exact ⟨rfl, HB.out⟩
def kindsFn (ks : List Int) (u : Value) (cb : Nat) : SynFn where
  fid := 145
  cb := cb
  p t := ks.contains t.op
  J w := Blk w cb 51 #[u] ∧ IntSl w u ks
  enter := fun args w => by kernel_rfl
  keep := fun w w' h hb => ⟨h.1.of_eq (hb.block _ h.1.lt), h.2.below hb⟩
  calls := fun P t v w hJ _ hv => areKinds1_any ks u cb P t v w hJ.1 hJ.2 hv
set_option maxHeartbeats 2000000 in
theorem areKinds_any (P : Nat → Prop) (v u : Value) (l : List Syn) (ks : List Int) (w : World) (hP : ∀ b, P b → b < w.heap.size) (h : SynSl w P v l) (hu : IntSl w u ks) :
    Calls Tryz.prog 133 #[v, u] w fun e w' => e = .returned (.bool (Pl.kinds l ks)) ∧ Below w.heap.size w w' := by
  have hb : Below w.heap.size w (w.alloc (.cells #[u] 51)) := (Below.refl _ _).alloc (Nat.le_refl _) _
  have HC := Lib.hid (allSyn_any (kindsFn ks u w.heap.size) P v l _ ⟨blk_new w #[u] 51, hu.below hb⟩ (fun b hb' => Nat.lt_of_lt_of_le (hP b hb') hb.size) (h.keep (Same.of_below hb hP)))
  rw [show (kindsFn ks u w.heap.size).fid = 145 from rfl, show (kindsFn ks u w.heap.size).cb = w.heap.size from rfl, show l.all (kindsFn ks u w.heap.size).p = Pl.kinds l ks from rfl] at HC
  obtain ⟨a, c, rfl, -⟩ := hu
  have HB := Lib.hid hb
  clear hb h hP
  go_enter Tryz.func133, Tryz.ntmps133
  go_wp2_with fail
  refine HC.out.mono ?_
  rintro e w2 ⟨rfl, hb2⟩
  have HB2 := Lib.hid (HB.out.trans (hb2.mono HB.out.size))
  clear hb2
  go_wp2
  go_ret
  exact ⟨rfl, HB2.out⟩
set_option maxHeartbeats 2000000 in
theorem isTuple_any (P : Nat → Prop) (v : Value) (l : List Syn) (c : Int) (w : World) (hP : ∀ b, P b → b < w.heap.size) (h : SynSl w P v l) :
    Calls Tryz.prog 132 #[v, .int .i64 c] w fun e w' => e = .returned (.bool (Pl.tuple l c)) ∧ Below w.heap.size w w' := by
  have HC := Lib.hid (allOf_any P v l c w hP h)
  have HT := Lib.hid (show Pl.tuple l c = (decide (2 ≤ l.length ∧ l.length ≤ 9) && Pl.allOf l c) from rfl)
  have HBL := Lib.hid (Below.refl w.heap.size w)
  obtain ⟨a, lc, rfl, hm⟩ := h.form
  unfold maxLen at hm
  generalize Pl.tuple l c = rt at *
  generalize Pl.allOf l c = ra at *
  generalize l.length = n at *
  clear h hP
  by_cases hn : 2 ≤ n ∧ n ≤ 9
  · go_enter Tryz.func132, Tryz.ntmps132
    go_wp2_with fail
    refine HC.out.mono ?_
    rintro e w2 ⟨rfl, hb2⟩
    have HB2 := Lib.hid hb2
    clear hb2
    go_wp2
    go_ret
    exact ⟨ret_bool (by rw [HT.out, decide_eq_true hn]; rfl), HB2.out⟩
  · rw [decide_eq_false hn] at HT
    by_cases h2 : n < 2
    · have q : decide ((2 : Int) ≤ (n : Int)) = false := by simp; omega
      go_enter Tryz.func132, Tryz.ntmps132
      go_wp2
      go_ret
      exact ⟨ret_bool (by rw [HT.out]; rfl), HBL.out⟩
    · have q : decide ((n : Int) ≤ 9) = false := by simp; omega
      go_enter Tryz.func132, Tryz.ntmps132
      go_wp2
      go_ret
      exact ⟨ret_bool (by rw [HT.out]; rfl), HBL.out⟩
end Go.Proofs.YtjedahcpkcgpeaaGreatDoor
