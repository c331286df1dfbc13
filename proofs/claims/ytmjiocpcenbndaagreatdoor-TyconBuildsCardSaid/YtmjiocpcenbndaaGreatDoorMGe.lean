/-
  Several texts in one (Yf Yc Yg Yh Ry Na Vl Yi Yj Vm).
-/
import Derived.Test.YtmjiocpcenbndaaGreatDoorMGd
import Derived.Test.YtmjiocpcenbndaaGreatDoorMGb
import Derived.Deep.RegionHeld3
import Derived.Test.YtmjiocpcenbndaaGreatDoorMGa
import Derived.Test.YtmjiocpcenbndaaGreatDoorQn
namespace Go.Proofs.YtmjiocpcenbndaaGreatDoor
open Go Go.RowKit
open Pl (K Con)
set_option linter.unusedSimpArgs false
set_option linter.unusedVariables false

/-- a constructor is answered -/
def AnsC (x : Con) (w : World) (e : Ending) (w' : World) : Prop := (∃ y, e = .returned y ∧ ConV w' (· < w'.heap.size) x y) ∧ Below w.heap.size w w'
theorem row9_low {w : World} {B z n : Nat} {T : TypeId} {v : Value} {us : List Value} (h : w.ownsRow B T z v n us) : ∀ g, v.ownBlock = some g → B ≤ g ∧ g < w.heap.size := by
  intro g hg
  rcases h.2 with ⟨rfl, _⟩ | ⟨g', cap, cur, rfl, hB, hb, _⟩
  · cases hg
  · have e : g' = g := by simpa [Value.ownBlock] using hg
    subst e
    exact ⟨hB, Blk.lt hb⟩
theorem row9_keep {w w' : World} {B z n : Nat} {T : TypeId} {v : Value} {us : List Value} (h : w.ownsRow B T z v n us) (hk : ∀ g, v.ownBlock = some g → w'.heap[g]? = w.heap[g]?) : w'.ownsRow B T z v n us := by
  refine ⟨h.1, ?_⟩
  rcases h.2 with h0 | ⟨g, cap, cur, rfl, hB, hb, h3⟩
  · exact .inl h0
  · exact .inr ⟨g, cap, cur, rfl, hB, (hk g rfl).trans hb, h3⟩
theorem row9_form {w : World} {B z n : Nat} {T : TypeId} {v : Value} {us : List Value} (h : w.ownsRow B T z v n us) : ∃ a c, v = .slice a n c ∧ n ≤ c := by
  rcases h.2 with ⟨hv, h0⟩ | ⟨g, cap, cur, hv, _, _, hnc, _⟩
  · exact ⟨none, 0, by rw [hv, h0], by omega⟩
  · exact ⟨_, _, hv, hnc⟩
theorem infoStrT : (Tryz.prog.info? 9).map (fun i => (i.zero, i.size, i.bytes)) = some (some (.string ByteArray.empty), 1, 16) := by kernel_rfl
theorem strSl_rowT {w : World} {B : Nat} {v : Value} {zs : List ByteArray} (h : w.ownsRow B 9 1 v zs.length (zs.map Value.string)) (hs : ∀ z ∈ zs, z.size ≤ maxLen) : StrSl w (fun q => B ≤ q ∧ q < w.heap.size) v zs := by
  have hc := h
  rcases h.2 with ⟨rfl, h0⟩ | ⟨g, cap, cu, rfl, hbg, hg, hnc, hcm, hcs, htake⟩
  · obtain rfl : zs = [] := List.eq_nil_of_length_eq_zero h0
    exact ⟨none, 0, rfl, Nat.le_refl _, Nat.zero_le _, fun _ => rfl, (fun z hz => by cases hz), .inl rfl⟩
  · refine ⟨_, cap, rfl, hnc, hcm, (fun h => by cases h), hs, .inr ⟨g, 0, rfl, ⟨hbg, (hc.lt g rfl).2⟩, fun j hj => ?_⟩⟩
    rw [Nat.zero_add, hc.cellAt j (by omega), List.getElem?_map, List.getElem?_eq_getElem hj]
    rfl
/-- what stays but for a box and a row's own block -/
structure Oth (BX : Nat) (nv : Value) (w w' : World) : Prop where
  os : w'.os = w.os
  tape : w'.tape = w.tape
  output : w'.output = w.output
  size : w.heap.size ≤ w'.heap.size
  block : ∀ q, q < w.heap.size → q ≠ BX → nv.ownBlock ≠ some q → w'.heap[q]? = w.heap[q]?
theorem Oth.below {BX B0 : Nat} {nv : Value} {w wr w9 : World} (h : Oth BX nv wr w9) (hb : Below B0 w wr) (h1 : B0 ≤ BX) (h2 : ∀ q, nv.ownBlock = some q → B0 ≤ q) (hs : B0 ≤ wr.heap.size) : Below B0 w w9 :=
  ⟨h.os.trans hb.os, h.tape.trans hb.tape, h.output.trans hb.output, Nat.le_trans hb.size h.size, fun q hq => (h.block q (by omega) (by omega) (fun e => by have := h2 q e; omega)).trans (hb.block q hq)⟩
theorem Oth.row {BX B z n : Nat} {T : TypeId} {nv lv : Value} {us : List Value} {w w' : World} (h : Oth BX nv w w') (hr : w.ownsRow B T z lv n us) (hB : BX < B) (hd : ∀ q, nv.ownBlock = some q → lv.ownBlock ≠ some q) : w'.ownsRow B T z lv n us :=
  row9_keep hr (fun g hg => h.block g (row9_low hr g hg).2 (by have := (row9_low hr g hg).1; omega) (fun e => hd g e hg))
/-- a record's box -/
def recB (nv lv : Value) : Array Value := #[.int .i64 7, .int .i64 0, .string ⟨#[]⟩, .slice none 0 0, nv, lv]
/-- one more name -/
theorem name_step {BX B k gg cap : Nat} {nv lv : Value} {s : ByteArray} {wr wd w8 : World} (hbx : Blk wr BX 28 (recB nv lv)) (hB : BX < B) (hrow : wr.ownsRow B 9 1 nv k ((digits k).map Value.string)) (hd : Below wr.heap.size wr wd) (hs : s = digitS (k + 1))
    (hown : w8.ownsRow B 9 1 (.slice (some ⟨gg, 0, none⟩) (k + 1) cap) (k + 1) ((digits k).map Value.string ++ [.string s])) (hgrow : (wd.alloc (.cells #[.string s] 9)).grownBy w8 nv.ownBlock) (hat : nv.ownBlock = some gg ∨ gg = wd.heap.size + 1) :
    Blk w8 BX 28 (recB nv lv) ∧ Blk (w8.setCell ⟨BX, 4, none⟩ (.slice (some ⟨gg, 0, none⟩) (k + 1) cap)) BX 28 (recB (.slice (some ⟨gg, 0, none⟩) (k + 1) cap) lv) ∧
    (w8.setCell ⟨BX, 4, none⟩ (.slice (some ⟨gg, 0, none⟩) (k + 1) cap)).ownsRow B 9 1 (.slice (some ⟨gg, 0, none⟩) (k + 1) cap) (k + 1) ((digits (k + 1)).map Value.string) ∧
    Oth BX nv wr (w8.setCell ⟨BX, 4, none⟩ (.slice (some ⟨gg, 0, none⟩) (k + 1) cap)) ∧ (nv.ownBlock = some gg ∨ wr.heap.size ≤ gg) := by
  have hbl := hbx.lt
  have hds := hd.size
  have h8 : Blk w8 BX 28 (recB nv lv) := ((hbx.of_eq (hd.block _ hbl)).alloc (.cells #[.string s] 9)).of_eq (hgrow.block BX (by rw [size_alloc]; omega) (fun e => by have := (row9_low hrow BX e.symm).1; omega))
  refine ⟨h8, ?_, ?_, ?_, ?_⟩
  · have h9 := h8.set 4 (.slice (some ⟨gg, 0, none⟩) (k + 1) cap)
    exact h9
  · refine row9_keep ?_ (fun g hg => Below.heap_setCell _ _ _ _ (by have := (row9_low hown g hg).1; show g ≠ BX; omega))
    rw [digits_succ, List.map_append, ← hs]
    exact hown
  · refine ⟨?_, ?_, ?_, ?_, fun q hq hqb hqn => ?_⟩
    · exact hgrow.os.trans hd.os
    · exact hgrow.tape.trans hd.tape
    · exact hgrow.output.trans hd.output
    · rw [size_set]
      have := hgrow.size
      rw [size_alloc] at this
      omega
    · rw [Below.heap_setCell _ _ _ _ (by show q ≠ BX; exact hqb), hgrow.block q (by rw [size_alloc]; omega) (fun e => hqn e.symm), Below.heap_alloc wd _ q (by omega)]
      exact hd.block q hq
  · rcases hat with h | h
    · exact .inl h
    · exact .inr (by omega)
/-- one more part -/
theorem part_step {BX B k gg cap : Nat} {nv lv x0 x1 x2 x3 x4 x5 : Value} {us : List Value} {wr wd w8 : World} (hbx : Blk wr BX 28 (recB nv lv)) (hB : BX < B) (hrow : wr.ownsRow B 28 6 lv k us) (hd : Below wr.heap.size wr wd)
    (hown : w8.ownsRow B 28 6 (.slice (some ⟨gg, 0, none⟩) (k + 1) cap) (k + 1) (us ++ [x0, x1, x2, x3, x4, x5])) (hgrow : (wd.alloc (.cells #[x0, x1, x2, x3, x4, x5] 28)).grownBy w8 lv.ownBlock) (hat : lv.ownBlock = some gg ∨ gg = wd.heap.size + 1) :
    Blk w8 BX 28 (recB nv lv) ∧ Blk (w8.setCell ⟨BX, 5, none⟩ (.slice (some ⟨gg, 0, none⟩) (k + 1) cap)) BX 28 (recB nv (.slice (some ⟨gg, 0, none⟩) (k + 1) cap)) ∧
    (w8.setCell ⟨BX, 5, none⟩ (.slice (some ⟨gg, 0, none⟩) (k + 1) cap)).ownsRow B 28 6 (.slice (some ⟨gg, 0, none⟩) (k + 1) cap) (k + 1) (us ++ [x0, x1, x2, x3, x4, x5]) ∧
    Oth BX lv wr (w8.setCell ⟨BX, 5, none⟩ (.slice (some ⟨gg, 0, none⟩) (k + 1) cap)) ∧ (lv.ownBlock = some gg ∨ wr.heap.size ≤ gg) := by
  have hbl := hbx.lt
  have hds := hd.size
  have h8 : Blk w8 BX 28 (recB nv lv) := ((hbx.of_eq (hd.block _ hbl)).alloc (.cells #[x0, x1, x2, x3, x4, x5] 28)).of_eq (hgrow.block BX (by rw [size_alloc]; omega) (fun e => by have := (row9_low hrow BX e.symm).1; omega))
  refine ⟨h8, ?_, ?_, ?_, ?_⟩
  · have h9 := h8.set 5 (.slice (some ⟨gg, 0, none⟩) (k + 1) cap)
    exact h9
  · exact row9_keep hown (fun g hg => Below.heap_setCell _ _ _ _ (by have := (row9_low hown g hg).1; show g ≠ BX; omega))
  · refine ⟨hgrow.os.trans hd.os, hgrow.tape.trans hd.tape, hgrow.output.trans hd.output, ?_, fun q hq hqb hqn => ?_⟩
    · rw [size_set]
      have := hgrow.size
      rw [size_alloc] at this
      omega
    · rw [Below.heap_setCell _ _ _ _ (by show q ≠ BX; exact hqb), hgrow.block q (by rw [size_alloc]; omega) (fun e => hqn e.symm), Below.heap_alloc wd _ q (by omega)]
      exact hd.block q hq
  · rcases hat with h | h
    · exact .inl h
    · exact .inr (by omega)
theorem ConSl.drew9 {w : World} {P : Nat → Prop} {v : Value} {l : List Con} (h : ConSl w P v l) : ConSl w.drew P v l := ConSl.keep (w := w) (w' := w.drew) (fun _ _ => rfl) h
theorem size_drew9 (w : World) : w.drew.heap.size = w.heap.size := rfl
/-- the record in memory -/
theorem rec_con {w : World} {R : Nat → Prop} {nv lv : Value} {l : List Con} (hn : StrSl w R nv (digits l.length)) (hl : ConSl w R lv l) : ConV w R (tupC l) (.agg #[.int .i64 7, .int .i64 0, .string ⟨#[]⟩, .slice none 0 0, nv, lv]) := by
  rw [conV_iff]
  exact ⟨Nat.zero_le _, _, _, _, rfl, kidV_none _ _, hn, hl⟩
end Go.Proofs.YtmjiocpcenbndaaGreatDoor
namespace Go.Proofs.YtmjiocpcenbndaaGreatDoor
open Go Go.RowKit
open Pl (K Con)
set_option linter.unusedSimpArgs false
set_option linter.unusedVariables false

set_option maxRecDepth 100000 in
set_option maxHeartbeats 1000000 in
theorem rapps_any (t : Con) (l : List Con) (w : World) (v xv : Value) (ht : ConV w (· < w.heap.size) t v) (hl : ConSl w (· < w.heap.size) xv l) :
    Calls Tryz.prog 20 #[v, xv] w (AnsC (appsC t l) w) := by
  have HT := Lib.hid (fun W (hW : Below w.heap.size w W) => (ht.keep (Same.of_below hW (fun _ h => h))))
  have HSL := Lib.hid (fun W (hW : Below w.heap.size w W) => hl.keep (Same.of_below hW (fun _ h => h)))
  obtain ⟨ka, kn, kc, na, nn, nc, la, ln, lc, rfl, -, -, -⟩ := ht.shape
  obtain ⟨sa, lc9, rfl, hmn, hmx, -⟩ := hl.each
  obtain ⟨n, hn⟩ : ∃ n, n = l.length := ⟨_, rfl⟩
  have HN := Lib.hid hn
  have hn63 : n ≤ 9223372036854775807 := by unfold maxLen at hmx; omega
  rw [← hn] at HSL ⊢
  obtain ⟨hbx, hbx2, hb⟩ := twoN_new w 28 28 #[.int .i64 t.op, .int .i64 t.n, .string t.s, .slice ka kn kc, .slice na nn nc, .slice la ln lc] #[.int .i64 0, .int .i64 0, .string ⟨#[]⟩, .slice none 0 0, .slice none 0 0, .slice none 0 0]
  have HZ := Lib.hid hbx2
  have HB := Lib.hid hb
  have hT4 := HT.out _ hb
  clear ht hl hmx hmn hn
  go_enter Tryz.func20, Tryz.ntmps20
  go_upto_region 1 with fail
  generalize (w.alloc (.cells #[.int .i64 t.op, .int .i64 t.n, .string t.s, .slice ka kn kc, .slice na nn nc, .slice la ln lc] 28)).alloc (.cells #[.int .i64 0, .int .i64 0, .string ⟨#[]⟩, .slice none 0 0, .slice none 0 0, .slice none 0 0] 28) = w1 at *
  go_upto_region 2 with fail
  go_loopg [5] (n + 1) (fun gk i wr => ∃ (k : Nat) (ka : Option Addr) (kn kc : Nat) (na : Option Addr) (nn nc : Nat) (la : Option Addr) (ln lc : Nat), k ≤ n ∧ i = .int .i64 k ∧ gk = n + 1 - k ∧ Blk wr w.heap.size 28 #[.int .i64 (appsC t (l.take k)).op, .int .i64 (appsC t (l.take k)).n, .string (appsC t (l.take k)).s, .slice ka kn kc, .slice na nn nc, .slice la ln lc] ∧ Blk wr (w.heap.size + 1) 28 #[.int .i64 0, .int .i64 0, .string ⟨#[]⟩, .slice none 0 0, .slice none 0 0, .slice none 0 0] ∧ ConV wr (fun q => q < wr.heap.size ∧ q ≠ w.heap.size ∧ q ≠ w.heap.size + 1) (appsC t (l.take k)) (.agg #[.int .i64 (appsC t (l.take k)).op, .int .i64 (appsC t (l.take k)).n, .string (appsC t (l.take k)).s, .slice ka kn kc, .slice na nn nc, .slice la ln lc]) ∧ Below w.heap.size w wr)
  case atStart => exact ⟨0, _, _, _, _, _, _, _, _, _, Nat.zero_le _, rfl, by omega, by rw [List.take_zero]; exact hbx, HZ.out, by rw [List.take_zero]; exact hT4.mono (fun q hq => ⟨by have : q < w.heap.size := hq; have := HB.out.size; omega, by have : q < w.heap.size := hq; omega, by have : q < w.heap.size := hq; omega⟩), HB.out⟩
  case round =>
    obtain ⟨k, ka2, kn2, kc2, na2, nn2, nc2, la2, ln2, lc2, hk, rfl, hgk, hbk, hzk, hck, hbw⟩ := hrel
    have HBK := Lib.hid hbk
    have HZK := Lib.hid hzk
    have HCK := Lib.hid hck
    have HBW := Lib.hid hbw
    clear hbk hzk hck hbw hbx hT4 hbx2 hb
    by_cases hlt : k < n
    · have hkl : k < l.length := by rw [← HN.out]; exact hlt
      have q5 : decide ((k : Int) < (n : Int)) = true := decide_eq_true (by omega)
      obtain ⟨b, off, c', ya, yn, yc, za, zn, zc, pa, pn, pc, e, hPb, f0, f1, f2, f3, f4, f5, hx⟩ := (HSL.out wr HBW.out).part k hkl
      injection e with e1 e2 e3
      subst e1 e3
      clear e2
      have HTK := Lib.hid (show appsC t (l.take (k + 1)) = ap (appsC t (l.take k)) l[k] from by rw [List.take_succ_eq_append_getElem hkl, appsC_snoc])
      obtain ⟨u, hu⟩ : ∃ u, u = l[k] := ⟨_, rfl⟩
      rw [← hu] at f0 f1 f2 hx HTK
      have HX := Lib.hid hx
      clear hu hx
      obtain ⟨cc, hcc⟩ : ∃ c, c = appsC t (l.take k) := ⟨_, rfl⟩
      rw [← hcc] at HBK HCK HTK
      clear hcc
      have c0 := HBK.out.cell 0 (.int .i64 cc.op) rfl
      have c1 := HBK.out.cell 1 (.int .i64 cc.n) rfl
      have c2 := HBK.out.cell 2 (.string cc.s) rfl
      have c3 := HBK.out.cell 3 (.slice ka2 kn2 kc2) rfl
      have c4 := HBK.out.cell 4 (.slice na2 nn2 nc2) rfl
      have c5 := HBK.out.cell 5 (.slice la2 ln2 lc2) rfl
      obtain ⟨hbs, hb6⟩ := boxN_new wr 28 #[.int .i64 cc.op, .int .i64 cc.n, .string cc.s, .slice ka2 kn2 kc2, .slice na2 nn2 nc2, .slice la2 ln2 lc2, .int .i64 u.op, .int .i64 u.n, .string u.s, .slice ya yn yc, .slice za zn zc, .slice pa pn pc]
      have hbk6 := HBK.out.alloc (.cells #[.int .i64 cc.op, .int .i64 cc.n, .string cc.s, .slice ka2 kn2 kc2, .slice na2 nn2 nc2, .slice la2 ln2 lc2, .int .i64 u.op, .int .i64 u.n, .string u.s, .slice ya yn yc, .slice za zn zc, .slice pa pn pc] 28)
      have hzk6 := HZK.out.alloc (.cells #[.int .i64 cc.op, .int .i64 cc.n, .string cc.s, .slice ka2 kn2 kc2, .slice na2 nn2 nc2, .slice la2 ln2 lc2, .int .i64 u.op, .int .i64 u.n, .string u.s, .slice ya yn yc, .slice za zn zc, .slice pa pn pc] 28)
      have hsz6 := size_alloc wr (.cells #[.int .i64 cc.op, .int .i64 cc.n, .string cc.s, .slice ka2 kn2 kc2, .slice na2 nn2 nc2, .slice la2 ln2 lc2, .int .i64 u.op, .int .i64 u.n, .string u.s, .slice ya yn yc, .slice za zn zc, .slice pa pn pc] 28)
      have hzl := HZK.out.lt
      have HSL2 := Lib.hid (cons_two (P := fun q => q < wr.heap.size + 1 ∧ q ≠ w.heap.size ∧ q ≠ w.heap.size + 1) hbs ⟨by omega, by omega, by omega⟩ ((HCK.out.keep (Same.of_below hb6 (fun q hq => hq.1))).mono (fun q hq => ⟨by have := hq.1; omega, hq.2⟩)) ((HX.out.keep (Same.of_below hb6 (fun q (h : q < w.heap.size) => by omega))).mono (fun q hq => ⟨by have : q < w.heap.size := hq; omega, by have : q < w.heap.size := hq; omega, by have : q < w.heap.size := hq; omega⟩)))
      have t0 := hbk6.thaw 0
      have t1 := hbk6.thaw 1
      have t2 := hbk6.thaw 2
      have t3 := hbk6.thaw 3
      have t4 := hbk6.thaw 4
      have t5 := hbk6.thaw 5
      have r0 := hbk6.cell 0 (.int .i64 cc.op) rfl
      have r1 := hbk6.cell 1 (.int .i64 cc.n) rfl
      have r2 := hbk6.cell 2 (.string cc.s) rfl
      have r3 := hbk6.cell 3 (.slice ka2 kn2 kc2) rfl
      have r4 := hbk6.cell 4 (.slice na2 nn2 nc2) rfl
      have r5 := hbk6.cell 5 (.slice la2 ln2 lc2) rfl
      have hz := store6_blk hbk6 0 (.int .i64 12) (.int .i64 0) (.string ⟨#[]⟩) (.slice none 0 0) (.slice none 0 0) (.slice (some ⟨wr.heap.size, 0, none⟩) 2 2)
      rw [put6_all] at hz
      have hbe := store6_below (belowStep hb6 HBW.out) w.heap.size 0 (.int .i64 12) (.int .i64 0) (.string ⟨#[]⟩) (.slice none 0 0) (.slice none 0 0) (.slice (some ⟨wr.heap.size, 0, none⟩) 2 2) (Nat.le_refl _)
      have hzz := hzk6.of_eq (store6_other (wr.alloc (.cells #[.int .i64 cc.op, .int .i64 cc.n, .string cc.s, .slice ka2 kn2 kc2, .slice na2 nn2 nc2, .slice la2 ln2 lc2, .int .i64 u.op, .int .i64 u.n, .string u.s, .slice ya yn yc, .slice za zn zc, .slice pa pn pc] 28)) w.heap.size 0 (.int .i64 12) (.int .i64 0) (.string ⟨#[]⟩) (.slice none 0 0) (.slice none 0 0) (.slice (some ⟨wr.heap.size, 0, none⟩) 2 2) _ (by omega))
      have hcv : ConSl (store6 (wr.alloc (.cells #[.int .i64 cc.op, .int .i64 cc.n, .string cc.s, .slice ka2 kn2 kc2, .slice na2 nn2 nc2, .slice la2 ln2 lc2, .int .i64 u.op, .int .i64 u.n, .string u.s, .slice ya yn yc, .slice za zn zc, .slice pa pn pc] 28)) w.heap.size 0 (.int .i64 12) (.int .i64 0) (.string ⟨#[]⟩) (.slice none 0 0) (.slice none 0 0) (.slice (some ⟨wr.heap.size, 0, none⟩) 2 2)) (fun q => q < wr.heap.size + 1 ∧ q ≠ w.heap.size ∧ q ≠ w.heap.size + 1) (.slice (some ⟨wr.heap.size, 0, none⟩) 2 2) [cc, u] := HSL2.out.keep (fun q hq => store6_other _ _ _ _ _ _ _ _ _ q hq.2.1)
      have hss := store6_size (wr.alloc (.cells #[.int .i64 cc.op, .int .i64 cc.n, .string cc.s, .slice ka2 kn2 kc2, .slice na2 nn2 nc2, .slice la2 ln2 lc2, .int .i64 u.op, .int .i64 u.n, .string u.s, .slice ya yn yc, .slice za zn zc, .slice pa pn pc] 28)) w.heap.size 0 (.int .i64 12) (.int .i64 0) (.string ⟨#[]⟩) (.slice none 0 0) (.slice none 0 0) (.slice (some ⟨wr.heap.size, 0, none⟩) 2 2)
      have hcv2 : ConSl (store6 (wr.alloc (.cells #[.int .i64 cc.op, .int .i64 cc.n, .string cc.s, .slice ka2 kn2 kc2, .slice na2 nn2 nc2, .slice la2 ln2 lc2, .int .i64 u.op, .int .i64 u.n, .string u.s, .slice ya yn yc, .slice za zn zc, .slice pa pn pc] 28)) w.heap.size 0 (.int .i64 12) (.int .i64 0) (.string ⟨#[]⟩) (.slice none 0 0) (.slice none 0 0) (.slice (some ⟨wr.heap.size, 0, none⟩) 2 2)).drew (fun q => q < wr.heap.size + 1 ∧ q ≠ w.heap.size ∧ q ≠ w.heap.size + 1) (.slice (some ⟨wr.heap.size, 0, none⟩) 2 2) [cc, u] := hcv.drew9
      have hss2 : (store6 (wr.alloc (.cells #[.int .i64 cc.op, .int .i64 cc.n, .string cc.s, .slice ka2 kn2 kc2, .slice na2 nn2 nc2, .slice la2 ln2 lc2, .int .i64 u.op, .int .i64 u.n, .string u.s, .slice ya yn yc, .slice za zn zc, .slice pa pn pc] 28)) w.heap.size 0 (.int .i64 12) (.int .i64 0) (.string ⟨#[]⟩) (.slice none 0 0) (.slice none 0 0) (.slice (some ⟨wr.heap.size, 0, none⟩) 2 2)).drew.heap.size = wr.heap.size + 1 := (size_drew9 _).trans (hss.trans hsz6)
      have HE := Lib.hid (And.intro hz.drew (And.intro hzz.drew (And.intro hbe.drew (And.intro hcv2 hss2))))
      unfold store6 at HE
      simp only [Nat.zero_add] at HE
      clear hz hzz hbe hcv hss hcv2 hss2 hbs hb6 hbk6 hzk6 hsz6 hzl HSL2 HX HCK HBK
      go_upto_region 4 with fail
      go_region
      go_wp2
      go_roundg (gk - 1)
      case measure => omega
      case rel =>
        obtain ⟨h1, h1z, h2, h3, h4⟩ := HE.out
        refine ⟨k + 1, none, 0, 0, none, 0, 0, some ⟨wr.heap.size, 0, none⟩, 2, 2, by omega, by go_num, by omega, by rw [HTK.out]; exact h1, h1z, ?_, h2⟩
        rw [HTK.out]
        rw [h4]
        exact (conV_iff _ _ _ _).2 ⟨Nat.zero_le _, _, _, _, rfl, kidV_none _ _, ⟨none, 0, rfl, Nat.le_refl _, Nat.zero_le _, fun _ => rfl, (fun z hz => by cases hz), .inl rfl⟩, h3⟩
    have hkn : k = n := by omega
    subst hkn
    have q5 : decide ((k : Int) < (k : Int)) = false := decide_eq_false (by omega)
    have hta : l.take k = l := List.take_of_length_le (by rw [HN.out]; exact Nat.le_refl _)
    rw [hta] at HBK HCK
    clear hta
    obtain ⟨cc, hcc⟩ : ∃ c, c = appsC t l := ⟨_, rfl⟩
    rw [← hcc] at HBK HCK
    have HCC := Lib.hid hcc
    clear hcc
    have c0 := HBK.out.cell 0 (.int .i64 cc.op) rfl
    have c1 := HBK.out.cell 1 (.int .i64 cc.n) rfl
    have c2 := HBK.out.cell 2 (.string cc.s) rfl
    have c3 := HBK.out.cell 3 (.slice ka2 kn2 kc2) rfl
    have c4 := HBK.out.cell 4 (.slice na2 nn2 nc2) rfl
    have c5 := HBK.out.cell 5 (.slice la2 ln2 lc2) rfl
    have t0 := HZK.out.thaw 0
    have t1 := HZK.out.thaw 1
    have t2 := HZK.out.thaw 2
    have t3 := HZK.out.thaw 3
    have t4 := HZK.out.thaw 4
    have t5 := HZK.out.thaw 5
    have r0 := HZK.out.cell 0 (.int .i64 0) rfl
    have r1 := HZK.out.cell 1 (.int .i64 0) rfl
    have r2 := HZK.out.cell 2 (.string ⟨#[]⟩) rfl
    have r3 := HZK.out.cell 3 (.slice none 0 0) rfl
    have r4 := HZK.out.cell 4 (.slice none 0 0) rfl
    have r5 := HZK.out.cell 5 (.slice none 0 0) rfl
    have hz := store6_blk HZK.out 0 (.int .i64 cc.op) (.int .i64 cc.n) (.string cc.s) (.slice ka2 kn2 kc2) (.slice na2 nn2 nc2) (.slice la2 ln2 lc2)
    rw [put6_all] at hz
    have hlt2 := HZK.out.lt
    have HE := Lib.hid (show AnsC cc w (.returned (.agg #[.int .i64 cc.op, .int .i64 cc.n, .string cc.s, .slice ka2 kn2 kc2, .slice na2 nn2 nc2, .slice la2 ln2 lc2])) (store6 wr (w.heap.size + 1) 0 (.int .i64 cc.op) (.int .i64 cc.n) (.string cc.s) (.slice ka2 kn2 kc2) (.slice na2 nn2 nc2) (.slice la2 ln2 lc2)) from ⟨⟨_, rfl, (HCK.out.keep (fun q hq => store6_other _ _ _ _ _ _ _ _ _ q hq.2.2)).mono (fun q hq => by rw [store6_size]; exact hq.1)⟩, store6_below HBW.out _ _ _ _ _ _ _ _ (Nat.le_succ _)⟩)
    unfold store6 at hz HE
    simp only [Nat.zero_add] at hz HE
    have z0 := hz.cell 0 (.int .i64 cc.op) rfl
    have z1 := hz.cell 1 (.int .i64 cc.n) rfl
    have z2 := hz.cell 2 (.string cc.s) rfl
    have z3 := hz.cell 3 (.slice ka2 kn2 kc2) rfl
    have z4 := hz.cell 4 (.slice na2 nn2 nc2) rfl
    have z5 := hz.cell 5 (.slice la2 ln2 lc2) rfl
    clear hz hlt2 HBK HCK HZK HBW
    go_wp2
    refine bodyPost_ret (v := .agg #[.int .i64 cc.op, .int .i64 cc.n, .string cc.s, .slice ka2 kn2 kc2, .slice na2 nn2 nc2, .slice la2 ln2 lc2]) (by simp [results, Tryz.results20, go_sem, z0, z1, z2, z3, z4, z5]) rfl ?_
    rw [← HCC.out]
    exact HE.out
end Go.Proofs.YtmjiocpcenbndaaGreatDoor
namespace Go.Proofs.YtmjiocpcenbndaaGreatDoor
open Go Go.RowKit
open Pl (K Con)
set_option linter.unusedSimpArgs false
set_option linter.unusedVariables false

set_option maxRecDepth 100000 in
set_option maxHeartbeats 4000000 in
theorem ctuple_any (l : List Con) (w : World) (xv : Value) (hl : ConSl w (· < w.heap.size) xv l) :
    Calls Tryz.prog 8 #[xv] w (OutF (tupOut l) w) := by
  have HALL := Lib.hid (fun W (hW : Below w.heap.size w W) => allC_any 32 (fun _ _ => by kernel_rfl) Con.validB (· < w.heap.size) l (fun t _ W v h1 h2 => cvalid_any (· < w.heap.size) t W v h1 h2) W xv (fun q hq => Nat.lt_of_lt_of_le hq hW.size) (hl.keep (Same.of_below hW (fun _ h => h))))
  have HO := Lib.hid (show tupOut l = if l.all Con.validB = true then (if l.length = 1 ∨ 9 < l.length then (Con.none0, 2) else outB (tupC l)) else (Con.none0, 1) from rfl)
  have HSL := Lib.hid (fun W (hW : Below w.heap.size w W) => hl.keep (Same.of_below hW (fun _ h => h)))
  obtain ⟨sa, lc9, rfl, hmn, hmx, -⟩ := hl.each
  obtain ⟨n, hn⟩ : ∃ n, n = l.length := ⟨_, rfl⟩
  have HN := Lib.hid hn
  have hn63 : n ≤ 9223372036854775807 := by unfold maxLen at hmx; omega
  rw [← hn] at HALL HSL ⊢
  obtain ⟨hbx2, hb⟩ := boxN_new w 28 #[.int .i64 0, .int .i64 0, .string ⟨#[]⟩, .slice none 0 0, .slice none 0 0, .slice none 0 0]
  have HZ := Lib.hid hbx2
  have HB := Lib.hid hb
  clear hbx2 hb hl hmx hmn hn
  go_enter Tryz.func8, Tryz.ntmps8
  go_upto_region 1 with fail
  generalize w.alloc (.cells #[.int .i64 0, .int .i64 0, .string ⟨#[]⟩, .slice none 0 0, .slice none 0 0, .slice none 0 0] 28) = w1 at *
  go_wp2_with fail
  refine (HALL.out _ HB.out).mono ?_
  rintro e w3 ⟨rfl, h3⟩
  replace HZ := Lib.hid (HZ.out.of_eq (h3.block _ HZ.out.lt))
  replace HB := Lib.hid (belowStep h3 HB.out)
  clear h3
  cases hlv : l.all Con.validB
  · have HO2 := Lib.hid (show tupOut l = (Con.none0, 1) from by rw [HO.out, if_neg (by rw [hlv]; simp)])
    have hzz := HZ.out
    have hz := store6_blk hzz 0 (.int .i64 0) (.int .i64 0) (.string ⟨#[]⟩) (.slice none 0 0) (.slice none 0 0) (.slice none 0 0)
    rw [put6_all] at hz
    have HE := Lib.hid (show OutF (tupOut l) w (.returned (.tuple #[.agg #[.int .i64 0, .int .i64 0, .string ⟨#[]⟩, .slice none 0 0, .slice none 0 0, .slice none 0 0], .int .i64 1])) (store6 w3 w.heap.size 0 (.int .i64 0) (.int .i64 0) (.string ⟨#[]⟩) (.slice none 0 0) (.slice none 0 0) (.slice none 0 0)) from ⟨⟨_, by rw [HO2.out], by rw [HO2.out]; exact (ownC_none _ _).con⟩, store6_below HB.out _ _ _ _ _ _ _ _ (Nat.le_refl _)⟩)
    unfold store6 at hz HE
    simp only [Nat.zero_add] at hz HE
    have z0 := hz.cell 0 (.int .i64 0) rfl
    have z1 := hz.cell 1 (.int .i64 0) rfl
    have z2 := hz.cell 2 (.string ⟨#[]⟩) rfl
    have z3 := hz.cell 3 (.slice none 0 0) rfl
    have z4 := hz.cell 4 (.slice none 0 0) rfl
    have z5 := hz.cell 5 (.slice none 0 0) rfl
    have r0 := hzz.cell 0 (.int .i64 0) rfl
    have r1 := hzz.cell 1 (.int .i64 0) rfl
    have r2 := hzz.cell 2 (.string ⟨#[]⟩) rfl
    have r3 := hzz.cell 3 (.slice none 0 0) rfl
    have r4 := hzz.cell 4 (.slice none 0 0) rfl
    have r5 := hzz.cell 5 (.slice none 0 0) rfl
    have t0 := hzz.thaw 0
    have t1 := hzz.thaw 1
    have t2 := hzz.thaw 2
    have t3 := hzz.thaw 3
    have t4 := hzz.thaw 4
    have t5 := hzz.thaw 5
    clear hz hzz HALL HO HZ HO2
    go_wp2
    refine bodyPost_ret (v := .tuple #[.agg #[.int .i64 0, .int .i64 0, .string ⟨#[]⟩, .slice none 0 0, .slice none 0 0, .slice none 0 0], .int .i64 1]) (by simp [results, Tryz.results8, go_sem, z0, z1, z2, z3, z4, z5]) rfl ?_
    exact HE.out
  have HLV := Lib.hid hlv
  clear hlv HALL
  by_cases h1 : n = 1
  · have q1 : ((n : Int) == 1) = true := by simp [h1]
    have HO2 := Lib.hid (show tupOut l = (Con.none0, 2) from by rw [HO.out, if_pos HLV.out, if_pos (.inl (by rw [← HN.out]; exact h1))])
    clear h1
    have hzz := HZ.out
    have hz := store6_blk hzz 0 (.int .i64 0) (.int .i64 0) (.string ⟨#[]⟩) (.slice none 0 0) (.slice none 0 0) (.slice none 0 0)
    rw [put6_all] at hz
    have HE := Lib.hid (show OutF (tupOut l) w (.returned (.tuple #[.agg #[.int .i64 0, .int .i64 0, .string ⟨#[]⟩, .slice none 0 0, .slice none 0 0, .slice none 0 0], .int .i64 2])) (store6 w3 w.heap.size 0 (.int .i64 0) (.int .i64 0) (.string ⟨#[]⟩) (.slice none 0 0) (.slice none 0 0) (.slice none 0 0)) from ⟨⟨_, by rw [HO2.out], by rw [HO2.out]; exact (ownC_none _ _).con⟩, store6_below HB.out _ _ _ _ _ _ _ _ (Nat.le_refl _)⟩)
    unfold store6 at hz HE
    simp only [Nat.zero_add] at hz HE
    have z0 := hz.cell 0 (.int .i64 0) rfl
    have z1 := hz.cell 1 (.int .i64 0) rfl
    have z2 := hz.cell 2 (.string ⟨#[]⟩) rfl
    have z3 := hz.cell 3 (.slice none 0 0) rfl
    have z4 := hz.cell 4 (.slice none 0 0) rfl
    have z5 := hz.cell 5 (.slice none 0 0) rfl
    have r0 := hzz.cell 0 (.int .i64 0) rfl
    have r1 := hzz.cell 1 (.int .i64 0) rfl
    have r2 := hzz.cell 2 (.string ⟨#[]⟩) rfl
    have r3 := hzz.cell 3 (.slice none 0 0) rfl
    have r4 := hzz.cell 4 (.slice none 0 0) rfl
    have r5 := hzz.cell 5 (.slice none 0 0) rfl
    have t0 := hzz.thaw 0
    have t1 := hzz.thaw 1
    have t2 := hzz.thaw 2
    have t3 := hzz.thaw 3
    have t4 := hzz.thaw 4
    have t5 := hzz.thaw 5
    clear hz hzz HO HZ HO2
    go_wp2
    refine bodyPost_ret (v := .tuple #[.agg #[.int .i64 0, .int .i64 0, .string ⟨#[]⟩, .slice none 0 0, .slice none 0 0, .slice none 0 0], .int .i64 2]) (by simp [results, Tryz.results8, go_sem, z0, z1, z2, z3, z4, z5]) rfl ?_
    exact HE.out
  have q1 : ((n : Int) == 1) = false := by simp; omega
  by_cases h9 : 9 < n
  · have q2 : decide ((9 : Int) < (n : Int)) = true := decide_eq_true (by omega)
    have HO2 := Lib.hid (show tupOut l = (Con.none0, 2) from by rw [HO.out, if_pos HLV.out, if_pos (.inr (by rw [← HN.out]; exact h9))])
    clear h1 h9
    have hzz := HZ.out
    have hz := store6_blk hzz 0 (.int .i64 0) (.int .i64 0) (.string ⟨#[]⟩) (.slice none 0 0) (.slice none 0 0) (.slice none 0 0)
    rw [put6_all] at hz
    have HE := Lib.hid (show OutF (tupOut l) w (.returned (.tuple #[.agg #[.int .i64 0, .int .i64 0, .string ⟨#[]⟩, .slice none 0 0, .slice none 0 0, .slice none 0 0], .int .i64 2])) (store6 w3 w.heap.size 0 (.int .i64 0) (.int .i64 0) (.string ⟨#[]⟩) (.slice none 0 0) (.slice none 0 0) (.slice none 0 0)) from ⟨⟨_, by rw [HO2.out], by rw [HO2.out]; exact (ownC_none _ _).con⟩, store6_below HB.out _ _ _ _ _ _ _ _ (Nat.le_refl _)⟩)
    unfold store6 at hz HE
    simp only [Nat.zero_add] at hz HE
    have z0 := hz.cell 0 (.int .i64 0) rfl
    have z1 := hz.cell 1 (.int .i64 0) rfl
    have z2 := hz.cell 2 (.string ⟨#[]⟩) rfl
    have z3 := hz.cell 3 (.slice none 0 0) rfl
    have z4 := hz.cell 4 (.slice none 0 0) rfl
    have z5 := hz.cell 5 (.slice none 0 0) rfl
    have r0 := hzz.cell 0 (.int .i64 0) rfl
    have r1 := hzz.cell 1 (.int .i64 0) rfl
    have r2 := hzz.cell 2 (.string ⟨#[]⟩) rfl
    have r3 := hzz.cell 3 (.slice none 0 0) rfl
    have r4 := hzz.cell 4 (.slice none 0 0) rfl
    have r5 := hzz.cell 5 (.slice none 0 0) rfl
    have t0 := hzz.thaw 0
    have t1 := hzz.thaw 1
    have t2 := hzz.thaw 2
    have t3 := hzz.thaw 3
    have t4 := hzz.thaw 4
    have t5 := hzz.thaw 5
    clear hz hzz HO HZ HO2
    go_wp2
    refine bodyPost_ret (v := .tuple #[.agg #[.int .i64 0, .int .i64 0, .string ⟨#[]⟩, .slice none 0 0, .slice none 0 0, .slice none 0 0], .int .i64 2]) (by simp [results, Tryz.results8, go_sem, z0, z1, z2, z3, z4, z5]) rfl ?_
    exact HE.out
  have q2 : decide ((9 : Int) < (n : Int)) = false := decide_eq_false (by omega)
  have HN9 := Lib.hid (show n ≤ 9 from by omega)
  have HOUT := Lib.hid (show tupOut l = outB (tupC l) from by rw [HO.out, if_pos HLV.out, if_neg (by rw [← HN.out]; omega)])
  have HALLB := Lib.hid (tup_all l (by rw [← HN.out]; exact HN9.out) (fun x hx => valid_all x (List.all_eq_true.1 HLV.out x hx)))
  clear HO h1 h9
  obtain ⟨hb6, hbb⟩ := boxN_new w3 28 #[.int .i64 7, .int .i64 0, .string ⟨#[]⟩, .slice none 0 0, .slice none 0 0, .slice sa n lc9]
  go_upto_region 6 with fail
  have hsz4 := size_alloc w3 (.cells #[.int .i64 7, .int .i64 0, .string ⟨#[]⟩, .slice none 0 0, .slice none 0 0, .slice sa n lc9] 28)
  obtain ⟨B6, hB6⟩ : ∃ b, b = w3.heap.size := ⟨_, rfl⟩
  rw [← hB6] at hb6 ⊢
  have HGE := Lib.hid (show w.heap.size + 1 ≤ B6 from by have := HZ.out.lt; omega)
  replace HZ := Lib.hid (HZ.out.of_eq (hbb.block _ HZ.out.lt))
  replace HB := Lib.hid (belowStep hbb HB.out)
  generalize w3.alloc (.cells #[.int .i64 7, .int .i64 0, .string ⟨#[]⟩, .slice none 0 0, .slice none 0 0, .slice sa n lc9] 28) = w4 at *
  have HS4 := Lib.hid (show B6 + 1 = w4.heap.size from by omega)
  have HB6 := Lib.hid (show Blk w4 B6 28 (recB (.slice none 0 0) (.slice sa n lc9)) from hb6)
  clear hbb hsz4 hB6 q1 q2 hb6
  obtain ⟨iI, hi, hz0, hz1, hz2⟩ := info_parts infoStrT
  go_upto_region 7 with fail
  go_loopg [23] (n + 1) (fun gk i wr => ∃ (k : Nat) (nv : Value), k ≤ n ∧ i = .int .i64 k ∧ gk = n + 1 - k ∧ Blk wr B6 28 (recB nv (.slice sa n lc9)) ∧ wr.ownsRow (B6 + 1) 9 1 nv k ((digits k).map Value.string) ∧ Below B6 w4 wr ∧ B6 + 1 ≤ wr.heap.size)
  case atStart => exact ⟨0, _, Nat.zero_le _, rfl, by omega, HB6.out, World.ownsRow_nil _ _ _ _, Below.refl _ _, by have := HS4.out; omega⟩
  case round =>
    obtain ⟨k, nv, hk, rfl, hgk, hbk, hrow, hbw, hlow⟩ := hrel
    obtain ⟨na, nc, rfl, -⟩ := row9_form hrow
    have HBK := Lib.hid hbk
    have HROW := Lib.hid hrow
    have HBW := Lib.hid hbw
    have HLOW := Lib.hid hlow
    clear hbk hrow hbw hlow HB6
    by_cases hlt : k < n
    · have q5 : decide ((k : Int) < (n : Int)) = true := decide_eq_true (by omega)
      have hk9 : k + 1 ≤ 9 := by have := HN9.out; omega
      have hwr : IntKind.i64.wrap ((k : Int) + 1) = (k : Int) + 1 := by rw [IntKind.wrap_i64]; omega
      have HIT := Lib.hid (fun W => citoa_any (k + 1) (by omega) hk9 W)
      rw [Int.natCast_succ] at HIT
      obtain ⟨s, hs⟩ : ∃ s, s = digitS (k + 1) := ⟨_, rfl⟩
      have HS := Lib.hid hs
      rw [← hs] at HIT
      clear hs
      have m0 := HBK.out.cell 4 (.slice na k nc) rfl
      have m1 := (HBK.out.alloc (.cells #[.string s] 9)).cell 4 (.slice na k nc) rfl
      have hlit := boxN_new wr 9 #[.string s]
      have HROWL := Lib.hid (show (wr.alloc (.cells #[.string s] 9)).drew.ownsRow (B6 + 1) 9 1 (.slice na k nc) k ((digits k).map Value.string) from row9_keep HROW.out (fun g hg => hlit.2.drew.block g (row9_low HROW.out g hg).2))
      have HNEW := Lib.hid (show ∀ j u, [Value.string s][j]? = some u → (wr.alloc (.cells #[.string s] 9)).drew.cell? ((⟨wr.heap.size, 0, none⟩ : Addr).add j) = some u from World.news_of_block (cs := #[.string s]) (t := 9) (fr := (0, 0)) (hlit.1.drew))
      have hsz7 : (wr.alloc (.cells #[.string s] 9)).drew.heap.size = wr.heap.size + 1 := size_alloc _ _
      have HD0 := Lib.hid (Below.refl wr.heap.size wr).drew
      clear hlit
      go_upto_region 9 with fail
      go_region_law (first
        | (go_simp; go_at_call 36; (with_reducible refine (HIT.out _).mono ?_); rintro e wI ⟨rfl, rfl⟩)
        | (refine step_append_lies _ rfl (.tmp 27) (.tmp 31) 25 rfl (B6 + 1) 9 iI (.string ByteArray.empty) 1 16 Tryz.underlying25 hi hz0 hz1 hz2 rfl (by decide) (.slice na k nc) k ((digits k).map Value.string) (by simp [Act.eval, Act.put]) HROWL.out ⟨wr.heap.size, 0, none⟩ 1 1 [.string s] (by simp [Act.eval, Act.put]) rfl HNEW.out (by simp [Value.oneCell']) (by decide) (by unfold maxLen; omega) (by omega) (by rw [hsz7]; have := HLOW.out; omega) (wr.heap.size + 1) hsz7 ?_; intro gg cap w8 hown hgrow hat hlt8; have hst := name_step (wd := wr.drew) HBK.out (Nat.lt_succ_self _) HROW.out HD0.out HS.out hown hgrow hat; have n1 := hst.1.cell 4 (.slice na k nc) rfl; have n2 := hst.1.thaw 4))
      all_goals
        have HST := Lib.hid hst
        clear hst n1 n2 hown hgrow hat hlt8 m0 m1 HROWL HNEW hsz7 HIT
        go_wp2
        go_roundg (gk - 1)
        case measure => omega
        case rel =>
          obtain ⟨-, h1, h2, h3, h4⟩ := HST.out
          exact ⟨k + 1, _, by omega, by go_num, by omega, h1, h2, h3.below HBW.out (Nat.le_refl _) (fun q hq => by have := (row9_low HROW.out q hq).1; omega) (by have := HLOW.out; omega), by have := h3.size; have := HLOW.out; omega⟩
    have hkn : k = n := by omega
    subst hkn
    have q5 : decide ((k : Int) < (k : Int)) = false := decide_eq_false (by omega)
    have HZ2 := Lib.hid (HZ.out.of_eq (HBW.out.block _ (by have := HGE.out; omega)))
    have HWW := Lib.hid (show Below w.heap.size w wr from HB.out.trans (HBW.out.mono (by have := HGE.out; omega)))
    have HCV := Lib.hid (rec_con (w := wr) (R := (· < wr.heap.size)) (nv := .slice na k nc) (lv := .slice sa k lc9) (l := l) (by
        rw [← HN.out]
        exact (strSl_rowT (zs := digits k) (by rw [digits_len]; exact HROW.out) (digits_size k)).mono (fun q hq => hq.2)) ((HSL.out wr HWW.out).mono (fun q hq => Nat.lt_of_lt_of_le hq HWW.out.size)))
    have HCP := Lib.hid (ccopy_own (tupC l) wr _ HCV.out HALLB.out)
    obtain ⟨⟨u, ec⟩, hue⟩ : ∃ z : Con × Int, z = outB (tupC l) := ⟨_, rfl⟩
    rw [← hue] at HCP HOUT
    clear hue
    have HLT := Lib.hid (show w.heap.size < wr.heap.size from HZ2.out.lt)
    have c0 := HBK.out.cell 0 (.int .i64 7) rfl
    have c1 := HBK.out.cell 1 (.int .i64 0) rfl
    have c2 := HBK.out.cell 2 (.string ⟨#[]⟩) rfl
    have c3 := HBK.out.cell 3 (.slice none 0 0) rfl
    have c4 := HBK.out.cell 4 (.slice na k nc) rfl
    have c5 := HBK.out.cell 5 (.slice sa k lc9) rfl
    go_wp2_with fail
    clear c0 c1 c2 c3 c4 c5
    refine HCP.out.mono ?_
    rintro e wq ⟨⟨y, rfl, hyo⟩, hbq⟩
    have hy := hyo.con
    obtain ⟨yka, ykn, ykc, yna, ynn, ync, yla, yln, ylc, rfl, -, -, -⟩ := hy.shape
    have hzr := HZ2.out.of_eq (hbq.block _ HZ2.out.lt)
    have t0 := hzr.thaw 0
    have t1 := hzr.thaw 1
    have t2 := hzr.thaw 2
    have t3 := hzr.thaw 3
    have t4 := hzr.thaw 4
    have t5 := hzr.thaw 5
    have r0 := hzr.cell 0 (.int .i64 0) rfl
    have r1 := hzr.cell 1 (.int .i64 0) rfl
    have r2 := hzr.cell 2 (.string ⟨#[]⟩) rfl
    have r3 := hzr.cell 3 (.slice none 0 0) rfl
    have r4 := hzr.cell 4 (.slice none 0 0) rfl
    have r5 := hzr.cell 5 (.slice none 0 0) rfl
    have hz := store6_blk hzr 0 (.int .i64 u.op) (.int .i64 u.n) (.string u.s) (.slice yka ykn ykc) (.slice yna ynn ync) (.slice yla yln ylc)
    rw [put6_all] at hz
    have HE := Lib.hid (show OutF (tupOut l) w (.returned (.tuple #[.agg #[.int .i64 u.op, .int .i64 u.n, .string u.s, .slice yka ykn ykc, .slice yna ynn ync, .slice yla yln ylc], .int .i64 ec])) (store6 wq w.heap.size 0 (.int .i64 u.op) (.int .i64 u.n) (.string u.s) (.slice yka ykn ykc) (.slice yna ynn ync) (.slice yla yln ylc)) from by
      rw [HOUT.out]
      refine ⟨⟨_, rfl, (hy.keep (fun q hq => store6_other _ _ _ _ _ _ _ _ _ q (by have := HLT.out; have := hq.1; omega))).mono (fun q hq => ?_)⟩, store6_below (belowStep hbq HWW.out) _ _ _ _ _ _ _ _ (Nat.le_refl _)⟩
      rw [store6_size]
      exact ⟨by have := HLT.out; have := hq.1; omega, hq.2⟩)
    unfold store6 at hz HE
    simp only [Nat.zero_add] at hz HE
    have z0 := hz.cell 0 (.int .i64 u.op) rfl
    have z1 := hz.cell 1 (.int .i64 u.n) rfl
    have z2 := hz.cell 2 (.string u.s) rfl
    have z3 := hz.cell 3 (.slice yka ykn ykc) rfl
    have z4 := hz.cell 4 (.slice yna ynn ync) rfl
    have z5 := hz.cell 5 (.slice yla yln ylc) rfl
    clear hz hy hyo hzr hbq HCP HZ2 HBK HROW HZ HCV
    go_wp2
    refine bodyPost_ret (v := .tuple #[.agg #[.int .i64 u.op, .int .i64 u.n, .string u.s, .slice yka ykn ykc, .slice yna ynn ync, .slice yla yln ylc], .int .i64 ec]) (by simp [results, Tryz.results8, go_sem, z0, z1, z2, z3, z4, z5]) rfl ?_
    exact HE.out
end Go.Proofs.YtmjiocpcenbndaaGreatDoor
namespace Go.Proofs.YtmjiocpcenbndaaGreatDoor
open Go Go.RowKit
open Pl (K Con)
set_option linter.unusedSimpArgs false
set_option linter.unusedVariables false

set_option maxRecDepth 100000 in
set_option maxHeartbeats 4000000 in
theorem rtuple_any (l : List Con) (w : World) (xv : Value) (hl : ConSl w (· < w.heap.size) xv l) (h9 : l.length ≤ 9) :
    Calls Tryz.prog 21 #[xv] w (AnsC (tupC l) w) := by
  have HSL := Lib.hid (fun W (hW : Below w.heap.size w W) => hl.keep (Same.of_below hW (fun _ h => h)))
  obtain ⟨sa, lc9, rfl, hmn, hmx, -⟩ := hl.each
  obtain ⟨n, hn⟩ : ∃ n, n = l.length := ⟨_, rfl⟩
  have HN := Lib.hid hn
  have hn63 : n ≤ 9223372036854775807 := by omega
  rw [← hn] at HSL h9 ⊢
  have HN9 := Lib.hid h9
  obtain ⟨hbx, hbx2, hb⟩ := twoN_new w 28 28 #[.int .i64 0, .int .i64 0, .string ⟨#[]⟩, .slice none 0 0, .slice none 0 0, .slice none 0 0] #[.int .i64 7, .int .i64 0, .string ⟨#[]⟩, .slice none 0 0, .slice none 0 0, .slice none 0 0]
  have HZ := Lib.hid hbx
  have HX := Lib.hid (show Blk _ (w.heap.size + 1) 28 (recB (.slice none 0 0) (.slice none 0 0)) from hbx2)
  have HB := Lib.hid hb
  clear hbx hbx2 hb hl hmx hmn hn h9
  go_enter Tryz.func21, Tryz.ntmps21
  go_upto_region 3 with fail
  generalize (w.alloc (.cells #[.int .i64 0, .int .i64 0, .string ⟨#[]⟩, .slice none 0 0, .slice none 0 0, .slice none 0 0] 28)).alloc (.cells #[.int .i64 7, .int .i64 0, .string ⟨#[]⟩, .slice none 0 0, .slice none 0 0, .slice none 0 0] 28) = w1 at *
  obtain ⟨iI, hi, hz0, hz1, hz2⟩ := info_parts infoStrT
  obtain ⟨iC, ci0, ci1, ci2, ci3⟩ := info_parts infoCon
  go_loopg [4] (n + 1) (fun gk i wr => ∃ (k : Nat) (nv lv : Value) (us : List Value), k ≤ n ∧ i = .int .i64 k ∧ gk = n + 1 - k ∧ Blk wr (w.heap.size + 1) 28 (recB nv lv) ∧ Blk wr w.heap.size 28 #[.int .i64 0, .int .i64 0, .string ⟨#[]⟩, .slice none 0 0, .slice none 0 0, .slice none 0 0] ∧ wr.ownsRow (w.heap.size + 2) 9 1 nv k ((digits k).map Value.string) ∧ wr.ownsRow (w.heap.size + 2) 28 6 lv k us ∧ ConRow wr (· < w.heap.size) us (l.take k) ∧ (∀ q, nv.ownBlock = some q → lv.ownBlock ≠ some q) ∧ Below w.heap.size w wr)
  case atStart => exact ⟨0, _, _, [], Nat.zero_le _, rfl, by omega, HX.out, HZ.out, World.ownsRow_nil _ _ _ _, World.ownsRow_nil _ _ _ _, ConRow.nil _ _, (fun q h => by cases h), HB.out⟩
  case round =>
    obtain ⟨k, nv, lv, us, hk, rfl, hgk, hbk, hzk, hrow, hrow2, hkid, hdf, hbw⟩ := hrel
    obtain ⟨na, nc, rfl, -⟩ := row9_form hrow
    obtain ⟨va, vc, rfl, -⟩ := row9_form hrow2
    have HBK := Lib.hid hbk
    have HZK := Lib.hid hzk
    have HROW := Lib.hid hrow
    have HROW2 := Lib.hid hrow2
    have HKID := Lib.hid hkid
    have HDF := Lib.hid hdf
    have HBW := Lib.hid hbw
    clear hbk hzk hrow hrow2 hkid hdf hbw HX
    by_cases hlt : k < n
    · have hkl : k < l.length := by rw [← HN.out]; exact hlt
      have q5 : decide ((k : Int) < (n : Int)) = true := decide_eq_true (by omega)
      have q6 : decide ((k : Int) < 0) = false := decide_eq_false (by omega)
      have q7 : decide ((n : Int) ≤ (k : Int)) = false := decide_eq_false (by omega)
      have hk9 : k + 1 ≤ 9 := by have := HN9.out; omega
      have hwr : IntKind.i64.wrap ((k : Int) + 1) = (k : Int) + 1 := by rw [IntKind.wrap_i64]; omega
      have HIT := Lib.hid (fun W => rdecimal_any (k + 1) (by omega) hk9 W)
      rw [Int.natCast_succ] at HIT
      obtain ⟨s, hs⟩ : ∃ s, s = digitS (k + 1) := ⟨_, rfl⟩
      have HS := Lib.hid hs
      rw [← hs] at HIT
      clear hs
      have HD0 := Lib.hid (Below.refl wr.heap.size wr).drew
      have HS7 := Lib.hid (fun wd (hW : Below wr.heap.size wr wd) => (show (wd.alloc (.cells #[.string s] 9)).ownsRow (w.heap.size + 2) 9 1 (.slice na k nc) k ((digits k).map Value.string) ∧ (∀ j u, [Value.string s][j]? = some u → (wd.alloc (.cells #[.string s] 9)).cell? ((⟨wd.heap.size, 0, none⟩ : Addr).add j) = some u) ∧ (wd.alloc (.cells #[.string s] 9)).heap.size = wd.heap.size + 1 ∧ wd.cell? ⟨w.heap.size + 1, 4, none⟩ = some (.slice na k nc) ∧ (wd.alloc (.cells #[.string s] 9)).cell? ⟨w.heap.size + 1, 4, none⟩ = some (.slice na k nc) from by
        have hlit := boxN_new wd 9 #[.string s]
        have hb9 := HBK.out.of_eq (hW.block _ HBK.out.lt)
        exact ⟨row9_keep HROW.out (fun g hg => (belowStep hlit.2 hW).block g (row9_low HROW.out g hg).2), World.news_of_block (cs := #[.string s]) (t := 9) (fr := (0, 0)) hlit.1, size_alloc _ _, hb9.cell 4 _ rfl, (hb9.alloc _).cell 4 _ rfl⟩))
      have m0 := HBK.out.cell 4 (.slice na k nc) rfl
      have hw2 : w.heap.size + 2 ≤ wr.heap.size := HBK.out.lt
      go_upto_region 5 with fail
      go_region_law (first
        | (go_simp; go_at_call 41; (with_reducible refine (HIT.out _).mono ?_); rintro e wd ⟨rfl, hbd⟩; have hbd2 := belowStep (a := wr) hbd HD0.out; obtain ⟨hrow7, hnew7, hsz7, m1, m2⟩ := HS7.out wd hbd2; have hsd := hbd2.size)
        | (refine step_append_lies _ rfl (.tmp 13) (.tmp 17) 25 rfl (w.heap.size + 2) 9 iI (.string ByteArray.empty) 1 16 Tryz.underlying25 hi hz0 hz1 hz2 rfl (by decide) (.slice na k nc) k ((digits k).map Value.string) (by simp [Act.eval, Act.put]) hrow7 ⟨wd.heap.size, 0, none⟩ 1 1 [.string s] (by simp [Act.eval, Act.put]) rfl hnew7 (by simp [Value.oneCell']) (by decide) (by unfold maxLen; omega) (by omega) (by rw [hsz7]; omega) (wd.heap.size + 1) hsz7 ?_; intro gg cap w8 hown hgrow hat hlt8; have hst := name_step (wd := wd) HBK.out (Nat.lt_succ_self _) HROW.out hbd2 HS.out hown hgrow hat; have n1 := hst.1.cell 4 (.slice na k nc) rfl; have n2 := hst.1.thaw 4))
      all_goals
        have HST := Lib.hid hst
        clear hst n1 n2 hown hgrow hat hlt8 m0 m1 m2 hrow7 hnew7 hsz7 HIT HS7 hsd hbd hbd2 HD0
        generalize w8.setCell ⟨w.heap.size + 1, 4, none⟩ (.slice (some ⟨gg, 0, none⟩) (k + 1) cap) = w9 at *
        obtain ⟨-, hx1, hx2, hx3, hx4⟩ := HST.out
        have hbw9 := hx3.below HBW.out (Nat.le_succ _) (fun q hq => by have := (row9_low HROW.out q hq).1; omega) (by omega)
        have hrl9 := hx3.row HROW2.out (Nat.lt_succ_self _) HDF.out
        have hkd9 := HKID.out.keep (w' := w9) (fun q hq => hx3.block q (by have : q < w.heap.size := hq; omega) (by have : q < w.heap.size := hq; omega) (fun e => by have : q < w.heap.size := hq; have := (row9_low HROW.out q e).1; omega))
        have hz9 := HZK.out.of_eq (hx3.block _ HZK.out.lt (by omega) (fun e => by have := (row9_low HROW.out _ e).1; omega))
        have hdf9 : ∀ q, (Value.slice (some ⟨gg, 0, none⟩) (k + 1) cap).ownBlock = some q → (Value.slice va k vc).ownBlock ≠ some q := fun q hq e => by
          have hgq : gg = q := by simpa [Value.ownBlock] using hq
          subst hgq
          rcases hx4 with h | h
          · exact HDF.out gg h e
          · have := (row9_low HROW2.out gg e).2; omega
        replace HBK := Lib.hid hx1
        replace HROW := Lib.hid hx2
        replace HROW2 := Lib.hid hrl9
        replace HKID := Lib.hid hkd9
        replace HZK := Lib.hid hz9
        replace HDF := Lib.hid hdf9
        replace HBW := Lib.hid hbw9
        have hs9 := hx3.size
        clear hx1 hx2 hx3 hx4 hbw9 hrl9 hkd9 hz9 hdf9 HST HS
        obtain ⟨b, off, c', ya, yn, yc, za, zn, zc, pa, pn, pc, e, hPb, f0, f1, f2, f3, f4, f5, hx⟩ := (HSL.out w9 HBW.out).part k hkl
        injection e with e1 e2 e3
        subst e1 e3
        clear e2
        have HTK := Lib.hid (show l.take (k + 1) = l.take k ++ [l[k]] from List.take_succ_eq_append_getElem hkl)
        obtain ⟨u, hu⟩ : ∃ u, u = l[k] := ⟨_, rfl⟩
        rw [← hu] at f0 f1 f2 hx HTK
        have HX := Lib.hid hx
        clear hu hx
        have hlit := boxN_new w9 28 #[.int .i64 u.op, .int .i64 u.n, .string u.s, .slice ya yn yc, .slice za zn zc, .slice pa pn pc]
        have HROWL := Lib.hid (show (w9.alloc (.cells #[.int .i64 u.op, .int .i64 u.n, .string u.s, .slice ya yn yc, .slice za zn zc, .slice pa pn pc] 28)).drew.ownsRow (w.heap.size + 2) 28 6 (.slice va k vc) k us from row9_keep HROW2.out (fun g hg => hlit.2.drew.block g (row9_low HROW2.out g hg).2))
        have HNEW := Lib.hid (show ∀ j u', [.int .i64 u.op, .int .i64 u.n, .string u.s, .slice ya yn yc, .slice za zn zc, .slice pa pn pc][j]? = some u' → (w9.alloc (.cells #[.int .i64 u.op, .int .i64 u.n, .string u.s, .slice ya yn yc, .slice za zn zc, .slice pa pn pc] 28)).drew.cell? ((⟨w9.heap.size, 0, none⟩ : Addr).add j) = some u' from World.news_of_block (cs := #[.int .i64 u.op, .int .i64 u.n, .string u.s, .slice ya yn yc, .slice za zn zc, .slice pa pn pc]) (t := 28) (fr := (0, 0)) (hlit.1.drew))
        have hsz7 : (w9.alloc (.cells #[.int .i64 u.op, .int .i64 u.n, .string u.s, .slice ya yn yc, .slice za zn zc, .slice pa pn pc] 28)).drew.heap.size = w9.heap.size + 1 := size_alloc _ _
        have m0 := HBK.out.cell 5 (.slice va k vc) rfl
        have m1 := (HBK.out.alloc (.cells #[.int .i64 u.op, .int .i64 u.n, .string u.s, .slice ya yn yc, .slice za zn zc, .slice pa pn pc] 28)).cell 5 (.slice va k vc) rfl
        clear hlit
        go_upto_region 6 with fail
        go_region_law (refine step_append_lies _ rfl (.tmp 21) (.tmp 26) 26 rfl (w.heap.size + 2) 28 iC (.agg #[.int .i64 0, .int .i64 0, .string ByteArray.empty, .slice none 0 0, .slice none 0 0, .slice none 0 0]) 6 104 Tryz.underlying26 ci0 ci1 ci2 ci3 rfl (by decide) (.slice va k vc) k us (by simp [Act.eval, Act.put]) HROWL.out ⟨w9.heap.size, 0, none⟩ 1 1 [.int .i64 u.op, .int .i64 u.n, .string u.s, .slice ya yn yc, .slice za zn zc, .slice pa pn pc] (by simp [Act.eval, Act.put]) rfl HNEW.out (by simp [Value.oneCell']) (by decide) (by unfold maxLen; omega) (by omega) (by rw [hsz7]; omega) (w9.heap.size + 1) hsz7 ?_; intro hh cap2 wA hown hgrow hat hlt8; have hst := part_step (wd := w9.drew) HBK.out (Nat.lt_succ_self _) HROW2.out (Below.refl w9.heap.size w9).drew hown hgrow hat; have n1 := hst.1.cell 5 (.slice va k vc) rfl; have n2 := hst.1.thaw 5)
        all_goals
          have HST := Lib.hid hst
          clear hst n1 n2 hown hgrow hat hlt8 m0 m1 HROWL HNEW hsz7 f0 f1 f2 f3 f4 f5
          go_wp2
          go_roundg (gk - 1)
          case measure => omega
          case rel =>
            obtain ⟨-, hx1, hx2, hx3, hx4⟩ := HST.out
            have hkeep : Same (· < w.heap.size) w9 (wA.setCell ⟨w.heap.size + 1, 5, none⟩ (.slice (some ⟨hh, 0, none⟩) (k + 1) cap2)) := fun q hq => hx3.block q (by have : q < w.heap.size := hq; omega) (by have : q < w.heap.size := hq; omega) (fun e => by have : q < w.heap.size := hq; have := (row9_low HROW2.out q e).1; omega)
            refine ⟨k + 1, _, _, _, by omega, by go_num, by omega, hx1, ?_, hx3.row HROW.out (Nat.lt_succ_self _) (fun q h e => HDF.out q e h), hx2, ?_, ?_, hx3.below HBW.out (Nat.le_succ _) (fun q hq => by have := (row9_low HROW2.out q hq).1; omega) (by omega)⟩
            · exact HZK.out.of_eq (hx3.block _ HZK.out.lt (by omega) (fun e => by have := (row9_low HROW2.out _ e).1; omega))
            · rw [HTK.out]
              exact (HKID.out.keep hkeep).push (HX.out.keep hkeep)
            · intro q h e
              have hgq : hh = q := by simpa [Value.ownBlock] using e
              subst hgq
              rcases hx4 with h4 | h4
              · exact HDF.out hh h h4
              · have := (row9_low HROW.out hh h).2; omega
    have hkn : k = n := by omega
    subst hkn
    have q5 : decide ((k : Int) < (k : Int)) = false := decide_eq_false (by omega)
    have hta : l.take k = l := List.take_of_length_le (by rw [HN.out]; exact Nat.le_refl _)
    rw [hta] at HKID
    clear hta
    have HCV := Lib.hid (rec_con (w := wr) (R := fun q => q < wr.heap.size ∧ q ≠ w.heap.size) (nv := .slice na k nc) (lv := .slice va k vc) (l := l) (by
        rw [← HN.out]
        exact (strSl_rowT (zs := digits k) (by rw [digits_len]; exact HROW.out) (digits_size k)).mono (fun q hq => ⟨hq.2, by have := hq.1; omega⟩)) (ConRow.cons (R := (· < w.heap.size)) (by rw [← HN.out]; exact HROW2.out) HKID.out (fun q hq => ⟨Nat.lt_of_lt_of_le hq HBW.out.size, by have : q < w.heap.size := hq; omega⟩) (fun q h1 h => ⟨h, by omega⟩)))
    have c0 := HBK.out.cell 0 (.int .i64 7) rfl
    have c1 := HBK.out.cell 1 (.int .i64 0) rfl
    have c2 := HBK.out.cell 2 (.string ⟨#[]⟩) rfl
    have c3 := HBK.out.cell 3 (.slice none 0 0) rfl
    have c4 := HBK.out.cell 4 (.slice na k nc) rfl
    have c5 := HBK.out.cell 5 (.slice va k vc) rfl
    have t0 := HZK.out.thaw 0
    have t1 := HZK.out.thaw 1
    have t2 := HZK.out.thaw 2
    have t3 := HZK.out.thaw 3
    have t4 := HZK.out.thaw 4
    have t5 := HZK.out.thaw 5
    have r0 := HZK.out.cell 0 (.int .i64 0) rfl
    have r1 := HZK.out.cell 1 (.int .i64 0) rfl
    have r2 := HZK.out.cell 2 (.string ⟨#[]⟩) rfl
    have r3 := HZK.out.cell 3 (.slice none 0 0) rfl
    have r4 := HZK.out.cell 4 (.slice none 0 0) rfl
    have r5 := HZK.out.cell 5 (.slice none 0 0) rfl
    have hz := store6_blk HZK.out 0 (.int .i64 7) (.int .i64 0) (.string ⟨#[]⟩) (.slice none 0 0) (.slice na k nc) (.slice va k vc)
    rw [put6_all] at hz
    have HE := Lib.hid (show AnsC (tupC l) w (.returned (.agg #[.int .i64 7, .int .i64 0, .string ⟨#[]⟩, .slice none 0 0, .slice na k nc, .slice va k vc])) (store6 wr w.heap.size 0 (.int .i64 7) (.int .i64 0) (.string ⟨#[]⟩) (.slice none 0 0) (.slice na k nc) (.slice va k vc)) from ⟨⟨_, rfl, (HCV.out.keep (fun q hq => store6_other _ _ _ _ _ _ _ _ _ q hq.2)).mono (fun q hq => by rw [store6_size]; exact hq.1)⟩, store6_below HBW.out _ _ _ _ _ _ _ _ (Nat.le_refl _)⟩)
    unfold store6 at hz HE
    simp only [Nat.zero_add] at hz HE
    have z0 := hz.cell 0 (.int .i64 7) rfl
    have z1 := hz.cell 1 (.int .i64 0) rfl
    have z2 := hz.cell 2 (.string ⟨#[]⟩) rfl
    have z3 := hz.cell 3 (.slice none 0 0) rfl
    have z4 := hz.cell 4 (.slice na k nc) rfl
    have z5 := hz.cell 5 (.slice va k vc) rfl
    clear hz HBK HZK HROW HROW2 HKID HCV
    go_wp2
    refine bodyPost_ret (v := .agg #[.int .i64 7, .int .i64 0, .string ⟨#[]⟩, .slice none 0 0, .slice na k nc, .slice va k vc]) (by simp [results, Tryz.results21, go_sem, z0, z1, z2, z3, z4, z5]) rfl ?_
    exact HE.out
end Go.Proofs.YtmjiocpcenbndaaGreatDoor
namespace Go.Proofs.YtmjiocpcenbndaaGreatDoor
open Go Go.RowKit
open Pl (K Con)
set_option linter.unusedSimpArgs false
set_option linter.unusedVariables false

theorem exS_shape {w : World} {P : Nat → Prop} {v : Value} (h : ConV w P exS v) : ∃ sa sn sc sb sm sd se sk sf, v = .agg #[.int .i64 11, .int .i64 0, .string ByteArray.empty, .slice sa sn sc, .slice sb sm sd, .slice se sk sf] := by
  obtain ⟨ka, kn, kc, na, nn, nc, la, ln, lc, rfl, -, -, -⟩ := h.shape
  exact ⟨ka, kn, kc, na, nn, nc, la, ln, lc, rfl⟩
theorem exX_shape {w : World} {P : Nat → Prop} {v : Value} (h : ConV w P exX v) : ∃ sa sn sc sb sm sd se sk sf, v = .agg #[.int .i64 11, .int .i64 0, .string ByteArray.empty, .slice sa sn sc, .slice sb sm sd, .slice se sk sf] := by
  obtain ⟨ka, kn, kc, na, nn, nc, la, ln, lc, rfl, -, -, -⟩ := h.shape
  exact ⟨ka, kn, kc, na, nn, nc, la, ln, lc, rfl⟩
set_option maxRecDepth 100000 in
set_option maxHeartbeats 4000000 in
theorem awake9 : Awake9 := by
  intro w
  have HVR := Lib.hid (fun n W => rvar_any n W)
  have HA0 := Lib.hid (fun W => rapp_any (vr 0) (vr 1) W _ _ (conV_leaf 1 0 W _) (conV_leaf 1 1 W _))
  have HBO := Lib.hid (fun W t v (h : ConV W (· < W.heap.size) t v) => rbound_any t W v h)
  have HFR := Lib.hid (fun W v (h : ConV W (· < W.heap.size) exC v) => (show Calls Tryz.prog 25 #[v] W (FreeP ([0], 0) W) from ex_free ▸ cfree_any exC W v h))
  have HSH := Lib.hid (fun W v (h : ConV W (· < W.heap.size) exC v) => (show Calls Tryz.prog 26 #[v, .int .i64 2, .int .i64 0] W (OutP (exS, 0) W) from ex_shift ▸ cshift_any exC 2 0 W v h (by omega) (by omega) (by omega) (by omega)))
  have HSU := Lib.hid (fun W v x (h : ConV W (· < W.heap.size) exC v) (hl : ConSl W (· < W.heap.size) x [cint]) => (show Calls Tryz.prog 27 #[v, x] W (OutP (exX, 0) W) from ex_subst ▸ csubst_any exC [cint] W v x h hl))
  go_enter Tryz.func4, Tryz.ntmps4
  go_wp2_with fail
  refine (HVR.out _ _).mono ?_
  rintro e w1 ⟨rfl, hb1⟩
  have HB := Lib.hid hb1
  clear hb1
  go_wp2_with fail
  refine (HVR.out _ _).mono ?_
  rintro e w2 ⟨rfl, hb2⟩
  replace HB := Lib.hid (belowStep hb2 HB.out)
  clear hb2
  go_wp2_with fail
  refine (HA0.out _).mono ?_
  rintro e w3 ⟨⟨ga, rfl, ha⟩, hb3⟩
  replace HB := Lib.hid (belowStep hb3 HB.out)
  clear hb3
  have HBX := Lib.hid (HBO.out _ _ _ ha)
  clear ha
  go_wp2_with fail
  refine HBX.out.mono ?_
  rintro e w4 ⟨⟨gl, rfl, hc⟩, hb4⟩
  replace HB := Lib.hid (belowStep hb4 HB.out)
  obtain ⟨h1, hbx⟩ := boxN_new w4 28 #[.int .i64 11, .int .i64 0, .string ByteArray.empty, .slice none 0 0, .slice none 0 0, .slice (some ⟨gl, 0, none⟩) 1 1]
  have HC := Lib.hid ((show ConV w4 (· < w4.heap.size) exC _ from hc).grow hbx)
  have H1 := Lib.hid h1
  have HB5 := Lib.hid (belowStep hbx HB.out)
  have c0 := h1.cell 0 (.int .i64 11) rfl
  have c1 := h1.cell 1 (.int .i64 0) rfl
  have c2 := h1.cell 2 (.string ByteArray.empty) rfl
  have c3 := h1.cell 3 (.slice none 0 0) rfl
  have c4 := h1.cell 4 (.slice none 0 0) rfl
  have c5 := h1.cell 5 (.slice (some ⟨gl, 0, none⟩) 1 1) rfl
  clear hb4 h1 hbx hc HBX
  go_wp2_with fail
  clear c0 c1 c2 c3 c4 c5
  generalize w4.alloc (.cells #[.int .i64 11, .int .i64 0, .string ByteArray.empty, .slice none 0 0, .slice none 0 0, .slice (some ⟨gl, 0, none⟩) 1 1] 28) = w5 at *
  generalize w4.heap.size = G1 at *
  refine (HFR.out _ _ HC.out).mono ?_
  rintro e w6 ⟨⟨y, rfl, hy⟩, hb6⟩
  obtain ⟨gr, cr, rfl⟩ : ∃ g cap, y = .slice (some ⟨g, 0, none⟩) 1 cap := by
    rcases hy.2 with ⟨_, h⟩ | ⟨g, cap, _, h, _⟩
    · cases h
    · exact ⟨g, cap, h⟩
  have hrow : gr < w6.heap.size ∧ w6.cell? ⟨gr, 0, none⟩ = some (.int .i64 0) := ⟨(hy.lt gr rfl).2, hy.cells rfl 0 _ rfl⟩
  have HROW := Lib.hid hrow
  replace HC := Lib.hid (HC.out.grow hb6)
  replace H1 := Lib.hid (H1.out.of_eq (hb6.block _ H1.out.lt))
  have HB6 := Lib.hid (belowStep hb6 HB5.out)
  have c0 := H1.out.cell 0 (.int .i64 11) rfl
  have c1 := H1.out.cell 1 (.int .i64 0) rfl
  have c2 := H1.out.cell 2 (.string ByteArray.empty) rfl
  have c3 := H1.out.cell 3 (.slice none 0 0) rfl
  have c4 := H1.out.cell 4 (.slice none 0 0) rfl
  have c5 := H1.out.cell 5 (.slice (some ⟨gl, 0, none⟩) 1 1) rfl
  clear hy hb6 hrow
  go_wp2_with fail
  clear c0 c1 c2 c3 c4 c5
  refine (HSH.out _ _ HC.out).mono ?_
  rintro e w7 ⟨⟨y, rfl, hy⟩, hb7⟩
  obtain ⟨sa, sn, sc, sb, sm, sd, se, sk, sf, rfl⟩ := exS_shape hy
  obtain ⟨h4, hbx⟩ := boxN_new w7 28 #[.int .i64 11, .int .i64 0, .string ByteArray.empty, .slice sa sn sc, .slice sb sm sd, .slice se sk sf]
  have hb8 := belowStep hbx hb7
  replace HC := Lib.hid (HC.out.grow hb8)
  replace H1 := Lib.hid (H1.out.of_eq (hb8.block _ H1.out.lt))
  replace HROW := Lib.hid (show gr < (w7.alloc (.cells #[.int .i64 11, .int .i64 0, .string ByteArray.empty, .slice sa sn sc, .slice sb sm sd, .slice se sk sf] 28)).heap.size ∧ (w7.alloc (.cells #[.int .i64 11, .int .i64 0, .string ByteArray.empty, .slice sa sn sc, .slice sb sm sd, .slice se sk sf] 28)).cell? ⟨gr, 0, none⟩ = some (.int .i64 0) from ⟨Nat.lt_of_lt_of_le HROW.out.1 hb8.size, (hb8.cell (p := ⟨gr, 0, none⟩) HROW.out.1).trans HROW.out.2⟩)
  have HYS := Lib.hid ((show ConV w7 (· < w7.heap.size) exS _ from hy).grow hbx)
  have H4 := Lib.hid h4
  have HB8 := Lib.hid (belowStep hb8 HB6.out)
  have c0 := H1.out.cell 0 (.int .i64 11) rfl
  have c1 := H1.out.cell 1 (.int .i64 0) rfl
  have c2 := H1.out.cell 2 (.string ByteArray.empty) rfl
  have c3 := H1.out.cell 3 (.slice none 0 0) rfl
  have c4 := H1.out.cell 4 (.slice none 0 0) rfl
  have c5 := H1.out.cell 5 (.slice (some ⟨gl, 0, none⟩) 1 1) rfl
  have d0 := h4.cell 0 (.int .i64 11) rfl
  have d1 := h4.cell 1 (.int .i64 0) rfl
  have d2 := h4.cell 2 (.string ByteArray.empty) rfl
  have d3 := h4.cell 3 (.slice sa sn sc) rfl
  have d4 := h4.cell 4 (.slice sb sm sd) rfl
  have d5 := h4.cell 5 (.slice se sk sf) rfl
  clear hy hb7 hbx h4 hb8
  go_wp2_with fail
  clear c0 c1 c2 c3 c4 c5 d0 d1 d2 d3 d4 d5
  obtain ⟨hq, hbq⟩ := boxN_new (w7.alloc (.cells #[.int .i64 11, .int .i64 0, .string ByteArray.empty, .slice sa sn sc, .slice sb sm sd, .slice se sk sf] 28)) 28 #[.int .i64 4, .int .i64 0, .string ⟨#[]⟩, .slice none 0 0, .slice none 0 0, .slice none 0 0]
  rw [size_alloc] at hq
  have HL := Lib.hid (cons_one (P := fun q => q < ((w7.alloc (.cells #[.int .i64 11, .int .i64 0, .string ByteArray.empty, .slice sa sn sc, .slice sb sm sd, .slice se sk sf] 28)).alloc (.cells #[.int .i64 4, .int .i64 0, .string ⟨#[]⟩, .slice none 0 0, .slice none 0 0, .slice none 0 0] 28)).heap.size) hq hq.lt (conV_leaf 4 0 _ _))
  replace HC := Lib.hid (HC.out.grow hbq)
  replace HYS := Lib.hid (HYS.out.grow hbq)
  replace H1 := Lib.hid (H1.out.of_eq (hbq.block _ H1.out.lt))
  replace H4 := Lib.hid (H4.out.of_eq (hbq.block _ H4.out.lt))
  replace HROW := Lib.hid (And.intro (Nat.lt_of_lt_of_le HROW.out.1 hbq.size) ((hbq.cell (p := ⟨gr, 0, none⟩) HROW.out.1).trans HROW.out.2))
  replace HB8 := Lib.hid (belowStep hbq HB8.out)
  clear hq hbq
  generalize ((w7.alloc (.cells #[.int .i64 11, .int .i64 0, .string ByteArray.empty, .slice sa sn sc, .slice sb sm sd, .slice se sk sf] 28)).alloc (.cells #[.int .i64 4, .int .i64 0, .string ⟨#[]⟩, .slice none 0 0, .slice none 0 0, .slice none 0 0] 28)) = w8 at *
  generalize w7.heap.size = G4 at *
  refine (HSU.out _ _ _ HC.out HL.out).mono ?_
  rintro e w9 ⟨⟨y, rfl, hy⟩, hb9⟩
  obtain ⟨xa, xn, xc, xb, xm, xd, xe, xk, xf, rfl⟩ := exX_shape hy
  obtain ⟨h6, hbx⟩ := boxN_new w9 28 #[.int .i64 11, .int .i64 0, .string ByteArray.empty, .slice xa xn xc, .slice xb xm xd, .slice xe xk xf]
  have hbA := belowStep hbx hb9
  have HYX := Lib.hid ((show ConV w9 (· < w9.heap.size) exX _ from hy).grow hbx)
  replace HYS := Lib.hid (HYS.out.grow hbA)
  replace H4 := Lib.hid (H4.out.of_eq (hbA.block _ H4.out.lt))
  have H6 := Lib.hid h6
  have HRW := Lib.hid (And.intro (Nat.lt_of_lt_of_le HROW.out.1 hbA.size) ((hbA.cell (p := ⟨gr, 0, none⟩) HROW.out.1).trans HROW.out.2))
  have HBA := Lib.hid (belowStep hbA HB8.out)
  have d0 := h6.cell 0 (.int .i64 11) rfl
  have d1 := h6.cell 1 (.int .i64 0) rfl
  have d2 := h6.cell 2 (.string ByteArray.empty) rfl
  have d3 := h6.cell 3 (.slice xa xn xc) rfl
  have d4 := h6.cell 4 (.slice xb xm xd) rfl
  have d5 := h6.cell 5 (.slice xe xk xf) rfl
  clear hy hb9 hbx h6 hbA HROW HL HC H1
  go_wp2_with fail
  clear d0 d1 d2 d3 d4 d5
  generalize w9.alloc (.cells #[.int .i64 11, .int .i64 0, .string ByteArray.empty, .slice xa xn xc, .slice xb xm xd, .slice xe xk xf] 28) = wA at *
  generalize w9.heap.size = G6 at *
  have HD0 := Lib.hid (Below.refl wA.heap.size wA).drew
  have HSS := Lib.hid (fun W (hW : Below wA.heap.size wA W) => (show Below w.heap.size w W ∧ W.cell? ⟨G4, 0, none⟩ = some (.int .i64 11) ∧ W.cell? ⟨G4, 1, none⟩ = some (.int .i64 0) ∧ W.cell? ⟨G4, 2, none⟩ = some (.string ByteArray.empty) ∧ W.cell? ⟨G4, 3, none⟩ = some (.slice sa sn sc) ∧ W.cell? ⟨G4, 4, none⟩ = some (.slice sb sm sd) ∧ W.cell? ⟨G4, 5, none⟩ = some (.slice se sk sf) ∧ W.cell? ⟨G6, 0, none⟩ = some (.int .i64 11) ∧ W.cell? ⟨G6, 1, none⟩ = some (.int .i64 0) ∧ W.cell? ⟨G6, 2, none⟩ = some (.string ByteArray.empty) ∧ W.cell? ⟨G6, 3, none⟩ = some (.slice xa xn xc) ∧ W.cell? ⟨G6, 4, none⟩ = some (.slice xb xm xd) ∧ W.cell? ⟨G6, 5, none⟩ = some (.slice xe xk xf) from by
    have h := H4.out.of_eq (hW.block _ H4.out.lt)
    have h2 := H6.out.of_eq (hW.block _ H6.out.lt)
    exact ⟨belowStep hW HBA.out, h.cell 0 _ rfl, h.cell 1 _ rfl, h.cell 2 _ rfl, h.cell 3 _ rfl, h.cell 4 _ rfl, h.cell 5 _ rfl, h2.cell 0 _ rfl, h2.cell 1 _ rfl, h2.cell 2 _ rfl, h2.cell 3 _ rfl, h2.cell 4 _ rfl, h2.cell 5 _ rfl⟩))
  have HEQ := Lib.hid (fun W (hW : Below wA.heap.size wA W) b (hb : Blk W b 3 #[.int .i64 0]) => (Tryz.slices_Equal_int gr 0 1 cr b 0 1 1 [0] [0] W (by simp) (by simp) (by omega) (by omega) (fun j hj => by
      have hj : j = 0 := by simp at hj; omega
      subst hj
      exact (hW.cell (p := ⟨gr, 0, none⟩) HRW.out.1).trans HRW.out.2) (fun j hj => by
      have hj : j = 0 := by simp at hj; omega
      subst hj
      exact hb.cell 0 _ rfl)).mono (R' := fun e w' => e = .returned (.bool true) ∧ Below W.heap.size W w') (by
    rintro e w' ⟨rfl, q, rfl⟩
    exact ⟨rfl, ⟨rfl, rfl, rfl, Nat.le_refl _, fun _ _ => rfl⟩⟩))
  have HA3 := Lib.hid (fun W => rapp_any (vr 0) (vr 3) W _ _ (conV_leaf 1 0 W _) (conV_leaf 1 3 W _))
  have HA4 := Lib.hid (fun W => rapp_any (vr 0) cint W _ (.agg #[.int .i64 4, .int .i64 0, .string ⟨#[]⟩, .slice none 0 0, .slice none 0 0, .slice none 0 0]) (conV_leaf 1 0 W _) (conV_leaf 4 0 W _))
  have HS1 := Lib.hid (fun W x (hW : Below wA.heap.size wA W) (hx : ConV W (· < W.heap.size) (lam (ap (vr 0) (vr 3))) x) => rsameB_any _ _ exS exS W _ x (fun _ h => h) (fun _ h => h) (HYS.out.grow hW) hx)
  have HS2 := Lib.hid (fun W x (hW : Below wA.heap.size wA W) (hx : ConV W (· < W.heap.size) (lam (ap (vr 0) cint)) x) => rsameB_any _ _ exX exX W _ x (fun _ h => h) (fun _ h => h) (HYX.out.grow hW) hx)
  rw [sameB_self] at HS1 HS2
  go_region_held3 (fun W => Below w.heap.size w W ∧ W.cell? ⟨G4, 0, none⟩ = some (.int .i64 11) ∧ W.cell? ⟨G4, 1, none⟩ = some (.int .i64 0) ∧ W.cell? ⟨G4, 2, none⟩ = some (.string ByteArray.empty) ∧ W.cell? ⟨G4, 3, none⟩ = some (.slice sa sn sc) ∧ W.cell? ⟨G4, 4, none⟩ = some (.slice sb sm sd) ∧ W.cell? ⟨G4, 5, none⟩ = some (.slice se sk sf) ∧ W.cell? ⟨G6, 0, none⟩ = some (.int .i64 11) ∧ W.cell? ⟨G6, 1, none⟩ = some (.int .i64 0) ∧ W.cell? ⟨G6, 2, none⟩ = some (.string ByteArray.empty) ∧ W.cell? ⟨G6, 3, none⟩ = some (.slice xa xn xc) ∧ W.cell? ⟨G6, 4, none⟩ = some (.slice xb xm xd) ∧ W.cell? ⟨G6, 5, none⟩ = some (.slice xe xk xf))
    (first | (exact HSS.out _ (by with_reducible (repeat (first | assumption | exact Below.refl _ _ | exact HD0.out | refine Below.drew ?_ | refine below_new ?_)))) | fail)
    (first
    | (go_at_call 28; (with_reducible refine Calls.mono (HEQ.out _ ?_ _ ?_) ?_); (focus with_reducible (repeat (first | assumption | exact Below.refl _ _ | exact HD0.out | refine Below.drew ?_ | refine below_new ?_))); (focus exact blk_new _ _ _); rintro e wq1 ⟨rfl, hbq1⟩; have hbw1 := belowStep (a := wA) hbq1 (by with_reducible (repeat (first | assumption | exact Below.refl _ _ | exact HD0.out | refine Below.drew ?_ | refine below_new ?_))))
    | (go_at_call 24; (with_reducible refine (HVR.out _ _).mono ?_); rintro e wq2 ⟨rfl, hbq2⟩; have hbw2 := belowStep (a := wA) hbq2 (by with_reducible (repeat (first | assumption | exact Below.refl _ _ | exact HD0.out | refine Below.drew ?_ | refine below_new ?_))))
    | (go_at_call 23; (with_reducible refine (HA3.out _).mono ?_); rintro e wq3 ⟨⟨gp, rfl, hap⟩, hbq3⟩; have hbw3 := belowStep (a := wA) hbq3 (by with_reducible (repeat (first | assumption | exact Below.refl _ _ | exact HD0.out | refine Below.drew ?_ | refine below_new ?_))))
    | (go_at_call 23; (with_reducible refine (HA4.out _).mono ?_); rintro e wq4 ⟨⟨gp2, rfl, hap2⟩, hbq4⟩; have hbw4 := belowStep (a := wA) hbq4 (by with_reducible (repeat (first | assumption | exact Below.refl _ _ | exact HD0.out | refine Below.drew ?_ | refine below_new ?_))))
    | (go_at_call 22; (with_reducible refine (HBO.out _ _ _ (by assumption)).mono ?_); rintro e wq5 ⟨⟨gm, rfl, hlm⟩, hbq5⟩; have hbw5 := belowStep (a := wA) hbq5 (by with_reducible (repeat (first | assumption | exact Below.refl _ _ | exact HD0.out | refine Below.drew ?_ | refine below_new ?_))))
    | (go_at_call 9; (with_reducible refine (HS1.out _ _ (by assumption) (by assumption)).mono ?_); rintro e wq6 ⟨rfl, hbq6⟩; have hbw6 := belowStep (a := wA) hbq6 (by with_reducible (repeat (first | assumption | exact Below.refl _ _ | exact HD0.out | refine Below.drew ?_ | refine below_new ?_))))
    | (go_at_call 9; (with_reducible refine (HS2.out _ _ (by assumption) (by assumption)).mono ?_); rintro e wq7 ⟨rfl, hbq7⟩; have hbw7 := belowStep (a := wA) hbq7 (by with_reducible (repeat (first | assumption | exact Below.refl _ _ | exact HD0.out | refine Below.drew ?_ | refine below_new ?_))))
    | fail)
  go_wp2
  go_ret
  exact ⟨rfl, belowStep hbw7 HBA.out⟩
end Go.Proofs.YtmjiocpcenbndaaGreatDoor
namespace Go.Proofs.YtmjiocpcenbndaaGreatDoor
open Go Go.RowKit
open Pl (K Con)
set_option linter.unusedSimpArgs false
set_option linter.unusedVariables false

theorem app_parts (t : Con) (h : Con.nodeB t = true) (h12 : t.op = 12) : ∃ f a, t.l = [f, a] := by
  unfold Con.nodeB at h
  simp only [Bool.and_eq_true] at h
  have h := h.2.1
  unfold Con.shapeB at h
  rw [h12, if_pos (by decide), Bool.and_eq_true, decide_eq_true_eq] at h
  have hl : t.l.length = 2 := by have := h.1; rw [show Con.partsOf 12 = 2 from rfl] at this; omega
  match hm : t.l, hl with
  | [f, a], _ => exact ⟨f, a, rfl⟩
/-- an application of a function of types -/
def redB (t : Con) : Bool := decide (t.op = 12) && (match t.l with | f :: _ => decide (f.op = 11) | [] => false)
/-- what a beta step makes of it -/
def betaC (t : Con) : Con := match t.l with
  | f :: a :: _ => (match f.l with | b :: _ => Con.subst [a] b 0 | [] => Con.none0)
  | _ => Con.none0
/-- what an eta step makes of it, if it applies -/
def etaF (t : Con) : Option Con := if t.op = 11 then (match t.l with
  | [x] => if x.op = 12 then (match x.l with
    | [f, a] => if a.op = 1 ∧ a.n = 0 ∧ fallsB f (-1) 0 = false then some (Con.shift (-1) f 0) else none
    | _ => none) else none
  | _ => none) else none
/-- parts in order -/
def partsF (g : Nat → Con → Option (Con × Nat)) : Nat → List Con → Option (List Con × Nat)
  | left, [] => some ([], left)
  | left, t :: r => match g left t with
    | none => none
    | some (x, n) => match partsF g n r with
      | none => none
      | some (l, m) => some (x :: l, m)
/-- what normalizing yields, and the steps that are left -/
def nrmF : Nat → Nat → Con → Option (Con × Nat)
  | 0, _, _ => none
  | f + 1, left, t => match partsF (nrmF f) left t.l with
    | none => none
    | some (l, n) =>
      if Con.validB (Con.inside t l) = true then
        (if redB (Con.inside t l) = true then
          (if n = 0 then none else if Con.validB (betaC (Con.inside t l)) = true then nrmF f (n - 1) (betaC (Con.inside t l)) else none)
        else match etaF (Con.inside t l) with
          | some x => some (x, n)
          | none => some (Con.inside t l, n))
      else none
/-- a node that is normalized in its place -/
structure Fr where
  t : Con
  next : Nat
  pn : Nat
  pl : Nat
  rn : Int
  rl : Int
/-- the room of the next part -/
def Fr.room (f : Fr) : Int × Int :=
  if f.t.op = 11 then (min (f.rn + 3) 20000 - 1 - (f.pn : Int), min (f.rl + 2) 400 - 1)
  else if f.t.op = 12 ∧ (f.next = 0 ∨ redB f.t = true) then (20000 - 1 - (f.pn : Int), 400 - 1)
  else (f.rn - 1 - (f.pn : Int), f.rl - 1)
/-- with its next part done -/
def Fr.put (p : Fr) (x : Con) (mn ml : Nat) : Fr := ⟨Con.inside p.t (p.t.l.set p.next x), p.next + 1, p.pn + mn, max p.pl ml, p.rn, p.rl⟩
/-- how it goes on: further, or the end (with the root, or given up) -/
inductive Go1 where
  | on (steps : Nat) (S : List Fr)
  | done (r : Option (Con × Nat))
/-- a node is left -/
def popM (steps : Nat) (S : List Fr) (x : Con) (mn ml : Nat) : Go1 := match S with
  | [] => .done (some (x, steps))
  | p :: r => .on steps (p.put x mn ml :: r)
def stepM (steps : Nat) (f : Fr) (S : List Fr) : Go1 :=
  if h : f.next < f.t.l.length then
    (if 0 < f.room.1 ∧ 0 < f.room.2 then .on steps (⟨f.t.l[f.next], 0, 0, 0, f.room.1, f.room.2⟩ :: f :: S) else .done none)
  else if redB f.t = true then
    (if steps = 10000 then .done none else if Con.validB (betaC f.t) = true then .on (steps + 1) (⟨betaC f.t, 0, 0, 0, f.rn, f.rl⟩ :: S) else .done none)
  else match etaF f.t with
    | some x => if (f.pn : Int) + 1 - 3 ≤ f.rn ∧ (f.pl : Int) + 1 - 2 ≤ f.rl then popM steps S x (f.pn + 1 - 3) (f.pl + 1 - 2) else .done none
    | none => if (f.pn : Int) + 1 ≤ f.rn ∧ (f.pl : Int) + 1 ≤ f.rl then popM steps S f.t (f.pn + 1) (f.pl + 1) else .done none
def runM : Nat → Go1 → Go1
  | 0, g => g
  | n + 1, .done r => .done r
  | n + 1, .on steps [] => .on steps []
  | n + 1, .on steps (f :: S) => runM n (stepM steps f S)
theorem runM_add (n m : Nat) : ∀ g, runM (n + m) g = runM m (runM n g) := by
  induction n with
  | zero => intro g; rw [Nat.zero_add]; rfl
  | succ n ih =>
    intro g
    rw [Nat.succ_add]
    cases g with
    | done r =>
      show Go1.done r = runM m (Go1.done r)
      cases m <;> rfl
    | on steps S =>
      cases S with
      | nil =>
        show Go1.on steps [] = runM m (Go1.on steps [])
        cases m <;> rfl
      | cons f S => exact ih _
end Go.Proofs.YtmjiocpcenbndaaGreatDoor
namespace Go.Proofs.YtmjiocpcenbndaaGreatDoor
open Go Go.RowKit
open Pl (K Con)
set_option linter.unusedSimpArgs false
set_option linter.unusedVariables false

/-- the constructor that is applied, and its arguments -/
inductive Spn : Con → Con → List Con → Prop
  | base (t : Con) : t.op ≠ 12 → Spn t t []
  | app (t f a h : Con) (l : List Con) : t.op = 12 → t.l = [f, a] → Spn f h l → Spn t h (l ++ [a])
theorem Spn.one {t h h' : Con} {l l' : List Con} (p : Spn t h l) : Spn t h' l' → h = h' ∧ l = l' := by
  induction p generalizing h' l' with
  | base t h0 =>
    intro q
    cases q with
    | base _ _ => exact ⟨rfl, rfl⟩
    | app _ _ _ _ _ h1 _ _ => exact absurd h1 h0
  | app t f a h l h1 h2 _ ih =>
    intro q
    cases q with
    | base _ h0 => exact absurd h1 h0
    | app _ f2 a2 _ l2 _ g2 g3 =>
      rw [h2] at g2
      simp only [List.cons.injEq, and_true] at g2
      obtain ⟨rfl, rfl⟩ := g2
      obtain ⟨rfl, rfl⟩ := ih g3
      exact ⟨rfl, rfl⟩
/-- the spine of applications is found again -/
theorem Spn.apps {t h : Con} {l : List Con} (p : Spn t h l) : ∀ m : List Con, Spn (appsC t m) h (l ++ m) := by
  intro m
  have key : ∀ (m : List Con) (t : Con) (l : List Con), Spn t h l → Spn (appsC t m) h (l ++ m) := by
    intro m
    induction m with
    | nil => intro t l p; rw [List.append_nil]; exact p
    | cons x r ih =>
      intro t l p
      have := ih (ap t x) (l ++ [x]) (Spn.app (ap t x) t x h l rfl rfl p)
      rw [List.append_assoc] at this
      exact this
  exact key m t l p
/-- the elements of a block, in order -/
structure Elems (w : World) (R : Nat → Prop) (g : Nat) (cap : Nat) (l : List Con) : Prop where
  ex : ∃ cur : Array Value, Blk w g 28 cur ∧ cur.size = cap * 6 ∧ l.length ≤ cap ∧ ∀ j (h : j < l.length), ∃ x, ConIn cur (j * 6) x ∧ ConV w R l[j] x
theorem Elems.cons {w : World} {R S : Nat → Prop} {g cap : Nat} {l : List Con} (h : Elems w R g cap l) (hR : ∀ q, R q → S q) (hg : S g) (hc : cap ≤ maxLen) : ConSl w S (.slice (some ⟨g, 0, none⟩) l.length cap) l := by
  obtain ⟨cur, hb, hs, hn, hk⟩ := h.ex
  refine ⟨_, cap, rfl, hn, hc, (fun h => by cases h), .inr ⟨g, 0, rfl, hg, ?_⟩⟩
  rw [consAt_iff]
  intro j hj
  obtain ⟨x, ⟨x0, x1, x2, x3, x4, x5, rfl, c0, c1, c2, c3, c4, c5⟩, hv⟩ := hk j hj
  refine ⟨_, ⟨x0, x1, x2, x3, x4, x5, rfl, ?_, ?_, ?_, ?_, ?_, ?_⟩, hv.mono hR⟩
  all_goals rw [Nat.zero_add]; exact hb.cell _ _ (by assumption)
theorem put6_get {cur : Array Value} {o : Nat} (x0 x1 x2 x3 x4 x5 : Value) (h : o + 5 < cur.size) : ConIn (put6 cur o x0 x1 x2 x3 x4 x5) o (.agg #[x0, x1, x2, x3, x4, x5]) := by
  refine ⟨x0, x1, x2, x3, x4, x5, rfl, ?_, ?_, ?_, ?_, ?_, ?_⟩ <;> (unfold put6; simp [Array.getElem?_setIfInBounds]; omega)
theorem put6_far {cur : Array Value} {o j : Nat} {v : Value} (x0 x1 x2 x3 x4 x5 : Value) (h : ConIn cur j v) (hd : j + 5 < o ∨ o + 5 < j) : ConIn (put6 cur o x0 x1 x2 x3 x4 x5) j v := by
  obtain ⟨y0, y1, y2, y3, y4, y5, rfl, c0, c1, c2, c3, c4, c5⟩ := h
  have each : ∀ (i : Nat) (u : Value), (i < o ∨ o + 5 < i) → cur[i]? = some u → (put6 cur o x0 x1 x2 x3 x4 x5)[i]? = some u := by
    intro i u hi hu
    unfold put6
    rw [Array.getElem?_setIfInBounds_ne (by omega), Array.getElem?_setIfInBounds_ne (by omega), Array.getElem?_setIfInBounds_ne (by omega), Array.getElem?_setIfInBounds_ne (by omega), Array.getElem?_setIfInBounds_ne (by omega), Array.getElem?_setIfInBounds_ne (by omega)]
    exact hu
  exact ⟨y0, y1, y2, y3, y4, y5, rfl, each _ _ (by omega) c0, each _ _ (by omega) c1, each _ _ (by omega) c2, each _ _ (by omega) c3, each _ _ (by omega) c4, each _ _ (by omega) c5⟩
/-- half turned round: k from each end -/
def Turned (l zs : List Con) (k : Nat) : Prop := zs.length = l.length ∧ ∀ m (h : m < zs.length) (h2 : m < l.length), zs[m] = if m < k ∨ l.length - k ≤ m then l[l.length - 1 - m]'(by omega) else l[m]
theorem Turned.start (l : List Con) : Turned l l 0 := ⟨rfl, fun m h h2 => by rw [if_neg (by omega)]⟩
theorem Turned.done {l zs : List Con} {k : Nat} (h : Turned l zs k) (hk : l.length ≤ 2 * k + 1) : zs = l.reverse := by
  obtain ⟨h1, h2⟩ := h
  refine List.ext_getElem (by rw [List.length_reverse]; exact h1) (fun m hm hm2 => ?_)
  rw [List.getElem_reverse, h2 m hm (by omega)]
  by_cases hc : m < k ∨ l.length - k ≤ m
  · rw [if_pos hc]
  · rw [if_neg hc]
    congr 1
    omega
theorem Turned.swap {l zs : List Con} {k : Nat} (h : Turned l zs k) (hk : k < l.length - 1 - k) (hz : k < zs.length) (hz2 : l.length - 1 - k < zs.length) : Turned l ((zs.set k zs[l.length - 1 - k]).set (l.length - 1 - k) zs[k]) (k + 1) := by
  obtain ⟨h1, h2⟩ := h
  refine ⟨by simp [h1], fun m hm hm2 => ?_⟩
  rw [List.getElem_set]
  by_cases e1 : l.length - 1 - k = m
  · rw [if_pos e1, h2 k hz (by omega), if_neg (by omega), if_pos (by omega)]
    congr 1
    omega
  · rw [if_neg e1, List.getElem_set]
    by_cases e2 : k = m
    · subst e2
      rw [if_pos rfl, h2 _ hz2 (by omega), if_neg (by omega), if_pos (by omega)]
    · rw [if_neg e2, h2 m (by simpa using hm) hm2]
      by_cases hc : m < k ∨ l.length - k ≤ m
      · rw [if_pos hc, if_pos (by omega)]
      · rw [if_neg hc, if_neg (by omega)]
theorem Turned.swap2 {l zs : List Con} {k m n : Nat} (h : Turned l zs k) (hn : n = l.length) (hm : (n : Int) - 1 - k = m) (hk : (k : Int) < m) (hz : k < zs.length) (hz2 : m < zs.length) : Turned l ((zs.set k zs[m]).set m zs[k]) (k + 1) := by
  have e : m = l.length - 1 - k := by omega
  subst e
  exact h.swap (by omega) hz hz2
end Go.Proofs.YtmjiocpcenbndaaGreatDoor
namespace Go.Proofs.YtmjiocpcenbndaaGreatDoor
open Go Go.RowKit
open Pl (K Con)
set_option linter.unusedSimpArgs false
set_option linter.unusedVariables false

theorem Spn.len9 {t h : Con} {l : List Con} (p : Spn t h l) : l.length ≤ t.size := by
  induction p with
  | base t _ => exact Nat.zero_le _
  | app t f a h l _ h2 _ ih =>
    rw [Con.size_eq, h2, Con.sizes_cons, List.length_append]
    show l.length + 1 ≤ _
    omega
theorem step_append_own9 {P : Program} {w : World} {ops : Array Oper} {o : Oper} {a : Act} {K : Act → World → Prop} {Q : Exit → Act → World → Prop} {E : Prop} (hgd : o.guard = none) (s x : Operand) (t : TypeId)
    (ho : o.op = .call { callee := .builtin .append, args := #[s, x], argTypes := #[t, t] })
    (base : Nat) (e : TypeId) (i : TypeInfo) (z : Value) (size bytes : Nat) (ht : P.underlying t = some (.slice e)) (hi : P.info? e = some i) (hz : i.zero = some z)
    (hsize : i.size = size) (hby : i.bytes = bytes) (hzs : z.cells.size = size) (hsz : 0 < size)
    (v : Value) (n : Nat) (xs : List Value) (hs : a.eval s = v) (hown : w.ownsRow base e size v n xs) (oa : Option Addr) (m c : Nat) (news : List Value) (hx : a.eval x = .slice oa m c) (hnone : oa = none → m = 0 ∧ c = 0) (hl : news.length = m * size) (hnews : ∀ ad, oa = some ad → ∀ j u, news[j]? = some u → w.cell? (ad.add j) = some u) (h1 : ∀ u ∈ news, u.oneCell' = true)
    (h63 : n + m ≤ maxLen) (hbytes : (n + m) * bytes ≤ 140737488355328) (hbase : base ≤ w.heap.size)
    (h : ∀ v' w', w'.ownsRow base e size v' (n + m) (xs ++ news) → w.grownBy w' v.ownBlock → K (a.put o.dst v') w') :
    if Region.wanted o (yielded ops a.tmps) = true then Oper.wp P o a w K Q else E := by
  have hw : Region.wanted o (yielded ops a.tmps) = true := by simp [Region.wanted, hgd]
  rw [if_pos hw]
  cases oa with
  | none =>
    obtain ⟨rfl, rfl⟩ := hnone rfl
    have hn : news = [] := List.eq_nil_of_length_eq_zero (by omega)
    subst hn
    have hh := h v w (by rw [Nat.add_zero, List.append_nil]; exact hown) ⟨rfl, rfl, rfl, Nat.le_refl _, fun _ _ _ => rfl⟩
    have hrun := run_append_owned_none (P := P) (w := w) base t o.type e i size ht hi v n xs hown
    unfold Oper.wp
    simp [execOp, ho, resolve, invoke, builtin, hs, hx, hrun, Result.andThen]
    exact hh
  | some ad => exact wp_append_own w s x t ho base e i z size bytes ht hi hz hsize hby hzs hsz v n xs hs hown ad m c news hx hl (hnews ad rfl) h1 h63 hbytes hbase fun v' w' h2 h3 _ => h v' w' h2 h3
theorem cells_keepC {w W : World} {ga : Option Addr} {us : List Value} (hb : Below w.heap.size w W) (h : ∀ ad, ga = some ad → ∀ j u, us[j]? = some u → w.cell? (ad.add j) = some u) : ∀ ad, ga = some ad → ∀ j u, us[j]? = some u → W.cell? (ad.add j) = some u := fun ad had j u hu => by
  have h := h ad had j u hu
  have hlt := World.block_lt_of_cell? _ _ h
  have := hb.block (ad.add j).block hlt
  simp only [World.cell?] at h ⊢
  rw [this]
  exact h
/-- what the reference's Spine answers -/
def RSpP (P : Nat → Prop) (t : Con) (w : World) (e : Ending) (w' : World) : Prop := (∃ h l y z, e = .returned (.tuple #[y, z]) ∧ Spn t h l ∧ ConV w' (Ext P w w') h y ∧ ConSl w' (Ext P w w') z l) ∧ Below w.heap.size w w'
/-- an empty row of constructors, at a block of its own -/
theorem own_emptyC {W : World} {base B : Nat} (h : Blk W B 28 #[]) (hB : base ≤ B) : W.ownsRow base 28 6 (.slice (some ⟨B, 0, none⟩) 0 0) 0 [] :=
  ⟨rfl, .inr ⟨B, 0, #[], rfl, hB, h, Nat.le_refl _, Nat.zero_le _, rfl, rfl⟩⟩
theorem six_news {W : World} {B : Nat} {x0 x1 x2 x3 x4 x5 : Value} (h : Blk W B 28 #[x0, x1, x2, x3, x4, x5]) : ∀ j u, [x0, x1, x2, x3, x4, x5][j]? = some u → W.cell? ((⟨B, 0, none⟩ : Addr).add j) = some u := World.news_of_block (cs := #[x0, x1, x2, x3, x4, x5]) (t := 28) (fr := (0, 0)) h
theorem six_news1 {W : World} {B : Nat} {x0 x1 x2 x3 x4 x5 : Value} (h : Blk W B 28 #[x0, x1, x2, x3, x4, x5]) : ∀ ad, (some (⟨B, 0, none⟩ : Addr)) = some ad → ∀ j u, [x0, x1, x2, x3, x4, x5][j]? = some u → W.cell? (ad.add j) = some u := fun ad had => by
  injection had with had
  subst had
  exact six_news h
theorem app_parts9 {t : Con} (h : Con.allB t = true) (h12 : t.op = 12) : ∃ f a, t.l = [f, a] := by
  rw [allB_eq, Bool.and_eq_true] at h
  have hn := h.1
  unfold Con.nodeB at hn
  simp only [Bool.and_eq_true] at hn
  have hs := hn.2.1
  unfold Con.shapeB at hs
  have hp : Con.partsOf t.op = 2 := by simp [Con.partsOf, h12]
  rw [hp, if_pos (by decide), Bool.and_eq_true, decide_eq_true_eq] at hs
  have h2 : t.l.length = 2 := by omega
  match hl : t.l, h2 with
  | [f, a], _ => exact ⟨f, a, rfl⟩
set_option maxRecDepth 100000 in
set_option maxHeartbeats 1000000 in
theorem rspine_any (P : Nat → Prop) (t : Con) : Con.allB t = true → t.size ≤ 20000 → ∀ (w : World) (v : Value), (∀ q, P q → q < w.heap.size) → ConV w P t v →
    Calls Tryz.prog 16 #[v] w (RSpP P t w) := by
  induction t using Con.ind with
  | h t ih =>
  intro hall hsz w v hP ht
  have HP := Lib.hid hP
  have HSH := Lib.hid (app_parts9 hall)
  have HALL := Lib.hid hall
  have HIH := Lib.hid ih
  have HT := Lib.hid (fun W (hW : Below w.heap.size w W) => (ht.keep (Same.of_below hW hP)))
  have HSZ := Lib.hid hsz
  obtain ⟨ka, kn, kc, na, nn, nc, la, ln, lc, rfl, -, -, hln⟩ := ht.shape
  have HLN := Lib.hid hln
  obtain ⟨hbx, hbx2, hb⟩ := twoN_new w 28 28 #[.int .i64 t.op, .int .i64 t.n, .string t.s, .slice ka kn kc, .slice na nn nc, .slice la ln lc] #[.int .i64 0, .int .i64 0, .string ⟨#[]⟩, .slice none 0 0, .slice none 0 0, .slice none 0 0]
  have HX0 := Lib.hid (show w.heap.size + 2 ≤ ((w.alloc (.cells #[.int .i64 t.op, .int .i64 t.n, .string t.s, .slice ka kn kc, .slice na nn nc, .slice la ln lc] 28)).alloc (.cells #[.int .i64 0, .int .i64 0, .string ⟨#[]⟩, .slice none 0 0, .slice none 0 0, .slice none 0 0] 28)).heap.size from by simp)
  have HX := Lib.hid hbx
  have HZ := Lib.hid hbx2
  have HB := Lib.hid hb
  clear hbx hbx2 hb ht ih hall hsz hln hP
  go_enter Tryz.func16, Tryz.ntmps16
  go_upto_region 1 with fail
  generalize (w.alloc (.cells #[.int .i64 t.op, .int .i64 t.n, .string t.s, .slice ka kn kc, .slice na nn nc, .slice la ln lc] 28)).alloc (.cells #[.int .i64 0, .int .i64 0, .string ⟨#[]⟩, .slice none 0 0, .slice none 0 0, .slice none 0 0] 28) = w1 at *
  have c0 := HX.out.cell 0 (.int .i64 t.op) rfl
  by_cases h12 : t.op = 12
  rotate_left
  · have q1 : (t.op != 12) = true := by simpa using h12
    have c1 := HX.out.cell 1 (.int .i64 t.n) rfl
    have c2 := HX.out.cell 2 (.string t.s) rfl
    have c3 := HX.out.cell 3 (.slice ka kn kc) rfl
    have c4 := HX.out.cell 4 (.slice na nn nc) rfl
    have c5 := HX.out.cell 5 (.slice la ln lc) rfl
    have t0 := HZ.out.thaw 0
    have t1 := HZ.out.thaw 1
    have t2 := HZ.out.thaw 2
    have t3 := HZ.out.thaw 3
    have t4 := HZ.out.thaw 4
    have t5 := HZ.out.thaw 5
    have r0 := HZ.out.cell 0 (.int .i64 0) rfl
    have r1 := HZ.out.cell 1 (.int .i64 0) rfl
    have r2 := HZ.out.cell 2 (.string ⟨#[]⟩) rfl
    have r3 := HZ.out.cell 3 (.slice none 0 0) rfl
    have r4 := HZ.out.cell 4 (.slice none 0 0) rfl
    have r5 := HZ.out.cell 5 (.slice none 0 0) rfl
    have hz := store6_blk HZ.out 0 (.int .i64 t.op) (.int .i64 t.n) (.string t.s) (.slice ka kn kc) (.slice na nn nc) (.slice la ln lc)
    rw [put6_all] at hz
    have HE := Lib.hid (show RSpP P t w (.returned (.tuple #[.agg #[.int .i64 t.op, .int .i64 t.n, .string t.s, .slice ka kn kc, .slice na nn nc, .slice la ln lc], .slice none 0 0])) (store6 w1 (w.heap.size + 1) 0 (.int .i64 t.op) (.int .i64 t.n) (.string t.s) (.slice ka kn kc) (.slice na nn nc) (.slice la ln lc)) from ⟨⟨t, [], _, _, rfl, .base t h12, ((HT.out _ HB.out).keep (fun q hq => store6_other _ _ _ _ _ _ _ _ _ q (by have := HP.out q hq; omega))).mono (fun q hq => .inl hq), ⟨none, 0, rfl, Nat.le_refl _, Nat.zero_le _, fun _ => rfl, .inl rfl⟩⟩, store6_below HB.out _ _ _ _ _ _ _ _ (Nat.le_succ _)⟩)
    unfold store6 at hz HE
    simp only [Nat.zero_add] at hz HE
    have z0 := hz.cell 0 (.int .i64 t.op) rfl
    have z1 := hz.cell 1 (.int .i64 t.n) rfl
    have z2 := hz.cell 2 (.string t.s) rfl
    have z3 := hz.cell 3 (.slice ka kn kc) rfl
    have z4 := hz.cell 4 (.slice na nn nc) rfl
    have z5 := hz.cell 5 (.slice la ln lc) rfl
    clear hz HX HZ HT HIH HSH h12
    go_wp2
    refine bodyPost_ret (v := .tuple #[.agg #[.int .i64 t.op, .int .i64 t.n, .string t.s, .slice ka kn kc, .slice na nn nc, .slice la ln lc], .slice none 0 0]) (by simp [results, Tryz.results16, go_sem, z0, z1, z2, z3, z4, z5]) rfl ?_
    exact HE.out
  have q1 : (t.op != 12) = false := by simp [h12]
  obtain ⟨f, u, hl⟩ := HSH.out h12
  have H12 := Lib.hid h12
  have HL := Lib.hid hl
  have h2 : ln = 2 := by rw [HLN.out, hl]; rfl
  subst h2
  have hparts := con_list (HT.out _ HB.out)
  obtain ⟨b0, o0, c', xa, xn, xc, ya, yn, yc, za, zn, zc, e, hP0, f0, f1, f2, f3, f4, f5, hx⟩ := hparts.part 0 (by simp [hl])
  injection e with e1 e2 e3
  subst e1 e3
  clear e2
  obtain ⟨b1, o1, c1', ua, un, uc, va, vn, vc, pa, pn, pc, e, hP1, g0, g1, g2, g3, g4, g5, hu⟩ := hparts.part 1 (by simp [hl])
  injection e with e1 e2 e3
  injection e1 with e1
  injection e1 with e1 e4
  subst e1 e4 e3
  clear e2
  have hl0 : t.l[0]'(by simp [hl]) = f := by simp [hl]
  have hl1 : t.l[1]'(by simp [hl]) = u := by simp [hl]
  rw [hl0] at f0 f1 f2 hx
  rw [hl1] at g0 g1 g2 hu
  have HF := Lib.hid hx
  have HU := Lib.hid hu
  simp only [Nat.one_mul] at g0 g1 g2 g3 g4 g5
  have hmf : f ∈ t.l := by rw [hl]; exact List.mem_cons_self
  have hfall : Con.allB f = true := by
    have h := HALL.out
    rw [allB_eq, Bool.and_eq_true, List.all_eq_true] at h
    exact h.2 f hmf
  have hfsz : f.size ≤ 20000 := by
    have h := HSZ.out
    rw [Con.size_eq, hl, Con.sizes_cons] at h
    omega
  have HFZ := Lib.hid hfsz
  have HC := Lib.hid (fun W x (h1 : ∀ q, P q → q < W.heap.size) (h : ConV W P f x) => HIH.out f hmf hfall hfsz W x h1 h)
  have HG := Lib.hid (show b0 < w.heap.size ∧ w1.cell? ⟨b0, o0 + 6, none⟩ = some (.int .i64 u.op) ∧ w1.cell? ⟨b0, o0 + 6 + 1, none⟩ = some (.int .i64 u.n) ∧ w1.cell? ⟨b0, o0 + 6 + 2, none⟩ = some (.string u.s) ∧ w1.cell? ⟨b0, o0 + 6 + 3, none⟩ = some (.slice ua un uc) ∧ w1.cell? ⟨b0, o0 + 6 + 4, none⟩ = some (.slice va vn vc) ∧ w1.cell? ⟨b0, o0 + 6 + 5, none⟩ = some (.slice pa pn pc) from ⟨HP.out _ hP0, g0, g1, g2, g3, g4, g5⟩)
  simp only [Nat.zero_mul, Nat.add_zero] at f0 f1 f2 f3 f4 f5
  clear hparts hP0 hP1 g0 g1 g2 g3 g4 g5 hx hu hl0 hl1 hmf hfall hfsz HIH HSH h12 hl
  have c1 := HX.out.cell 1 (.int .i64 t.n) rfl
  have c2 := HX.out.cell 2 (.string t.s) rfl
  have c3 := HX.out.cell 3 (.slice ka kn kc) rfl
  have c4 := HX.out.cell 4 (.slice na nn nc) rfl
  have c5 := HX.out.cell 5 (.slice (some ⟨b0, o0, none⟩) 2 lc) rfl
  go_wp2_with fail
  clear c0 c1 c2 c3 c4 c5 f0 f1 f2 f3 f4 f5 q1
  refine (HC.out w1 _ (fun q hq => Nat.lt_of_lt_of_le (HP.out q hq) HB.out.size) HF.out).mono ?_
  rintro e w4 ⟨⟨h, l, y, z, rfl, hsp, hy, hz⟩, hb4⟩
  obtain ⟨ha, hn, hc, ia, im, ic, ja, jn, jc, rfl, -, -, -⟩ := hy.shape
  obtain ⟨sa, sc, rfl, hmn, hmx, -⟩ := hz.each
  have HSP := Lib.hid hsp
  have HY := Lib.hid hy
  have HZL := Lib.hid hz
  have HLL := Lib.hid hsp.len9
  replace HX := Lib.hid (HX.out.of_eq (hb4.block _ HX.out.lt))
  replace HZ := Lib.hid (HZ.out.of_eq (hb4.block _ HZ.out.lt))
  have HW2 := Lib.hid (show w.heap.size + 2 ≤ w4.heap.size from HZ.out.lt)
  have HG4 := Lib.hid hb4
  have HBA := Lib.hid (belowStep hb4 HB.out)
  clear hsp hy hz hb4 hmn hmx HC
  obtain ⟨m, hm⟩ : ∃ m, m = l.length := ⟨_, rfl⟩
  rw [← hm] at HZL HLL ⊢
  have HMS := Lib.hid (show m ≤ 20000 from Nat.le_trans HLL.out HFZ.out)
  have HM := Lib.hid hm
  clear hm
  obtain ⟨hbf, hb5⟩ := boxN_new w4 28 #[.int .i64 h.op, .int .i64 h.n, .string h.s, .slice ha hn hc, .slice ia im ic, .slice ja jn jc]
  go_upto_region 4 with fail
  have HBF := Lib.hid hbf
  have hlow4 : ∀ q, Ext P w1 w4 q → q < w4.heap.size ∧ q ≠ w.heap.size ∧ q ≠ w.heap.size + 1 := fun q hq => by
    have h2 := HB.out.size
    have h3 := HX0.out
    have h4 := HG4.out.size
    rcases hq with hq | hq
    · have := HP.out q hq
      omega
    · omega
  have HLOW := Lib.hid hlow4
  replace HY := Lib.hid (HY.out.keep (Same.of_below hb5 (fun q h => (hlow4 q h).1)))
  replace HZL := Lib.hid (HZL.out.keep (Same.of_below hb5 (fun q h => (hlow4 q h).1)))
  replace HX := Lib.hid (HX.out.of_eq (hb5.block _ HX.out.lt))
  replace HZ := Lib.hid (HZ.out.of_eq (hb5.block _ HZ.out.lt))
  replace HBA := Lib.hid (belowStep hb5 HBA.out)
  have hs5 := size_alloc w4 (.cells #[.int .i64 h.op, .int .i64 h.n, .string h.s, .slice ha hn hc, .slice ia im ic, .slice ja jn jc] 28)
  generalize w4.alloc (.cells #[.int .i64 h.op, .int .i64 h.n, .string h.s, .slice ha hn hc, .slice ia im ic, .slice ja jn jc] 28) = w5 at *
  have HS5 := Lib.hid hs5
  obtain ⟨ax, cx, hzv, hcase⟩ := HZL.out.row
  rw [← HM.out] at hzv
  simp only [Value.slice.injEq, true_and] at hzv
  obtain ⟨rfl, rfl⟩ := hzv
  obtain ⟨ns, hns, hcs, hnone⟩ : ∃ ns, ConRow w5 (Ext P w1 w4) ns l ∧ (∀ ad, sa = some ad → ∀ j u, ns[j]? = some u → w5.cell? (ad.add j) = some u) ∧ (sa = none → m = 0 ∧ sc = 0) := by
    rcases hcase with ⟨h1, h2, h3⟩ | ⟨ad, h1, ns, h2, h3⟩
    · exact ⟨[], by rw [h3]; exact ConRow.nil _ _, (fun ad had => by rw [h1] at had; cases had), fun _ => ⟨by rw [HM.out, h3]; rfl, h2⟩⟩
    · exact ⟨ns, h2, (fun ad' had => by rw [h1] at had; injection had with had; rw [← had]; exact h3), fun h => by rw [h1] at h; cases h⟩
  clear hcase hlow4 hb5 hs5 hbf
  have HNS := Lib.hid hns
  have HNL := Lib.hid (show ns.length = m * 6 from by rw [hns.1, HM.out])
  have HN1 := Lib.hid hns.2.1
  have HCS := Lib.hid (fun W (hW : Below w5.heap.size w5 W) => cells_keepC hW hcs)
  have HNO := Lib.hid hnone
  clear hns hcs hnone
  obtain ⟨iC, ci0, ci1, ci2, ci3⟩ := info_parts infoCon
  have hgb : w5.heap[b0]? = w1.heap[b0]? := (HBA.out.block b0 HG.out.1).trans (HB.out.block b0 HG.out.1).symm
  have HKP := Lib.hid (fun (W : World) (hW : ∀ q, q < w5.heap.size → q ≠ w.heap.size + 1 → W.heap[q]? = w5.heap[q]?) => (show W.cell? ⟨w4.heap.size, 0, none⟩ = some (.int .i64 h.op) ∧ W.cell? ⟨w4.heap.size, 1, none⟩ = some (.int .i64 h.n) ∧ W.cell? ⟨w4.heap.size, 2, none⟩ = some (.string h.s) ∧ W.cell? ⟨w4.heap.size, 3, none⟩ = some (.slice ha hn hc) ∧ W.cell? ⟨w4.heap.size, 4, none⟩ = some (.slice ia im ic) ∧ W.cell? ⟨w4.heap.size, 5, none⟩ = some (.slice ja jn jc) ∧ W.cell? ⟨w.heap.size, 5, none⟩ = some (.slice (some ⟨b0, o0, none⟩) 2 lc) ∧ W.cell? ⟨b0, o0 + 6, none⟩ = some (.int .i64 u.op) ∧ W.cell? ⟨b0, o0 + 6 + 1, none⟩ = some (.int .i64 u.n) ∧ W.cell? ⟨b0, o0 + 6 + 2, none⟩ = some (.string u.s) ∧ W.cell? ⟨b0, o0 + 6 + 3, none⟩ = some (.slice ua un uc) ∧ W.cell? ⟨b0, o0 + 6 + 4, none⟩ = some (.slice va vn vc) ∧ W.cell? ⟨b0, o0 + 6 + 5, none⟩ = some (.slice pa pn pc) from by
    have h1 := HW2.out
    have h2 := HS5.out
    have k1 := HBF.out.of_eq (hW _ HBF.out.lt (by omega))
    have k2 := HX.out.of_eq (hW _ HX.out.lt (by omega))
    have k3 := (hW b0 (by have := HG.out.1; omega) (by have := HG.out.1; omega)).trans hgb
    obtain ⟨-, g0, g1, g2, g3, g4, g5⟩ := HG.out
    exact ⟨k1.cell 0 _ rfl, k1.cell 1 _ rfl, k1.cell 2 _ rfl, k1.cell 3 _ rfl, k1.cell 4 _ rfl, k1.cell 5 _ rfl, k2.cell 5 _ rfl, (cell_eq9 k3).trans g0, (cell_eq9 k3).trans g1, (cell_eq9 k3).trans g2, (cell_eq9 k3).trans g3, (cell_eq9 k3).trans g4, (cell_eq9 k3).trans g5⟩))
  have HKB := Lib.hid (fun W (hW : Below w5.heap.size w5 W) => HKP.out W (fun q hq _ => hW.block q hq))
  have HKZ := Lib.hid (fun W (hW : Below w5.heap.size w5 W) => HKP.out (store6 W (w.heap.size + 1) 0 (.int .i64 h.op) (.int .i64 h.n) (.string h.s) (.slice ha hn hc) (.slice ia im ic) (.slice ja jn jc)) (fun q hq hqn => (store6_other _ _ _ _ _ _ _ _ _ q hqn).trans (hW.block q hq)))
  unfold store6 at HKZ
  simp only [Nat.zero_add] at HKB HKZ
  have hbE : Below w5.heap.size w5 (w5.alloc (.cells #[] 28)).drew := ((Below.refl w5.heap.size w5).alloc (Nat.le_refl _) _).drew
  have hbD : Below w5.heap.size w5 (w5.alloc (.cells #[.int .i64 u.op, .int .i64 u.n, .string u.s, .slice ua un uc, .slice va vn vc, .slice pa pn pc] 28)).drew := ((Below.refl w5.heap.size w5).alloc (Nat.le_refl _) _).drew
  have hbED : Below w5.heap.size w5 ((w5.alloc (.cells #[] 28)).alloc (.cells #[.int .i64 u.op, .int .i64 u.n, .string u.s, .slice ua un uc, .slice va vn vc, .slice pa pn pc] 28)).drew := (((Below.refl w5.heap.size w5).alloc (Nat.le_refl _) _).alloc (by simp) _).drew
  have hbDE : Below w5.heap.size w5 ((w5.alloc (.cells #[.int .i64 u.op, .int .i64 u.n, .string u.s, .slice ua un uc, .slice va vn vc, .slice pa pn pc] 28)).alloc (.cells #[] 28)).drew := (((Below.refl w5.heap.size w5).alloc (Nat.le_refl _) _).alloc (by simp) _).drew
  have e1 := twoN_new w5 28 28 #[] #[.int .i64 u.op, .int .i64 u.n, .string u.s, .slice ua un uc, .slice va vn vc, .slice pa pn pc]
  have e2 := twoN_new w5 28 28 #[.int .i64 u.op, .int .i64 u.n, .string u.s, .slice ua un uc, .slice va vn vc, .slice pa pn pc] #[]
  have HO1 := Lib.hid (own_emptyC (base := w5.heap.size) (blk_new w5 #[] 28).drew (Nat.le_refl _))
  have HO2 := Lib.hid (own_emptyC (base := w5.heap.size) e1.1.drew (Nat.le_refl _))
  have HO3 := Lib.hid (own_emptyC (base := w5.heap.size) e2.2.1.drew (Nat.le_succ _))
  have HL2 := Lib.hid e1.2.1.drew
  have HL3 := Lib.hid e2.1.drew
  have HBE := Lib.hid hbE
  have HBD := Lib.hid hbD
  have HBED := Lib.hid hbED
  have HBDE := Lib.hid hbDE
  have HBR := Lib.hid (Below.refl w5.heap.size w5).drew
  have HALC := Lib.hid (fun W o (hW : Below w5.heap.size w5 W) => (hW.alloc hW.size o))
  have HU5 := Lib.hid (HU.out.keep (w' := w5) (fun q hq => (HBA.out.block q (HP.out q hq)).trans (HB.out.block q (HP.out q hq)).symm))
  have HFIN := Lib.hid (fun (W : World) (v' : Value) (hown : W.ownsRow w5.heap.size 28 6 v' (0 + m + 1) ([] ++ ns ++ [.int .i64 u.op, .int .i64 u.n, .string u.s, .slice ua un uc, .slice va vn vc, .slice pa pn pc])) (hb : Below w5.heap.size w5 W) => (show RSpP P t w (.returned (.tuple #[.agg #[.int .i64 h.op, .int .i64 h.n, .string h.s, .slice ha hn hc, .slice ia im ic, .slice ja jn jc], v'])) (store6 W (w.heap.size + 1) 0 (.int .i64 h.op) (.int .i64 h.n) (.string h.s) (.slice ha hn hc) (.slice ia im ic) (.slice ja jn jc)) from by
    have hsame : Same (Ext P w1 w4) w5 W := Same.of_below hb (fun q hq => by have := (HLOW.out q hq).1; have := HS5.out; omega)
    have hw2 := HW2.out
    have hs5 := HS5.out
    have hbs := hb.size
    have hx0 := HX0.out
    have hrow := (HNS.out.keep hsame).push ((HU5.out.mono (Q := Ext P w1 w4) (fun q hq => .inl hq)).keep hsame)
    rw [List.nil_append] at hown
    have hk := ConRow.cons (S := fun q => Ext P w (store6 W (w.heap.size + 1) 0 (.int .i64 h.op) (.int .i64 h.n) (.string h.s) (.slice ha hn hc) (.slice ia im ic) (.slice ja jn jc)) q ∧ q ≠ w.heap.size + 1) (cur := l ++ [u]) (by rw [List.length_append, ← HM.out]; simpa using hown) hrow
      (fun q hq => ⟨by
        have h9 := HLOW.out q hq
        rcases hq with hq | hq
        · exact .inl hq
        · exact .inr ⟨by omega, by rw [store6_size]; omega⟩, (HLOW.out q hq).2.2⟩) (fun q h1 h2 => ⟨.inr ⟨by omega, by rw [store6_size]; omega⟩, by omega⟩)
    refine ⟨⟨h, l ++ [u], _, _, rfl, .app t f u h l H12.out HL.out HSP.out, ?_, ?_⟩, store6_below (belowStep hb HBA.out) _ _ _ _ _ _ _ _ (Nat.le_succ _)⟩
    · refine ((HY.out.keep hsame).keep (fun q hq => store6_other _ _ _ _ _ _ _ _ _ q (HLOW.out q hq).2.2)).mono (fun q hq => ?_)
      have h9 := HLOW.out q hq
      rcases hq with hq | hq
      · exact .inl hq
      · exact .inr ⟨by omega, by rw [store6_size]; omega⟩
    · exact (hk.keep (fun q hq => store6_other _ _ _ _ _ _ _ _ _ q hq.2)).mono (fun q hq => hq.1)))
  clear hbE hbD hbED hbDE e1 e2 hgb
  go_region_held3 (fun W => W.cell? ⟨w4.heap.size, 0, none⟩ = some (.int .i64 h.op) ∧ W.cell? ⟨w4.heap.size, 1, none⟩ = some (.int .i64 h.n) ∧ W.cell? ⟨w4.heap.size, 2, none⟩ = some (.string h.s) ∧ W.cell? ⟨w4.heap.size, 3, none⟩ = some (.slice ha hn hc) ∧ W.cell? ⟨w4.heap.size, 4, none⟩ = some (.slice ia im ic) ∧ W.cell? ⟨w4.heap.size, 5, none⟩ = some (.slice ja jn jc) ∧ W.cell? ⟨w.heap.size, 5, none⟩ = some (.slice (some ⟨b0, o0, none⟩) 2 lc) ∧ W.cell? ⟨b0, o0 + 6, none⟩ = some (.int .i64 u.op) ∧ W.cell? ⟨b0, o0 + 6 + 1, none⟩ = some (.int .i64 u.n) ∧ W.cell? ⟨b0, o0 + 6 + 2, none⟩ = some (.string u.s) ∧ W.cell? ⟨b0, o0 + 6 + 3, none⟩ = some (.slice ua un uc) ∧ W.cell? ⟨b0, o0 + 6 + 4, none⟩ = some (.slice va vn vc) ∧ W.cell? ⟨b0, o0 + 6 + 5, none⟩ = some (.slice pa pn pc))
    (first | (with_reducible exact HKB.out _ HBR.out) | (with_reducible exact HKB.out _ HBE.out) | (with_reducible exact HKB.out _ HBD.out) | (with_reducible exact HKB.out _ HBED.out) | (with_reducible exact HKB.out _ HBDE.out) | (with_reducible exact HKB.out _ (by assumption)) | (with_reducible exact HKB.out _ (HALC.out _ _ (by assumption))) | (with_reducible exact HKZ.out _ (by assumption)))
    (first
    | (refine step_append_own9 rfl (.tmp 19) (.tmp 20) 26 rfl w5.heap.size 28 iC (.agg #[.int .i64 0, .int .i64 0, .string ByteArray.empty, .slice none 0 0, .slice none 0 0, .slice none 0 0]) 6 104 Tryz.underlying26 ci0 ci1 ci2 ci3 rfl (by decide) (.slice (some ⟨w5.heap.size, 0, none⟩) 0 0) 0 [] (by simp [Act.eval, Act.put]) HO1.out sa m sc ns (by simp [Act.eval, Act.put]) HNO.out HNL.out (HCS.out _ HBE.out) HN1.out (by unfold maxLen; have := HMS.out; omega) (by have := HMS.out; omega) HBE.out.size ?_; intro v' w' hown hgrow; have hb1 := HBE.out.grown hgrow HBE.out.size (fun q hq => by simp [Value.ownBlock] at hq; omega); have HOWN1 := Lib.hid hown; have HN1' := Lib.hid (blk_new w' #[.int .i64 u.op, .int .i64 u.n, .string u.s, .slice ua un uc, .slice va vn vc, .slice pa pn pc] 28); clear hown hgrow)
    | (refine step_append_own9 rfl (.tmp 19) (.tmp 20) 26 rfl w5.heap.size 28 iC (.agg #[.int .i64 0, .int .i64 0, .string ByteArray.empty, .slice none 0 0, .slice none 0 0, .slice none 0 0]) 6 104 Tryz.underlying26 ci0 ci1 ci2 ci3 rfl (by decide) (.slice (some ⟨w5.heap.size, 0, none⟩) 0 0) 0 [] (by simp [Act.eval, Act.put]) HO2.out sa m sc ns (by simp [Act.eval, Act.put]) HNO.out HNL.out (HCS.out _ HBED.out) HN1.out (by unfold maxLen; have := HMS.out; omega) (by have := HMS.out; omega) HBED.out.size ?_; intro v' w' hown hgrow; have hb2 := HBED.out.grown hgrow HBED.out.size (fun q hq => by simp [Value.ownBlock] at hq; omega); have HOWN2 := Lib.hid hown; have HN2 := Lib.hid (HL2.out.of_eq (hgrow.block _ HL2.out.lt (by simp [Value.ownBlock]))); clear hown hgrow)
    | (refine step_append_own9 rfl (.tmp 19) (.tmp 20) 26 rfl w5.heap.size 28 iC (.agg #[.int .i64 0, .int .i64 0, .string ByteArray.empty, .slice none 0 0, .slice none 0 0, .slice none 0 0]) 6 104 Tryz.underlying26 ci0 ci1 ci2 ci3 rfl (by decide) (.slice (some ⟨w5.heap.size + 1, 0, none⟩) 0 0) 0 [] (by simp [Act.eval, Act.put]) HO3.out sa m sc ns (by simp [Act.eval, Act.put]) HNO.out HNL.out (HCS.out _ HBDE.out) HN1.out (by unfold maxLen; have := HMS.out; omega) (by have := HMS.out; omega) HBDE.out.size ?_; intro v' w' hown hgrow; have hb3 := HBDE.out.grown hgrow HBDE.out.size (fun q hq => by simp [Value.ownBlock] at hq; omega); have HOWN3 := Lib.hid hown; have HN3 := Lib.hid (HL3.out.of_eq (hgrow.block _ HL3.out.lt (by simp [Value.ownBlock]))); clear hown hgrow)
    | (refine step_append_own9 rfl (.tmp 21) (.tmp 26) 26 rfl w5.heap.size 28 iC (.agg #[.int .i64 0, .int .i64 0, .string ByteArray.empty, .slice none 0 0, .slice none 0 0, .slice none 0 0]) 6 104 Tryz.underlying26 ci0 ci1 ci2 ci3 rfl (by decide) v' (0 + m) ([] ++ ns) (by simp [Act.eval, Act.put]) (HOWN1.out.alloc _) (some ⟨w'.heap.size, 0, none⟩) 1 1 [.int .i64 u.op, .int .i64 u.n, .string u.s, .slice ua un uc, .slice va vn vc, .slice pa pn pc] (by simp [Act.eval, Act.put]) (fun h => by cases h) rfl (six_news1 HN1'.out) (by simp [Value.oneCell']) (by unfold maxLen; have := HMS.out; omega) (by have := HMS.out; omega) (by have := hb1.size; simp; omega) ?_; intro v2 w9 hown hgrow; have hbf := (HALC.out _ _ hb1).grown hgrow (HALC.out _ _ hb1).size (fun q hq => (HOWN1.out.lt q hq).1); have HOWF := Lib.hid hown; clear hown hgrow; have hz9 := HZ.out.of_eq (hbf.block _ HZ.out.lt); have t0 := hz9.thaw 0; have t1 := hz9.thaw 1; have t2 := hz9.thaw 2; have t3 := hz9.thaw 3; have t4 := hz9.thaw 4; have t5 := hz9.thaw 5; have r0 := hz9.cell 0 (.int .i64 0) rfl; have r1 := hz9.cell 1 (.int .i64 0) rfl; have r2 := hz9.cell 2 (.string ⟨#[]⟩) rfl; have r3 := hz9.cell 3 (.slice none 0 0) rfl; have r4 := hz9.cell 4 (.slice none 0 0) rfl; have r5 := hz9.cell 5 (.slice none 0 0) rfl)
    | (refine step_append_own9 rfl (.tmp 21) (.tmp 26) 26 rfl w5.heap.size 28 iC (.agg #[.int .i64 0, .int .i64 0, .string ByteArray.empty, .slice none 0 0, .slice none 0 0, .slice none 0 0]) 6 104 Tryz.underlying26 ci0 ci1 ci2 ci3 rfl (by decide) v' (0 + m) ([] ++ ns) (by simp [Act.eval, Act.put]) HOWN2.out (some ⟨w5.heap.size + 1, 0, none⟩) 1 1 [.int .i64 u.op, .int .i64 u.n, .string u.s, .slice ua un uc, .slice va vn vc, .slice pa pn pc] (by simp [Act.eval, Act.put]) (fun h => by cases h) rfl (six_news1 HN2.out) (by simp [Value.oneCell']) (by unfold maxLen; have := HMS.out; omega) (by have := HMS.out; omega) hb2.size ?_; intro v2 w9 hown hgrow; have hbf := hb2.grown hgrow hb2.size (fun q hq => (HOWN2.out.lt q hq).1); have HOWF := Lib.hid hown; clear hown hgrow; have hz9 := HZ.out.of_eq (hbf.block _ HZ.out.lt); have t0 := hz9.thaw 0; have t1 := hz9.thaw 1; have t2 := hz9.thaw 2; have t3 := hz9.thaw 3; have t4 := hz9.thaw 4; have t5 := hz9.thaw 5; have r0 := hz9.cell 0 (.int .i64 0) rfl; have r1 := hz9.cell 1 (.int .i64 0) rfl; have r2 := hz9.cell 2 (.string ⟨#[]⟩) rfl; have r3 := hz9.cell 3 (.slice none 0 0) rfl; have r4 := hz9.cell 4 (.slice none 0 0) rfl; have r5 := hz9.cell 5 (.slice none 0 0) rfl)
    | (refine step_append_own9 rfl (.tmp 21) (.tmp 26) 26 rfl w5.heap.size 28 iC (.agg #[.int .i64 0, .int .i64 0, .string ByteArray.empty, .slice none 0 0, .slice none 0 0, .slice none 0 0]) 6 104 Tryz.underlying26 ci0 ci1 ci2 ci3 rfl (by decide) v' (0 + m) ([] ++ ns) (by simp [Act.eval, Act.put]) HOWN3.out (some ⟨w5.heap.size, 0, none⟩) 1 1 [.int .i64 u.op, .int .i64 u.n, .string u.s, .slice ua un uc, .slice va vn vc, .slice pa pn pc] (by simp [Act.eval, Act.put]) (fun h => by cases h) rfl (six_news1 HN3.out) (by simp [Value.oneCell']) (by unfold maxLen; have := HMS.out; omega) (by have := HMS.out; omega) hb3.size ?_; intro v2 w9 hown hgrow; have hbf := hb3.grown hgrow hb3.size (fun q hq => (HOWN3.out.lt q hq).1); have HOWF := Lib.hid hown; clear hown hgrow; have hz9 := HZ.out.of_eq (hbf.block _ HZ.out.lt); have t0 := hz9.thaw 0; have t1 := hz9.thaw 1; have t2 := hz9.thaw 2; have t3 := hz9.thaw 3; have t4 := hz9.thaw 4; have t5 := hz9.thaw 5; have r0 := hz9.cell 0 (.int .i64 0) rfl; have r1 := hz9.cell 1 (.int .i64 0) rfl; have r2 := hz9.cell 2 (.string ⟨#[]⟩) rfl; have r3 := hz9.cell 3 (.slice none 0 0) rfl; have r4 := hz9.cell 4 (.slice none 0 0) rfl; have r5 := hz9.cell 5 (.slice none 0 0) rfl))
  all_goals
    have HE := Lib.hid (HFIN.out w9 v2 HOWF.out hbf)
    have hz9 := HZ.out.of_eq (hbf.block _ HZ.out.lt)
    have hz := store6_blk hz9 0 (.int .i64 h.op) (.int .i64 h.n) (.string h.s) (.slice ha hn hc) (.slice ia im ic) (.slice ja jn jc)
    rw [put6_all] at hz
    obtain ⟨ra, rc, hrv⟩ := row_form6 HOWF.out
    subst hrv
    unfold store6 at hz HE
    simp only [Nat.zero_add] at hz HE
    have z0 := hz.cell 0 (.int .i64 h.op) rfl
    have z1 := hz.cell 1 (.int .i64 h.n) rfl
    have z2 := hz.cell 2 (.string h.s) rfl
    have z3 := hz.cell 3 (.slice ha hn hc) rfl
    have z4 := hz.cell 4 (.slice ia im ic) rfl
    have z5 := hz.cell 5 (.slice ja jn jc) rfl
    clear hz hz9 hbf HFIN HOWF
    go_wp2
    refine bodyPost_ret (v := .tuple #[.agg #[.int .i64 h.op, .int .i64 h.n, .string h.s, .slice ha hn hc, .slice ia im ic, .slice ja jn jc], .slice ra (m + 1) rc]) (by simp [results, Tryz.results16, go_sem, z0, z1, z2, z3, z4, z5]) rfl ?_
    exact HE.out
end Go.Proofs.YtmjiocpcenbndaaGreatDoor
namespace Go.Proofs.YtmjiocpcenbndaaGreatDoor
open Go Go.RowKit
open Pl (K Con)
set_option linter.unusedSimpArgs false
set_option linter.unusedVariables false

set_option maxRecDepth 100000 in
set_option maxHeartbeats 4000000 in
theorem rsameAll_any (l : List Con) (w : World) (v x : Value) (hv : ConSl w (· < w.heap.size) v l) (hx : ConSl w (· < w.heap.size) x l) :
    Calls Tryz.prog 17 #[v, x] w fun e w' => e = .returned (.bool true) ∧ Below w.heap.size w w' := by
  have HV := Lib.hid (fun W (hW : Below w.heap.size w W) => hv.keep (Same.of_below hW (fun _ h => h)))
  have HX := Lib.hid (fun W (hW : Below w.heap.size w W) => hx.keep (Same.of_below hW (fun _ h => h)))
  obtain ⟨va, vc, rfl, hmn, hmx, -⟩ := hv.each
  obtain ⟨xa, xc, rfl, -⟩ := hx.each
  obtain ⟨n, hn⟩ : ∃ n, n = l.length := ⟨_, rfl⟩
  have HN := Lib.hid hn
  have hn63 : n ≤ 9223372036854775807 := by unfold maxLen at hmx; omega
  rw [← hn] at HV HX ⊢
  clear hmx hmn hn hv hx
  have q1 : ((n : Int) != (n : Int)) = false := by simp
  go_enter Tryz.func17, Tryz.ntmps17
  go_upto_region 4 with fail
  clear q1
  go_loopg [5] (n + 1) (fun gk i wr => ∃ k : Nat, k ≤ n ∧ i = .int .i64 k ∧ gk = n + 1 - k ∧ Below w.heap.size w wr)
  case atStart => exact ⟨0, Nat.zero_le _, rfl, by omega, Below.refl _ _⟩
  case round =>
    obtain ⟨k, hk, rfl, hgk, hbw⟩ := hrel
    have HBW := Lib.hid hbw
    clear hbw
    by_cases hlt : k < n
    · have hkl : k < l.length := by rw [← HN.out]; exact hlt
      have q5 : decide ((k : Int) < (n : Int)) = true := decide_eq_true (by omega)
      have q6 : decide ((k : Int) < 0) = false := decide_eq_false (by omega)
      have q7 : decide ((n : Int) ≤ (k : Int)) = false := decide_eq_false (by omega)
      obtain ⟨b1, o1, c1', yaa, yan, yac, yba, ybn, ybc, yca, ycn, ycc, e, hP1, f0, f1, f2, f3, f4, f5, hu1⟩ := (HV.out wr HBW.out).part k hkl
      injection e with e1 e2 e3
      subst e1 e3
      clear e2
      obtain ⟨b2, o2, c2', zaa, zan, zac, zba, zbn, zbc, zca, zcn, zcc, e, hP2, g0, g1, g2, g3, g4, g5, hu2⟩ := (HX.out wr HBW.out).part k hkl
      injection e with e1 e2 e3
      subst e1 e3
      clear e2
      obtain ⟨u, hu⟩ : ∃ u, u = l[k] := ⟨_, rfl⟩
      rw [← hu] at f0 f1 f2 g0 g1 g2 hu1 hu2
      clear hu
      have HSA := Lib.hid (fun W (hW : Below wr.heap.size wr W) => (show Calls Tryz.prog 9 #[_, _] W (fun e w' => e = .returned (.bool true) ∧ Below W.heap.size W w') from by
        have hlow : ∀ q, q < w.heap.size → q < W.heap.size := fun q hq => Nat.lt_of_lt_of_le hq (Nat.le_trans HBW.out.size hW.size)
        have h := rsameB_any (· < w.heap.size) (· < w.heap.size) u u W _ _ hlow hlow (hu1.keep (Same.of_below hW (fun q hq => Nat.lt_of_lt_of_le hq HBW.out.size))) (hu2.keep (Same.of_below hW (fun q hq => Nat.lt_of_lt_of_le hq HBW.out.size)))
        rw [sameB_self] at h
        exact h))
      have HKB := Lib.hid (fun W (hW : Below wr.heap.size wr W) => (show W.cell? ⟨b1, o1 + k * 6, none⟩ = some (.int .i64 u.op) ∧ W.cell? ⟨b1, o1 + k * 6 + 1, none⟩ = some (.int .i64 u.n) ∧ W.cell? ⟨b1, o1 + k * 6 + 2, none⟩ = some (.string u.s) ∧ W.cell? ⟨b1, o1 + k * 6 + 3, none⟩ = some (.slice yaa yan yac) ∧ W.cell? ⟨b1, o1 + k * 6 + 4, none⟩ = some (.slice yba ybn ybc) ∧ W.cell? ⟨b1, o1 + k * 6 + 5, none⟩ = some (.slice yca ycn ycc) ∧ W.cell? ⟨b2, o2 + k * 6, none⟩ = some (.int .i64 u.op) ∧ W.cell? ⟨b2, o2 + k * 6 + 1, none⟩ = some (.int .i64 u.n) ∧ W.cell? ⟨b2, o2 + k * 6 + 2, none⟩ = some (.string u.s) ∧ W.cell? ⟨b2, o2 + k * 6 + 3, none⟩ = some (.slice zaa zan zac) ∧ W.cell? ⟨b2, o2 + k * 6 + 4, none⟩ = some (.slice zba zbn zbc) ∧ W.cell? ⟨b2, o2 + k * 6 + 5, none⟩ = some (.slice zca zcn zcc) from by
        have hb1 := hW.block b1 (Nat.lt_of_lt_of_le hP1 HBW.out.size)
        have hb2 := hW.block b2 (Nat.lt_of_lt_of_le hP2 HBW.out.size)
        exact ⟨(cell_eq9 hb1).trans f0, (cell_eq9 hb1).trans f1, (cell_eq9 hb1).trans f2, (cell_eq9 hb1).trans f3, (cell_eq9 hb1).trans f4, (cell_eq9 hb1).trans f5, (cell_eq9 hb2).trans g0, (cell_eq9 hb2).trans g1, (cell_eq9 hb2).trans g2, (cell_eq9 hb2).trans g3, (cell_eq9 hb2).trans g4, (cell_eq9 hb2).trans g5⟩))
      have HD0 := Lib.hid (Below.refl wr.heap.size wr).drew
      clear f0 f1 f2 f3 f4 f5 g0 g1 g2 g3 g4 g5 hu1 hu2 hP1 hP2
      go_upto_region 6 with fail
      go_region_held3 (fun W => W.cell? ⟨b1, o1 + k * 6, none⟩ = some (.int .i64 u.op) ∧ W.cell? ⟨b1, o1 + k * 6 + 1, none⟩ = some (.int .i64 u.n) ∧ W.cell? ⟨b1, o1 + k * 6 + 2, none⟩ = some (.string u.s) ∧ W.cell? ⟨b1, o1 + k * 6 + 3, none⟩ = some (.slice yaa yan yac) ∧ W.cell? ⟨b1, o1 + k * 6 + 4, none⟩ = some (.slice yba ybn ybc) ∧ W.cell? ⟨b1, o1 + k * 6 + 5, none⟩ = some (.slice yca ycn ycc) ∧ W.cell? ⟨b2, o2 + k * 6, none⟩ = some (.int .i64 u.op) ∧ W.cell? ⟨b2, o2 + k * 6 + 1, none⟩ = some (.int .i64 u.n) ∧ W.cell? ⟨b2, o2 + k * 6 + 2, none⟩ = some (.string u.s) ∧ W.cell? ⟨b2, o2 + k * 6 + 3, none⟩ = some (.slice zaa zan zac) ∧ W.cell? ⟨b2, o2 + k * 6 + 4, none⟩ = some (.slice zba zbn zbc) ∧ W.cell? ⟨b2, o2 + k * 6 + 5, none⟩ = some (.slice zca zcn zcc))
        (first | (with_reducible exact HKB.out _ HD0.out) | (with_reducible exact HKB.out _ (by assumption)))
        (first
        | (go_at_call 9; (with_reducible refine (HSA.out _ HD0.out).mono ?_); rintro e ws ⟨rfl, hbs⟩; have hbs2 := belowStep (a := wr) hbs HD0.out)
        | fail)
      have HB2 := Lib.hid (show Below w.heap.size w ws from ⟨hbs2.os.trans HBW.out.os, hbs2.tape.trans HBW.out.tape, hbs2.output.trans HBW.out.output, Nat.le_trans HBW.out.size hbs2.size, fun q hq => (hbs2.block q (Nat.lt_of_lt_of_le hq HBW.out.size)).trans (HBW.out.block q hq)⟩)
      clear hbs hbs2 HKB HSA HD0
      go_wp2
      go_roundg (gk - 1)
      case measure => omega
      case rel => exact ⟨k + 1, by omega, by go_num, by omega, HB2.out⟩
    · have hkn : n = k := by omega
      subst hkn
      have q5 : decide ((n : Int) < (n : Int)) = false := decide_eq_false (by omega)
      go_wp2
      go_ret
      exact ⟨rfl, HBW.out⟩
end Go.Proofs.YtmjiocpcenbndaaGreatDoor
namespace Go.Proofs.YtmjiocpcenbndaaGreatDoor
open Go Go.RowKit
open Pl (K Con)
set_option linter.unusedSimpArgs false
set_option linter.unusedVariables false

theorem ConV.drew9 {w : World} {P : Nat → Prop} {t : Con} {v : Value} (h : ConV w P t v) : ConV w.drew P t v := ConV.keep (w := w) (w' := w.drew) (fun _ _ => rfl) h
set_option maxRecDepth 100000 in
set_option maxHeartbeats 4000000 in
theorem reverse_any (R : Nat → Prop) (l : List Con) (w : World) (g cap n : Nat) (hn : n = l.length) (hE : Elems w R g cap l) (hcap : cap ≤ maxLen) (hR : ∀ q, R q → q < w.heap.size ∧ q ≠ g) :
    Calls Tryz.prog 35 #[.slice (some ⟨g, 0, none⟩) n cap] w fun e w' => e = .returned (.tuple #[]) ∧ Elems w' R g cap l.reverse ∧ Only g w w' := by
  have HN := Lib.hid hn
  have HE := Lib.hid hE
  have HR := Lib.hid hR
  have hn63 : n ≤ 9223372036854775807 := by obtain ⟨cur, -, -, h, -⟩ := hE.ex; unfold maxLen at hcap; omega
  clear hn hE hR
  go_enter Tryz.func35, Tryz.ntmps35
  go_wp2_with fail
  go_loopg [2, 3] (n + 1) (fun gk iv jv wr => ∃ (k : Nat) (zs : List Con), k ≤ n ∧ iv = .int .i64 k ∧ jv = .int .i64 ((n : Int) - 1 - k) ∧ gk = n + 1 - k ∧ Turned l zs k ∧ Elems wr R g cap zs ∧ Only g w wr)
  case atStart => exact ⟨0, l, Nat.zero_le _, rfl, by go_num, by omega, Turned.start l, HE.out, Only.refl _ _⟩
  case round =>
    obtain ⟨k, zs, hk, rfl, rfl, hgk, htu, hel, hon⟩ := hrel
    have HTU := Lib.hid htu
    have HEL := Lib.hid hel
    have HON := Lib.hid hon
    by_cases hlt : (k : Int) < (n : Int) - 1 - k
    · obtain ⟨m, hm⟩ : ∃ m : Nat, (n : Int) - 1 - k = m := ⟨n - 1 - k, by omega⟩
      rw [hm]
      have q5 : decide ((k : Int) < (m : Int)) = true := decide_eq_true (by omega)
      obtain ⟨cur, hb, hs, hzn, hkk⟩ := hel.ex
      have hzl : zs.length = n := by rw [HN.out]; exact htu.1
      have hkz : k < zs.length := by omega
      have hmz : m < zs.length := by omega
      obtain ⟨x, ⟨x0, x1, x2, x3, x4, x5, rfl, c0, c1, c2, c3, c4, c5⟩, hx⟩ := hkk k hkz
      obtain ⟨y, ⟨y0, y1, y2, y3, y4, y5, rfl, e0, e1, e2, e3, e4, e5⟩, hy⟩ := hkk m hmz
      have HKK := Lib.hid hkk
      have HSW := Lib.hid (htu.swap2 HN.out hm (by omega) hkz hmz)
      obtain ⟨ck, hck⟩ : ∃ c, c = zs[k] := ⟨_, rfl⟩
      obtain ⟨cm, hcm⟩ : ∃ c, c = zs[m] := ⟨_, rfl⟩
      rw [← hck] at hx HSW
      rw [← hcm] at hy HSW
      obtain ⟨xka, xkn, xkc, xna, xnn, xnc, xla, xln, xlc, hex, -, -, -⟩ := hx.shape
      obtain ⟨yka, ykn, ykc, yna, ynn, ync, yla, yln, ylc, hey, -, -, -⟩ := hy.shape
      simp only [Value.agg.injEq, Array.mk.injEq, List.cons.injEq, and_true] at hex hey
      obtain ⟨rfl, rfl, rfl, rfl, rfl, rfl⟩ := hex
      obtain ⟨rfl, rfl, rfl, rfl, rfl, rfl⟩ := hey
      have HX := Lib.hid hx
      have HY := Lib.hid hy
      have HM := Lib.hid hm
      have HBL := Lib.hid hb
      have f0 := hb.cell _ _ c0
      have f1 := hb.cell _ _ c1
      have f2 := hb.cell _ _ c2
      have f3 := hb.cell _ _ c3
      have f4 := hb.cell _ _ c4
      have f5 := hb.cell _ _ c5
      have g0 := hb.cell _ _ e0
      have g1 := hb.cell _ _ e1
      have g2 := hb.cell _ _ e2
      have g3 := hb.cell _ _ e3
      have g4 := hb.cell _ _ e4
      have g5 := hb.cell _ _ e5
      have t0 := hb.thaw (k * 6)
      have t1 := hb.thaw (k * 6 + 1)
      have t2 := hb.thaw (k * 6 + 2)
      have t3 := hb.thaw (k * 6 + 3)
      have t4 := hb.thaw (k * 6 + 4)
      have t5 := hb.thaw (k * 6 + 5)
      have r0 := hb.thaw (m * 6)
      have r1 := hb.thaw (m * 6 + 1)
      have r2 := hb.thaw (m * 6 + 2)
      have r3 := hb.thaw (m * 6 + 3)
      have r4 := hb.thaw (m * 6 + 4)
      have r5 := hb.thaw (m * 6 + 5)
      have HE2 := Lib.hid (show ∀ W', W' = store6 (store6 wr g (k * 6) (.int .i64 cm.op) (.int .i64 cm.n) (.string cm.s) (.slice yka ykn ykc) (.slice yna ynn ync) (.slice yla yln ylc)) g (m * 6) (.int .i64 ck.op) (.int .i64 ck.n) (.string ck.s) (.slice xka xkn xkc) (.slice xna xnn xnc) (.slice xla xln xlc) → Elems W'.drew R g cap ((zs.set k cm).set m ck) ∧ Only g w W'.drew from by
        rintro W' rfl
        have hon2 := store6_only (store6_only (Only.refl g wr) g (k * 6) (.int .i64 cm.op) (.int .i64 cm.n) (.string cm.s) (.slice yka ykn ykc) (.slice yna ynn ync) (.slice yla yln ylc) (.inl rfl)) g (m * 6) (.int .i64 ck.op) (.int .i64 ck.n) (.string ck.s) (.slice xka xkn xkc) (.slice xna xnn xnc) (.slice xla xln xlc) (.inl rfl)
        have hS : Same R wr _ := fun q hq => World.grownBy.block hon2 q (Nat.lt_of_lt_of_le (HR.out q hq).1 HON.out.size) (fun e => by injection e with e; exact (HR.out q hq).2 e)
        refine ⟨⟨⟨_, (store6_blk (store6_blk HBL.out (k * 6) _ _ _ _ _ _) (m * 6) _ _ _ _ _ _).drew, by rw [put6_size, put6_size]; exact hs, by simp; exact hzn, fun j hj => ?_⟩⟩, (HON.out.trans hon2).drew⟩
        have hj' : j < zs.length := by simpa using hj
        by_cases e1 : m = j
        · subst e1
          refine ⟨_, put6_get _ _ _ _ _ _ (by rw [put6_size, hs]; omega), ?_⟩
          rw [List.getElem_set_self]
          exact (HX.out.keep hS).drew9
        · by_cases e2 : k = j
          · subst e2
            refine ⟨_, put6_far _ _ _ _ _ _ (put6_get _ _ _ _ _ _ (by rw [hs]; omega)) (by omega), ?_⟩
            rw [List.getElem_set_ne (by omega), List.getElem_set_self]
            exact (HY.out.keep hS).drew9
          · obtain ⟨z, hz, hv⟩ := HKK.out j hj'
            refine ⟨z, put6_far _ _ _ _ _ _ (put6_far _ _ _ _ _ _ hz (by omega)) (by omega), ?_⟩
            rw [List.getElem_set_ne (by omega), List.getElem_set_ne (by omega)]
            exact (hv.keep hS).drew9)
      have HE3 := Lib.hid (HE2.out _ rfl)
      clear HE2
      unfold store6 at HE3
      have q7 : decide ((n : Int) ≤ (k : Int)) = false := decide_eq_false (by omega)
      have q8 : decide ((n : Int) ≤ (m : Int)) = false := decide_eq_false (by omega)
      generalize ck.op = ko at *
      generalize ck.n = kn' at *
      generalize ck.s = ks at *
      generalize cm.op = mo at *
      generalize cm.n = mn' at *
      generalize cm.s = ms at *
      clear htu hel hon hb hkk hx hy hck hcm c0 c1 c2 c3 c4 c5 e0 e1 e2 e3 e4 e5
      go_upto_region 3 with fail
      clear HKK HBL HX HY HM
      go_region
      go_wp2
      go_roundg (gk - 1)
      case measure => omega
      case rel => exact ⟨k + 1, _, by omega, by go_num, by go_num, by omega, HSW.out, HE3.out.1, HE3.out.2⟩
    · have q5 : decide ((k : Int) < (n : Int) - 1 - k) = false := decide_eq_false hlt
      have HT2 := Lib.hid (htu.done (by rw [← HN.out]; omega))
      rw [HT2.out] at HEL
      clear htu hel hon
      go_wp2
      go_end0
      exact ⟨rfl, HEL.out, HON.out⟩
set_option maxRecDepth 100000 in
theorem reverse_nil (w : World) :
    Calls Tryz.prog 35 #[.slice none 0 0] w fun e w' => e = .returned (.tuple #[]) ∧ w = w' := by
  go_enter Tryz.func35, Tryz.ntmps35
  go_wp2_with fail
  go_loopg [2, 3] 1 (fun gk iv jv wr => iv = .int .i64 0 ∧ jv = .int .i64 (-1) ∧ gk = 1 ∧ w = wr)
  case atStart => exact ⟨rfl, rfl, rfl, rfl⟩
  case round =>
    obtain ⟨rfl, rfl, hgk, rfl⟩ := hrel
    go_wp2
    go_end0
    exact ⟨rfl, rfl⟩
/-- a row of a call's own, turned round -/
theorem reverseCB (B : Nat) (wr : World) (ys : List Con) (us : List Value) (lv : Value) (hB : B ≤ wr.heap.size) (h : CB (fun _ => False) B wr ys us lv) :
    Calls Tryz.prog 35 #[lv] wr fun e w' => e = .returned (.tuple #[]) ∧ ConSl w' (fun q => B ≤ q ∧ q < w'.heap.size) lv ys.reverse ∧ Below B wr w' := by
  have hlow := h.low
  have hc := h.row
  rcases h.row.2 with ⟨rfl, h0⟩ | ⟨g, cap, cur, rfl, hbg, hg, hnc, hcm, hcs, htake⟩
  · obtain rfl : ys = [] := List.eq_nil_of_length_eq_zero h0
    refine (reverse_nil wr).mono ?_
    rintro e w' ⟨rfl, rfl⟩
    exact ⟨rfl, ⟨none, 0, rfl, Nat.le_refl _, Nat.zero_le _, fun _ => rfl, .inl rfl⟩, Below.refl _ _⟩
  · have hgl := (hlow g rfl)
    have hE : Elems wr (fun q => (False ∨ (B ≤ q ∧ q < wr.heap.size)) ∧ (Value.slice (some ⟨g, 0, none⟩) ys.length cap).ownBlock ≠ some q) g cap ys := ⟨⟨cur, hg, hcs, hnc, fun j hj => by
      obtain ⟨x, ⟨x0, x1, x2, x3, x4, x5, rfl, c0, c1, c2, c3, c4, c5⟩, hv⟩ := h.kids.2.2 j hj
      have each : ∀ (i : Nat) (u : Value), us.toArray[i]? = some u → cur[i]? = some u := by
        intro i u hu
        rw [← htake] at hu
        simp only [List.getElem?_toArray] at hu
        rw [List.getElem?_take] at hu
        split at hu
        · simpa using hu
        · cases hu
      exact ⟨_, ⟨x0, x1, x2, x3, x4, x5, rfl, each _ _ c0, each _ _ c1, each _ _ c2, each _ _ c3, each _ _ c4, each _ _ c5⟩, hv⟩⟩⟩
    refine (reverse_any _ ys wr g cap ys.length rfl hE hcm (fun q hq => ⟨by rcases hq.1 with h | h; exact h.elim; exact h.2, fun e => hq.2 (by rw [e]; rfl)⟩)).mono ?_
    rintro e w' ⟨rfl, hE2, hon⟩
    have hb : Below B wr w' := (Below.refl B wr).grown hon hB (fun j hj => by injection hj with hj; subst hj; exact hgl.1)
    refine ⟨rfl, ?_, hb⟩
    have := hE2.cons (S := fun q => B ≤ q ∧ q < w'.heap.size) (fun q hq => by rcases hq.1 with h | h; exact h.elim; exact ⟨h.1, Nat.lt_of_lt_of_le h.2 hon.size⟩) ⟨hgl.1, Nat.lt_of_lt_of_le hgl.2 hon.size⟩ hcm
    rw [List.length_reverse] at this
    exact this
end Go.Proofs.YtmjiocpcenbndaaGreatDoor
