/-
  Walks and plain mathematics, several texts in one (Mj).
-/
import Derived.Test.YtjedahcpkcgpeaaGreatDoorH33
import Derived.Lib.FrozenHead2
/-
  Walks of layer 2: Join.
-/
namespace Go.Proofs.YtjedahcpkcgpeaaGreatDoor
open Go.RowKit
def Off (b k : Nat) (w : World) : Prop := ∀ q v t z, w.heap[b]? = some (.cells #[q, v] t z) → v.ownBlock ≠ some k
theorem off_new {B b : Nat} {l : List UInt8} {w : World} (h : Bld B b l w) (o : Obj) : Off b w.heap.size (w.alloc o) := by
  intro q v t z hv e
  rw [Below.heap_alloc w o b h.lt] at hv
  have key : ∀ p, Lib.BuilderAtF 62 5 B b p (Lib.byteCells l) w → False := by
    rintro p ⟨hB, u, hbk, hown, hne⟩
    rw [hbk] at hv
    injection hv with hv
    injection hv with h1 h2 h3
    have huv : u = v := by
      have := congrArg (fun a => a[1]?) h1
      simpa using this
    subst huv
    have := (hown.lt _ e).2
    omega
  rcases h with h | h
  · exact key _ h
  · exact key _ h
theorem copyCheck_keep (B b k : Nat) (bs : List Value) (w : World) (h : Lib.IsBuilderF 62 5 B b bs w) (hk : k ≠ b) (ho : Off b k w) :
    Calls Tryz.prog 51 #[.pointer (some ⟨b, 0, none⟩)] w fun e w' => e = .returned (.tuple #[]) ∧ Lib.BuilderAtF 62 5 B b (.pointer (some ⟨b, 0, none⟩)) bs w' ∧ Below B w w' ∧ w'.heap[k]? = w.heap[k]? ∧ Off b k w' := by
  rcases h with h | h
  · refine (copyCheck_fresh b w h.cell0 h.shape h.frozen0).mono ?_
    rintro e w' ⟨rfl, rfl⟩
    refine ⟨rfl, h.used _, (Below.refl B w).setCell (p := ⟨b, 0, none⟩) h.1 _, Below.heap_setCell w ⟨b, 0, none⟩ _ k hk, ?_⟩
    obtain ⟨hB, u, hbk, hown, hne⟩ := h
    intro q v t z hv
    have hs := Blk.set (show Blk w b 62 #[.pointer none, u] from hbk) 0 (.pointer (some ⟨b, 0, none⟩))
    rw [show (w.setCell ⟨b, 0, none⟩ (.pointer (some ⟨b, 0, none⟩))).heap[b]? = _ from hs] at hv
    injection hv with hv
    injection hv with h1 h2 h3
    have huv : u = v := by
      have := congrArg (fun a => a[1]?) h1
      simpa using this
    subst huv
    exact ho _ u _ _ hbk
  · refine (copyCheck_used b w h.cell0).mono ?_
    rintro e w' ⟨rfl, rfl⟩
    exact ⟨rfl, h, Below.refl B _, rfl, ho⟩
set_option maxHeartbeats 2000000 in
set_option maxRecDepth 100000 in
theorem writeByte_keep (B b k : Nat) (l : List UInt8) (c : UInt8) (w : World) (h : Bld B b l w) (hk : k ≠ b) (hkl : k < w.heap.size) (ho : Off b k w) (hlen : l.length + 1 ≤ 140737488355328) (hBw : B ≤ w.heap.size) :
    Calls Tryz.prog 28 #[.pointer (some ⟨b, 0, none⟩), .int .u8 c.toNat] w fun e w' => e = .returned .nilIface ∧ Bld B b (l ++ [c]) w' ∧ Below B w w' ∧ w'.heap[k]? = w.heap[k]? := by
  obtain ⟨i0, hi, hz0, hz1, hz2⟩ := info_parts byteInfo
  have hlen' : (Lib.byteCells l).length + 1 ≤ 140737488355328 := by rw [Lib.byteCells_length]; exact hlen
  have hsn : Lib.byteCells (l ++ [c]) = Lib.byteCells l ++ [.int .u8 c.toNat] := by rw [Lib.byteCells_append]; rfl
  have HSN := Lib.hid hsn
  have h' : Lib.IsBuilderF 62 5 B b (Lib.byteCells l) w := h
  clear h hsn hlen
  generalize Lib.byteCells l = bs at h' hlen' HSN
  have HKL := Lib.hid hkl
  have HK := Lib.hid hk
  have HO := Lib.hid ho
  clear hkl hk ho
  go_enter Tryz.func28, Tryz.ntmps28
  go_wp2_with fail
  refine (copyCheck_keep B b k bs _ h' HK.out HO.out).mono ?_
  rintro e w1 ⟨rfl, h1, hb1, hkk, ho1⟩
  obtain ⟨hB, v, hbk, hown, hne⟩ := h1
  have HKK := Lib.hid hkk
  have HO1 := Lib.hid (ho1 _ v _ _ hbk)
  clear hkk ho1
  have c0 : w1.cell? ⟨b, 0, none⟩ = some (.pointer (some ⟨b, 0, none⟩)) := by rw [Lib.cell_of_heap hbk]; rfl
  have c1 : w1.cell? ⟨b, 1, none⟩ = some v := by rw [Lib.cell_of_heap hbk]; rfl
  go_wp2_with (at_builtin; refine wpList_append_ownF _ rfl _ _ 60 rfl B 5 i0 (.int .u8 0) 1 1 Tryz.underlying60 hi hz0 hz1 hz2 rfl (by decide) _ _ _ rfl (hown.alloc _) ⟨w1.heap.size, 0, none⟩ 1 1 [.int .u8 c.toNat] rfl rfl ?c1 ?c2 ?c3 ?c4 ?c5 ?_)
  case c1 =>
    intro j u hj
    match j, hj with
    | 0, hj => simp at hj; subst hj; simp [Addr.add]
  case c2 => intro u hu; simp at hu; subst hu; rfl
  case c3 => unfold maxLen; omega
  case c4 => omega
  case c5 => have := hb1.size; simp; omega
  intro v' w2 hown' hgrow _
  have hlt : b < w1.heap.size := by
    rcases Nat.lt_or_ge b w1.heap.size with h' | h'
    · exact h'
    · simp [Array.getElem?_eq_none h'] at hbk
  have hk1 : k < w1.heap.size := Nat.lt_of_lt_of_le HKL.out hb1.size
  have hb2 : w2.heap[b]? = some (.cells #[.pointer (some ⟨b, 0, none⟩), v] 62 (0, 0)) := by
    rw [hgrow.block b (by simp; omega) (fun e => hne e.symm), Lib.alloc_old w1 _ b hlt]
    exact hbk
  have hk2 : w2.heap[k]? = w.heap[k]? := by
    rw [hgrow.block k (by simp; omega) (fun e => HO1.out e.symm), Lib.alloc_old w1 _ k hk1]
    exact HKK.out
  have HK2 := Lib.hid hk2
  clear hk2 hk1
  have d0 : w2.cell? ⟨b, 0, none⟩ = some (.pointer (some ⟨b, 0, none⟩)) := by rw [Lib.cell_of_heap hb2]; rfl
  have d1 : w2.cell? ⟨b, 1, none⟩ = some v := by rw [Lib.cell_of_heap hb2]; rfl
  have f1 : w2.frozen? ⟨b, 1, none⟩ = false := Lib.frozen_of_heap hb2 1
  obtain ⟨g, cap, rfl⟩ : ∃ g cap, v' = .slice (some ⟨g, 0, none⟩) (bs.length + 1) cap := by
    rcases hown'.2 with ⟨_, h0⟩ | ⟨g, cap, cur, fz, hv, _⟩
    · omega
    · exact ⟨g, cap, hv⟩
  go_wp2
  go_ret
  refine ⟨rfl, ?_, ?_, ?_⟩
  · show Lib.IsBuilderF 62 5 B b (Lib.byteCells (l ++ [c])) _
    rw [HSN.out]
    exact .inr (Lib.BuilderAtF.put (T := 62) (e := 5) hB hb2 (bs' := bs ++ [.int .u8 c.toNat]) (by simpa using hown') (by decide))
  · exact ((hb1.alloc (by have := hb1.size; omega) _).grown hgrow (by have := hb1.size; simp; omega) (fun k hk => (hown.lt k hk).1)).setCell (p := ⟨b, 1, none⟩) hB _
  · exact (Below.heap_setCell w2 ⟨b, 1, none⟩ _ k HK.out).trans HK2.out
theorem writeByte_32 (B b k : Nat) (l : List UInt8) (w : World) (h : Bld B b l w) (hk : k ≠ b) (hkl : k < w.heap.size) (ho : Off b k w) (hlen : l.length + 1 ≤ 140737488355328) (hBw : B ≤ w.heap.size) :
    Calls Tryz.prog 28 #[.pointer (some ⟨b, 0, none⟩), .int .u8 32] w fun e w' => e = .returned .nilIface ∧ Bld B b (l ++ [32]) w' ∧ Below B w w' ∧ w'.heap[k]? = w.heap[k]? := by
  have := writeByte_keep B b k l 32 w h hk hkl ho hlen hBw
  exact this
def JoinPost (w : World) (r : Pl.Bytes × Int) (e : Ending) (w' : World) : Prop := e = .returned (.tuple #[.string (Pl.mk r.1), .int .i64 r.2]) ∧ Below w.heap.size w w'
set_option maxRecDepth 100000 in
set_option maxHeartbeats 4000000 in
theorem lexJoin_drop (b off c p : Nat) (us : List Pl.Tok) (last : Pl.Tok) (w : World) (hul : us.length = p) (hc : p + 1 ≤ c) (hm : c ≤ maxLen) (hb : b < w.heap.size) (hlast : TokAt w b (off + p * 4) last) (hend : endB last = true)
    (ha : ∀ j (hj : j < us.length), TokAt w b (off + 4 * j) us[j]) (hbig : ∀ j (hj : j < us.length), (us[j]).text.length ≤ 17000) :
    Calls Tryz.prog 11 #[.slice (some ⟨b, off, none⟩) (p + 1) c] w (JoinPost w (jv us)) := by
  unfold maxLen at hm
  have HA := Lib.hid ha
  have HBIG := Lib.hid hbig
  have hce := isEnd_any last w
  rw [hend] at hce
  unfold tokVal tkc at hce
  obtain ⟨z0, z1, z2, z3⟩ := hlast
  generalize last.kind = kd at z0 hce
  generalize Pl.mk last.text = tx at z1 hce
  generalize last.line = li at z2 hce
  generalize last.col = co at z3 hce
  have HCE := Lib.hid hce
  clear ha hbig hce hend
  go_enter Tryz.func11, Tryz.ntmps11
  go_wp2_with fail
  refine HCE.out.mono ?_
  rintro e w1 ⟨rfl, hb1⟩
  have HBW := Lib.hid hb1
  clear hb1 z0 z1 z2 z3
  by_cases hfull : 20000 < p
  · have q1 : decide ((20000 : Int) < (p : Int)) = true := by simp; omega
    have HJ := Lib.hid (show jv us = ([], 5) from by unfold jv; rw [if_pos (by omega)])
    go_wp2
    go_ret2
    exact ⟨by rw [HJ.out]; rfl, HBW.out⟩
  · have q1 : decide ((20000 : Int) < (p : Int)) = false := by simp; omega
    go_wp2_with fail
    go_loopg [30] (p + 1) (fun g v wr => ∃ k : Nat, k ≤ p ∧ v = .int .i64 k ∧ g = p + 1 - k ∧ Below w.heap.size w wr ∧ ∀ j (hj : j < us.length), j < k → refB us[j] = true)
    case atStart => exact ⟨0, by omega, rfl, by omega, HBW.out, fun j hj h => absurd h (Nat.not_lt_zero _)⟩
    case round =>
      obtain ⟨k, hk, rfl, hg, hbw, hall⟩ := hrel
      have HALL := Lib.hid hall
      have HBR := Lib.hid hbw
      by_cases hlt : k < p
      · have hc1 := fun W => isRight_any (us[k]'(by omega)) W (HBIG.out k (by omega))
        have hc2 := fun W => isEnd_any (us[k]'(by omega)) W
        have hbad : refB (us[k]'(by omega)) = false → jv us = ([], 3) := fun h => by
          unfold jv
          rw [if_neg (by omega), if_neg]
          intro hx
          have := List.all_eq_true.1 hx _ (List.getElem_mem (by omega : k < us.length))
          rw [h] at this; cases this
        have hr3 := refB_eq (us[k]'(by omega))
        have HGOOD := Lib.hid (show ∀ r, refB (us[k]'(by omega)) = r → r = true → ∀ j (hj : j < us.length), j < k + 1 → refB us[j] = true from fun r h1 h2 j hj h => by
          rcases Nat.lt_or_ge j k with h3 | h3
          · exact HALL.out j hj h3
          · obtain rfl : j = k := by omega
            exact h1.trans h2)
        unfold tokVal tkc at hc1 hc2
        generalize refB (us[k]'(by omega)) = r3 at hbad hr3 HGOOD
        generalize rightB (us[k]'(by omega)) = r1 at hc1 hr3
        generalize endB (us[k]'(by omega)) = r2 at hc2 hr3
        obtain ⟨a0, a1, a2, a3⟩ := (show TokAt wr b (off + k * 4) (us[k]'(by omega)) from by rw [Nat.mul_comm]; exact (HA.out k (by omega)).below hbw hb)
        generalize (us[k]'(by omega)).kind = kd at a0 hc1 hc2
        generalize Pl.mk (us[k]'(by omega)).text = tx at a1 hc1 hc2
        generalize (us[k]'(by omega)).line = li at a2 hc1 hc2
        generalize (us[k]'(by omega)).col = co at a3 hc1 hc2
        obtain ⟨hkb, hbb⟩ := tok_block wr kd tx li co
        obtain ⟨d0, d1, d2, d3, -, -, -, -⟩ := hkb
        have HC1 := Lib.hid hc1
        have HC2 := Lib.hid hc2
        have HBAD := Lib.hid hbad
        have HR3 := Lib.hid hr3
        have HBB := Lib.hid hbb
        clear hc1 hc2 hbad hr3 hall hbw hbb
        go_wp2_with fail
        refine (HC1.out _).mono ?_
        rintro e w2 ⟨rfl, hb2⟩
        have hz2 : wr.heap.size < w2.heap.size := Nat.lt_of_lt_of_le (by simp) hb2.size
        have d0' := (hb2.cell (p := ⟨wr.heap.size, 0, none⟩) (by simp)).trans d0
        have d1' := (hb2.cell (p := ⟨wr.heap.size, 1, none⟩) (by simp)).trans d1
        have d2' := (hb2.cell (p := ⟨wr.heap.size, 2, none⟩) (by simp)).trans d2
        have d3' := (hb2.cell (p := ⟨wr.heap.size, 3, none⟩) (by simp)).trans d3
        have HB2 := Lib.hid (HBR.out.trans ((HBB.out.trans (hb2.mono HBB.out.size)).mono HBR.out.size))
        clear hb2 d0 d1 d2 d3 a0 a1 a2 a3
        cases r1
        · have HJ := Lib.hid (HBAD.out (by rw [HR3.out]; rfl))
          go_wp2
          go_ret2
          exact ⟨by rw [HJ.out]; rfl, HB2.out⟩
        · go_wp2_with fail
          refine (HC2.out _).mono ?_
          rintro e w3 ⟨rfl, hb3⟩
          have HB3 := Lib.hid (HB2.out.trans (hb3.mono HB2.out.size))
          clear hb3 d0' d1' d2' d3'
          cases r2
          · have HG := Lib.hid (HGOOD.out r3 rfl (by rw [HR3.out]; rfl))
            go_wp2
            go_roundg (gk - 1)
            case measure => omega
            case rel => exact ⟨k + 1, by omega, by go_num, by omega, HB3.out, HG.out⟩
          · have HJ := Lib.hid (HBAD.out (by rw [HR3.out]; rfl))
            go_wp2
            go_ret2
            exact ⟨by rw [HJ.out]; rfl, HB3.out⟩
      · rename World => wa
        have hkn : k = p := by omega
        have hjv : jv us = if 16384 < (jn us).length then ([], 5) else (jn us, 0) := by
          unfold jv
          rw [if_neg (by omega), if_pos]
          refine List.all_eq_true.2 fun t ht => ?_
          obtain ⟨j, hj, rfl⟩ := List.getElem_of_mem ht
          exact HALL.out j hj (by omega)
        have HJV := Lib.hid hjv
        clear hkn hjv hall hbw HALL hg
        go_wp2_with fail
        clear hlt hk
        have hbl := bld_new wa
        have hb0 : Below wa.heap.size wa (wa.alloc (.cells #[.pointer none, .slice none 0 0] 62)) := (Below.refl _ _).alloc (Nat.le_refl _) _
        generalize wa.alloc (.cells #[.pointer none, .slice none 0 0] 62) = w0 at hbl hb0 ⊢
        have HBL := Lib.hid hbl
        have HB0 := Lib.hid hb0
        clear hbl hb0
        go_loopg [44] (p + 1) (fun g v wr => ∃ k : Nat, k ≤ p ∧ v = .int .i64 k ∧ g = p + 1 - k ∧ Bld wa.heap.size wa.heap.size (jn (us.take k)) wr ∧ Below wa.heap.size wa wr ∧ (jn (us.take k)).length ≤ 16384)
        case atStart => exact ⟨0, by omega, rfl, by omega, HBL.out, HB0.out, by simp [jn_nil]⟩
        case round =>
          obtain ⟨k, hk, rfl, hg, hbl, hbw, hlen⟩ := hrel
          have HBL := Lib.hid hbl
          have HBX := Lib.hid hbw
          have hWX := HBR.out.trans (hbw.mono HBR.out.size)
          by_cases hlt : k < p
          · have hc := fun W => written_any (us[k]'(by omega)) W (HBIG.out k (by omega))
            have hwl := wrT_len (us[k]'(by omega)) (HBIG.out k (by omega))
            have hsn := jn_take us k (by omega)
            have hle := jn_le us (k + 1) (by omega)
            unfold tokVal tkc at hc
            generalize wrT (us[k]'(by omega)) = wt at hc hwl hsn
            obtain ⟨a0, a1, a2, a3⟩ := (show TokAt wr b (off + k * 4) (us[k]'(by omega)) from by rw [Nat.mul_comm]; exact (HA.out k (by omega)).below hWX hb)
            generalize (us[k]'(by omega)).kind = kd at a0 hc
            generalize Pl.mk (us[k]'(by omega)).text = tx at a1 hc
            generalize (us[k]'(by omega)).line = li at a2 hc
            generalize (us[k]'(by omega)).col = co at a3 hc
            obtain ⟨hkb, hbb⟩ := tok_block wr kd tx li co
            obtain ⟨d0, d1, d2, d3, -, -, -, -⟩ := hkb
            have HC := Lib.hid hc
            have HSN := Lib.hid hsn
            have HLE := Lib.hid hle
            have HBB := Lib.hid hbb
            have hz : k = 0 → jn (us.take k) = [] := fun h => by rw [h]; rfl
            generalize jn (us.take k) = jk at HBL HSN hlen hz
            generalize hj1 : jn (us.take (k + 1)) = j1 at HSN HLE
            have HJ1 := Lib.hid hj1
            clear hc hsn hle hbl hbw hbb hWX hj1
            by_cases h0 : k = 0
            · have q0 : decide (0 < k) = false := decide_eq_false (by omega)
              have q0i : ¬ 0 < k := by omega
              have HS2 := Lib.hid (HSN.out.trans (if_pos h0))
              obtain rfl := hz h0
              clear h0 hz hlen
              go_wp2_with fail
              clear a0 a1 a2 a3
              refine (HC.out _).mono ?_
              rintro e w2 ⟨rfl, hb2⟩
              have HBL2 := Lib.hid ((HBL.out.below HBB.out).below (hb2.mono (Nat.le_refl _)))
              have HBW2 := Lib.hid (HBX.out.trans ((HBB.out.trans (hb2.mono HBB.out.size)).mono HBX.out.size))
              clear hb2 d0 d1 d2 d3
              go_wp2_with fail
              refine (writeString_any _ _ _ _ _ HBL2.out (by rw [Pl.mk_size]; simp; omega) HBW2.out.size).mono ?_
              rintro e w3 ⟨rfl, hbl3, hb3⟩
              have hbl3 : Bld wa.heap.size wa.heap.size j1 w3 := by
                have := hbl3
                rw [Pl.mk_toList] at this
                rw [HS2.out]; simpa using this
              have HBL3 := Lib.hid hbl3
              have HBW3 := Lib.hid (HBW2.out.trans hb3)
              clear hbl3 hb3
              go_wp2_with fail
              refine (len_any _ _ _ _ HBL3.out).mono ?_
              rintro e w' ⟨rfl, rfl⟩
              by_cases hov : 16384 < j1.length
              · have q2 : decide ((16384 : Int) < (j1.length : Int)) = true := by simp; omega
                have HJL := Lib.hid (show jv us = ([], 5) from by rw [HJV.out, if_pos]; have := HLE.out; omega)
                have HBWF := Lib.hid (HBR.out.trans (HBW3.out.mono HBR.out.size))
                go_wp2
                go_ret2
                exact ⟨by rw [HJL.out]; rfl, HBWF.out⟩
              · have q2 : decide ((16384 : Int) < (j1.length : Int)) = false := by simp; omega
                go_wp2
                go_roundg (gk - 1)
                case measure => omega
                case rel => exact ⟨k + 1, by omega, by go_num, by omega, by rw [HJ1.out]; exact HBL3.out, HBW3.out, by rw [HJ1.out]; omega⟩
            · have q0 : decide (0 < k) = true := decide_eq_true (by omega)
              have q0i : 0 < k := by omega
              have HS2 := Lib.hid (HSN.out.trans (if_neg h0))
              clear h0 hz
              go_wp2_with fail
              clear a0 a1 a2 a3
              refine (writeByte_32 _ _ wr.heap.size _ _ (HBL.out.below HBB.out) (Nat.ne_of_gt HBL.out.lt) (by simp) (off_new HBL.out _) (by omega) (Nat.le_trans HBX.out.size HBB.out.size)).mono ?_
              rintro e w1 ⟨rfl, hbl1, hb1, hk1⟩
              have hz1 : wr.heap.size < w1.heap.size := Nat.lt_of_lt_of_le (by simp) hb1.size
              have hkb2 : TkAt w1 wr.heap.size (.int .i64 kd) (.string tx) (.int .i64 li) (.int .i64 co) := tkAt_of (show Blk w1 wr.heap.size 45 #[.int .i64 kd, .string tx, .int .i64 li, .int .i64 co] from hk1.trans (blk_new wr _ _))
              obtain ⟨e0, e1, e2, e3, -, -, -, -⟩ := hkb2
              have HBL1 := Lib.hid hbl1
              have HBW1 := Lib.hid ((HBX.out.trans (HBB.out.mono HBX.out.size)).trans hb1)
              clear hbl1 hb1 hk1 d0 d1 d2 d3
              go_wp2_with fail
              refine (HC.out _).mono ?_
              rintro e w2 ⟨rfl, hb2⟩
              have HBL2 := Lib.hid (HBL1.out.below hb2)
              have HBW2 := Lib.hid (HBW1.out.trans (hb2.mono HBW1.out.size))
              clear hb2 e0 e1 e2 e3
              go_wp2_with fail
              refine (writeString_any _ _ _ _ _ HBL2.out (by rw [Pl.mk_size]; simp; omega) HBW2.out.size).mono ?_
              rintro e w3 ⟨rfl, hbl3, hb3⟩
              have hbl3 : Bld wa.heap.size wa.heap.size j1 w3 := by
                have := hbl3
                rw [Pl.mk_toList] at this
                rw [HS2.out]; simpa using this
              have HBL3 := Lib.hid hbl3
              have HBW3 := Lib.hid (HBW2.out.trans hb3)
              clear hbl3 hb3
              go_wp2_with fail
              refine (len_any _ _ _ _ HBL3.out).mono ?_
              rintro e w' ⟨rfl, rfl⟩
              by_cases hov : 16384 < j1.length
              · have q2 : decide ((16384 : Int) < (j1.length : Int)) = true := by simp; omega
                have HJL := Lib.hid (show jv us = ([], 5) from by rw [HJV.out, if_pos]; have := HLE.out; omega)
                have HBWF := Lib.hid (HBR.out.trans (HBW3.out.mono HBR.out.size))
                go_wp2
                go_ret2
                exact ⟨by rw [HJL.out]; rfl, HBWF.out⟩
              · have q2 : decide ((16384 : Int) < (j1.length : Int)) = false := by simp; omega
                go_wp2
                go_roundg (gk - 1)
                case measure => omega
                case rel => exact ⟨k + 1, by omega, by go_num, by omega, by rw [HJ1.out]; exact HBL3.out, HBW3.out, by rw [HJ1.out]; omega⟩
          · have hkn : k = p := by omega
            have hfin : jn (us.take k) = jn us := by rw [hkn, ← hul, List.take_length]
            have hjl : jv us = (jn us, 0) := by rw [HJV.out, if_neg]; rw [← hfin]; omega
            rw [hfin] at HBL
            have HJL := Lib.hid hjl
            clear hkn hfin hjl hbl hbw hWX
            go_wp2_with fail
            refine (string_any _ _ _ _ HBL.out HBX.out.size).mono ?_
            rintro e w2 ⟨rfl, -, hb2⟩
            have HBW2 := Lib.hid (HBR.out.trans ((HBX.out.trans hb2).mono HBR.out.size))
            clear hb2
            go_wp2
            go_ret2
            exact ⟨by rw [HJL.out]; rfl, HBW2.out⟩
set_option maxRecDepth 100000 in
set_option maxHeartbeats 4000000 in
theorem lexJoin_keep (b off c p : Nat) (us : List Pl.Tok) (last : Pl.Tok) (w : World) (hul : us.length = (p + 1)) (hc : p + 1 ≤ c) (hm : c ≤ maxLen) (hb : b < w.heap.size) (hlast : TokAt w b (off + p * 4) last) (hend : endB last = false)
    (ha : ∀ j (hj : j < us.length), TokAt w b (off + 4 * j) us[j]) (hbig : ∀ j (hj : j < us.length), (us[j]).text.length ≤ 17000) :
    Calls Tryz.prog 11 #[.slice (some ⟨b, off, none⟩) (p + 1) c] w (JoinPost w (jv us)) := by
  unfold maxLen at hm
  have HA := Lib.hid ha
  have HBIG := Lib.hid hbig
  have hce := isEnd_any last w
  rw [hend] at hce
  unfold tokVal tkc at hce
  obtain ⟨z0, z1, z2, z3⟩ := hlast
  generalize last.kind = kd at z0 hce
  generalize Pl.mk last.text = tx at z1 hce
  generalize last.line = li at z2 hce
  generalize last.col = co at z3 hce
  have HCE := Lib.hid hce
  clear ha hbig hce hend
  go_enter Tryz.func11, Tryz.ntmps11
  go_wp2_with fail
  refine HCE.out.mono ?_
  rintro e w1 ⟨rfl, hb1⟩
  have HBW := Lib.hid hb1
  clear hb1 z0 z1 z2 z3
  by_cases hfull : 20000 < (p + 1)
  · have q1 : decide ((20000 : Int) < (p : Int) + 1) = true := by simp; omega
    have HJ := Lib.hid (show jv us = ([], 5) from by unfold jv; rw [if_pos (by omega)])
    go_wp2
    go_ret2
    exact ⟨by rw [HJ.out]; rfl, HBW.out⟩
  · have q1 : decide ((20000 : Int) < (p : Int) + 1) = false := by simp; omega
    go_wp2_with fail
    go_loopg [30] ((p + 1) + 1) (fun g v wr => ∃ k : Nat, k ≤ (p + 1) ∧ v = .int .i64 k ∧ g = (p + 1) + 1 - k ∧ Below w.heap.size w wr ∧ ∀ j (hj : j < us.length), j < k → refB us[j] = true)
    case atStart => exact ⟨0, by omega, rfl, by omega, HBW.out, fun j hj h => absurd h (Nat.not_lt_zero _)⟩
    case round =>
      obtain ⟨k, hk, rfl, hg, hbw, hall⟩ := hrel
      have HALL := Lib.hid hall
      have HBR := Lib.hid hbw
      by_cases hlt : k < (p + 1)
      · have hc1 := fun W => isRight_any (us[k]'(by omega)) W (HBIG.out k (by omega))
        have hc2 := fun W => isEnd_any (us[k]'(by omega)) W
        have hbad : refB (us[k]'(by omega)) = false → jv us = ([], 3) := fun h => by
          unfold jv
          rw [if_neg (by omega), if_neg]
          intro hx
          have := List.all_eq_true.1 hx _ (List.getElem_mem (by omega : k < us.length))
          rw [h] at this; cases this
        have hr3 := refB_eq (us[k]'(by omega))
        have HGOOD := Lib.hid (show ∀ r, refB (us[k]'(by omega)) = r → r = true → ∀ j (hj : j < us.length), j < k + 1 → refB us[j] = true from fun r h1 h2 j hj h => by
          rcases Nat.lt_or_ge j k with h3 | h3
          · exact HALL.out j hj h3
          · obtain rfl : j = k := by omega
            exact h1.trans h2)
        unfold tokVal tkc at hc1 hc2
        generalize refB (us[k]'(by omega)) = r3 at hbad hr3 HGOOD
        generalize rightB (us[k]'(by omega)) = r1 at hc1 hr3
        generalize endB (us[k]'(by omega)) = r2 at hc2 hr3
        obtain ⟨a0, a1, a2, a3⟩ := (show TokAt wr b (off + k * 4) (us[k]'(by omega)) from by rw [Nat.mul_comm]; exact (HA.out k (by omega)).below hbw hb)
        generalize (us[k]'(by omega)).kind = kd at a0 hc1 hc2
        generalize Pl.mk (us[k]'(by omega)).text = tx at a1 hc1 hc2
        generalize (us[k]'(by omega)).line = li at a2 hc1 hc2
        generalize (us[k]'(by omega)).col = co at a3 hc1 hc2
        obtain ⟨hkb, hbb⟩ := tok_block wr kd tx li co
        obtain ⟨d0, d1, d2, d3, -, -, -, -⟩ := hkb
        have HC1 := Lib.hid hc1
        have HC2 := Lib.hid hc2
        have HBAD := Lib.hid hbad
        have HR3 := Lib.hid hr3
        have HBB := Lib.hid hbb
        clear hc1 hc2 hbad hr3 hall hbw hbb
        go_wp2_with fail
        refine (HC1.out _).mono ?_
        rintro e w2 ⟨rfl, hb2⟩
        have hz2 : wr.heap.size < w2.heap.size := Nat.lt_of_lt_of_le (by simp) hb2.size
        have d0' := (hb2.cell (p := ⟨wr.heap.size, 0, none⟩) (by simp)).trans d0
        have d1' := (hb2.cell (p := ⟨wr.heap.size, 1, none⟩) (by simp)).trans d1
        have d2' := (hb2.cell (p := ⟨wr.heap.size, 2, none⟩) (by simp)).trans d2
        have d3' := (hb2.cell (p := ⟨wr.heap.size, 3, none⟩) (by simp)).trans d3
        have HB2 := Lib.hid (HBR.out.trans ((HBB.out.trans (hb2.mono HBB.out.size)).mono HBR.out.size))
        clear hb2 d0 d1 d2 d3 a0 a1 a2 a3
        cases r1
        · have HJ := Lib.hid (HBAD.out (by rw [HR3.out]; rfl))
          go_wp2
          go_ret2
          exact ⟨by rw [HJ.out]; rfl, HB2.out⟩
        · go_wp2_with fail
          refine (HC2.out _).mono ?_
          rintro e w3 ⟨rfl, hb3⟩
          have HB3 := Lib.hid (HB2.out.trans (hb3.mono HB2.out.size))
          clear hb3 d0' d1' d2' d3'
          cases r2
          · have HG := Lib.hid (HGOOD.out r3 rfl (by rw [HR3.out]; rfl))
            go_wp2
            go_roundg (gk - 1)
            case measure => omega
            case rel => exact ⟨k + 1, by omega, by go_num, by omega, HB3.out, HG.out⟩
          · have HJ := Lib.hid (HBAD.out (by rw [HR3.out]; rfl))
            go_wp2
            go_ret2
            exact ⟨by rw [HJ.out]; rfl, HB3.out⟩
      · rename World => wa
        have hkn : k = (p + 1) := by omega
        have hjv : jv us = if 16384 < (jn us).length then ([], 5) else (jn us, 0) := by
          unfold jv
          rw [if_neg (by omega), if_pos]
          refine List.all_eq_true.2 fun t ht => ?_
          obtain ⟨j, hj, rfl⟩ := List.getElem_of_mem ht
          exact HALL.out j hj (by omega)
        have HJV := Lib.hid hjv
        clear hkn hjv hall hbw HALL hg
        go_wp2_with fail
        clear hlt hk
        have hbl := bld_new wa
        have hb0 : Below wa.heap.size wa (wa.alloc (.cells #[.pointer none, .slice none 0 0] 62)) := (Below.refl _ _).alloc (Nat.le_refl _) _
        generalize wa.alloc (.cells #[.pointer none, .slice none 0 0] 62) = w0 at hbl hb0 ⊢
        have HBL := Lib.hid hbl
        have HB0 := Lib.hid hb0
        clear hbl hb0
        go_loopg [44] ((p + 1) + 1) (fun g v wr => ∃ k : Nat, k ≤ (p + 1) ∧ v = .int .i64 k ∧ g = (p + 1) + 1 - k ∧ Bld wa.heap.size wa.heap.size (jn (us.take k)) wr ∧ Below wa.heap.size wa wr ∧ (jn (us.take k)).length ≤ 16384)
        case atStart => exact ⟨0, by omega, rfl, by omega, HBL.out, HB0.out, by simp [jn_nil]⟩
        case round =>
          obtain ⟨k, hk, rfl, hg, hbl, hbw, hlen⟩ := hrel
          have HBL := Lib.hid hbl
          have HBX := Lib.hid hbw
          have hWX := HBR.out.trans (hbw.mono HBR.out.size)
          by_cases hlt : k < (p + 1)
          · have hc := fun W => written_any (us[k]'(by omega)) W (HBIG.out k (by omega))
            have hwl := wrT_len (us[k]'(by omega)) (HBIG.out k (by omega))
            have hsn := jn_take us k (by omega)
            have hle := jn_le us (k + 1) (by omega)
            unfold tokVal tkc at hc
            generalize wrT (us[k]'(by omega)) = wt at hc hwl hsn
            obtain ⟨a0, a1, a2, a3⟩ := (show TokAt wr b (off + k * 4) (us[k]'(by omega)) from by rw [Nat.mul_comm]; exact (HA.out k (by omega)).below hWX hb)
            generalize (us[k]'(by omega)).kind = kd at a0 hc
            generalize Pl.mk (us[k]'(by omega)).text = tx at a1 hc
            generalize (us[k]'(by omega)).line = li at a2 hc
            generalize (us[k]'(by omega)).col = co at a3 hc
            obtain ⟨hkb, hbb⟩ := tok_block wr kd tx li co
            obtain ⟨d0, d1, d2, d3, -, -, -, -⟩ := hkb
            have HC := Lib.hid hc
            have HSN := Lib.hid hsn
            have HLE := Lib.hid hle
            have HBB := Lib.hid hbb
            have hz : k = 0 → jn (us.take k) = [] := fun h => by rw [h]; rfl
            generalize jn (us.take k) = jk at HBL HSN hlen hz
            generalize hj1 : jn (us.take (k + 1)) = j1 at HSN HLE
            have HJ1 := Lib.hid hj1
            clear hc hsn hle hbl hbw hbb hWX hj1
            by_cases h0 : k = 0
            · have q0 : decide (0 < k) = false := decide_eq_false (by omega)
              have q0i : ¬ 0 < k := by omega
              have HS2 := Lib.hid (HSN.out.trans (if_pos h0))
              obtain rfl := hz h0
              clear h0 hz hlen
              go_wp2_with fail
              clear a0 a1 a2 a3
              refine (HC.out _).mono ?_
              rintro e w2 ⟨rfl, hb2⟩
              have HBL2 := Lib.hid ((HBL.out.below HBB.out).below (hb2.mono (Nat.le_refl _)))
              have HBW2 := Lib.hid (HBX.out.trans ((HBB.out.trans (hb2.mono HBB.out.size)).mono HBX.out.size))
              clear hb2 d0 d1 d2 d3
              go_wp2_with fail
              refine (writeString_any _ _ _ _ _ HBL2.out (by rw [Pl.mk_size]; simp; omega) HBW2.out.size).mono ?_
              rintro e w3 ⟨rfl, hbl3, hb3⟩
              have hbl3 : Bld wa.heap.size wa.heap.size j1 w3 := by
                have := hbl3
                rw [Pl.mk_toList] at this
                rw [HS2.out]; simpa using this
              have HBL3 := Lib.hid hbl3
              have HBW3 := Lib.hid (HBW2.out.trans hb3)
              clear hbl3 hb3
              go_wp2_with fail
              refine (len_any _ _ _ _ HBL3.out).mono ?_
              rintro e w' ⟨rfl, rfl⟩
              by_cases hov : 16384 < j1.length
              · have q2 : decide ((16384 : Int) < (j1.length : Int)) = true := by simp; omega
                have HJL := Lib.hid (show jv us = ([], 5) from by rw [HJV.out, if_pos]; have := HLE.out; omega)
                have HBWF := Lib.hid (HBR.out.trans (HBW3.out.mono HBR.out.size))
                go_wp2
                go_ret2
                exact ⟨by rw [HJL.out]; rfl, HBWF.out⟩
              · have q2 : decide ((16384 : Int) < (j1.length : Int)) = false := by simp; omega
                go_wp2
                go_roundg (gk - 1)
                case measure => omega
                case rel => exact ⟨k + 1, by omega, by go_num, by omega, by rw [HJ1.out]; exact HBL3.out, HBW3.out, by rw [HJ1.out]; omega⟩
            · have q0 : decide (0 < k) = true := decide_eq_true (by omega)
              have q0i : 0 < k := by omega
              have HS2 := Lib.hid (HSN.out.trans (if_neg h0))
              clear h0 hz
              go_wp2_with fail
              clear a0 a1 a2 a3
              refine (writeByte_32 _ _ wr.heap.size _ _ (HBL.out.below HBB.out) (Nat.ne_of_gt HBL.out.lt) (by simp) (off_new HBL.out _) (by omega) (Nat.le_trans HBX.out.size HBB.out.size)).mono ?_
              rintro e w1 ⟨rfl, hbl1, hb1, hk1⟩
              have hz1 : wr.heap.size < w1.heap.size := Nat.lt_of_lt_of_le (by simp) hb1.size
              have hkb2 : TkAt w1 wr.heap.size (.int .i64 kd) (.string tx) (.int .i64 li) (.int .i64 co) := tkAt_of (show Blk w1 wr.heap.size 45 #[.int .i64 kd, .string tx, .int .i64 li, .int .i64 co] from hk1.trans (blk_new wr _ _))
              obtain ⟨e0, e1, e2, e3, -, -, -, -⟩ := hkb2
              have HBL1 := Lib.hid hbl1
              have HBW1 := Lib.hid ((HBX.out.trans (HBB.out.mono HBX.out.size)).trans hb1)
              clear hbl1 hb1 hk1 d0 d1 d2 d3
              go_wp2_with fail
              refine (HC.out _).mono ?_
              rintro e w2 ⟨rfl, hb2⟩
              have HBL2 := Lib.hid (HBL1.out.below hb2)
              have HBW2 := Lib.hid (HBW1.out.trans (hb2.mono HBW1.out.size))
              clear hb2 e0 e1 e2 e3
              go_wp2_with fail
              refine (writeString_any _ _ _ _ _ HBL2.out (by rw [Pl.mk_size]; simp; omega) HBW2.out.size).mono ?_
              rintro e w3 ⟨rfl, hbl3, hb3⟩
              have hbl3 : Bld wa.heap.size wa.heap.size j1 w3 := by
                have := hbl3
                rw [Pl.mk_toList] at this
                rw [HS2.out]; simpa using this
              have HBL3 := Lib.hid hbl3
              have HBW3 := Lib.hid (HBW2.out.trans hb3)
              clear hbl3 hb3
              go_wp2_with fail
              refine (len_any _ _ _ _ HBL3.out).mono ?_
              rintro e w' ⟨rfl, rfl⟩
              by_cases hov : 16384 < j1.length
              · have q2 : decide ((16384 : Int) < (j1.length : Int)) = true := by simp; omega
                have HJL := Lib.hid (show jv us = ([], 5) from by rw [HJV.out, if_pos]; have := HLE.out; omega)
                have HBWF := Lib.hid (HBR.out.trans (HBW3.out.mono HBR.out.size))
                go_wp2
                go_ret2
                exact ⟨by rw [HJL.out]; rfl, HBWF.out⟩
              · have q2 : decide ((16384 : Int) < (j1.length : Int)) = false := by simp; omega
                go_wp2
                go_roundg (gk - 1)
                case measure => omega
                case rel => exact ⟨k + 1, by omega, by go_num, by omega, by rw [HJ1.out]; exact HBL3.out, HBW3.out, by rw [HJ1.out]; omega⟩
          · have hkn : k = (p + 1) := by omega
            have hfin : jn (us.take k) = jn us := by rw [hkn, ← hul, List.take_length]
            have hjl : jv us = (jn us, 0) := by rw [HJV.out, if_neg]; rw [← hfin]; omega
            rw [hfin] at HBL
            have HJL := Lib.hid hjl
            clear hkn hfin hjl hbl hbw hWX
            go_wp2_with fail
            refine (string_any _ _ _ _ HBL.out HBX.out.size).mono ?_
            rintro e w2 ⟨rfl, -, hb2⟩
            have HBW2 := Lib.hid (HBR.out.trans ((HBX.out.trans hb2).mono HBR.out.size))
            clear hb2
            go_wp2
            go_ret2
            exact ⟨by rw [HJL.out]; rfl, HBW2.out⟩
set_option maxRecDepth 100000 in
theorem lexJoin_none (a c) (w : World) :
    Calls Tryz.prog 11 #[.slice a 0 c] w (JoinPost w (jv [])) := by
  have HJ := Lib.hid (show jv [] = ([], 0) from rfl)
  have HBW : Hid (Below w.heap.size w w) := Below.refl _ _
  go_enter Tryz.func11, Tryz.ntmps11
  go_wp2_with fail
  go_loopg [30] 1 (fun g v wr => v = .int .i64 0 ∧ wr = w)
  case atStart => exact ⟨rfl, rfl⟩
  case round =>
    obtain ⟨rfl, rfl⟩ := hrel
    rename World => wa
    go_wp2_with fail
    have hbl := bld_new wa
    have hb0 : Below wa.heap.size wa (wa.alloc (.cells #[.pointer none, .slice none 0 0] 62)) := (Below.refl _ _).alloc (Nat.le_refl _) _
    generalize wa.alloc (.cells #[.pointer none, .slice none 0 0] 62) = w0 at hbl hb0 ⊢
    have HBL := Lib.hid hbl
    have HB0 := Lib.hid hb0
    clear hbl hb0
    go_loopg [44] 1 (fun g v wr => v = .int .i64 0 ∧ wr = w0)
    case atStart => exact ⟨rfl, rfl⟩
    case round =>
      obtain ⟨rfl, rfl⟩ := hrel
      go_wp2_with fail
      refine (string_any _ _ _ _ HBL.out HB0.out.size).mono ?_
      rintro e w2 ⟨rfl, -, hb2⟩
      have HBW2 := Lib.hid (HB0.out.trans hb2)
      clear hb2
      go_wp2
      go_ret2
      exact ⟨by rw [HJ.out]; rfl, HBW2.out⟩
theorem unend_snoc (l : List Pl.Tok) (t : Pl.Tok) : unend (l ++ [t]) = if endB t then l else l ++ [t] := by
  unfold unend
  rw [List.getLast?_concat]
  simp
theorem lexJoin_any (v : Value) (ts : List Pl.Tok) (w : World) (h : TokSlice w v ts) (hbig : ∀ t ∈ ts, t.text.length ≤ 17000) :
    Calls Tryz.prog 11 #[v] w (JoinPost w (jv (unend ts))) := by
  rcases h with ⟨h0, a, c, rfl⟩ | ⟨b, off, c, rfl, h1, h2, h3, h4, h5⟩
  · rw [h0]; exact lexJoin_none a c w
  · obtain ⟨us, last, rfl⟩ : ∃ us last, ts = us ++ [last] := by
      have hne : ts ≠ [] := by rintro rfl; simp at h1
      exact ⟨ts.dropLast, ts.getLast hne, (List.dropLast_concat_getLast hne).symm⟩
    have hlen : (us ++ [last]).length = us.length + 1 := by simp
    have hl : TokAt w b (off + us.length * 4) last := by
      have := h5 us.length (by omega)
      rw [List.getElem_append_right (Nat.le_refl _)] at this
      simpa [Nat.mul_comm] using this
    rw [unend_snoc]
    rw [hlen] at h2 ⊢
    cases he : endB last
    · rw [if_neg (by simp)]
      exact lexJoin_keep b off c us.length (us ++ [last]) last w hlen h2 h3 h4 hl he h5 fun j hj => hbig _ (List.getElem_mem hj)
    · rw [if_pos rfl]
      refine lexJoin_drop b off c us.length us last w rfl h2 h3 h4 hl he (fun j hj => ?_) fun j hj => hbig _ (List.mem_append_left _ (List.getElem_mem hj))
      have := h5 j (by omega)
      rw [List.getElem_append_left hj] at this
      exact this
end Go.Proofs.YtjedahcpkcgpeaaGreatDoor
