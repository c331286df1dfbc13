/-
  Walks and plain mathematics, several texts in one (Xs Xt).
-/
import Derived.Test.YtkhpihacjhhklaaG12
import Derived.Test.YtkhpihacjhhklaaG13
/-
  Walks of layer 3: the reference's forms of functions.
-/
namespace Go.Proofs.Ytkhpihacjhhklaa
open Go Go.RowKit
open Pl (Syn)
set_option linter.unusedSimpArgs false

theorem strs_of {w : World} {P : Nat → Prop} {la : Option Addr} {n c : Nat} {zs : List ByteArray} (h : StrSl w P (.slice la n c) zs) (hne : zs ≠ []) {Q : World → Prop} (hk : ∀ W, Q W → Same P w W) : ∃ b off, la = some ⟨b, off, none⟩ ∧ (∀ z ∈ zs, z.size ≤ maxLen) ∧ ∀ W, Q W → StrsIn W b off zs := by
  obtain ⟨a, c', e, h1, h2, h3, h4, h5⟩ := h
  injection e with e1 e2 e3
  subst e1
  rcases h5 with h5 | ⟨b, off, rfl, hPb, h5⟩
  · exact absurd h5 hne
  · exact ⟨b, off, rfl, h4, fun W hW => h5.keep (hk W hW) hPb⟩
theorem all_low (zs : List ByteArray) : zs.all Pl.lowS = true ↔ ∀ q (h : q < zs.length), Pl.lowS zs[q] = true := by
  rw [List.all_eq_true]
  constructor
  · intro h q hq; exact h _ (List.getElem_mem hq)
  · intro h x hx
    obtain ⟨k, hk, e⟩ := List.mem_iff_getElem.1 hx
    rw [← e]; exact h k hk
set_option maxRecDepth 100000 in
set_option maxHeartbeats 8000000 in
theorem rdeclF_42 (P : Nat → Prop) (t : Syn) (w : World) (v : Value) (hP : ∀ b, P b → b < w.heap.size) (ht : SynV w P t v) (hop : t.op = 42) :
    Calls Try.prog 83 #[v] w fun e w' => e = .returned (.bool (Pl.declF t)) ∧ Below w.heap.size w w' := by
  have hlm : t.l.length ≤ maxLen := by
    obtain ⟨_, nv, lv, _, _, a, c, _, h1, h2, _⟩ := (synV_iff _ _ _ _).1 ht
    omega
  have hnm9 : t.names.length ≤ maxLen := by
    obtain ⟨_, nv, lv, _, hn, _⟩ := (synV_iff _ _ _ _).1 ht
    obtain ⟨_, _, _, h⟩ := hn.form
    exact h
  unfold maxLen at hlm hnm9
  have HT := Lib.hid ht
  rw [synV_iff] at ht
  obtain ⟨hs, nv, lv, rfl, hn, hl⟩ := ht
  have HSZ := Lib.hid hs
  have HNM := Lib.hid hn
  have HLL := Lib.hid hl
  obtain ⟨na, nc, rfl, hnm⟩ := hn.form
  obtain ⟨la, lc, rfl, hlmm⟩ := hl.form
  have hb0 : Below w.heap.size w (w.alloc (.cells #[.int .i64 t.op, .int .i64 t.n, .string t.s, .slice na t.names.length nc, .slice la t.l.length lc] 25)) := (Below.refl _ _).alloc (Nat.le_refl _) _
  have bx := blk_new w #[.int .i64 t.op, .int .i64 t.n, .string t.s, .slice na t.names.length nc, .slice la t.l.length lc] 25
  have hsame := Same.of_below hb0 hP
  have HND := Lib.hid (node_of P t (w.alloc (.cells #[.int .i64 t.op, .int .i64 t.n, .string t.s, .slice na t.names.length nc, .slice la t.l.length lc] 25)) 0 _ (fun b h => Nat.lt_of_lt_of_le (hP b h) hb0.size) (HT.out.keep hsame))
  have HPA := Lib.hid (fun W low (h : Below (w.alloc (.cells #[.int .i64 t.op, .int .i64 t.n, .string t.s, .slice na t.names.length nc, .slice la t.l.length lc] 25)).heap.size (w.alloc (.cells #[.int .i64 t.op, .int .i64 t.n, .string t.s, .slice na t.names.length nc, .slice la t.l.length lc] 25)) W) => rpath_any low P _ t.names W (HNM.out.keep (Same.of_below (belowStep h hb0) hP)) (fun b hb => Nat.lt_of_lt_of_le (hP b hb) (belowStep h hb0).size))
  have HPR := Lib.hid (fun W (h : Below (w.alloc (.cells #[.int .i64 t.op, .int .i64 t.n, .string t.s, .slice na t.names.length nc, .slice la t.l.length lc] 25)).heap.size (w.alloc (.cells #[.int .i64 t.op, .int .i64 t.n, .string t.s, .slice na t.names.length nc, .slice la t.l.length lc] 25)) W) => rparams_any P _ t.names W (HNM.out.keep (Same.of_below (belowStep h hb0) hP)) (fun b hb => Nat.lt_of_lt_of_le (hP b hb) (belowStep h hb0).size))
  have HTX := Lib.hid (fun W => rtext_any t.s W HSZ.out)
  have HKL := Lib.hid (fun W (h : Below (w.alloc (.cells #[.int .i64 t.op, .int .i64 t.n, .string t.s, .slice na t.names.length nc, .slice la t.l.length lc] 25)).heap.size (w.alloc (.cells #[.int .i64 t.op, .int .i64 t.n, .string t.s, .slice na t.names.length nc, .slice la t.l.length lc] 25)) W) => HLL.out.keep (Same.of_below (belowStep h hb0) hP))
  have HKN := Lib.hid (fun W (h : Below (w.alloc (.cells #[.int .i64 t.op, .int .i64 t.n, .string t.s, .slice na t.names.length nc, .slice la t.l.length lc] 25)).heap.size (w.alloc (.cells #[.int .i64 t.op, .int .i64 t.n, .string t.s, .slice na t.names.length nc, .slice la t.l.length lc] 25)) W) => HNM.out.keep (Same.of_below (belowStep h hb0) hP))
  have HBX := Lib.hid bx
  have HB0 := Lib.hid hb0
  have HALL := Lib.hid HND.out.all
  have HBA := Lib.hid HND.out.bare
  have HLO := Lib.hid HND.out.low
  have HUP := Lib.hid HND.out.up
  have HX1 := Lib.hid HND.out.ex1
  have HX2 := Lib.hid HND.out.ex2
  have HX3 := Lib.hid HND.out.ex3
  obtain ⟨y0, y1, y2, y3, y4⟩ := box_cells bx
  have HPP := Lib.hid hP
  clear hs hn hl hnm hlmm bx hsame hb0 hP HND HT
  have HQ := Lib.hid (fun W (hW : Below (w.alloc (.cells #[.int .i64 t.op, .int .i64 t.n, .string t.s, .slice na t.names.length nc, .slice la t.l.length lc] 25)).heap.size (w.alloc (.cells #[.int .i64 t.op, .int .i64 t.n, .string t.s, .slice na t.names.length nc, .slice la t.l.length lc] 25)) W) => box_cells (Blk.of_eq HBX.out (hW.block _ (Blk.lt HBX.out))))
  have hbn0 := Below.refl (w.alloc (.cells #[.int .i64 t.op, .int .i64 t.n, .string t.s, .slice na t.names.length nc, .slice la t.l.length lc] 25)).heap.size (w.alloc (.cells #[.int .i64 t.op, .int .i64 t.n, .string t.s, .slice na t.names.length nc, .slice la t.l.length lc] 25))
  have HKK := Lib.hid (show t.names ≠ [] → ∃ b off, na = some ⟨b, off, none⟩ ∧ (∀ z ∈ t.names, z.size ≤ maxLen) ∧ ∀ W, Below (w.alloc (.cells #[.int .i64 t.op, .int .i64 t.n, .string t.s, .slice na t.names.length nc, .slice la t.l.length lc] 25)).heap.size (w.alloc (.cells #[.int .i64 t.op, .int .i64 t.n, .string t.s, .slice na t.names.length nc, .slice la t.l.length lc] 25)) W → StrsIn W b off t.names from fun hne => strs_of HNM.out hne (fun W h => Same.of_below (belowStep h HB0.out) HPP.out))
  obtain ⟨op, nn, ss, mm, ll⟩ := t
  dsimp only at hop
  subst hop
  dsimp only at *
  have HE := Lib.hid (show Pl.declF ⟨42, nn, ss, mm, ll⟩ = _ by unfold Pl.declF; rw [if_neg (by simp), if_pos (by simp)])
  dsimp only at HE
  have HB1 := Lib.hid (fun W h => HBA.out W false true true h)
  have HL1 := Lib.hid (fun W => HLO.out W)
  generalize hrb : Pl.bare ⟨42, nn, ss, mm, ll⟩ false true true = rb at *
  generalize hrl : Pl.lowS ss = rl at *
  by_cases h1 : 1 ≤ mm.length ∧ mm.length ≤ 9
  · obtain ⟨b, off, rfl, hzs, hkk⟩ := HKK.out (by rintro rfl; simp at h1)
    have HKA := Lib.hid hkk
    have HZ := Lib.hid hzs
    have HE2 := Lib.hid (HE.out.trans (show _ = (rb && rl && true && true && mm.all Pl.lowS && Pl.exact ll [3]) from by rw [decide_eq_true h1.1, decide_eq_true h1.2]))
    generalize Pl.declF ⟨42, nn, ss, mm, ll⟩ = res at *
    generalize hmn : mm.length = mn at *
    have HMN := Lib.hid hmn
    have HKI := Lib.hid (all_low mm)
    generalize mm.all Pl.lowS = rk at *
    have q2 : decide ((mn : Int) < 1) = false := by simp; omega
    have q3 : decide ((mn : Int) > 9) = false := by simp; omega
    have q5 : decide ((9 : Int) < (mn : Int)) = false := by simp; omega
    clear hmn hkk hzs hrb hrl HE HKK HALL HBA HKN HNM HLO HPR HPA
    cases rb
    · go_enter Try.func83, Try.ntmps83
      go_wp2_with fail
      generalize w.alloc (.cells #[.int .i64 42, .int .i64 nn, .string ss, .slice (some ⟨b, off, none⟩) mn nc, .slice la ll.length lc] 25) = w0 at *
      go_wp2_with (first
        | (go_at_call 93; refine (HB1.out _ (by assumption)).mono ?_; rintro e wn ⟨rfl, hbn⟩; have hbn2 := belowStep hbn (show Below w0.heap.size w0 _ by assumption); obtain ⟨z0, z1, z2, z3, z4⟩ := HQ.out _ hbn2))
      go_ret
      exact ⟨ret_bool (by first | (rw [HE2.out]; done) | (rw [HE2.out]; rfl) | (rw [HE2.out]; simp; done)), belowStep (show Below w0.heap.size w0 _ by assumption) HB0.out⟩
    cases rl
    · go_enter Try.func83, Try.ntmps83
      go_wp2_with fail
      generalize w.alloc (.cells #[.int .i64 42, .int .i64 nn, .string ss, .slice (some ⟨b, off, none⟩) mn nc, .slice la ll.length lc] 25) = w0 at *
      go_wp2_with (first
        | (go_at_call 93; refine (HB1.out _ (by assumption)).mono ?_; rintro e wn ⟨rfl, hbn⟩; have hbn2 := belowStep hbn (show Below w0.heap.size w0 _ by assumption); obtain ⟨z0, z1, z2, z3, z4⟩ := HQ.out _ hbn2)
        | (go_at_call 98; refine (HL1.out _).mono ?_; rintro e wn ⟨rfl, hbn⟩; have hbn2 := belowStep hbn (show Below w0.heap.size w0 _ by assumption); obtain ⟨z0, z1, z2, z3, z4⟩ := HQ.out _ hbn2))
      go_ret
      exact ⟨ret_bool (by first | (rw [HE2.out]; done) | (rw [HE2.out]; rfl) | (rw [HE2.out]; simp; done)), belowStep (show Below w0.heap.size w0 _ by assumption) HB0.out⟩
    · go_enter Try.func83, Try.ntmps83
      go_wp2_with fail
      generalize w.alloc (.cells #[.int .i64 42, .int .i64 nn, .string ss, .slice (some ⟨b, off, none⟩) mn nc, .slice la ll.length lc] 25) = w0 at *
      go_wp2_with (first
        | (go_at_call 93; refine (HB1.out _ (by assumption)).mono ?_; rintro e wn ⟨rfl, hbn⟩; have hbn2 := belowStep hbn (show Below w0.heap.size w0 _ by assumption); obtain ⟨z0, z1, z2, z3, z4⟩ := HQ.out _ hbn2)
        | (go_at_call 98; refine (HL1.out _).mono ?_; rintro e wn ⟨rfl, hbn⟩; have hbn2 := belowStep hbn (show Below w0.heap.size w0 _ by assumption); obtain ⟨z0, z1, z2, z3, z4⟩ := HQ.out _ hbn2))
      go_loopg [4] (mn + 1) (fun g iv wr => ∃ k : Nat, k ≤ mn ∧ iv = .int .i64 k ∧ g = mn + 1 - k ∧ Below w0.heap.size w0 wr ∧ ∀ q (h : q < mm.length), q < k → Pl.lowS mm[q] = true)
      case atStart => exact ⟨0, by omega, rfl, by omega, by assumption, fun q _ h2 => by omega⟩
      case round =>
        obtain ⟨k, hk, rfl, hg, hbw, hall⟩ := hrel
        have HA := Lib.hid hall
        have HBW := Lib.hid (belowStep hbw HB0.out)
        clear hall
        obtain ⟨v0, v1, v2, v3, v4⟩ := HQ.out _ hbw
        by_cases hlt : k < mn
        · have hkl : k < mm.length := by rw [HMN.out]; exact hlt
          have a0 := HKA.out _ hbw k hkl
          have HLW := Lib.hid (rLow_any mm[k] wr (HZ.out _ (List.getElem_mem hkl)))
          have HYS := Lib.hid (show Pl.lowS mm[k] = true → ∀ q (h : q < mm.length), q < k + 1 → Pl.lowS mm[q] = true from fun hx q hq h2 => by
            by_cases hqk : q = k
            · subst hqk; exact hx
            · exact HA.out q hq (by omega))
          have HNO := Lib.hid (show Pl.lowS mm[k] = false → rk = false from fun hx => by
            rw [Bool.eq_false_iff]; intro e
            rw [HKI.out.1 e k hkl] at hx; cases hx)
          generalize Pl.lowS mm[k] = r at *
          generalize mm[k] = z at *
          cases r
          · go_wp2_with fail
            refine HLW.out.mono ?_
            rintro e w3 ⟨rfl, hb3⟩
            have HB3 := Lib.hid (belowStep hb3 HBW.out)
            clear hb3
            go_wp2
            go_ret
            exact ⟨ret_bool (by rw [HE2.out, HNO.out (by first | rfl | trivial)]; rfl), HB3.out⟩
          · go_wp2_with fail
            refine HLW.out.mono ?_
            rintro e w3 ⟨rfl, hb3⟩
            have hb4 := belowStep hb3 hbw
            clear hb3
            go_wp2
            go_roundg (gk - 1)
            case measure => omega
            case rel => exact ⟨k + 1, by omega, by go_num, by omega, hb4, HYS.out (by first | rfl | trivial)⟩
        · have HR := Lib.hid (show rk = true from HKI.out.2 (fun q hq => HA.out q hq (by have := HMN.out; omega)))
          go_wp2_with (first
            | (go_at_call 97; refine (HX1.out _ _ _ (by assumption)).mono ?_; rintro e wn ⟨rfl, hbn⟩; have hbn2 := belowStep hbn (show Below w0.heap.size w0 _ by assumption); obtain ⟨z0, z1, z2, z3, z4⟩ := HQ.out _ hbn2))
          go_ret
          exact ⟨ret_bool (by rw [HE2.out, HR.out]; rfl), belowStep (show Below w0.heap.size w0 _ by assumption) HB0.out⟩
  · have HE2 := Lib.hid (HE.out.trans (show _ = false from by
      rcases Decidable.not_and_iff_or_not.1 h1 with h | h
      · rw [decide_eq_false h]; simp
      · rw [decide_eq_false h]; simp))
    generalize Pl.declF ⟨42, nn, ss, mm, ll⟩ = res at *
    generalize mm.length = mn at *
    clear hrb hrl HE HKK HALL HBA HKN HNM HLO HPR HPA
    by_cases h0 : 1 ≤ mn
    · have q2 : decide ((mn : Int) < 1) = false := by simp; omega
      have q3 : decide ((mn : Int) > 9) = true := by simp; omega
      have q5 : decide ((9 : Int) < (mn : Int)) = true := by simp; omega
      clear h0 h1
      cases rb
      · go_enter Try.func83, Try.ntmps83
        go_wp2_with fail
        generalize w.alloc (.cells #[.int .i64 42, .int .i64 nn, .string ss, .slice na mn nc, .slice la ll.length lc] 25) = w0 at *
        go_wp2_with (first
          | (go_at_call 93; refine (HB1.out _ (by assumption)).mono ?_; rintro e wn ⟨rfl, hbn⟩; have hbn2 := belowStep hbn (show Below w0.heap.size w0 _ by assumption); obtain ⟨z0, z1, z2, z3, z4⟩ := HQ.out _ hbn2))
        go_ret
        exact ⟨ret_bool (by first | (rw [HE2.out]; done) | (rw [HE2.out]; rfl) | (rw [HE2.out]; simp; done)), belowStep (show Below w0.heap.size w0 _ by assumption) HB0.out⟩
      cases rl
      · go_enter Try.func83, Try.ntmps83
        go_wp2_with fail
        generalize w.alloc (.cells #[.int .i64 42, .int .i64 nn, .string ss, .slice na mn nc, .slice la ll.length lc] 25) = w0 at *
        go_wp2_with (first
          | (go_at_call 93; refine (HB1.out _ (by assumption)).mono ?_; rintro e wn ⟨rfl, hbn⟩; have hbn2 := belowStep hbn (show Below w0.heap.size w0 _ by assumption); obtain ⟨z0, z1, z2, z3, z4⟩ := HQ.out _ hbn2)
          | (go_at_call 98; refine (HL1.out _).mono ?_; rintro e wn ⟨rfl, hbn⟩; have hbn2 := belowStep hbn (show Below w0.heap.size w0 _ by assumption); obtain ⟨z0, z1, z2, z3, z4⟩ := HQ.out _ hbn2))
        go_ret
        exact ⟨ret_bool (by first | (rw [HE2.out]; done) | (rw [HE2.out]; rfl) | (rw [HE2.out]; simp; done)), belowStep (show Below w0.heap.size w0 _ by assumption) HB0.out⟩
      · go_enter Try.func83, Try.ntmps83
        go_wp2_with fail
        generalize w.alloc (.cells #[.int .i64 42, .int .i64 nn, .string ss, .slice na mn nc, .slice la ll.length lc] 25) = w0 at *
        go_wp2_with (first
          | (go_at_call 93; refine (HB1.out _ (by assumption)).mono ?_; rintro e wn ⟨rfl, hbn⟩; have hbn2 := belowStep hbn (show Below w0.heap.size w0 _ by assumption); obtain ⟨z0, z1, z2, z3, z4⟩ := HQ.out _ hbn2)
          | (go_at_call 98; refine (HL1.out _).mono ?_; rintro e wn ⟨rfl, hbn⟩; have hbn2 := belowStep hbn (show Below w0.heap.size w0 _ by assumption); obtain ⟨z0, z1, z2, z3, z4⟩ := HQ.out _ hbn2))
        go_ret
        exact ⟨ret_bool (by first | (rw [HE2.out]; done) | (rw [HE2.out]; rfl) | (rw [HE2.out]; simp; done)), belowStep (show Below w0.heap.size w0 _ by assumption) HB0.out⟩
    · have q2 : decide ((mn : Int) < 1) = true := by simp; omega
      clear h0 h1
      cases rb
      · go_enter Try.func83, Try.ntmps83
        go_wp2_with fail
        generalize w.alloc (.cells #[.int .i64 42, .int .i64 nn, .string ss, .slice na mn nc, .slice la ll.length lc] 25) = w0 at *
        go_wp2_with (first
          | (go_at_call 93; refine (HB1.out _ (by assumption)).mono ?_; rintro e wn ⟨rfl, hbn⟩; have hbn2 := belowStep hbn (show Below w0.heap.size w0 _ by assumption); obtain ⟨z0, z1, z2, z3, z4⟩ := HQ.out _ hbn2))
        go_ret
        exact ⟨ret_bool (by first | (rw [HE2.out]; done) | (rw [HE2.out]; rfl) | (rw [HE2.out]; simp; done)), belowStep (show Below w0.heap.size w0 _ by assumption) HB0.out⟩
      cases rl
      · go_enter Try.func83, Try.ntmps83
        go_wp2_with fail
        generalize w.alloc (.cells #[.int .i64 42, .int .i64 nn, .string ss, .slice na mn nc, .slice la ll.length lc] 25) = w0 at *
        go_wp2_with (first
          | (go_at_call 93; refine (HB1.out _ (by assumption)).mono ?_; rintro e wn ⟨rfl, hbn⟩; have hbn2 := belowStep hbn (show Below w0.heap.size w0 _ by assumption); obtain ⟨z0, z1, z2, z3, z4⟩ := HQ.out _ hbn2)
          | (go_at_call 98; refine (HL1.out _).mono ?_; rintro e wn ⟨rfl, hbn⟩; have hbn2 := belowStep hbn (show Below w0.heap.size w0 _ by assumption); obtain ⟨z0, z1, z2, z3, z4⟩ := HQ.out _ hbn2))
        go_ret
        exact ⟨ret_bool (by first | (rw [HE2.out]; done) | (rw [HE2.out]; rfl) | (rw [HE2.out]; simp; done)), belowStep (show Below w0.heap.size w0 _ by assumption) HB0.out⟩
      · go_enter Try.func83, Try.ntmps83
        go_wp2_with fail
        generalize w.alloc (.cells #[.int .i64 42, .int .i64 nn, .string ss, .slice na mn nc, .slice la ll.length lc] 25) = w0 at *
        go_wp2_with (first
          | (go_at_call 93; refine (HB1.out _ (by assumption)).mono ?_; rintro e wn ⟨rfl, hbn⟩; have hbn2 := belowStep hbn (show Below w0.heap.size w0 _ by assumption); obtain ⟨z0, z1, z2, z3, z4⟩ := HQ.out _ hbn2)
          | (go_at_call 98; refine (HL1.out _).mono ?_; rintro e wn ⟨rfl, hbn⟩; have hbn2 := belowStep hbn (show Below w0.heap.size w0 _ by assumption); obtain ⟨z0, z1, z2, z3, z4⟩ := HQ.out _ hbn2))
        go_ret
        exact ⟨ret_bool (by first | (rw [HE2.out]; done) | (rw [HE2.out]; rfl) | (rw [HE2.out]; simp; done)), belowStep (show Below w0.heap.size w0 _ by assumption) HB0.out⟩
end Go.Proofs.Ytkhpihacjhhklaa

/-
  Walks of layer 3: the reference's forms of data types; all declarations.
-/
namespace Go.Proofs.Ytkhpihacjhhklaa
open Go Go.RowKit
open Pl (Syn)
set_option linter.unusedSimpArgs false

namespace Pl
theorem data_iff (l : List Syn) : (kinds l [45] && noTwin (l.map Syn.s)) = true ↔ (∀ q (h : q < l.length), l[q].op = 45) ∧ ∀ p q (hp : p < l.length) (hq : q < l.length), p < q → l[p].s ≠ l[q].s := by
  rw [Bool.and_eq_true]
  unfold kinds noTwin
  rw [List.all_eq_true, decide_eq_true_iff, List.nodup_iff_pairwise_ne, List.pairwise_map, List.pairwise_iff_getElem]
  constructor
  · rintro ⟨h1, h2⟩
    refine ⟨fun q hq => ?_, fun p q hp hq hpq => h2 p q hp hq hpq⟩
    simpa using h1 _ (List.getElem_mem hq)
  · rintro ⟨h1, h2⟩
    refine ⟨fun x hx => ?_, fun p q hp hq hpq => h2 p q hp hq hpq⟩
    obtain ⟨k, hk, e⟩ := List.mem_iff_getElem.1 hx
    rw [← e, h1 k hk]; rfl
end Pl
set_option maxRecDepth 100000 in
set_option maxHeartbeats 8000000 in
theorem rdeclF_44 (P : Nat → Prop) (t : Syn) (w : World) (v : Value) (hP : ∀ b, P b → b < w.heap.size) (ht : SynV w P t v) (hop : t.op = 44) :
    Calls Try.prog 83 #[v] w fun e w' => e = .returned (.bool (Pl.declF t)) ∧ Below w.heap.size w w' := by
  have hlm : t.l.length ≤ maxLen := by
    obtain ⟨_, nv, lv, _, _, a, c, _, h1, h2, _⟩ := (synV_iff _ _ _ _).1 ht
    omega
  have hnm9 : t.names.length ≤ maxLen := by
    obtain ⟨_, nv, lv, _, hn, _⟩ := (synV_iff _ _ _ _).1 ht
    obtain ⟨_, _, _, h⟩ := hn.form
    exact h
  unfold maxLen at hlm hnm9
  have HT := Lib.hid ht
  rw [synV_iff] at ht
  obtain ⟨hs, nv, lv, rfl, hn, hl⟩ := ht
  have HSZ := Lib.hid hs
  have HNM := Lib.hid hn
  have HLL := Lib.hid hl
  obtain ⟨na, nc, rfl, hnm⟩ := hn.form
  obtain ⟨la, lc, rfl, hlmm⟩ := hl.form
  have hb0 : Below w.heap.size w (w.alloc (.cells #[.int .i64 t.op, .int .i64 t.n, .string t.s, .slice na t.names.length nc, .slice la t.l.length lc] 25)) := (Below.refl _ _).alloc (Nat.le_refl _) _
  have bx := blk_new w #[.int .i64 t.op, .int .i64 t.n, .string t.s, .slice na t.names.length nc, .slice la t.l.length lc] 25
  have hsame := Same.of_below hb0 hP
  have HND := Lib.hid (node_of P t (w.alloc (.cells #[.int .i64 t.op, .int .i64 t.n, .string t.s, .slice na t.names.length nc, .slice la t.l.length lc] 25)) 0 _ (fun b h => Nat.lt_of_lt_of_le (hP b h) hb0.size) (HT.out.keep hsame))
  have HPA := Lib.hid (fun W low (h : Below (w.alloc (.cells #[.int .i64 t.op, .int .i64 t.n, .string t.s, .slice na t.names.length nc, .slice la t.l.length lc] 25)).heap.size (w.alloc (.cells #[.int .i64 t.op, .int .i64 t.n, .string t.s, .slice na t.names.length nc, .slice la t.l.length lc] 25)) W) => rpath_any low P _ t.names W (HNM.out.keep (Same.of_below (belowStep h hb0) hP)) (fun b hb => Nat.lt_of_lt_of_le (hP b hb) (belowStep h hb0).size))
  have HPR := Lib.hid (fun W (h : Below (w.alloc (.cells #[.int .i64 t.op, .int .i64 t.n, .string t.s, .slice na t.names.length nc, .slice la t.l.length lc] 25)).heap.size (w.alloc (.cells #[.int .i64 t.op, .int .i64 t.n, .string t.s, .slice na t.names.length nc, .slice la t.l.length lc] 25)) W) => rparams_any P _ t.names W (HNM.out.keep (Same.of_below (belowStep h hb0) hP)) (fun b hb => Nat.lt_of_lt_of_le (hP b hb) (belowStep h hb0).size))
  have HTX := Lib.hid (fun W => rtext_any t.s W HSZ.out)
  have HKL := Lib.hid (fun W (h : Below (w.alloc (.cells #[.int .i64 t.op, .int .i64 t.n, .string t.s, .slice na t.names.length nc, .slice la t.l.length lc] 25)).heap.size (w.alloc (.cells #[.int .i64 t.op, .int .i64 t.n, .string t.s, .slice na t.names.length nc, .slice la t.l.length lc] 25)) W) => HLL.out.keep (Same.of_below (belowStep h hb0) hP))
  have HKN := Lib.hid (fun W (h : Below (w.alloc (.cells #[.int .i64 t.op, .int .i64 t.n, .string t.s, .slice na t.names.length nc, .slice la t.l.length lc] 25)).heap.size (w.alloc (.cells #[.int .i64 t.op, .int .i64 t.n, .string t.s, .slice na t.names.length nc, .slice la t.l.length lc] 25)) W) => HNM.out.keep (Same.of_below (belowStep h hb0) hP))
  have HBX := Lib.hid bx
  have HB0 := Lib.hid hb0
  have HALL := Lib.hid HND.out.all
  have HBA := Lib.hid HND.out.bare
  have HLO := Lib.hid HND.out.low
  have HUP := Lib.hid HND.out.up
  have HX1 := Lib.hid HND.out.ex1
  have HX2 := Lib.hid HND.out.ex2
  have HX3 := Lib.hid HND.out.ex3
  obtain ⟨y0, y1, y2, y3, y4⟩ := box_cells bx
  have HPP := Lib.hid hP
  clear hs hn hl hnm hlmm bx hsame hb0 hP HND HT
  have HQ := Lib.hid (fun W (hW : Below (w.alloc (.cells #[.int .i64 t.op, .int .i64 t.n, .string t.s, .slice na t.names.length nc, .slice la t.l.length lc] 25)).heap.size (w.alloc (.cells #[.int .i64 t.op, .int .i64 t.n, .string t.s, .slice na t.names.length nc, .slice la t.l.length lc] 25)) W) => box_cells (Blk.of_eq HBX.out (hW.block _ (Blk.lt HBX.out))))
  have hbn0 := Below.refl (w.alloc (.cells #[.int .i64 t.op, .int .i64 t.n, .string t.s, .slice na t.names.length nc, .slice la t.l.length lc] 25)).heap.size (w.alloc (.cells #[.int .i64 t.op, .int .i64 t.n, .string t.s, .slice na t.names.length nc, .slice la t.l.length lc] 25))
  have HKK := Lib.hid (show t.l ≠ [] → ∃ b off, la = some ⟨b, off, none⟩ ∧ ∀ W, Below (w.alloc (.cells #[.int .i64 t.op, .int .i64 t.n, .string t.s, .slice na t.names.length nc, .slice la t.l.length lc] 25)).heap.size (w.alloc (.cells #[.int .i64 t.op, .int .i64 t.n, .string t.s, .slice na t.names.length nc, .slice la t.l.length lc] 25)) W → KidsAt W P t.l b off from fun hne => kids_of HLL.out hne (fun W h => Same.of_below (belowStep h HB0.out) HPP.out))
  obtain ⟨op, nn, ss, mm, ll⟩ := t
  dsimp only at hop
  subst hop
  dsimp only at *
  have HE := Lib.hid (show Pl.declF ⟨44, nn, ss, mm, ll⟩ = _ by unfold Pl.declF; rw [if_neg (by simp), if_neg (by simp), if_neg (by simp), if_pos (by simp)])
  dsimp only at HE
  have HB1 := Lib.hid (fun W h => HBA.out W false true true h)
  have HL1 := Lib.hid (fun W => HLO.out W)
  have HP1 := Lib.hid (fun W h => HPR.out W h)
  generalize hrb : Pl.bare ⟨44, nn, ss, mm, ll⟩ false true true = rb at *
  generalize hrl : Pl.lowS ss = rl at *
  generalize hrp : Pl.params mm = rp at *
  by_cases h1 : 1 ≤ ll.length
  · obtain ⟨b, off, rfl, hkk⟩ := HKK.out (by rintro rfl; simp at h1)
    have HKA := Lib.hid hkk
    have HE2 := Lib.hid (HE.out.trans (show _ = (rb && rl && rp && true && (Pl.kinds ll [45] && Pl.noTwin (ll.map Syn.s))) from by rw [decide_eq_true h1]))
    generalize Pl.declF ⟨44, nn, ss, mm, ll⟩ = res at *
    generalize hln : ll.length = ln at *
    have HLN := Lib.hid hln
    have HKI := Lib.hid (Pl.data_iff ll)
    generalize (Pl.kinds ll [45] && Pl.noTwin (ll.map Syn.s)) = rk at *
    have HK1 := Lib.hid (fun q (h : q < ll.length) (hn : ll[q].op ≠ 45) => show rk = false from by rw [Bool.eq_false_iff]; intro e; exact hn ((HKI.out.1 e).1 q h))
    have HK2 := Lib.hid (fun p q (hp : p < ll.length) (hq : q < ll.length) (hpq : p < q) (he : ll[p].s = ll[q].s) => show rk = false from by rw [Bool.eq_false_iff]; intro e; exact (HKI.out.1 e).2 p q hp hq hpq he)
    have HK3 := Lib.hid (fun h1 h2 => show rk = true from HKI.out.2 ⟨h1, h2⟩)
    have q2 : decide ((ln : Int) < 1) = false := by simp; omega
    clear hln
    clear hkk hrb hrl hrp HE HKK HALL HBA HKL HLL HLO HPR HPA HKI
    cases rb
    · go_enter Try.func83, Try.ntmps83
      go_wp2_with fail
      generalize w.alloc (.cells #[.int .i64 44, .int .i64 nn, .string ss, .slice na mm.length nc, .slice (some ⟨b, off, none⟩) ln lc] 25) = w0 at *
      go_wp2_with (first
        | (go_at_call 93; refine (HB1.out _ (by assumption)).mono ?_; rintro e wn ⟨rfl, hbn⟩; have hbn2 := belowStep hbn (show Below w0.heap.size w0 _ by assumption); obtain ⟨z0, z1, z2, z3, z4⟩ := HQ.out _ hbn2))
      go_ret
      exact ⟨ret_bool (by first | (rw [HE2.out]; done) | (rw [HE2.out]; rfl) | (rw [HE2.out]; simp; done)), belowStep (show Below w0.heap.size w0 _ by assumption) HB0.out⟩
    cases rl
    · go_enter Try.func83, Try.ntmps83
      go_wp2_with fail
      generalize w.alloc (.cells #[.int .i64 44, .int .i64 nn, .string ss, .slice na mm.length nc, .slice (some ⟨b, off, none⟩) ln lc] 25) = w0 at *
      go_wp2_with (first
        | (go_at_call 93; refine (HB1.out _ (by assumption)).mono ?_; rintro e wn ⟨rfl, hbn⟩; have hbn2 := belowStep hbn (show Below w0.heap.size w0 _ by assumption); obtain ⟨z0, z1, z2, z3, z4⟩ := HQ.out _ hbn2)
        | (go_at_call 98; refine (HL1.out _).mono ?_; rintro e wn ⟨rfl, hbn⟩; have hbn2 := belowStep hbn (show Below w0.heap.size w0 _ by assumption); obtain ⟨z0, z1, z2, z3, z4⟩ := HQ.out _ hbn2))
      go_ret
      exact ⟨ret_bool (by first | (rw [HE2.out]; done) | (rw [HE2.out]; rfl) | (rw [HE2.out]; simp; done)), belowStep (show Below w0.heap.size w0 _ by assumption) HB0.out⟩
    cases rp
    · go_enter Try.func83, Try.ntmps83
      go_wp2_with fail
      generalize w.alloc (.cells #[.int .i64 44, .int .i64 nn, .string ss, .slice na mm.length nc, .slice (some ⟨b, off, none⟩) ln lc] 25) = w0 at *
      go_wp2_with (first
        | (go_at_call 93; refine (HB1.out _ (by assumption)).mono ?_; rintro e wn ⟨rfl, hbn⟩; have hbn2 := belowStep hbn (show Below w0.heap.size w0 _ by assumption); obtain ⟨z0, z1, z2, z3, z4⟩ := HQ.out _ hbn2)
        | (go_at_call 98; refine (HL1.out _).mono ?_; rintro e wn ⟨rfl, hbn⟩; have hbn2 := belowStep hbn (show Below w0.heap.size w0 _ by assumption); obtain ⟨z0, z1, z2, z3, z4⟩ := HQ.out _ hbn2)
        | (go_at_call 100; refine (HP1.out _ (by assumption)).mono ?_; rintro e wn ⟨rfl, hbn⟩; have hbn2 := belowStep hbn (show Below w0.heap.size w0 _ by assumption); obtain ⟨z0, z1, z2, z3, z4⟩ := HQ.out _ hbn2))
      go_ret
      exact ⟨ret_bool (by first | (rw [HE2.out]; done) | (rw [HE2.out]; rfl) | (rw [HE2.out]; simp; done)), belowStep (show Below w0.heap.size w0 _ by assumption) HB0.out⟩
    · go_enter Try.func83, Try.ntmps83
      go_wp2_with fail
      generalize w.alloc (.cells #[.int .i64 44, .int .i64 nn, .string ss, .slice na mm.length nc, .slice (some ⟨b, off, none⟩) ln lc] 25) = w0 at *
      go_wp2_with (first
        | (go_at_call 93; refine (HB1.out _ (by assumption)).mono ?_; rintro e wn ⟨rfl, hbn⟩; have hbn2 := belowStep hbn (show Below w0.heap.size w0 _ by assumption); obtain ⟨z0, z1, z2, z3, z4⟩ := HQ.out _ hbn2)
        | (go_at_call 98; refine (HL1.out _).mono ?_; rintro e wn ⟨rfl, hbn⟩; have hbn2 := belowStep hbn (show Below w0.heap.size w0 _ by assumption); obtain ⟨z0, z1, z2, z3, z4⟩ := HQ.out _ hbn2)
        | (go_at_call 100; refine (HP1.out _ (by assumption)).mono ?_; rintro e wn ⟨rfl, hbn⟩; have hbn2 := belowStep hbn (show Below w0.heap.size w0 _ by assumption); obtain ⟨z0, z1, z2, z3, z4⟩ := HQ.out _ hbn2))
      go_loopg [5, 6] (ln + 1) (fun g iv jv wr => ∃ k : Nat, k ≤ ln ∧ iv = .int .i64 k ∧ g = ln + 1 - k ∧ Below w0.heap.size w0 wr ∧ (∀ q (h : q < ll.length), q < k → ll[q].op = 45) ∧ ∀ p q (hp : p < ll.length) (hq : q < ll.length), p < q → q < k → ll[p].s ≠ ll[q].s)
      case atStart => exact ⟨0, by omega, rfl, by omega, by assumption, (fun q _ h => absurd h (Nat.not_lt_zero _)), fun p q _ _ _ h => absurd h (Nat.not_lt_zero _)⟩
      case round =>
        obtain ⟨k, hk, rfl, hg, hbw, hall, htw⟩ := hrel
        have HA := Lib.hid hall
        have HTW := Lib.hid htw
        have HBW := Lib.hid (belowStep hbw HB0.out)
        clear hall htw
        obtain ⟨v0, v1, v2, v3, v4⟩ := HQ.out _ hbw
        by_cases hlt : k < ln
        · have hkl : k < ll.length := by rw [HLN.out]; exact hlt
          obtain ⟨k0, k2, kla, klc, k4⟩ := kid_cells (HKA.out _ hbw) k hkl
          have HYS := Lib.hid (show ll[k].op = 45 → ∀ q (h : q < ll.length), q < k + 1 → ll[q].op = 45 from fun hx q hq h2 => by
            by_cases hqk : q = k
            · subst hqk; exact hx
            · exact HA.out q hq (by omega))
          have HNO := Lib.hid (HK1.out k hkl)
          generalize hxo : ll[k].op = xo at *
          by_cases hx : xo = 45
          · subst hx
            have HY2 := Lib.hid (HYS.out (by first | rfl | trivial))
            clear k2 k4
            obtain ⟨z, hz⟩ : ∃ z, z = ll[k].s := ⟨_, rfl⟩
            have HZK := Lib.hid hz.symm
            clear hz hxo
            obtain ⟨G, hG⟩ : ∃ G, G = gk := ⟨gk, rfl⟩
            go_wp2_with fail
            go_loopg [6] (k + 1) (fun g jv w4 => ∃ j : Nat, j ≤ k ∧ jv = .int .i64 j ∧ g = k + 1 - j ∧ Below w0.heap.size w0 w4 ∧ ∀ p (hp : p < ll.length), p < j → ll[p].s ≠ z)
            case atStart => exact ⟨0, by omega, rfl, by omega, hbw, fun p _ h => absurd h (Nat.not_lt_zero _)⟩
            case round =>
              obtain ⟨j, hj, rfl, hgj, hb4, hne⟩ := hrel
              have HB4 := Lib.hid (belowStep hb4 HB0.out)
              have HNE := Lib.hid hne
              clear hne
              obtain ⟨u0, u1, u2, u3, u4⟩ := HQ.out _ hb4
              by_cases hjk : j < k
              · have hjl : j < ll.length := by have := HLN.out; omega
                have hjn : j < ln := by omega
                obtain ⟨-, k2, -⟩ := kid_cells (HKA.out _ hb4) k hkl
                obtain ⟨-, j2, -⟩ := kid_cells (HKA.out _ hb4) j hjl
                rw [HZK.out] at k2
                have HN2 := Lib.hid (HK2.out j k hjl hkl hjk)
                rw [HZK.out] at HN2
                have HN3 := Lib.hid (show ll[j].s ≠ z → ∀ p (hp : p < ll.length), p < j + 1 → ll[p].s ≠ z from fun hx p hp h1 => by
                  by_cases hpj : p = j
                  · subst hpj; exact hx
                  · exact HNE.out p hp (by omega))
                have HB4D := Lib.hid (below_drewN HB4.out)
                have HB5D := Lib.hid (below_drewN hb4)
                clear hb4 hbw k0 v0 v1 v2 v3 v4
                generalize ll[j].s = y at *
                by_cases hzy : y = z
                · subst hzy
                  go_wp2_with fail
                  go_quiet (fail)
                  go_wp2
                  go_ret
                  exact ⟨ret_bool (by rw [HE2.out, HN2.out (by first | rfl | trivial)]; rfl), HB4D.out _⟩
                · have hzy2 : (z.toList == y.toList) = false := (Lib.bytes_beq_false_iff _ _).2 (fun e => hzy e.symm)
                  go_wp2_with fail
                  go_quiet (fail)
                  go_wp2
                  go_roundg (gk - 1)
                  case measure => omega
                  case rel => exact ⟨j + 1, by omega, by go_num, by omega, HB5D.out _, HN3.out hzy⟩
              · have hj2 : j = k := by omega
                have HT2 := Lib.hid (show ∀ p q (hp : p < ll.length) (hq : q < ll.length), p < q → q < k + 1 → ll[p].s ≠ ll[q].s from fun p q hp hq hpq hqk => by
                  by_cases hqe : q = k
                  · subst hqe; rw [HZK.out]; exact HNE.out p hp (by omega)
                  · exact HTW.out p q hp hq hpq (by omega))
                have HB5 := Lib.hid hb4
                clear hb4 hbw
                go_wp2
                go_roundg (G - 1)
                case measure => omega
                case rel => exact ⟨k + 1, by omega, by go_num, by omega, HB5.out, HY2.out, HT2.out⟩
          · have q : (xo != 45) = true := bne_iff_ne.2 hx
            have HX := Lib.hid hx
            clear hx k2 k4
            go_wp2
            go_ret
            exact ⟨ret_bool (by rw [HE2.out, HNO.out HX.out]; rfl), HBW.out⟩
        · have HR := Lib.hid (HK3.out (fun q hq => HA.out q hq (by have := HLN.out; omega)) (fun p q hp hq hpq => HTW.out p q hp hq hpq (by have := HLN.out; omega)))
          go_wp2
          go_ret
          exact ⟨ret_bool (by rw [HE2.out, HR.out]; rfl), HBW.out⟩
  · have HE2 := Lib.hid (HE.out.trans (show _ = false from by rw [decide_eq_false h1]; simp))
    generalize Pl.declF ⟨44, nn, ss, mm, ll⟩ = res at *
    have q2 : decide ((ll.length : Int) < 1) = true := by simp; omega
    generalize ll.length = ln at *
    clear h1 hrb hrl hrp HE HKK HALL HBA HKL HLL HLO HPR HPA
    cases rb
    · go_enter Try.func83, Try.ntmps83
      go_wp2_with fail
      generalize w.alloc (.cells #[.int .i64 44, .int .i64 nn, .string ss, .slice na mm.length nc, .slice la ln lc] 25) = w0 at *
      go_wp2_with (first
        | (go_at_call 93; refine (HB1.out _ (by assumption)).mono ?_; rintro e wn ⟨rfl, hbn⟩; have hbn2 := belowStep hbn (show Below w0.heap.size w0 _ by assumption); obtain ⟨z0, z1, z2, z3, z4⟩ := HQ.out _ hbn2))
      go_ret
      exact ⟨ret_bool (by first | (rw [HE2.out]; done) | (rw [HE2.out]; rfl) | (rw [HE2.out]; simp; done)), belowStep (show Below w0.heap.size w0 _ by assumption) HB0.out⟩
    cases rl
    · go_enter Try.func83, Try.ntmps83
      go_wp2_with fail
      generalize w.alloc (.cells #[.int .i64 44, .int .i64 nn, .string ss, .slice na mm.length nc, .slice la ln lc] 25) = w0 at *
      go_wp2_with (first
        | (go_at_call 93; refine (HB1.out _ (by assumption)).mono ?_; rintro e wn ⟨rfl, hbn⟩; have hbn2 := belowStep hbn (show Below w0.heap.size w0 _ by assumption); obtain ⟨z0, z1, z2, z3, z4⟩ := HQ.out _ hbn2)
        | (go_at_call 98; refine (HL1.out _).mono ?_; rintro e wn ⟨rfl, hbn⟩; have hbn2 := belowStep hbn (show Below w0.heap.size w0 _ by assumption); obtain ⟨z0, z1, z2, z3, z4⟩ := HQ.out _ hbn2))
      go_ret
      exact ⟨ret_bool (by first | (rw [HE2.out]; done) | (rw [HE2.out]; rfl) | (rw [HE2.out]; simp; done)), belowStep (show Below w0.heap.size w0 _ by assumption) HB0.out⟩
    cases rp
    · go_enter Try.func83, Try.ntmps83
      go_wp2_with fail
      generalize w.alloc (.cells #[.int .i64 44, .int .i64 nn, .string ss, .slice na mm.length nc, .slice la ln lc] 25) = w0 at *
      go_wp2_with (first
        | (go_at_call 93; refine (HB1.out _ (by assumption)).mono ?_; rintro e wn ⟨rfl, hbn⟩; have hbn2 := belowStep hbn (show Below w0.heap.size w0 _ by assumption); obtain ⟨z0, z1, z2, z3, z4⟩ := HQ.out _ hbn2)
        | (go_at_call 98; refine (HL1.out _).mono ?_; rintro e wn ⟨rfl, hbn⟩; have hbn2 := belowStep hbn (show Below w0.heap.size w0 _ by assumption); obtain ⟨z0, z1, z2, z3, z4⟩ := HQ.out _ hbn2)
        | (go_at_call 100; refine (HP1.out _ (by assumption)).mono ?_; rintro e wn ⟨rfl, hbn⟩; have hbn2 := belowStep hbn (show Below w0.heap.size w0 _ by assumption); obtain ⟨z0, z1, z2, z3, z4⟩ := HQ.out _ hbn2))
      go_ret
      exact ⟨ret_bool (by first | (rw [HE2.out]; done) | (rw [HE2.out]; rfl) | (rw [HE2.out]; simp; done)), belowStep (show Below w0.heap.size w0 _ by assumption) HB0.out⟩
    · go_enter Try.func83, Try.ntmps83
      go_wp2_with fail
      generalize w.alloc (.cells #[.int .i64 44, .int .i64 nn, .string ss, .slice na mm.length nc, .slice la ln lc] 25) = w0 at *
      go_wp2_with (first
        | (go_at_call 93; refine (HB1.out _ (by assumption)).mono ?_; rintro e wn ⟨rfl, hbn⟩; have hbn2 := belowStep hbn (show Below w0.heap.size w0 _ by assumption); obtain ⟨z0, z1, z2, z3, z4⟩ := HQ.out _ hbn2)
        | (go_at_call 98; refine (HL1.out _).mono ?_; rintro e wn ⟨rfl, hbn⟩; have hbn2 := belowStep hbn (show Below w0.heap.size w0 _ by assumption); obtain ⟨z0, z1, z2, z3, z4⟩ := HQ.out _ hbn2)
        | (go_at_call 100; refine (HP1.out _ (by assumption)).mono ?_; rintro e wn ⟨rfl, hbn⟩; have hbn2 := belowStep hbn (show Below w0.heap.size w0 _ by assumption); obtain ⟨z0, z1, z2, z3, z4⟩ := HQ.out _ hbn2))
      go_ret
      exact ⟨ret_bool (by first | (rw [HE2.out]; done) | (rw [HE2.out]; rfl) | (rw [HE2.out]; simp; done)), belowStep (show Below w0.heap.size w0 _ by assumption) HB0.out⟩
theorem rdeclF_any (P : Nat → Prop) (t : Syn) (w : World) (v : Value) (hP : ∀ b, P b → b < w.heap.size) (ht : SynV w P t v) (hc : Pl.cat t.op = 4 ∨ t.op = 45) :
    Calls Try.prog 83 #[v] w fun e w' => e = .returned (.bool (Pl.declF t)) ∧ Below w.heap.size w w' := by
  have hop : t.op = 42 ∨ t.op = 44 ∨ (t.op = 41 ∨ t.op = 43 ∨ t.op = 45 ∨ t.op = 46 ∨ t.op = 47 ∨ t.op = 48 ∨ t.op = 49 ∨ t.op = 50) := by
    generalize t.op = op at *
    unfold Pl.cat at hc
    repeat' split at hc
    all_goals omega
  rcases hop with h | h | h
  · exact rdeclF_42 P t w v hP ht h
  · exact rdeclF_44 P t w v hP ht h
  · exact rdeclF_most P t w v hP ht h
end Go.Proofs.Ytkhpihacjhhklaa
