/-
  Walks of layer 8's code: readFrom, read, Parse.
-/
import Derived.Test.YthamhgnhdjahgaaJj
import Derived.Test.YthamhgnhdjahgaaJk
namespace Go.Proofs.Ythamhgnhdjahgaa
open Go Go.RowKit
open Pl (K)
set_option linter.unusedSimpArgs false

theorem cutPrefix_any (s p : ByteArray) (w : World) :
    Calls Try.prog 55 #[.string s, .string p] w fun e w' => (∃ r : ByteArray, e = .returned (.tuple #[.string r, .bool (cutL p.toList s.toList).isSome]) ∧ (∀ q, cutL p.toList s.toList = some q → r.toList = q)) ∧ w = w' := by
  refine (Try.strings_CutPrefix s p w).mono ?_
  rintro e w' ⟨rfl, rfl⟩
  refine ⟨⟨⟨(Lib.trimPrefix s.data.toList p.data.toList).toArray⟩, ?_, ?_⟩, rfl⟩
  · congr 4
    rw [Pl.toList_eq, Pl.toList_eq]
    unfold cutL Lib.hasPrefix
    split
    · next h => rw [h]; rfl
    · next h => rw [Bool.not_eq_true] at h; rw [h]; rfl
  · intro q hq
    rw [Pl.toList_eq, Pl.toList_eq] at hq
    rw [Pl.toList_eq]
    unfold cutL at hq
    unfold Lib.trimPrefix Lib.hasPrefix
    split at hq
    · next h =>
      injection hq with hq
      rw [h]
      exact hq
    · cases hq
theorem par_bytes : (⟨#[40]⟩ : ByteArray).toList = [40] := by rw [Pl.toList_eq]
theorem shut_bytes : (⟨#[41]⟩ : ByteArray).toList = [41] := by rw [Pl.toList_eq]
/-- what a reader answers -/
def RdP (o : Option (K × List UInt8)) (w : World) (e : Ending) (w' : World) : Prop := (∃ (a : Option Addr) (n c : Nat) (r : ByteArray), e = .returned (.tuple #[.agg #[.slice a n c], .string r, .bool o.isSome]) ∧ (∀ p, o = some p → r.toList = p.2 ∧ n = p.1.l.length ∧ KidV w' (From w.heap.size w') p.1 (.slice a n c))) ∧ Below w.heap.size w w'
theorem rdFrom_star {f : List UInt8 → Option (K × List UInt8)} {l r : List UInt8} (h : cutL [42] l = some r) : rdFrom f l = some (.mk [], r) := by unfold rdFrom; rw [h]
theorem rdFrom_no {f : List UInt8 → Option (K × List UInt8)} {l : List UInt8} (h : cutL [42] l = none) (h2 : cutL [40] l = none) : rdFrom f l = none := by unfold rdFrom; rw [h, h2]
theorem rdFrom_par {f : List UInt8 → Option (K × List UInt8)} {l i : List UInt8} (h : cutL [42] l = none) (h2 : cutL [40] l = some i) : rdFrom f l = (match f i with
      | none => none
      | some p => if p.1.l.length = 0 then none else (match cutL [41] p.2 with
        | none => none
        | some q => some (p.1, q))) := by
  unfold rdFrom
  rw [h, h2]
  rfl
set_option maxRecDepth 100000 in
set_option maxHeartbeats 2000000 in
theorem readFrom_any (f : List UInt8 → Option (K × List UInt8)) (d : Nat) (hf : ∀ (s : ByteArray) (w : World), Calls Try.prog 48 #[.string s, .int .i64 d] w (RdP (f s.toList) w)) (s : ByteArray) (w : World) :
    Calls Try.prog 54 #[.string s, .int .i64 d] w (RdP (rdFrom f s.toList) w) := by
  obtain ⟨hbx, hb⟩ := box_new w 24 (.slice none 0 0)
  have HB := Lib.hid hb
  have HBX := Lib.hid hbx
  have HF := Lib.hid hf
  clear hbx hb hf
  have HC1 := Lib.hid (fun W => cutPrefix_any s ⟨#[42]⟩ W)
  have HC2 := Lib.hid (fun W => cutPrefix_any s ⟨#[40]⟩ W)
  have HC3 := Lib.hid (fun (r : ByteArray) W => cutPrefix_any r ⟨#[41]⟩ W)
  have HS := Lib.hid (fun W => star_any W)
  rw [star_bytes] at HC1
  rw [par_bytes] at HC2
  rw [shut_bytes] at HC3
  have HR1 := Lib.hid (fun r => @rdFrom_star f s.toList r)
  have HR2 := Lib.hid (@rdFrom_no f s.toList)
  have HR3 := Lib.hid (fun i => @rdFrom_par f s.toList i)
  generalize rdFrom f s.toList = R at *
  generalize hc1 : cutL [42] s.toList = o1 at *
  generalize hc2 : cutL [40] s.toList = o2 at *
  clear hc1 hc2
  go_enter Try.func54, Try.ntmps54
  go_wp2_with fail
  generalize w.alloc (.cells #[.slice none 0 0] 24) = w2 at *
  refine (HC1.out _).mono ?_
  rintro e w3 ⟨⟨r1, rfl, hr1⟩, rfl⟩
  have HE1 := Lib.hid hr1
  clear hr1
  cases o1 with
  | some q1 =>
    have HQ := Lib.hid (HE1.out q1 rfl)
    have HR := Lib.hid (HR1.out q1 rfl)
    clear HE1 HR1 HR2 HR3 HC1 HC2 HC3
    go_wp2_with fail
    refine (HS.out _).mono ?_
    rintro e w4 ⟨rfl, hb4⟩
    have h1 := HBX.out.of_eq (hb4.block _ HBX.out.lt)
    have c1 := h1.cell 0 (.slice none 0 0) rfl
    have f1 := h1.thaw 0
    have HX := Lib.hid (blk_one (y := .slice none 0 0) h1)
    have HY := Lib.hid (below_set (belowStep hb4 HB.out) (Nat.le_refl w.heap.size) (.slice none 0 0))
    have HY2 := Lib.hid (belowStep hb4 HB.out)
    clear h1 hb4
    go_wp2
    have d0 := HX.out.cell 0 (.slice none 0 0) rfl
    refine bodyPost_ret (v := .tuple #[.agg #[.slice none 0 0], .string r1, .bool true]) (by first | (simp [results, Try.results54, go_sem, d0]; done) | (simp [results, Try.results54, go_sem, c1]; done)) rfl ?_
    rw [HR.out]
    refine ⟨⟨none, 0, 0, r1, rfl, fun p hp => ?_⟩, ?_⟩
    · injection hp with hp
      subst hp
      exact ⟨HQ.out, rfl, kidV_none _ _⟩
    · first | exact HY.out | exact HY2.out
  | none =>
    clear HE1 HR1 HC1
    go_wp2_with fail
    refine (HC2.out _).mono ?_
    rintro e w3 ⟨⟨r2, rfl, hr2⟩, rfl⟩
    have HE2 := Lib.hid hr2
    clear hr2
    cases o2 with
    | none =>
      have HR := Lib.hid (HR2.out (by first | exact rfl | trivial) (by first | exact rfl | trivial))
      clear HE2 HR2 HR3 HC2 HC3
      have h1 := HBX.out
      have c1 := h1.cell 0 (.slice none 0 0) rfl
      have f1 := h1.thaw 0
      have HX := Lib.hid (blk_one (y := .slice none 0 0) h1)
      have HY := Lib.hid (below_set HB.out (Nat.le_refl w.heap.size) (.slice none 0 0))
      clear h1
      go_wp2
      have d0 := HX.out.cell 0 (.slice none 0 0) rfl
      refine bodyPost_ret (v := .tuple #[.agg #[.slice none 0 0], .string ⟨#[]⟩, .bool false]) (by first | (simp [results, Try.results54, go_sem, d0]; done) | (simp [results, Try.results54, go_sem, c1]; done)) rfl ?_
      rw [HR.out]
      refine ⟨⟨none, 0, 0, _, rfl, fun p hp => by cases hp⟩, ?_⟩
      first | exact HY.out | exact HB.out
    | some q2 =>
      have HQ := Lib.hid (HE2.out q2 rfl)
      have HR := Lib.hid (HR3.out q2 (by first | exact rfl | trivial) rfl)
      have HFF := Lib.hid (HF.out r2 w2)
      rw [HQ.out] at HFF
      clear HE2 HR2 HR3 HC2
      generalize f q2 = o3 at *
      have HSZ := Lib.hid HBX.out.lt
      go_wp2_with fail
      refine HFF.out.mono ?_
      rintro e w4 ⟨⟨a4, n4, c4, r4, rfl, hp4⟩, hb4⟩
      have HP4 := Lib.hid hp4
      replace HBX := Lib.hid (HBX.out.of_eq (hb4.block _ HBX.out.lt))
      replace HB := Lib.hid (belowStep hb4 HB.out)
      have HB4 := Lib.hid hb4
      have h1 := HBX.out
      have c1 := h1.cell 0 (.slice none 0 0) rfl
      have f1 := h1.thaw 0
      clear h1 hp4 hb4 HFF
      cases o3 with
      | none =>
        have HX := Lib.hid (blk_one (y := .slice none 0 0) (blk_one (y := .slice a4 n4 c4) HBX.out))
        have HY := Lib.hid (below_set (below_set HB.out (Nat.le_refl w.heap.size) (.slice a4 n4 c4)) (Nat.le_refl w.heap.size) (.slice none 0 0))
        have c2 := (blk_one (y := .slice a4 n4 c4) HBX.out).cell 0 (.slice a4 n4 c4) rfl
        have f2 := (blk_one (y := .slice a4 n4 c4) HBX.out).thaw 0
        go_wp2
        have d0 := HX.out.cell 0 (.slice none 0 0) rfl
        refine bodyPost_ret (v := .tuple #[.agg #[.slice none 0 0], .string ⟨#[]⟩, .bool false]) (by first | (simp [results, Try.results54, go_sem, d0]; done) | (simp [results, Try.results54, go_sem, c1]; done)) rfl ?_
        rw [HR.out]
        refine ⟨⟨none, 0, 0, _, rfl, fun p hp => by cases hp⟩, ?_⟩
        exact HY.out
      | some p4 =>
        obtain ⟨k4, s4⟩ := p4
        obtain ⟨ga4, gb4, gc4⟩ := HP4.out _ rfl
        have hr4 : r4.toList = s4 := ga4
        have hn4 : n4 = k4.l.length := gb4
        have hk4 : KidV w4 (From w2.heap.size w4) k4 (.slice a4 n4 c4) := gc4
        have hk5 : KidV (w4.setCell ⟨w.heap.size, 0, none⟩ (.slice a4 n4 c4)) (From w2.heap.size (w4.setCell ⟨w.heap.size, 0, none⟩ (.slice a4 n4 c4))) k4 (.slice a4 n4 c4) := (hk4.keep (Same.set (w := w4) ⟨w.heap.size, 0, none⟩ (.slice a4 n4 c4) (fun q h e => by
          have e : q = w.heap.size := e
          have := h.1
          have := HSZ.out
          omega))).mono (fun q h => ⟨h.1, by rw [size_set]; exact h.2⟩)
        have HK5 := Lib.hid hk5
        have HRL := Lib.hid hr4
        have HIS := Lib.hid (isStar_any _ k4 _ (.agg #[.slice a4 n4 c4]) ⟨_, rfl, hk5⟩)
        rw [← hn4] at HIS
        have HN4 := Lib.hid hn4
        replace HBX := Lib.hid (blk_one (y := .slice a4 n4 c4) HBX.out)
        replace HB := Lib.hid (below_set HB.out (Nat.le_refl w.heap.size) (.slice a4 n4 c4))
        have HRR := Lib.hid (show R = if k4.l.length = 0 then none else (match cutL [41] s4 with
          | none => none
          | some q => some (k4, q)) from HR.out)
        rw [← hn4, ← hr4] at HRR
        have c2 := HBX.out.cell 0 (.slice a4 n4 c4) rfl
        clear hr4 hn4 hk4 hk5 HR HP4 ga4 gb4 gc4
        go_wp2_with fail
        generalize w4.setCell ⟨w.heap.size, 0, none⟩ (.slice a4 n4 c4) = w5 at *
        refine HIS.out.mono ?_
        rintro e w6 ⟨rfl, hb6⟩
        replace HK5 := Lib.hid ((HK5.out.keep (Same.of_below hb6 (fun q hq => hq.2))).mono (From.up hb6.size))
        replace HBX := Lib.hid (HBX.out.of_eq (hb6.block _ HBX.out.lt))
        replace HB := Lib.hid (belowStep hb6 HB.out)
        clear hb6 c1 c2 HIS f1
        have c1 := HBX.out.cell 0 (.slice a4 n4 c4) rfl
        have f1 := HBX.out.thaw 0
        by_cases h0 : n4 = 0
        · have q0 : (n4 == 0) = true := beq_iff_eq.2 h0
          rw [if_pos h0] at HRR
          have HX := Lib.hid (blk_one (y := .slice none 0 0) HBX.out)
          have HY := Lib.hid (below_set HB.out (Nat.le_refl w.heap.size) (.slice none 0 0))
          clear h0
          rw [q0]
          go_wp2
          have d0 := HX.out.cell 0 (.slice none 0 0) rfl
          refine bodyPost_ret (v := .tuple #[.agg #[.slice none 0 0], .string ⟨#[]⟩, .bool false]) (by first | (simp [results, Try.results54, go_sem, d0]; done) | (simp [results, Try.results54, go_sem, c1]; done)) rfl ?_
          rw [HRR.out]
          refine ⟨⟨none, 0, 0, _, rfl, fun p hp => by cases hp⟩, ?_⟩
          exact HY.out
        · have q0 : (n4 == 0) = false := beq_eq_false_iff_ne.2 h0
          rw [if_neg h0] at HRR
          have HC6 := Lib.hid (HC3.out r4 w6)
          generalize cutL [41] r4.toList = o6 at *
          clear h0 HC3
          rw [q0]
          go_wp2_with fail
          refine HC6.out.mono ?_
          rintro e w7 ⟨⟨r7, rfl, hr7⟩, rfl⟩
          have HR7 := Lib.hid hr7
          have HX := Lib.hid (blk_one (y := .slice a4 n4 c4) HBX.out)
          have HY := Lib.hid (below_set HB.out (Nat.le_refl w.heap.size) (.slice a4 n4 c4))
          have HZ := Lib.hid ((HK5.out.keep (Same.set (w := w6) ⟨w.heap.size, 0, none⟩ (.slice a4 n4 c4) (fun q h e => by
            have e : q = w.heap.size := e
            have := h.1
            have := HSZ.out
            omega))).mono (fun q h => (show From w.heap.size (w6.setCell ⟨w.heap.size, 0, none⟩ (.slice a4 n4 c4)) q from ⟨by have := h.1; have := HSZ.out; omega, by rw [size_set]; exact h.2⟩)))
          clear hr7 HC6
          have c7 := HBX.out.cell 0 (.slice a4 n4 c4) rfl
          go_wp2
          have d0 := HX.out.cell 0 (.slice a4 n4 c4) rfl
          refine bodyPost_ret (v := .tuple #[.agg #[.slice a4 n4 c4], .string r7, .bool o6.isSome]) (by simp [results, Try.results54, go_sem, d0]) rfl ?_
          refine ⟨⟨a4, n4, c4, r7, ?_, fun p hp => ?_⟩, HY.out⟩
          · rw [HRR.out]
            cases o6 <;> rfl
          · rw [HRR.out] at hp
            cases o6 with
            | none => cases hp
            | some q6 =>
              injection hp with hp
              subst hp
              exact ⟨HR7.out q6 rfl, HN4.out, HZ.out⟩
end Go.Proofs.Ythamhgnhdjahgaa
