/-
  Walks of layer 2: a token's end, and many.
-/
import Derived.Test.YtbmkbenlhkcklaaMc
namespace Go.Proofs.Ytbmkbenlhkcklaa
open Go.RowKit

/-- a token as a value -/
def tokVal (t : Pl.Tok) : Value := .agg (tkc t.kind (Pl.mk t.text) t.line t.col)
def endB (t : Pl.Tok) : Bool := decide (t.kind = 8) && t.text.isEmpty
def bigB (n : Nat) : Bool := (decide (300 < n) && decide (n ≤ 16384)) || decide (17000 < n)
theorem tok_block (w : World) (kd : Int) (tx : ByteArray) (li co : Int) : TkAt (w.alloc (.cells #[.int .i64 kd, .string tx, .int .i64 li, .int .i64 co] 43)) w.heap.size (.int .i64 kd) (.string tx) (.int .i64 li) (.int .i64 co) ∧
    Below w.heap.size w (w.alloc (.cells #[.int .i64 kd, .string tx, .int .i64 li, .int .i64 co] 43)) := ⟨tkAt_of (blk_new _ _ _), (Below.refl _ _).alloc (Nat.le_refl _) _⟩
set_option maxRecDepth 100000 in
theorem isEnd_any (t : Pl.Tok) (w : World) :
    Calls Try.prog 43 #[tokVal t] w fun e w' => e = .returned (.bool (endB t)) ∧ Below w.heap.size w w' := by
  have HR := Lib.hid (show endB t = (decide (t.kind = 8) && t.text.isEmpty) from rfl)
  unfold tokVal
  generalize endB t = r at HR ⊢
  have ht : (Pl.mk t.text).toList = t.text := Pl.mk_toList _
  generalize t.kind = kd at HR ⊢
  generalize Pl.mk t.text = tx at ht ⊢
  rw [← ht] at HR
  clear ht
  obtain ⟨hk, hb⟩ := tok_block w kd tx t.line t.col
  generalize t.line = li at hk hb ⊢
  generalize t.col = co at hk hb ⊢
  obtain ⟨d0, d1, -, -, -, -, -, -⟩ := hk
  have HB := Lib.hid hb
  clear hb
  unfold tkc
  by_cases h8 : kd = 8
  · have q1 : (kd == 8) = true := beq_iff_eq.2 h8
    by_cases hn : tx.toList = []
    · have hn2 : tx.toList.isEmpty = true := by rw [hn]; rfl
      have HF := Lib.hid (show r = true from by rw [HR.out, decide_eq_true h8, hn2]; rfl)
      clear HR h8
      go_enter Try.func43, Try.ntmps43
      go_wp2
      go_ret
      exact ⟨by rw [HF.out]; rfl, HB.out⟩
    · have hn2 : tx.toList.isEmpty = false := by simpa using hn
      have HF := Lib.hid (show r = false from by rw [HR.out, hn2, Bool.and_false])
      clear HR h8
      go_enter Try.func43, Try.ntmps43
      go_wp2
      go_ret
      exact ⟨by rw [HF.out]; rfl, HB.out⟩
  · have q1 : (kd == 8) = false := beq_eq_false_iff_ne.2 h8
    have HF := Lib.hid (show r = false from by rw [HR.out, decide_eq_false h8, Bool.false_and])
    clear HR h8
    go_enter Try.func43, Try.ntmps43
    go_wp2
    go_ret
    exact ⟨by rw [HF.out]; rfl, HB.out⟩
set_option maxRecDepth 100000 in
theorem big_any (t : Pl.Tok) (w : World) :
    Calls Try.prog 42 #[tokVal t] w fun e w' => e = .returned (.bool (bigB t.text.length)) ∧ Below w.heap.size w w' := by
  unfold tokVal
  have ht : (Pl.mk t.text).size = t.text.length := Pl.mk_size _
  rw [← ht]
  generalize Pl.mk t.text = tx
  clear ht
  have HR := Lib.hid (show bigB tx.size = ((decide (300 < tx.size) && decide (tx.size ≤ 16384)) || decide (17000 < tx.size)) from rfl)
  generalize bigB tx.size = r at HR ⊢
  generalize t.kind = kd
  obtain ⟨hk, hb⟩ := tok_block w kd tx t.line t.col
  generalize t.line = li at hk hb ⊢
  generalize t.col = co at hk hb ⊢
  obtain ⟨d0, d1, -, -, -, -, -, -⟩ := hk
  have HB := Lib.hid hb
  clear hb
  unfold tkc
  by_cases h1 : 300 < tx.size
  · have q1 : decide ((300 : Int) < (tx.size : Int)) = true := by simp; omega
    by_cases h2 : tx.size ≤ 16384
    · have q2 : decide ((tx.size : Int) ≤ 16384) = true := by simp; omega
      have HF := Lib.hid (show r = true from by rw [HR.out, decide_eq_true h1, decide_eq_true h2]; rfl)
      clear HR h1 h2
      go_enter Try.func42, Try.ntmps42
      go_wp2
      go_ret
      exact ⟨by rw [HF.out]; rfl, HB.out⟩
    · have q2 : decide ((tx.size : Int) ≤ 16384) = false := by simp; omega
      by_cases h3 : 17000 < tx.size
      · have q3 : decide ((17000 : Int) < (tx.size : Int)) = true := by simp; omega
        have HF := Lib.hid (show r = true from by rw [HR.out, decide_eq_true h3, Bool.or_true])
        clear HR h1 h2 h3
        go_enter Try.func42, Try.ntmps42
        go_wp2
        go_ret
        exact ⟨by rw [HF.out]; rfl, HB.out⟩
      · have q3 : decide ((17000 : Int) < (tx.size : Int)) = false := by simp; omega
        have HF := Lib.hid (show r = false from by rw [HR.out, decide_eq_false h3, decide_eq_false h2, Bool.and_false]; rfl)
        clear HR h1 h2 h3
        go_enter Try.func42, Try.ntmps42
        go_wp2
        go_ret
        exact ⟨by rw [HF.out]; rfl, HB.out⟩
  · have q1 : decide ((300 : Int) < (tx.size : Int)) = false := by simp; omega
    have q3 : decide ((17000 : Int) < (tx.size : Int)) = false := by simp; omega
    have HF := Lib.hid (show r = false from by rw [HR.out, decide_eq_false h1, decide_eq_false (show ¬ 17000 < tx.size by omega)]; rfl)
    clear HR h1
    go_enter Try.func42, Try.ntmps42
    go_wp2
    go_ret
    exact ⟨by rw [HF.out]; rfl, HB.out⟩
theorem big_bound {n : Nat} (h : bigB n = false) : n ≤ 17000 := by
  unfold bigB at h
  rw [Bool.or_eq_false_iff] at h
  have := of_decide_eq_false h.2
  omega
set_option maxRecDepth 100000 in
theorem indexBig_some (b off c n : Nat) (ts : List Pl.Tok) (w : World) (hn : ts.length = n) (hm : n ≤ maxLen) (hb : b < w.heap.size) (ha : ∀ j (hj : j < ts.length), TokAt w b (off + 4 * j) ts[j]) :
    Calls Try.prog 64 #[.slice (some ⟨b, off, none⟩) n c, .func (.func 42) #[] #[]] w fun e w' => (∃ r : Int, e = .returned (.int .i64 r) ∧ -1 ≤ r ∧ r ≤ n ∧ (r < 0 → ∀ t ∈ ts, t.text.length ≤ 17000)) ∧ Below w.heap.size w w' := by
  unfold maxLen at hm
  have HA := Lib.hid ha
  have HBL : Hid (Below w.heap.size w w) := Below.refl _ _
  clear ha
  go_enter Try.func64, Try.ntmps64
  go_wp2_with fail
  go_loopg [8] (n + 1) (fun g v wr => ∃ k : Nat, k ≤ n ∧ v = .int .i64 k ∧ g = n + 1 - k ∧ Below w.heap.size w wr ∧ ∀ j (hj : j < ts.length), j < k → (ts[j]).text.length ≤ 17000)
  case atStart => exact ⟨0, by omega, rfl, by omega, HBL.out, fun j hj h => absurd h (Nat.not_lt_zero _)⟩
  case round =>
    obtain ⟨k, hk, rfl, hg, hbw, hall⟩ := hrel
    have HALL := Lib.hid hall
    have HBW := Lib.hid hbw
    by_cases hlt : k < n
    · obtain ⟨a0, a1, a2, a3⟩ := (show TokAt wr b (off + k * 4) (ts[k]'(by omega)) from by rw [Nat.mul_comm]; exact (HA.out k (by omega)).below hbw hb)
      have hcall := fun W => big_any (ts[k]'(by omega)) W
      unfold tokVal tkc at hcall
      have HN := Lib.hid (show ∀ r, bigB (ts[k]'(by omega)).text.length = r → r = false → (ts[k]'(by omega)).text.length ≤ 17000 from fun r h1 h2 => big_bound (h1.trans h2))
      generalize bigB (ts[k]'(by omega)).text.length = r at hcall HN
      generalize (ts[k]'(by omega)).kind = kd at a0 hcall
      generalize Pl.mk (ts[k]'(by omega)).text = tx at a1 hcall
      generalize (ts[k]'(by omega)).line = li at a2 hcall
      generalize (ts[k]'(by omega)).col = co at a3 hcall
      have HC := Lib.hid hcall
      clear hcall hall hbw
      go_wp2_with fail
      refine (HC.out _).mono ?_
      rintro e w2 ⟨rfl, hb2⟩
      have HB2 := Lib.hid (HBW.out.trans (hb2.mono HBW.out.size))
      clear hb2
      cases r
      · have HF := Lib.hid (HN.out false rfl rfl)
        clear a0 a1 a2 a3
        go_wp2
        go_roundg (gk - 1)
        case measure => omega
        case rel =>
          refine ⟨k + 1, by omega, by go_num, by omega, HB2.out, fun j hj h => ?_⟩
          rcases Nat.lt_or_ge j k with h1 | h1
          · exact HALL.out j hj h1
          · obtain rfl : j = k := by omega
            exact HF.out
      · clear a0 a1 a2 a3
        go_wp2
        go_ret
        exact ⟨⟨k, rfl, by omega, by omega, fun h => by omega⟩, HB2.out⟩
    · have HKN := Lib.hid (show k = n from by omega)
      clear hall hbw
      go_wp2
      go_ret
      refine ⟨⟨-1, rfl, by omega, by omega, fun _ t ht => ?_⟩, HBW.out⟩
      obtain ⟨j, hj, rfl⟩ := List.getElem_of_mem ht
      exact HALL.out j hj (by have := HKN.out; omega)
end Go.Proofs.Ytbmkbenlhkcklaa
