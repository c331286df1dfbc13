/-
  Walks of layer 4: ParsecorePrefix.
-/
import Derived.Test.YtjedahcpkcgpeaaGreatDoorHdM
namespace Go.Proofs.YtjedahcpkcgpeaaGreatDoor
open Go Go.RowKit
set_option linter.unusedSimpArgs false
theorem place_get (ts : List Pl.Tok) (j : Nat) (h : j < ts.length) : placeT ts j = ts[j] := by
  unfold placeT
  rw [List.getD_eq_getElem?_getD, List.getElem?_eq_getElem h]
  rfl
theorem unend_take {X : List Pl.Tok} (hk : ∀ t ∈ X, t.kind ≠ 8) (n : Nat) : unend (X.take n) = X.take n := by
  unfold unend
  cases h : (X.take n).getLast? with
  | none => rfl
  | some t =>
    have ht : t ∈ X := List.mem_of_mem_take (List.mem_of_getLast? h)
    have he : endB t = false := by
      unfold endB
      rw [decide_eq_false (hk t ht), Bool.false_and]
    show (if endB t = true then _ else _) = _
    rw [he]
    rfl
theorem toks_small {b : Pl.Bytes} {X : List Pl.Tok} {e : Pl.Tok} (h1 : (Pl.tokens b).err = 0) (h : (Pl.tokens b).toks = X ++ [e]) : ∀ t ∈ X, t.text.length ≤ 17000 := by
  obtain ⟨ts, e', e1, e2, e3, e4, e5⟩ := Pl.tokens_ends b h1
  rw [h] at e1
  obtain ⟨a, -⟩ := List.append_inj' e1 rfl
  intro t ht
  have := (e4 t (a ▸ ht)).2
  omega
theorem slice_take {w : World} {b off c n : Nat} {X : List Pl.Tok} (hn : X.length = n) (hc : n + 1 ≤ c) (hm : c ≤ maxLen) (hb : b < w.heap.size) (h : ∀ j (hj : j < X.length), TokAt w b (off + 4 * j) X[j]) (j : Nat) (hj : j ≤ n) : TokSlice w (.slice (some ⟨b, off, none⟩) j c) (X.take j) := by
  have hl : (X.take j).length = j := by rw [List.length_take]; omega
  rcases Nat.eq_zero_or_pos j with h0 | h0
  · subst h0
    exact .inl ⟨rfl, _, _, rfl⟩
  · refine .inr ⟨b, off, c, by rw [hl], by omega, by omega, hm, hb, fun i hi => ?_⟩
    rw [List.getElem_take]
    exact h i (by omega)
theorem slice_front {w : World} {b off c n : Nat} {X : List Pl.Tok} {e : Pl.Tok} (hn : X.length = n) (hc : n + 1 ≤ c) (hm : c ≤ maxLen) (hb : b < w.heap.size) (h : ∀ i (hi : i < (X ++ [e]).length), TokAt w b (off + 4 * i) (X ++ [e])[i]) (j : Nat) (hj : j ≤ X.length) (W : World) (hW : Below w.heap.size w W) : TokSlice W (.slice (some ⟨b, off, none⟩) j c) (X.take j) :=
  slice_take hn hc hm (Nat.lt_of_lt_of_le hb hW.size) (fun i hi => by
    have := (h i (by rw [List.length_append]; omega)).below hW hb
    rwa [List.getElem_append_left hi] at this) j (by omega)
theorem end_slice4 {w : World} {v : Value} {ls : List Pl.Tok} {e : Pl.Tok} (h : TokSlice w v (ls ++ [e])) : ∃ b off c n, ls.length = n ∧ v = .slice (some ⟨b, off, none⟩) (n + 1) c ∧ n + 1 ≤ c ∧ c ≤ maxLen ∧ b < w.heap.size ∧ ∀ j (hj : j < (ls ++ [e]).length), TokAt w b (off + 4 * j) (ls ++ [e])[j] := by
  rcases h with ⟨h0, _⟩ | ⟨b, off, c, rfl, h1, h2, h3, h4, h5⟩
  · simp at h0
  · have hlen : (ls ++ [e]).length = ls.length + 1 := by simp
    exact ⟨b, off, c, ls.length, rfl, by rw [hlen], by rw [← hlen]; exact h2, h3, h4, h5⟩
set_option maxRecDepth 100000 in
set_option maxHeartbeats 8000000 in
theorem prefix_long (z : Int) (s more : ByteArray) (w : World) (h : 1000 < s.size ∨ 1000 < more.size) : Calls Tryz.prog 4 #[.int .u8 z, .string s, .string more] w fun e w' => e = .returned (.bool true) ∧ Below w.heap.size w w' := by
  have HA := Lib.hid awake_any4
  by_cases h1 : 1000 < s.size
  · have l1 : decide ((1000 : Int) < (s.size : Int)) = true := by simp; omega
    clear h
    go_enter Tryz.func4, Tryz.ntmps4
    go_wp2_with fail
    refine (HA.out _).mono ?_
    rintro e w1 ⟨rfl, hb1⟩
    have HB := Lib.hid hb1
    clear hb1
    go_wp2
    go_ret
    exact ⟨rfl, HB.out⟩
  · have l1 : decide ((1000 : Int) < (s.size : Int)) = false := by simp; omega
    have l2 : decide ((1000 : Int) < (more.size : Int)) = true := by simp; omega
    clear h
    go_enter Tryz.func4, Tryz.ntmps4
    go_wp2_with fail
    refine (HA.out _).mono ?_
    rintro e w1 ⟨rfl, hb1⟩
    have HB := Lib.hid hb1
    clear hb1
    go_wp2
    go_ret
    exact ⟨rfl, HB.out⟩
set_option maxRecDepth 100000 in
set_option maxHeartbeats 8000000 in
theorem prefix_wrong {c : Int} {rd : List Pl.Tok → Pl.PR Pl.Syn} (z : Int) (s more : ByteArray) (w : World) (hcat : ∀ W, Calls Tryz.prog 7 #[.int .u8 z] W fun e w' => e = .returned (.int .i64 c) ∧ Below W.heap.size W w')
    (hparse : ∀ (x : ByteArray) W, x.size ≤ maxLen → Calls Tryz.prog 8 #[.int .i64 c, .string x] W (SourceOut (sourceP c rd (Pl.tokens x.toList)) W))
    (hs : s.size ≤ 1000) (hm : more.size ≤ 1000) (hE : (Pl.tokens s.toList).err ≠ 0) : Calls Tryz.prog 4 #[.int .u8 z, .string s, .string more] w fun e w' => e = .returned (.bool true) ∧ Below w.heap.size w w' := by
  have l1 : decide ((1000 : Int) < (s.size : Int)) = false := by simp; omega
  have l2 : decide ((1000 : Int) < (more.size : Int)) = false := by simp; omega
  have HA := Lib.hid awake_any4
  have HC := Lib.hid hcat
  have HP := Lib.hid (fun W => hparse s W (by unfold maxLen; omega))
  have HT := Lib.hid (fun W => lexTokens_any s W (by unfold maxLen; omega))
  obtain ⟨R, hR⟩ : ∃ R, R = sourceP c rd (Pl.tokens s.toList) := ⟨_, rfl⟩
  rw [← hR] at HP
  obtain ⟨lix, hlix⟩ : ∃ q, q = R.line := ⟨_, rfl⟩
  obtain ⟨cox, hcox⟩ : ∃ q, q = R.col := ⟨_, rfl⟩
  obtain ⟨O, hO⟩ : ∃ O, O = Pl.tokens s.toList := ⟨_, rfl⟩
  rw [← hO] at HT hE
  have HNE := Lib.hid hE
  obtain ⟨er, her⟩ : ∃ q, q = R.err := ⟨_, rfl⟩
  obtain ⟨eo, heo⟩ : ∃ q, q = O.err := ⟨_, rfl⟩
  obtain ⟨lo, hlo⟩ : ∃ q, q = O.line := ⟨_, rfl⟩
  obtain ⟨co, hco⟩ : ∃ q, q = O.col := ⟨_, rfl⟩
  have q0 : (eo != 0) = true := by rw [heo]; simpa using hE
  have HW := Lib.hid (⟨hlix, hcox, her, heo, hlo, hco⟩ : lix = R.line ∧ cox = R.col ∧ er = R.err ∧ eo = O.err ∧ lo = O.line ∧ co = O.col)
  clear hR hO hE hlix hcox her heo hlo hco hcat hparse hs hm
  go_enter Tryz.func4, Tryz.ntmps4
  go_wp2_with fail
  refine (HA.out _).mono ?_
  rintro e w1 ⟨rfl, hb1⟩
  have HB := Lib.hid hb1
  clear hb1
  go_wp2_with fail
  refine (HC.out _).mono ?_
  rintro e w2 ⟨rfl, hb2⟩
  replace HB := Lib.hid (HB.out.trans (hb2.mono HB.out.size))
  clear hb2
  go_wp2_with fail
  refine (HP.out _).mono ?_
  rintro e w3 ⟨⟨v, rfl, ht⟩, hb⟩
  obtain ⟨x0, x1, x2, xa, xl, xc, xd, xe, xf, rfl⟩ := tree_open ht
  clear ht
  replace HB := Lib.hid (HB.out.trans (hb.mono HB.out.size))
  rw [← HW.out.1, ← HW.out.2.1, ← HW.out.2.2.1]
  obtain ⟨k0, k1, k2⟩ := res_boxes w3 (.int .i64 lix) (.int .i64 cox) 27 29 #[.int .i64 x0, .int .i64 x1, .string x2, .slice xa xl xc, .slice xd xe xf]
  have HKx := Lib.hid k1
  replace HB := Lib.hid (HB.out.trans (k2.mono HB.out.size))
  clear hb k0 k1 k2
  go_wp2_with fail
  generalize (w3.alloc (.cells #[.int .i64 x0, .int .i64 x1, .string x2, .slice xa xl xc, .slice xd xe xf] 27)).alloc (.cells #[.int .i64 lix, .int .i64 cox] 29) = w4 at *
  refine (HT.out _).mono ?_
  rintro e w5 (⟨he, -⟩ | ⟨-, -, rfl, hb⟩)
  · exact absurd he HNE.out
  rw [← HW.out.2.2.2.1, ← HW.out.2.2.2.2.1, ← HW.out.2.2.2.2.2]
  replace HB := Lib.hid (HB.out.trans (hb.mono HB.out.size))
  have hbp : Below w5.heap.size w5 (w5.alloc (.cells #[.int .i64 lo, .int .i64 co] 29)) := (Below.refl _ _).alloc (Nat.le_refl _) _
  replace HB := Lib.hid (HB.out.trans (hbp.mono HB.out.size))
  clear hb hbp
  go_wp2_with fail
  generalize w5.alloc (.cells #[.int .i64 lo, .int .i64 co] 29) = w6 at *
  go_wp2
  go_ret
  exact ⟨rfl, HB.out⟩
set_option maxRecDepth 100000 in
set_option maxHeartbeats 8000000 in
theorem prefix_right {c : Int} {rd : List Pl.Tok → Pl.PR Pl.Syn} (z : Int) (s more : ByteArray) (w : World) (hcat : ∀ W, Calls Tryz.prog 7 #[.int .u8 z] W fun e w' => e = .returned (.int .i64 c) ∧ Below W.heap.size W w')
    (hparse : ∀ (x : ByteArray) W, x.size ≤ maxLen → Calls Tryz.prog 8 #[.int .i64 c, .string x] W (SourceOut (sourceP c rd (Pl.tokens x.toList)) W))
    (hs : s.size ≤ 1000) (hm : more.size ≤ 1000) (hE : (Pl.tokens s.toList).err = 0) (h3 : (sourceP c rd (Pl.tokens s.toList)).err ≠ 3) (h4 : (sourceP c rd (Pl.tokens s.toList)).err ≠ 4) : Calls Tryz.prog 4 #[.int .u8 z, .string s, .string more] w fun e w' => e = .returned (.bool true) ∧ Below w.heap.size w w' := by
  have l1 : decide ((1000 : Int) < (s.size : Int)) = false := by simp; omega
  have l2 : decide ((1000 : Int) < (more.size : Int)) = false := by simp; omega
  have HA := Lib.hid awake_any4
  have HC := Lib.hid hcat
  have HP := Lib.hid (fun W => hparse s W (by unfold maxLen; omega))
  have HT := Lib.hid (fun W => lexTokens_any s W (by unfold maxLen; omega))
  obtain ⟨R, hR⟩ : ∃ R, R = sourceP c rd (Pl.tokens s.toList) := ⟨_, rfl⟩
  rw [← hR] at HP
  obtain ⟨lix, hlix⟩ : ∃ q, q = R.line := ⟨_, rfl⟩
  obtain ⟨cox, hcox⟩ : ∃ q, q = R.col := ⟨_, rfl⟩
  obtain ⟨O, hO⟩ : ∃ O, O = Pl.tokens s.toList := ⟨_, rfl⟩
  rw [← hO] at HT hE
  have HEQ := Lib.hid hE
  rw [← hR] at h3 h4
  obtain ⟨er, her⟩ : ∃ q, q = R.err := ⟨_, rfl⟩
  have q3 : (er != 3) = true := by rw [her]; simpa using h3
  have q4 : (er != 4) = true := by rw [her]; simpa using h4
  have HW := Lib.hid (⟨hlix, hcox, her⟩ : lix = R.line ∧ cox = R.col ∧ er = R.err)
  clear hR hO hE hlix hcox her hcat hparse hs hm h3 h4
  go_enter Tryz.func4, Tryz.ntmps4
  go_wp2_with fail
  refine (HA.out _).mono ?_
  rintro e w1 ⟨rfl, hb1⟩
  have HB := Lib.hid hb1
  clear hb1
  go_wp2_with fail
  refine (HC.out _).mono ?_
  rintro e w2 ⟨rfl, hb2⟩
  replace HB := Lib.hid (HB.out.trans (hb2.mono HB.out.size))
  clear hb2
  go_wp2_with fail
  refine (HP.out _).mono ?_
  rintro e w3 ⟨⟨v, rfl, ht⟩, hb⟩
  obtain ⟨x0, x1, x2, xa, xl, xc, xd, xe, xf, rfl⟩ := tree_open ht
  clear ht
  replace HB := Lib.hid (HB.out.trans (hb.mono HB.out.size))
  rw [← HW.out.1, ← HW.out.2.1, ← HW.out.2.2]
  obtain ⟨k0, k1, k2⟩ := res_boxes w3 (.int .i64 lix) (.int .i64 cox) 27 29 #[.int .i64 x0, .int .i64 x1, .string x2, .slice xa xl xc, .slice xd xe xf]
  have HKx := Lib.hid k1
  replace HB := Lib.hid (HB.out.trans (k2.mono HB.out.size))
  clear hb k0 k1 k2
  go_wp2_with fail
  generalize (w3.alloc (.cells #[.int .i64 x0, .int .i64 x1, .string x2, .slice xa xl xc, .slice xd xe xf] 27)).alloc (.cells #[.int .i64 lix, .int .i64 cox] 29) = w4 at *
  refine (HT.out _).mono ?_
  rintro e w5 (⟨-, ⟨v, rfl, hts⟩, hb⟩ | ⟨he, -⟩)
  rotate_left
  · exact absurd HEQ.out he
  obtain ⟨va, vc, rfl, -⟩ := hts.form
  replace HB := Lib.hid (HB.out.trans (hb.mono HB.out.size))
  clear hts
  have hbp : Below w5.heap.size w5 (w5.alloc (.cells #[.int .i64 0, .int .i64 0] 29)) := (Below.refl _ _).alloc (Nat.le_refl _) _
  replace HB := Lib.hid (HB.out.trans (hbp.mono HB.out.size))
  clear hb hbp
  go_wp2_with fail
  generalize w5.alloc (.cells #[.int .i64 0, .int .i64 0] 29) = w6 at *
  go_wp2
  go_ret
  exact ⟨rfl, HB.out⟩
theorem app_list (a b : ByteArray) : (a ++ b).toList = a.toList ++ b.toList := by
  rw [Pl.toList_eq, Pl.toList_eq, Pl.toList_eq]; simp [ByteArray.data_append]
def JoinsTo (v : Value) (F : ByteArray) (W : World) : Prop := Calls Tryz.prog 11 #[v] W fun e w' => e = .returned (.tuple #[.string F, .int .i64 0]) ∧ Below W.heap.size W w'
theorem joins_to {X : List Pl.Tok} (hkd : ∀ t ∈ X, t.kind ≠ 8) (hbig : ∀ t ∈ X, t.text.length ≤ 17000) (n : Nat) (h : jv (X.take n) = (jn (X.take n), 0)) (v : Value) (W : World) (hv : TokSlice W v (X.take n)) : JoinsTo v (Pl.mk (jn (X.take n))) W := by
  have := lexJoin_any v (X.take n) W hv (fun t ht => hbig t (List.mem_of_mem_take ht))
  rw [unend_take hkd, h] at this
  exact this
end Go.Proofs.YtjedahcpkcgpeaaGreatDoor
