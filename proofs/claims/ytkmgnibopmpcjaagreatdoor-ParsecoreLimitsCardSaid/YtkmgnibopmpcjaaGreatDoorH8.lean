/-
  Walks and plain mathematics, several texts in one (Ln Lo).
-/
import Derived.Test.YtkmgnibopmpcjaaGreatDoorH7
import Derived.RegionTactic
import Derived.ChangeAlike
/-
  Walks of layer 2: all tokens of a source.
-/
namespace Go.Proofs.YtkmgnibopmpcjaaGreatDoor
open Go.RowKit
def tokCells (t : Pl.Tok) : List Value := [.int .i64 t.kind, .string (Pl.mk t.text), .int .i64 t.line, .int .i64 t.col]
def cells (l : List Pl.Tok) : List Value := l.flatMap tokCells
theorem cells_length (l : List Pl.Tok) : (cells l).length = l.length * 4 := by
  unfold cells
  induction l with
  | nil => rfl
  | cons t r ih => rw [List.flatMap_cons, List.length_append, ih]; simp [tokCells]; omega
theorem cells_snoc (l : List Pl.Tok) (t : Pl.Tok) : cells (l ++ [t]) = cells l ++ tokCells t := by unfold cells; simp
theorem tokCells_one (t : Pl.Tok) : ∀ u ∈ tokCells t, u.oneCell' = true := by
  intro u hu
  simp only [tokCells, List.mem_cons, List.mem_nil_iff, or_false] at hu
  rcases hu with rfl | rfl | rfl | rfl <;> rfl
theorem tokenInfo : (Tryz.prog.info? 41).map (fun i => (i.zero, i.size, i.bytes)) = some (some (.agg #[.int .i64 0, .string ⟨#[]⟩, .int .i64 0, .int .i64 0]), 4, 40) := by kernel_rfl
structure TS (b : Nat) (s : ByteArray) (w wr : World) (i : Nat) (v : Value) (acc : List Pl.Tok) : Prop where
  lt : b < w.heap.size
  rd : RdAt wr b s i 20000
  res : Blk wr w.heap.size 30 #[.int .i64 0, .int .i64 0]
  own : wr.ownsRow (w.heap.size + 1) 41 4 v acc.length (cells acc)
  only : Only b w wr
  size : w.heap.size + 1 ≤ wr.heap.size
theorem TS.step {b : Nat} {s : ByteArray} {w wr w2 : World} {i i2 : Nat} {v : Value} {acc : List Pl.Tok} (h : TS b s w wr i v acc) (ho : Only b wr w2) (hr : RdAt w2 b s i2 20000) : TS b s w w2 i2 v acc :=
  ⟨h.lt, hr, ho.blk h.res (Ne.symm (Nat.ne_of_lt h.lt)), h.own.kept ho (by
    cases hv : v.ownBlock with
    | none => exact .inl rfl
    | some k => exact .inr (fun e => by injection e with e; have := (h.own.lt k hv).1; have := h.lt; omega)), h.only.trans ho, Nat.le_trans h.size ho.size⟩
theorem TS.form {b : Nat} {s : ByteArray} {w wr : World} {i : Nat} {v : Value} {acc : List Pl.Tok} (h : TS b s w wr i v acc) : ∃ A c, v = .slice A acc.length c := by
  rcases h.own.2 with ⟨hv, h0⟩ | ⟨g, cap, cur, hv, _⟩
  · exact ⟨none, 0, by rw [hv, h0]⟩
  · exact ⟨_, _, hv⟩
theorem TS.grow {b : Nat} {s : ByteArray} {w wr w1 w2 : World} {i i2 : Nat} {v v' : Value} {acc : List Pl.Tok} {t : Pl.Tok} (h : TS b s w wr i v acc) (ho : Only b wr w1) (hr : RdAt w1 b s i2 20000)
    (hown : w2.ownsRow (w.heap.size + 1) 41 4 v' (acc.length + 1) (cells acc ++ tokCells t)) (hg : w1.grownBy w2 v.ownBlock) : TS b s w w2 i2 v' (acc ++ [t]) := by
  have h1 := h.step ho hr
  have hk : ∀ k, v.ownBlock = some k → w.heap.size + 1 ≤ k := fun k hk => (h1.own.lt k hk).1
  have hlt := h.lt
  have hbl : ∀ {g : Nat} {t : TypeId} {cs : Array Value}, Blk w1 g t cs → g ≤ w.heap.size → Blk w2 g t cs := fun {g t cs} hb hle =>
    (World.grownBy.block hg g hb.lt (fun e => by have := hk g e.symm; omega)).trans hb
  refine ⟨h.lt, hbl hr (by omega), hbl h1.res (Nat.le_refl _), ?_, ?_, Nat.le_trans h1.size (World.grownBy.size hg)⟩
  · rw [List.length_append, cells_snoc]; exact hown
  · obtain ⟨o1, o2, o3, o4, o5⟩ := (show w.grownBy w1 (some b) from h1.only)
    exact ⟨(World.grownBy.os hg).trans o1, (World.grownBy.tape hg).trans o2, (World.grownBy.output hg).trans o3, Nat.le_trans o4 (World.grownBy.size hg), fun k hk1 hne =>
      (World.grownBy.block hg k (Nat.lt_of_lt_of_le hk1 o4) (fun e => by have := hk k e.symm; omega)).trans (o5 k hk1 hne)⟩
def OutPost (b : Nat) (w : World) (O : Pl.Out) (e : Ending) (w' : World) : Prop :=
  (O.err = 0 ∧ (∃ v, e = .returned (.tuple #[v, .agg #[.int .i64 0, .int .i64 0], .int .i64 0]) ∧ w'.ownsRow (w.heap.size + 1) 41 4 v O.toks.length (cells O.toks)) ∧ Only b w w') ∨
  (O.err ≠ 0 ∧ O.toks = [] ∧ e = .returned (.tuple #[.slice none 0 0, .agg #[.int .i64 O.line, .int .i64 O.col], .int .i64 O.err]) ∧ Only b w w')
namespace Pl
def Ok (f : Nat) (l : Bytes) (i : Nat) (acc : List Tok) (O : Out) : Prop := l.length + 1 ≤ i + f ∧ i ≤ l.length ∧ acc.length ≤ i ∧ toksF f l i acc = O
theorem gap_bound (s : ByteArray) (i : Nat) (h : i ≤ s.size) : i + (gap (s.toList.drop i)).1 ≤ s.size := by
  have := gap_le _ (s.toList.drop i) (Nat.le_refl _)
  rw [List.length_drop, len_size] at this; omega
theorem ok_open (f : Nat) (l : Bytes) (i : Nat) (acc : List Tok) (O : Out) (h : Ok f l i acc O) (hg : (gap (l.drop i)).2 = true) :
    O = ⟨[], lineAt l (i + (gap (l.drop i)).1), colAt l (i + (gap (l.drop i)).1), 4⟩ := by
  obtain ⟨h1, h2, h3, h4⟩ := h
  obtain ⟨f, rfl⟩ : ∃ g, f = g + 1 := ⟨f - 1, by omega⟩
  rw [toksF, if_pos hg] at h4; exact h4.symm
theorem ok_end (f : Nat) (l : Bytes) (i : Nat) (acc : List Tok) (O : Out) (h : Ok f l i acc O) (hg : (gap (l.drop i)).2 = false) (he : i + (gap (l.drop i)).1 = l.length) :
    O = ⟨acc ++ [⟨8, [], lineAt l (i + (gap (l.drop i)).1), colAt l (i + (gap (l.drop i)).1)⟩], 0, 0, 0⟩ := by
  obtain ⟨h1, h2, h3, h4⟩ := h
  obtain ⟨f, rfl⟩ : ∃ g, f = g + 1 := ⟨f - 1, by omega⟩
  rw [toksF, if_neg (by rw [hg]; simp), if_pos he] at h4; exact h4.symm
theorem ok_bad (f : Nat) (l : Bytes) (i : Nat) (acc : List Tok) (O : Out) (h : Ok f l i acc O) (hl : l.length < 20000) (hg : (gap (l.drop i)).2 = false) (he : i + (gap (l.drop i)).1 ≠ l.length) (ht : (tok (l.drop (i + (gap (l.drop i)).1))).err ≠ 0) :
    O = ⟨[], lineAt l (i + (gap (l.drop i)).1 + (tok (l.drop (i + (gap (l.drop i)).1))).pos), colAt l (i + (gap (l.drop i)).1 + (tok (l.drop (i + (gap (l.drop i)).1))).pos), (tok (l.drop (i + (gap (l.drop i)).1))).err⟩ := by
  obtain ⟨h1, h2, h3, h4⟩ := h
  obtain ⟨f, rfl⟩ : ∃ g, f = g + 1 := ⟨f - 1, by omega⟩
  rw [toksF, if_neg (by rw [hg]; simp), if_neg he, if_neg (by omega), if_neg ht] at h4; exact h4.symm
theorem ok_next (f : Nat) (l : Bytes) (i : Nat) (acc : List Tok) (O : Out) (h : Ok f l i acc O) (hl : l.length < 20000) (hg : (gap (l.drop i)).2 = false) (he : i + (gap (l.drop i)).1 ≠ l.length) (ht : (tok (l.drop (i + (gap (l.drop i)).1))).err = 0)
    (hp : 1 ≤ (tok (l.drop (i + (gap (l.drop i)).1))).len) (hb : i + (gap (l.drop i)).1 + (tok (l.drop (i + (gap (l.drop i)).1))).len ≤ l.length) :
    Ok (f - 1) l (i + (gap (l.drop i)).1 + (tok (l.drop (i + (gap (l.drop i)).1))).len) (acc ++ [⟨(tok (l.drop (i + (gap (l.drop i)).1))).kind, (tok (l.drop (i + (gap (l.drop i)).1))).text, lineAt l (i + (gap (l.drop i)).1), colAt l (i + (gap (l.drop i)).1)⟩]) O := by
  obtain ⟨h1, h2, h3, h4⟩ := h
  obtain ⟨f, rfl⟩ : ∃ g, f = g + 1 := ⟨f - 1, by omega⟩
  rw [toksF, if_neg (by rw [hg]; simp), if_neg he, if_neg (by omega), if_pos ht] at h4
  refine ⟨by omega, hb, by rw [List.length_append]; simp; omega, h4⟩
theorem run_none (p : UInt8 → Bool) (l : Bytes) (h : p 10 = false) : 10 ∉ l.take (run p l) := fun hm => by
  have := run_all p l 10 hm
  rw [h] at this; cases this
theorem run_headIs (p : UInt8 → Bool) (q : Int → Bool) (l : Bytes) (hq : ∀ b : UInt8, q b.toNat = true → p b = true) (h : headIs q l = true) : 1 ≤ run p l := by
  cases l with
  | nil => cases h
  | cons b r => rw [run_cons, if_pos (hq b h)]; omega
def Fine (l : Bytes) (t : Tk) : Prop := (t.err = 0 → 1 ≤ t.len ∧ t.len ≤ l.length ∧ 10 ∉ l.take t.len) ∧ (t.err ≠ 0 → t.pos ≤ l.length ∧ 10 ∉ l.take t.pos)
theorem fine_bad (l : Bytes) (e : Int) (he : e ≠ 0) : Fine l (bad e 0) := ⟨fun h => absurd h he, fun _ => ⟨Nat.zero_le _, by simp [bad]⟩⟩
theorem fine_good (l : Bytes) (k : Int) (t : Bytes) (n : Nat) (h1 : 1 ≤ n) (h2 : n ≤ l.length) (h3 : 10 ∉ l.take n) : Fine l (good k t n) := ⟨fun _ => ⟨h1, h2, h3⟩, fun h => absurd rfl h⟩
theorem fine_name (l : Bytes) (h : headIs inner l = true) : Fine l (nameTok l) := by
  unfold nameTok
  split
  · exact fine_bad _ _ (by decide)
  · exact fine_good _ _ _ _ (run_headIs _ inner _ (fun _ h => h) h) (run_le _ _) (run_none _ _ (by decide))
theorem fine_var (l : Bytes) (h : headIs (fun c => decide (c = 39)) l = true) : Fine l (varTok l) := by
  cases l with
  | nil => cases h
  | cons b r =>
    have hb : b ≠ 10 := by rintro rfl; simp [headIs] at h
    unfold varTok
    split
    · split
      · exact fine_bad _ _ (by decide)
      · refine fine_good _ _ _ _ (by omega) ?_ ?_
        · show run innerB r + 1 ≤ r.length + 1
          have := run_le innerB r; omega
        · show 10 ∉ (b :: r).take (run innerB r + 1)
          rw [List.take_succ_cons, List.mem_cons, not_or]
          exact ⟨fun e => hb e.symm, run_none _ _ (by decide)⟩
    · exact fine_bad _ _ (by decide)
theorem fine_num (l : Bytes) (h : headIs digit l = true) : Fine l (numTok l) := by
  unfold numTok
  split
  · exact fine_good _ _ _ _ (run_headIs _ digit _ (fun _ h => h) h) (run_le _ _) (run_none _ _ (by decide))
  · next hn => exact fine_bad _ _ hn
theorem sym_fine : ∀ l, isSym l = true → 10 ∉ l := by
  intro l h
  have hm : l ∈ sym2 ++ sym1 := by simpa [isSym] using h
  have : (sym2 ++ sym1).all (fun l => !l.contains 10) = true := by decide
  have := List.all_eq_true.1 this l hm
  simpa using this
theorem fine_sym (l : Bytes) : Fine l (symTok l) := by
  unfold symTok
  split
  · exact fine_bad _ _ (by decide)
  · next h0 =>
    refine fine_good _ _ _ _ (Nat.pos_of_ne_zero h0) (symLen_len l) ?_
    unfold symLen at h0 ⊢
    split at h0
    · exact absurd rfl h0
    · next ho =>
      rw [if_neg ho]
      split at h0
      · next h2 => rw [if_pos h2]; exact sym_fine _ (by unfold isSym; rw [h2]; rfl)
      · next h2 =>
        rw [if_neg h2]
        split at h0
        · next h1 => rw [if_pos h1]; exact sym_fine _ (by unfold isSym; rw [h1]; simp)
        · exact absurd rfl h0
theorem fine_txt : ∀ (r pre : Bytes) (esc : Bool) (acc : Bytes), 1 ≤ pre.length → 10 ∉ pre → (esc = true → pre.getLast? = some 92) → Fine (pre ++ r) (txt r esc acc pre.length) := by
  intro r
  induction r with
  | nil => intro pre esc acc _ _ _; cases esc <;> exact fine_bad _ _ (by decide)
  | cons c r ih =>
    intro pre esc acc h1 h10 hesc
    have hcat : pre ++ c :: r = (pre ++ [c]) ++ r := by simp
    have hlen : (pre ++ [c]).length = pre.length + 1 := by simp
    have hstep : ∀ (e : Bool) (a : Bytes), c ≠ 10 → (e = true → c = 92) → Fine (pre ++ c :: r) (txt r e a (pre.length + 1)) := fun e a hc he => by
      rw [hcat, ← hlen]
      exact ih (pre ++ [c]) e a (by omega) (by simp only [List.mem_append, List.mem_singleton, not_or]; exact ⟨h10, fun x => hc x.symm⟩) (fun h => by rw [List.getLast?_append]; simp [he h])
    cases esc
    · rw [txt]
      by_cases hq : c = 34
      · rw [if_pos hq]
        refine fine_good _ _ _ _ (by omega) (by simp) ?_
        rw [hcat, ← hlen, List.take_left']
        · simp only [List.mem_append, List.mem_singleton, not_or]; exact ⟨h10, by rw [hq]; decide⟩
        · rfl
      · rw [if_neg hq]
        by_cases hb : c = 92
        · rw [if_pos hb]; exact hstep true acc (by rw [hb]; decide) (fun _ => hb)
        · rw [if_neg hb]
          by_cases hp : printB c = true
          · rw [if_pos hp]; exact hstep false _ (by rintro rfl; exact absurd hp (by decide)) (fun h => by cases h)
          · rw [if_neg hp]
            refine ⟨fun h => absurd h (show ¬ (3 : Int) = 0 by decide), fun _ => ⟨by simp [bad], ?_⟩⟩
            show 10 ∉ (pre ++ c :: r).take pre.length
            rw [List.take_left']
            · exact h10
            · rfl
    · rw [txt]
      cases hm : meaning c with
      | some m =>
        refine hstep false _ ?_ (fun h => by cases h)
        rintro rfl
        have : meaning 10 = none := by decide
        rw [this] at hm; cases hm
      | none =>
        refine ⟨fun h => absurd h (show ¬ (3 : Int) = 0 by decide), fun _ => ⟨by simp [bad]; omega, ?_⟩⟩
        show 10 ∉ (pre ++ c :: r).take (pre.length - 1)
        intro hx
        rw [List.take_append_of_le_length (by omega)] at hx
        exact h10 (List.mem_of_mem_take hx)
theorem fine_tok (l : Bytes) (h : l ≠ []) : Fine l (tok l) := by
  unfold tok
  split
  · next h1 =>
    refine fine_name l ?_
    cases l with
    | nil => exact absurd rfl h
    | cons b r =>
      simp only [Bool.or_eq_true] at h1
      rcases h1 with h1 | h1
      · exact small_inner _ h1
      · exact capital_inner _ h1
  · split
    · next h1 => exact fine_var l h1
    · split
      · next h1 => exact fine_num l h1
      · split
        · next h1 =>
          cases l with
          | nil => exact absurd rfl h
          | cons b r =>
            have hb : b ≠ 10 := by rintro rfl; simp [headIs] at h1
            exact fine_txt r [b] false [] (by simp) (by simpa using fun e : 10 = b => hb e.symm) (fun h => by cases h)
        · exact fine_sym l
end Pl
end Go.Proofs.YtkmgnibopmpcjaaGreatDoor

/-
  Walks of layer 2: the reader's tokens, and Tokens.
-/
namespace Go.Proofs.YtkmgnibopmpcjaaGreatDoor
open Go.RowKit
theorem RdAt.next {w : World} {b : Nat} {s : ByteArray} {j n : Nat} {lim : Int} (h : Rd w b s ((j + n : Nat) : Int) (Pl.lineAt s.toList j) (Pl.startAt s.toList j) lim) (hn : j + n ≤ s.size) (hx : 10 ∉ (s.toList.drop j).take n) : RdAt w b s (j + n) lim := by
  obtain ⟨e1, e2⟩ := Pl.at_on s.toList j n (by rw [Pl.len_size]; exact hn) hx
  unfold RdAt
  rw [e1, e2]; exact h
theorem place_from (b : Nat) (s : ByteArray) (j n m : Nat) (lim : Int) (w : World) (h : Rd w b s m (Pl.lineAt s.toList j) (Pl.startAt s.toList j) lim) (hs : s.size ≤ 100000) (hn : j + n ≤ s.size) (hx : 10 ∉ (s.toList.drop j).take n) :
    Calls Tryz.prog 98 #[.pointer (some ⟨b, 0, none⟩), .int .i64 ((j + n : Nat) : Int)] w fun e w' => e = .returned (.agg #[.int .i64 (Pl.lineAt s.toList (j + n)), .int .i64 (Pl.colAt s.toList (j + n))]) ∧ Below w.heap.size w w' := by
  obtain ⟨e1, e2⟩ := Pl.at_on s.toList j n (by rw [Pl.len_size]; exact hn) hx
  have hr := Pl.startAt_range s.toList j
  have := place_any b s m _ _ lim ((j + n : Nat) : Int) w h hr.1 (by omega) (by omega)
  rw [show (((j + n : Nat) : Int)) - Pl.startAt s.toList j + 1 = Pl.colAt s.toList (j + n) from by rw [← e2]; unfold Pl.startAt; omega, ← e1] at this
  exact this
set_option maxRecDepth 100000 in
set_option maxHeartbeats 4000000 in
theorem tokens_any (b : Nat) (s : ByteArray) (w : World) (O : Pl.Out) (h : RdAt w b s 0 20000) (hs : s.size ≤ 16384) (hO : Pl.toksF (s.size + 1) s.toList 0 [] = O) :
    Calls Tryz.prog 49 #[.pointer (some ⟨b, 0, none⟩)] w (OutPost b w O) := by
  obtain ⟨i9, hi, hz0, hz1, hz2⟩ := info_parts tokenInfo
  have hr := Rd.alloc h (.cells #[.int .i64 0, .int .i64 0] 30)
  have hk := blk_new w #[.int .i64 0, .int .i64 0] 30
  have ho : Only b w (w.alloc (.cells #[.int .i64 0, .int .i64 0] 30)) := (Only.refl b w).alloc _
  have hlt := Rd.lt h
  have hsz : (w.alloc (.cells #[.int .i64 0, .int .i64 0] 30)).heap.size = w.heap.size + 1 := by simp
  have hne : b ≠ w.heap.size := Nat.ne_of_lt hlt
  have hls := Pl.len_size s
  have HI := Lib.hid (And.intro hi (And.intro hz0 (And.intro hz1 hz2)))
  have HOUT := Lib.hid hO
  have HLS := Lib.hid hls
  clear h hi hz0 hz1 hz2 hO hls
  go_enter Tryz.func49, Tryz.ntmps49
  go_wp2
  generalize w.alloc (.cells #[.int .i64 0, .int .i64 0] 30) = w0 at hr hk ho hsz ⊢
  have HT0 : Hid (TS b s w w0 0 (.slice none 0 0) []) := ⟨hlt, hr, hk, World.ownsRow_nil _ _ _ _, ho, by omega⟩
  clear hr hk ho hsz
  go_loopg [5] (s.size + 1) (fun g v wr => ∃ (i : Nat) (acc : List Pl.Tok), Pl.Ok g s.toList i acc O ∧ TS b s w wr i v acc)
  case atStart => exact ⟨0, [], ⟨by rw [HLS.out]; omega, Nat.zero_le _, Nat.zero_le _, HOUT.out⟩, HT0.out⟩
  case round =>
    obtain ⟨i, acc, hok, hts⟩ := hrel
    obtain ⟨A, cp, rfl⟩ := hts.form
    have HOK := Lib.hid hok
    have HTS := Lib.hid hts
    have hi1 : i ≤ s.size := by rw [← HLS.out]; exact hok.2.1
    have hacc : acc.length ≤ i := hok.2.2.1
    have hgap := gap_any b s i 20000 wr hts.rd hi1 (by omega)
    have hbd := Pl.gap_bound s i hi1
    cases hg : (Pl.gap (s.toList.drop i)).2
    · have HG := Lib.hid hgap
      have hgv : gapVal s.toList i (Pl.gap (s.toList.drop i)) = .tuple #[.agg #[.int .i64 0, .int .i64 0], .int .i64 0] := by unfold gapVal; rw [hg]; rfl
      have HGV := Lib.hid hgv
      have HGG := Lib.hid hg
      clear hgv hg hgap hok hts
      go_wp2_with fail
      refine HG.out.mono ?_
      rintro e w1 ⟨m, hm1, hm2, he, hr1, ho1⟩
      rw [HGV.out] at he
      subst he
      obtain rfl := hm2 HGG.out
      clear hm2 hm1
      have hra := Rd.alloc hr1 (.cells #[.int .i64 0, .int .i64 0] 30)
      have hoa := ho1.alloc (.cells #[.int .i64 0, .int .i64 0] 30)
      have c1 := hra.c1
      generalize hj : i + (Pl.gap (s.toList.drop i)).1 = j at *
      have HJ := Lib.hid hj
      have HRA := Lib.hid hra
      have HOA := Lib.hid hoa
      clear hra hoa hr1 ho1 hj
      go_wp2_with fail
      refine (place_at b s j 20000 _ HRA.out (by omega) hbd).mono ?_
      rintro e w2 ⟨rfl, hb2⟩
      clear c1
      have HR2 : Hid (RdAt w2 b s j 20000) := Rd.below HRA.out hb2 (Rd.lt HRA.out)
      have HO2 := Lib.hid (HOA.out.below hb2 HOA.out.size)
      clear hb2
      generalize hli : Pl.lineAt s.toList j = li
      generalize hco : Pl.colAt s.toList j = co
      have HLI := Lib.hid hli
      have HCO := Lib.hid hco
      clear hli hco
      go_wp2
      have hrb := Rd.alloc HR2.out (.cells #[.int .i64 li, .int .i64 co] 30)
      have hob := HO2.out.alloc (.cells #[.int .i64 li, .int .i64 co] 30)
      have hkb := blk_new w2 #[.int .i64 li, .int .i64 co] 30
      have hsb : w2.heap.size < (w2.alloc (.cells #[.int .i64 li, .int .i64 co] 30)).heap.size := by simp
      have hw2 := HO2.out.size
      have hne2 : b ≠ w2.heap.size := Nat.ne_of_lt (Rd.lt HR2.out)
      generalize w2.alloc (.cells #[.int .i64 li, .int .i64 co] 30) = wB at hrb hob hkb hsb ⊢
      have c0 := hrb.c0
      have c1 := hrb.c1
      have HRB : Hid (RdAt wB b s j 20000) := hrb
      have HOB := Lib.hid hob
      have HKB := Lib.hid hkb
      clear hrb hob hkb
      by_cases hend : j = s.size
      · have q1 : ((j : Int) == (s.size : Int)) = true := beq_iff_eq.2 (by omega)
        have ho := Pl.ok_end _ _ _ _ _ HOK.out HGG.out (by rw [HJ.out, HLS.out]; exact hend)
        rw [HJ.out, HLI.out, HCO.out] at ho
        have HO := Lib.hid ho
        clear hend ho
        go_quiet (fail)
        clear c0 c1
        obtain ⟨d0, d1, e0, e1⟩ := psAt_of HKB.out
        have hts2 := HTS.out.step (HOB.out.drewN nq) (HRB.out.drewN nq)
        go_wp2_with (at_builtin; refine wpList_append_own _ rfl _ _ 38 rfl (w.heap.size + 1) 41 i9 (.agg #[.int .i64 0, .string ⟨#[]⟩, .int .i64 0, .int .i64 0]) 4 40 Tryz.underlying38 HI.out.1 HI.out.2.1 HI.out.2.2.1 HI.out.2.2.2 rfl (by decide) _ _ _ rfl (hts2.own.alloc _) ⟨wB.heap.size, 0, none⟩ 1 1 (tokCells ⟨8, [], li, co⟩) rfl rfl ?c1 ?c2 ?c3 ?c4 ?c5 ?_)
        case c1 =>
          intro q u hq
          match q, hq with
          | 0, hq => obtain rfl := Option.some.inj hq; exact (blk_new (wB.drewN nq) #[.int .i64 8, .string ⟨#[]⟩, .int .i64 li, .int .i64 co] 41).cell 0 _ rfl
          | 1, hq => obtain rfl := Option.some.inj hq; exact (blk_new (wB.drewN nq) #[.int .i64 8, .string ⟨#[]⟩, .int .i64 li, .int .i64 co] 41).cell 1 _ rfl
          | 2, hq => obtain rfl := Option.some.inj hq; exact (blk_new (wB.drewN nq) #[.int .i64 8, .string ⟨#[]⟩, .int .i64 li, .int .i64 co] 41).cell 2 _ rfl
          | 3, hq => obtain rfl := Option.some.inj hq; exact (blk_new (wB.drewN nq) #[.int .i64 8, .string ⟨#[]⟩, .int .i64 li, .int .i64 co] 41).cell 3 _ rfl
        case c2 => exact tokCells_one _
        case c3 => unfold maxLen; omega
        case c4 => omega
        case c5 => have := HTS.out.size; have := HOB.out.size; simp; omega
        intro v' w4 hown' hgrow _
        have hts4 := HTS.out.grow ((HOB.out.drewN nq).alloc _) (Rd.alloc (HRB.out.drewN nq) _) hown' hgrow
        clear hown' hgrow hts2 d0 d1 e0 e1
        obtain ⟨d0, d1, e0, e1⟩ := psAt_of hts4.res
        have HT4 := Lib.hid hts4
        clear hts4
        go_wp2
        obtain ⟨f0, f1, -, -⟩ := psAt_of (ps_put HT4.out.res (.int .i64 0) (.int .i64 0))
        refine bodyPost_ret (v := .tuple #[v', .agg #[.int .i64 0, .int .i64 0], .int .i64 0]) (by simp [results, Tryz.results49, go_sem, f0, f1]) rfl ?_
        rw [HO.out]
        exact .inl ⟨rfl, ⟨v', rfl, ownsRow_setCell_below (ownsRow_setCell_below HT4.out.own (a := ⟨w.heap.size, 0, none⟩) (Nat.lt_succ_self _) _) (a := ⟨w.heap.size, 1, none⟩) (Nat.lt_succ_self _) _⟩, only_put2 HT4.out.only (Nat.le_refl _) _ _⟩
      · have q1 : ((j : Int) == (s.size : Int)) = false := beq_eq_false_iff_ne.2 (by omega)
        have q2 : ((acc.length : Int) == 20000) = false := beq_eq_false_iff_ne.2 (by omega)
        have hjl : j < s.size := by omega
        have hnil : s.toList.drop j ≠ [] := by
          intro h
          have := congrArg List.length h
          rw [List.length_drop, HLS.out] at this
          simp at this; omega
        have hfine := Pl.fine_tok _ hnil
        have htok := fun W (hW : RdAt W b s j 20000) => token_any b s j _ _ 20000 W hW hjl (by omega)
        have c4 := Rd.c4 HRB.out
        generalize hT : Pl.tok (s.toList.drop j) = T at hfine htok
        have HTK := Lib.hid htok
        have HF := Lib.hid hfine
        have HTT := Lib.hid hT
        clear hnil htok hfine hT
        go_quiet (fail)
        clear c0 c1
        go_wp2_with fail
        refine (HTK.out _ (HRB.out.drewN _)).mono ?_
        rintro e w3 ⟨m, p, hm, hp, rfl, hr3, ho3⟩
        by_cases he : T.err = 0
        · have t1 : (T.err != 0) = false := by rw [he]; rfl
          obtain rfl := hm he
          have HE := Lib.hid he
          clear hm hp he
          obtain ⟨hf1, hf2, hf3⟩ := HF.out.1 HE.out
          rw [List.length_drop, HLS.out] at hf2
          have hok2 := Pl.ok_next _ _ _ _ _ HOK.out (by rw [HLS.out]; omega) HGG.out (by rw [HJ.out, HLS.out]; omega) (by rw [HJ.out, HTT.out]; exact HE.out) (by rw [HJ.out, HTT.out]; exact hf1) (by rw [HJ.out, HTT.out, HLS.out]; omega)
          rw [HJ.out, HTT.out, HLI.out, HCO.out] at hok2
          have HOK2 := Lib.hid hok2
          have hr3b := RdAt.next hr3 (by omega) hf3
          have hts3 := HTS.out.step ((HOB.out.drewN nq).trans ho3) hr3b
          generalize hkd : T.kind = kd
          generalize htx : Pl.mk T.text = tx
          have HTC := Lib.hid (show tokCells ⟨T.kind, T.text, li, co⟩ = [.int .i64 kd, .string tx, .int .i64 li, .int .i64 co] from by rw [← hkd, ← htx]; rfl)
          clear hok2 hf3 hkd htx
          unfold tkc
          have hk3 := ho3.blk (HKB.out.drewN nq) hne2.symm
          obtain ⟨d0, d1, -, -⟩ := psAt_of hk3
          have hw23 : w2.heap.size < w3.heap.size := Nat.lt_of_lt_of_le hsb ho3.size
          have hbn := blk_new (w3.alloc (.cells #[.int .i64 kd, .string tx, .int .i64 li, .int .i64 co] 41)) #[.int .i64 kd, .string tx, .int .i64 li, .int .i64 co] 41
          rw [World.size_alloc] at hbn
          have HR3 := Lib.hid hr3b
          have HO3 := Lib.hid ((HOB.out.drewN nq).trans ho3)
          have hsz3 : w.heap.size + 1 ≤ w3.heap.size := hts3.size
          clear hk3 hr3 ho3 hr3b
          go_wp2_with (at_builtin; refine wpList_append_own _ rfl _ _ 38 rfl (w.heap.size + 1) 41 i9 (.agg #[.int .i64 0, .string ⟨#[]⟩, .int .i64 0, .int .i64 0]) 4 40 Tryz.underlying38 HI.out.1 HI.out.2.1 HI.out.2.2.1 HI.out.2.2.2 rfl (by decide) _ _ _ rfl ((hts3.own.alloc _).alloc _) ⟨w3.heap.size + 1, 0, none⟩ 1 1 [.int .i64 kd, .string tx, .int .i64 li, .int .i64 co] rfl rfl ?g1 ?g2 ?g3 ?g4 ?g5 ?_)
          case g1 =>
            intro q u hq
            match q, hq with
            | 0, hq => obtain rfl := Option.some.inj hq; exact hbn.cell 0 _ rfl
            | 1, hq => obtain rfl := Option.some.inj hq; exact hbn.cell 1 _ rfl
            | 2, hq => obtain rfl := Option.some.inj hq; exact hbn.cell 2 _ rfl
            | 3, hq => obtain rfl := Option.some.inj hq; exact hbn.cell 3 _ rfl
          case g2 =>
            intro u hu
            rw [← HTC.out] at hu
            exact tokCells_one _ u hu
          case g3 => unfold maxLen; omega
          case g4 => omega
          case g5 => simp; omega
          intro v' w4 hown' hgrow _
          rw [← HTC.out] at hown'
          have HT4 := Lib.hid (HTS.out.grow ((HO3.out.alloc _).alloc _) (Rd.alloc (Rd.alloc HR3.out _) _) hown' hgrow)
          clear hown' hgrow hts3 d0 d1 hbn
          go_wp2
          have hgk := HOK.out.1
          have hgk2 := HOK.out.2.1
          go_roundg (gk - 1)
          case measure => omega
          case rel => exact ⟨j + T.len, _, HOK2.out, HT4.out⟩
        · have t1 : (T.err != 0) = true := by simpa using he
          obtain rfl := hp he
          obtain ⟨hf1, hf2⟩ := HF.out.2 he
          rw [List.length_drop, HLS.out] at hf1
          have ho := Pl.ok_bad _ _ _ _ _ HOK.out (by rw [HLS.out]; omega) HGG.out (by rw [HJ.out, HLS.out]; omega) (by rw [HJ.out, HTT.out]; exact he)
          rw [HJ.out, HTT.out] at ho
          have HO := Lib.hid ho
          have hts3 := (HOB.out.drewN nq).trans ho3
          have hk3 := ho3.blk ((HOB.out.drewN nq).blk HTS.out.res hne.symm) hne.symm
          have hw3 := hts3.size
          have hw4 := HTS.out.size
          generalize hkd : T.kind = kd
          generalize htx : Pl.mk T.text = tx
          have HE := Lib.hid he
          have HR3 := Lib.hid (Rd.alloc hr3 (.cells #[.int .i64 kd, .string tx, .int .i64 0, .int .i64 0] 41))
          have HK3 := Lib.hid (hk3.alloc (.cells #[.int .i64 kd, .string tx, .int .i64 0, .int .i64 0] 41))
          have HO3 := Lib.hid ((HTS.out.only.trans hts3).alloc (.cells #[.int .i64 kd, .string tx, .int .i64 0, .int .i64 0] 41))
          have HF2 := Lib.hid hf2
          clear hm hp he ho hkd htx hk3 hts3 hr3 ho3 hf2
          unfold tkc
          go_wp2_with fail
          refine (place_from b s j T.pos m 20000 _ HR3.out (by omega) (by omega) HF2.out).mono ?_
          rintro e w5 ⟨rfl, hb5⟩
          generalize Pl.lineAt s.toList (j + T.pos) = li2 at HO ⊢
          generalize Pl.colAt s.toList (j + T.pos) = co2 at HO ⊢
          have HK5 := Lib.hid (HK3.out.below hb5 (by simp; omega))
          have HO5 := Lib.hid (HO3.out.below hb5 (by simp; omega))
          clear hb5
          obtain ⟨d0, d1, e0, e1⟩ := psAt_of HK5.out
          go_wp2
          obtain ⟨f0, f1, -, -⟩ := psAt_of (ps_put HK5.out (.int .i64 li2) (.int .i64 co2))
          refine bodyPost_ret (v := .tuple #[.slice none 0 0, .agg #[.int .i64 li2, .int .i64 co2], .int .i64 T.err]) (by simp [results, Tryz.results49, go_sem, f0, f1]) rfl ?_
          rw [HO.out]
          exact .inr ⟨HE.out, rfl, rfl, only_put2 HO5.out (Nat.le_refl _) _ _⟩
    · have HO := Lib.hid (Pl.ok_open _ _ _ _ _ hok hg)
      have HG := Lib.hid hgap
      have hgv : gapVal s.toList i (Pl.gap (s.toList.drop i)) = .tuple #[.agg #[.int .i64 (Pl.lineAt s.toList (i + (Pl.gap (s.toList.drop i)).1)), .int .i64 (Pl.colAt s.toList (i + (Pl.gap (s.toList.drop i)).1))], .int .i64 4] := by unfold gapVal; rw [hg]; rfl
      have HGV := Lib.hid hgv
      clear hgv hg hgap hok hts
      go_wp2_with fail
      refine HG.out.mono ?_
      rintro e w1 ⟨m, hm1, hm2, he, hr1, ho1⟩
      rw [HGV.out] at he
      subst he
      generalize Pl.lineAt s.toList (i + (Pl.gap (s.toList.drop i)).1) = li at HO
      generalize Pl.colAt s.toList (i + (Pl.gap (s.toList.drop i)).1) = co at HO
      have hres := (ho1.blk HTS.out.res hne.symm).alloc (.cells #[.int .i64 li, .int .i64 co] 30)
      have hwr := blk_new w1 #[.int .i64 li, .int .i64 co] 30
      have honly := (HTS.out.only.trans ho1).alloc (.cells #[.int .i64 li, .int .i64 co] 30)
      have hne3 : w.heap.size ≠ w1.heap.size := by have := HTS.out.size; have := ho1.size; omega
      clear hr1 ho1 hm2
      go_wp2
      generalize w1.alloc (.cells #[.int .i64 li, .int .i64 co] 30) = wd at hres hwr honly ⊢
      obtain ⟨d0, d1, e0, e1⟩ := psAt_of hres
      obtain ⟨g0, g1, -, -⟩ := psAt_of hwr
      have HRES := Lib.hid hres
      have HONLY := Lib.hid honly
      clear hres hwr honly
      go_region
      all_goals
        go_wp2
        obtain ⟨f0, f1, -, -⟩ := psAt_of (ps_put HRES.out (.int .i64 li) (.int .i64 co))
        refine bodyPost_ret (v := .tuple #[.slice none 0 0, .agg #[.int .i64 li, .int .i64 co], .int .i64 4]) (by simp [results, Tryz.results49, go_sem, f0, f1]) rfl ?_
        rw [HO.out]
        exact .inr ⟨show ¬ (4 : Int) = 0 by decide, rfl, rfl, (only_put2 HONLY.out (Nat.le_refl _) _ _).drew⟩
end Go.Proofs.YtkmgnibopmpcjaaGreatDoor
