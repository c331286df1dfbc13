/-
  Walks of layer 3: few.
-/
import Derived.Test.YtkhpihacjhhklaaSs
namespace Go.Proofs.Ytkhpihacjhhklaa
open Go Go.RowKit
open Pl (Syn)

set_option maxHeartbeats 400000 in
theorem few1_any (s : ByteArray) (w : World) : Calls Try.prog 51 #[.string s] w fun e w' => e = .returned (.bool (decide (60 < (s.size : Int)))) ∧ w = w' := by
  go_enter Try.func51, Try.ntmps51
  go_wp2
  go_ret
  exact ⟨rfl, rfl⟩
def SomeInt (w : World) (e : Ending) (w' : World) : Prop := ∃ r : Int, e = .returned (.int .i64 r) ∧ w = w'
def SomeBool (w : World) (e : Ending) (w' : World) : Prop := ∃ r : Bool, e = .returned (.bool r) ∧ w = w'
set_option maxRecDepth 100000 in
set_option maxHeartbeats 2000000 in
theorem longName_any (P : Nat → Prop) (v : Value) (zs : List ByteArray) (w : World) (h : StrSl w P v zs) : Calls Try.prog 59 #[v, .func (.func 51) #[] #[]] w (SomeInt w) := by
  obtain ⟨a, c, rfl, h1, h2, -, h4, h5⟩ := h
  unfold maxLen at h2
  clear h4
  rcases h5 with h5 | ⟨b, off, rfl, -, h5⟩
  · subst h5
    go_enter Try.func59, Try.ntmps59
    go_wp2_with fail
    go_loopg [8] 1 (fun g v wr => v = .int .i64 0 ∧ wr = w)
    case atStart => exact ⟨rfl, rfl⟩
    case round =>
      obtain ⟨rfl, rfl⟩ := hrel
      go_wp2
      go_ret
      exact ⟨_, rfl, rfl⟩
  · have H5 := Lib.hid h5
    clear h5
    generalize hn : zs.length = n at *
    have HN := Lib.hid hn
    clear hn
    go_enter Try.func59, Try.ntmps59
    go_wp2_with fail
    go_loopg [8] (n + 1) (fun g v wr => ∃ k : Nat, k ≤ n ∧ v = .int .i64 k ∧ g = n + 1 - k ∧ wr = w)
    case atStart => exact ⟨0, by omega, rfl, by omega, rfl⟩
    case round =>
      obtain ⟨k, hk, rfl, hg, rfl⟩ := hrel
      by_cases hlt : k < n
      · have hkl : k < zs.length := by rw [HN.out]; exact hlt
        have a0 := H5.out k hkl
        have hc := fun W => few1_any zs[k] W
        generalize zs[k] = z at *
        have HC := Lib.hid hc
        clear hc
        go_wp2_with fail
        refine (HC.out _).mono ?_
        rintro e w2 ⟨rfl, rfl⟩
        go_wp2
        · go_ret
          exact ⟨_, rfl, rfl⟩
        · go_roundg (gk - 1)
          case measure => omega
          case rel => exact ⟨k + 1, by omega, by go_num, by omega, rfl⟩
      · go_wp2
        go_ret
        exact ⟨_, rfl, rfl⟩
set_option maxHeartbeats 400000 in
theorem longNames_any (P : Nat → Prop) (v : Value) (zs : List ByteArray) (w : World) (h : StrSl w P v zs) : Calls Try.prog 50 #[v, .func (.func 51) #[] #[]] w (SomeBool w) := by
  have HC := Lib.hid (longName_any P v zs w h)
  clear h
  go_enter Try.func50, Try.ntmps50
  go_wp2_with fail
  refine HC.out.mono ?_
  rintro e w2 ⟨r, rfl, rfl⟩
  go_wp2
  go_ret
  exact ⟨_, rfl, rfl⟩

/-- what is left behind a tree, or a list of trees, that are few -/
def FewRes (g : Nat) (left : Int) (n b : Nat) (r : Bool) (w w' : World) : Prop :=
  ∃ left', Cell1 g left' w' ∧ Fr (· = g) (· = g) w w' ∧ -1 ≤ left' ∧ left' ≤ left ∧ (r = true → left' = left - n ∧ 0 ≤ left' ∧ b ≤ 31 * n)
def FewPost (g : Nat) (left : Int) (n b : Nat) (w : World) (e : Ending) (w' : World) : Prop := ∃ r : Bool, e = .returned (.bool r) ∧ FewRes g left n b r w w'
def NotFew (g : Nat) (left : Int) (n b : Nat) (w : World) (e : Ending) (w' : World) : Prop := ∃ r : Bool, e = .returned (.bool (!r)) ∧ FewRes g left n b r w w'
def FewSpec (t : Syn) : Prop := ∀ (P : Nat → Prop) (w : World) (v : Value) (g : Nat) (left depth : Int), Cell1 g left w → SynV w P t v → (∀ b, P b → b < w.heap.size ∧ b ≠ g) → 0 ≤ left → left ≤ 1073741824 → 0 ≤ depth → depth ≤ 501 →
  Calls Try.prog 27 #[v, .pointer (some ⟨g, 0, none⟩), .int .i64 depth] w (FewPost g left t.size t.big w)
set_option maxRecDepth 100000 in
set_option maxHeartbeats 2000000 in
theorem few2_any (t : Syn) (ht : FewSpec t) (P : Nat → Prop) (w : World) (v : Value) (g b4 b5 : Nat) (left depth : Int) (hc : Cell1 g left w) (hv : SynV w P t v) (hP : ∀ b, P b → b < w.heap.size ∧ b ≠ g) (h0 : 0 ≤ left) (h1 : left ≤ 1073741824) (h2 : 0 ≤ depth) (h3 : depth ≤ 500)
    (h4 : Blk w b4 46 #[.pointer (some ⟨g, 0, none⟩)]) (h5 : Blk w b5 3 #[.int .i64 depth]) :
    Calls Try.prog 53 #[v, .pointer (some ⟨b4, 0, none⟩), .pointer (some ⟨b5, 0, none⟩)] w (NotFew g left t.size t.big w) := by
  have HV := Lib.hid hv
  obtain ⟨na, nn, nc, la, ln, lc, rfl⟩ := hv.form
  have hb : Below w.heap.size w (w.alloc (.cells #[.int .i64 t.op, .int .i64 t.n, .string t.s, .slice na nn nc, .slice la ln lc] 25)) := (Below.refl _ _).alloc (Nat.le_refl _) _
  have HC := Lib.hid (ht P _ _ g left (depth + 1) (hc.below hb) (HV.out.keep (Same.of_below hb (fun b h => (hP b h).1))) (fun b h => ⟨Nat.lt_of_lt_of_le (hP b h).1 hb.size, (hP b h).2⟩) h0 h1 (by omega) (by omega))
  have c4 := (h4.alloc (.cells #[.int .i64 t.op, .int .i64 t.n, .string t.s, .slice na nn nc, .slice la ln lc] 25)).cell 0 _ rfl
  have c5 := (h5.alloc (.cells #[.int .i64 t.op, .int .i64 t.n, .string t.s, .slice na nn nc, .slice la ln lc] 25)).cell 0 _ rfl
  have HB := Lib.hid hb
  clear hv hb hc hP h4 h5 ht
  go_enter Try.func53, Try.ntmps53
  go_wp2_with fail
  refine HC.out.mono ?_
  rintro e w2 ⟨r, rfl, left', hl, hf, hr⟩
  have HR := Lib.hid hr
  have HL := Lib.hid hl
  have HF := Lib.hid ((Fr.of_below HB.out).trans hf)
  clear hr hl hf
  go_wp2
  go_ret
  exact ⟨r, rfl, left', HL.out, HF.out, HR.out⟩
def IdxPost (g : Nat) (left : Int) (n b : Nat) (w : World) (e : Ending) (w' : World) : Prop := ∃ r : Int, e = .returned (.int .i64 r) ∧ FewRes g left n b (decide (r < 0)) w w'
set_option maxRecDepth 100000 in
set_option maxHeartbeats 4000000 in
theorem manyIdx_any (l : List Syn) (hl : ∀ x ∈ l, FewSpec x) (P : Nat → Prop) (w : World) (v : Value) (g b4 b5 : Nat) (left depth : Int) (hc : Cell1 g left w) (hv : SynSl w P v l) (hP : ∀ b, P b → b < w.heap.size ∧ b ≠ g) (h0 : 0 ≤ left) (h1 : left ≤ 1073741824) (h2 : 0 ≤ depth) (h3 : depth ≤ 500)
    (h4 : Blk w b4 46 #[.pointer (some ⟨g, 0, none⟩)]) (h5 : Blk w b5 3 #[.int .i64 depth]) (h45 : b4 ≠ g ∧ b5 ≠ g) :
    Calls Try.prog 60 #[v, .func (.func 53) #[] #[.pointer (some ⟨b4, 0, none⟩), .pointer (some ⟨b5, 0, none⟩)]] w (IdxPost g left (Pl.sizes l) (Pl.bigs l) w) := by
  rcases hv.cases with ⟨rfl, a, c, rfl, -, -⟩ | ⟨b, off, n, c, rfl, hnl, hn0, hnc, hcm, hPb, hka⟩
  · have HC := Lib.hid hc
    clear hl hv hP h4 h5 h45 hc
    go_enter Try.func60, Try.ntmps60
    go_wp2_with fail
    go_loopg [8] 1 (fun g v wr => v = .int .i64 0 ∧ wr = w)
    case atStart => exact ⟨rfl, rfl⟩
    case round =>
      obtain ⟨rfl, rfl⟩ := hrel
      go_wp2
      go_ret
      exact ⟨-1, rfl, left, HC.out, Fr.refl _ _, by omega, Int.le_refl _, fun _ => by rw [Pl.sizes_nil, Pl.bigs_nil]; omega⟩
  · unfold maxLen at hcm
    have HNL := Lib.hid hnl
    have HIH := Lib.hid hl
    have HKA := Lib.hid hka
    have HP := Lib.hid hP
    have HPB := Lib.hid hPb
    have HC := Lib.hid hc
    have H4 := Lib.hid h4
    have H5 := Lib.hid h5
    have H45 := Lib.hid h45
    clear hv hnl hl hka hP hPb hc h4 h5 h45
    go_enter Try.func60, Try.ntmps60
    go_wp2_with fail
    go_loopg [8] (n + 1) (fun gg v wr => ∃ k : Nat, k ≤ n ∧ v = .int .i64 k ∧ gg = n + 1 - k ∧ FewRes g left (Pl.sizes (l.take k)) (Pl.bigs (l.take k)) true w wr)
    case atStart => exact ⟨0, by omega, rfl, by omega, left, HC.out, Fr.refl _ _, by omega, Int.le_refl _, fun _ => by rw [List.take_zero, Pl.sizes_nil, Pl.bigs_nil]; omega⟩
    case round =>
      obtain ⟨k, hk, rfl, hg, lk, hck, hfk, hk1, hk2, hk3⟩ := hrel
      obtain ⟨hk3, hk4, hk5⟩ := hk3 rfl
      by_cases hlt : k < n
      · have hkl : k < l.length := by rw [HNL.out]; exact hlt
        have hP1 := hfk.still HP.out
        obtain ⟨xo, xn, xs, na, nn, nc, la, ln, lc, -, a0, a1, a2, a3, a4, hxs⟩ := (HKA.out.keep (hfk.same HP.out) HPB.out).part k hkl
        have hcall := few2_any l[k] (HIH.out _ (List.getElem_mem hkl)) P wr _ g b4 b5 lk depth hck hxs hP1 hk4 (by omega) h2 h3 (H4.out.of_eq (hfk.block H4.out.lt H45.out.1)) (H5.out.of_eq (hfk.block H5.out.lt H45.out.2))
        have HCA := Lib.hid hcall
        have HFK := Lib.hid hfk
        have HSS := Lib.hid (Pl.sizes_snoc l k hkl)
        have HBS := Lib.hid (Pl.bigs_app (l.take k) [l[k]])
        have HTS := Lib.hid (List.take_succ_eq_append_getElem hkl)
        have HB1 := Lib.hid (show Pl.bigs [l[k]] = l[k].big from by rw [Pl.bigs_cons, Pl.bigs_nil]; rfl)
        generalize l[k] = x at *
        have HK3 := Lib.hid hk3
        clear hcall hfk hP1 hxs hck hk3
        go_wp2_with fail
        refine HCA.out.mono ?_
        rintro e w3 ⟨r, rfl, left', hl3, hf3, hr1, hr2, hr3⟩
        have HF3 := Lib.hid (HFK.out.trans hf3)
        have HL3 := Lib.hid hl3
        have HR3 := Lib.hid hr3
        clear hf3 hl3 hr3 a0 a1 a2 a3 a4
        cases r
        · go_wp2
          go_ret
          refine ⟨k, rfl, left', HL3.out, HF3.out, hr1, by omega, fun h => ?_⟩
          rw [decide_eq_true_eq] at h; omega
        · go_wp2
          go_roundg (gk - 1)
          case measure => omega
          case rel =>
            have h1 := HR3.out trivial
            have h2 := HK3.out
            refine ⟨k + 1, by omega, by go_num, by omega, left', HL3.out, HF3.out, hr1, by omega, fun _ => ?_⟩
            rw [HSS.out, HTS.out, HBS.out, HB1.out]
            omega
      · have hkn : l.take k = l := List.take_of_length_le (by rw [HNL.out]; omega)
        rw [hkn] at hk3 hk5
        have HCK := Lib.hid hck
        have HFK := Lib.hid hfk
        have HK3 := Lib.hid hk3
        clear hck hfk hk3 hkn
        go_wp2
        go_ret
        exact ⟨-1, rfl, lk, HCK.out, HFK.out, hk1, hk2, fun _ => ⟨HK3.out, hk4, hk5⟩⟩
set_option maxHeartbeats 2000000 in
theorem manyCon_any (l : List Syn) (hl : ∀ x ∈ l, FewSpec x) (P : Nat → Prop) (w : World) (v : Value) (g b4 b5 : Nat) (left depth : Int) (hc : Cell1 g left w) (hv : SynSl w P v l) (hP : ∀ b, P b → b < w.heap.size ∧ b ≠ g) (h0 : 0 ≤ left) (h1 : left ≤ 1073741824) (h2 : 0 ≤ depth) (h3 : depth ≤ 500)
    (h4 : Blk w b4 46 #[.pointer (some ⟨g, 0, none⟩)]) (h5 : Blk w b5 3 #[.int .i64 depth]) (h45 : b4 ≠ g ∧ b5 ≠ g) :
    Calls Try.prog 52 #[v, .func (.func 53) #[] #[.pointer (some ⟨b4, 0, none⟩), .pointer (some ⟨b5, 0, none⟩)]] w (NotFew g left (Pl.sizes l) (Pl.bigs l) w) := by
  have HC := Lib.hid (manyIdx_any l hl P w v g b4 b5 left depth hc hv hP h0 h1 h2 h3 h4 h5 h45)
  clear hc hv hP h4 h5 h45 hl
  go_enter Try.func52, Try.ntmps52
  go_wp2_with fail
  refine HC.out.mono ?_
  rintro e w2 ⟨r, rfl, hr⟩
  have HR := Lib.hid hr
  clear hr
  by_cases hr0 : r < 0
  · have q : decide ((0 : Int) ≤ r) = false := by simp; omega
    go_wp2
    go_ret
    exact ⟨true, rfl, by have := HR.out; rw [decide_eq_true hr0] at this; exact this⟩
  · have q : decide ((0 : Int) ≤ r) = true := by simp; omega
    go_wp2
    go_ret
    exact ⟨false, rfl, by have := HR.out; rw [decide_eq_false (show ¬ r < 0 from by omega)] at this; exact this⟩
theorem cell1_setw {g : Nat} {n x : Int} {w : World} (h : Cell1 g n w) : Cell1 g x (w.setCell ⟨g, 0, none⟩ (.int .i64 x)) := by
  have := Blk.set h 0 (.int .i64 x)
  simpa [Cell1] using this
theorem size_setCell (w : World) (p : Addr) (v : Value) : (w.setCell p v).heap.size = w.heap.size := by simp [World.setCell]
/-- few's three variables -/
def few3 (w : World) (xs : Array Value) (g : Nat) (depth : Int) : World := ((w.alloc (.cells xs 25)).alloc (.cells #[.pointer (some ⟨g, 0, none⟩)] 46)).alloc (.cells #[.int .i64 depth] 3)
theorem few3_below (w : World) (xs : Array Value) (g : Nat) (depth : Int) : Below w.heap.size w (few3 w xs g depth) := (((Below.refl _ _).alloc (Nat.le_refl _) _).alloc (by simp) _).alloc (by simp; omega) _
theorem few3_b3 (w : World) (xs : Array Value) (g : Nat) (depth : Int) : Blk (few3 w xs g depth) w.heap.size 25 xs := ((blk_new w xs 25).alloc _).alloc _
theorem few3_b4 (w : World) (xs : Array Value) (g : Nat) (depth : Int) : Blk (few3 w xs g depth) (w.heap.size + 1) 46 #[.pointer (some ⟨g, 0, none⟩)] := by
  have := (blk_new (w.alloc (.cells xs 25)) #[.pointer (some ⟨g, 0, none⟩)] 46).alloc (.cells #[.int .i64 depth] 3)
  rw [size_alloc] at this
  exact this
theorem few3_b5 (w : World) (xs : Array Value) (g : Nat) (depth : Int) : Blk (few3 w xs g depth) (w.heap.size + 1 + 1) 3 #[.int .i64 depth] := by
  have := blk_new ((w.alloc (.cells xs 25)).alloc (.cells #[.pointer (some ⟨g, 0, none⟩)] 46)) #[.int .i64 depth] 3
  rw [size_alloc, size_alloc] at this
  exact this
theorem few_no {g : Nat} {left : Int} {n b : Nat} {w w' : World} (h : Cell1 g (left - 1) w' ∧ Fr (· = g) (· = g) w w') (h0 : 0 ≤ left) : FewPost g left n b w (.returned (.bool false)) w' :=
  ⟨false, rfl, left - 1, h.1, h.2, by omega, by omega, fun h => (by cases h)⟩
set_option maxRecDepth 100000 in
set_option maxHeartbeats 8000000 in
theorem few_any (t : Syn) : FewSpec t := by
  induction t using Syn.ind with
  | h t ih =>
  intro P w v g left depth hc hv hP h0 h1 h2 h3
  have hsz := Pl.size_pos t
  have HBG := Lib.hid (Pl.big_eq t)
  have HSQ := Lib.hid (Pl.size_eq t)
  rw [synV_iff] at hv
  obtain ⟨hs, nv, lv, rfl, hn, hl⟩ := hv
  unfold maxLen at hs
  have hgl := Blk.lt hc
  obtain ⟨na, nc, rfl, hnm⟩ := hn.form
  obtain ⟨la, lc, rfl, hlm⟩ := hl.form
  unfold maxLen at hnm hlm
  have hbw := few3_below w #[.int .i64 t.op, .int .i64 t.n, .string t.s, .slice na t.names.length nc, .slice la t.l.length lc] g depth
  have d4 := (few3_b4 w #[.int .i64 t.op, .int .i64 t.n, .string t.s, .slice na t.names.length nc, .slice la t.l.length lc] g depth).cell 0 _ rfl
  have hcw : Cell1 g left _ := hc.below hbw
  have dg := Blk.cell hcw 0 _ rfl
  have fg := Blk.thaw hcw 0
  have hce := cell1_setw (x := left - 1) hcw
  have hfe := fr_set (g := g) (.int .i64 (left - 1)) 0 hbw
  have b3 := (few3_b3 w #[.int .i64 t.op, .int .i64 t.n, .string t.s, .slice na t.names.length nc, .slice la t.l.length lc] g depth).other ⟨g, 0, none⟩ (.int .i64 (left - 1)) (by show w.heap.size ≠ g; omega)
  have b4 := (few3_b4 w #[.int .i64 t.op, .int .i64 t.n, .string t.s, .slice na t.names.length nc, .slice la t.l.length lc] g depth).other ⟨g, 0, none⟩ (.int .i64 (left - 1)) (by show w.heap.size + 1 ≠ g; omega)
  have b5 := (few3_b5 w #[.int .i64 t.op, .int .i64 t.n, .string t.s, .slice na t.names.length nc, .slice la t.l.length lc] g depth).other ⟨g, 0, none⟩ (.int .i64 (left - 1)) (by show w.heap.size + 1 + 1 ≠ g; omega)
  have HEND := Lib.hid (And.intro hce hfe)
  have hsame := hfe.same (P := P) hP
  have hP2 := hfe.still (P := P) hP
  have HC1 := Lib.hid (longNames_any P _ _ _ (hn.keep hsame))
  have HC2 := Lib.hid (fun (a1 : 0 ≤ left - 1) (a2 : depth ≤ 500) => manyCon_any t.l ih P _ _ g (w.heap.size + 1) (w.heap.size + 1 + 1) (left - 1) depth hce (hl.keep hsame) hP2 a1 (by omega) h2 a2 b4 b5 ⟨by omega, by omega⟩)
  have e2 := b3.cell 2 _ rfl
  have e3 := b3.cell 3 _ rfl
  have e4 := b3.cell 4 _ rfl
  have k4 := b4.cell 0 _ rfl
  have k5 := b5.cell 0 _ rfl
  unfold few3 at HEND HC1 HC2 e2 e3 e4 k4 k5 dg fg d4
  clear b3 b4 b5 hbw hcw hce hfe hsame hP2 hn hl hP hc ih
  generalize t.names.length = sn at *
  generalize hnl : t.l.length = n at *
  generalize t.op = xo at *
  generalize t.n = xn at *
  generalize t.s = xs at *
  by_cases c1 : left < 1
  · go_enter Try.func27, Try.ntmps27
    go_wp2
    go_ret
    exact few_no HEND.out h0
  by_cases c2 : 500 < depth
  · go_enter Try.func27, Try.ntmps27
    go_wp2
    go_ret
    exact few_no HEND.out h0
  by_cases c3 : 30 < sn
  · have q3 : decide ((30 : Int) < (sn : Int)) = true := by simp; omega
    go_enter Try.func27, Try.ntmps27
    go_wp2
    go_ret
    exact few_no HEND.out h0
  have q3 : decide ((30 : Int) < (sn : Int)) = false := by simp; omega
  by_cases c4 : 16484 < xs.size
  · have q4 : decide ((500 : Int) < (xs.size : Int)) = true := by simp; omega
    have q5 : decide ((xs.size : Int) ≤ 16384) = false := by simp; omega
    have q6 : decide ((16484 : Int) < (xs.size : Int)) = true := by simp; omega
    go_enter Try.func27, Try.ntmps27
    go_wp2
    go_ret
    exact few_no HEND.out h0
  have q6 : decide ((16484 : Int) < (xs.size : Int)) = false := by simp; omega
  by_cases c5 : 500 < xs.size ∧ xs.size ≤ 16384
  · have q4 : decide ((500 : Int) < (xs.size : Int)) = true := by simp; omega
    have q5 : decide ((xs.size : Int) ≤ 16384) = true := by simp; omega
    go_enter Try.func27, Try.ntmps27
    go_wp2
    go_ret
    exact few_no HEND.out h0
  have HC2' := Lib.hid (HC2.out (by omega) (by omega))
  clear HC2
  by_cases c6 : 500 < xs.size
  · have q4 : decide ((500 : Int) < (xs.size : Int)) = true := by simp; omega
    have q5 : decide ((xs.size : Int) ≤ 16384) = false := by simp; omega
    go_enter Try.func27, Try.ntmps27
    go_wp2_with fail
    refine HC1.out.mono ?_
    rintro e w2 ⟨r, rfl, rfl⟩
    cases r
    · go_wp2_with fail
      refine HC2'.out.mono ?_
      rintro e w2 ⟨r, rfl, left', hr1, hr2, hr3, hr4, hr5⟩
      have HR1 := Lib.hid hr1
      have HR2 := Lib.hid (HEND.out.2.trans hr2)
      have HR5 := Lib.hid hr5
      clear hr1 hr2 hr5
      go_wp2
      go_ret
      refine ⟨r, by simp, left', HR1.out, HR2.out, hr3, by omega, fun h => ?_⟩
      have := HR5.out h
      have := HBG.out
      have := HSQ.out
      omega
    · go_wp2
      go_ret
      exact few_no HEND.out h0
  · have q4 : decide ((500 : Int) < (xs.size : Int)) = false := by simp; omega
    go_enter Try.func27, Try.ntmps27
    go_wp2_with fail
    refine HC1.out.mono ?_
    rintro e w2 ⟨r, rfl, rfl⟩
    cases r
    · go_wp2_with fail
      refine HC2'.out.mono ?_
      rintro e w2 ⟨r, rfl, left', hr1, hr2, hr3, hr4, hr5⟩
      have HR1 := Lib.hid hr1
      have HR2 := Lib.hid (HEND.out.2.trans hr2)
      have HR5 := Lib.hid hr5
      clear hr1 hr2 hr5
      go_wp2
      go_ret
      refine ⟨r, by simp, left', HR1.out, HR2.out, hr3, by omega, fun h => ?_⟩
      have := HR5.out h
      have := HBG.out
      have := HSQ.out
      omega
    · go_wp2
      go_ret
      exact few_no HEND.out h0
end Go.Proofs.Ytkhpihacjhhklaa
