/-
  Walks of layer 3: the reference's Size and Depth.
-/
import Derived.Test.YtkhpihacjhhklaaSo
namespace Go.Proofs.Ytkhpihacjhhklaa
open Go Go.RowKit
open Pl (Syn)

theorem KidsAt.part {w : World} {P : Nat → Prop} {l : List Syn} {b off : Nat} (h : KidsAt w P l b off) (k : Nat) (hk : k < l.length) : ∃ xo xn xs na nn nc la ln lc, l[k].op = xo ∧
    w.cell? ⟨b, off + k * 5, none⟩ = some (.int .i64 xo) ∧ w.cell? ⟨b, off + k * 5 + 1, none⟩ = some (.int .i64 xn) ∧ w.cell? ⟨b, off + k * 5 + 2, none⟩ = some (.string xs) ∧ w.cell? ⟨b, off + k * 5 + 3, none⟩ = some (.slice na nn nc) ∧ w.cell? ⟨b, off + k * 5 + 4, none⟩ = some (.slice la ln lc) ∧
    SynV w P l[k] (.agg #[.int .i64 xo, .int .i64 xn, .string xs, .slice na nn nc, .slice la ln lc]) := by
  obtain ⟨xv, ⟨x0, x1, x2, x3, x4, hxv, a0, a1, a2, a3, a4⟩, hxs⟩ := (kidsAt_iff _ _ _ _ _).1 h k hk
  subst hxv
  obtain ⟨na, nn, nc, la, ln, lc, hxf⟩ := hxs.form
  simp only [Value.agg.injEq, Array.mk.injEq, List.cons.injEq, and_true] at hxf
  obtain ⟨rfl, rfl, rfl, rfl, rfl⟩ := hxf
  exact ⟨_, _, _, na, nn, nc, la, ln, lc, rfl, a0, a1, a2, a3, a4, hxs⟩
theorem SynSl.cases {w : World} {P : Nat → Prop} {v : Value} {l : List Syn} (h : SynSl w P v l) : (l = [] ∧ ∃ a c, v = .slice a 0 c ∧ (a = none → c = 0) ∧ c ≤ maxLen) ∨ (∃ b off n c, v = .slice (some ⟨b, off, none⟩) n c ∧ l.length = n ∧ 0 < n ∧ n ≤ c ∧ c ≤ maxLen ∧ P b ∧ KidsAt w P l b off) := by
  obtain ⟨a, c, rfl, h1, h2, h3, h4⟩ := h
  rcases h4 with h4 | ⟨b, off, rfl, h5, h6⟩
  · subst h4; exact .inl ⟨rfl, a, c, rfl, h3, h2⟩
  · cases l with
    | nil => exact .inl ⟨rfl, _, c, rfl, h3, h2⟩
    | cons x r => exact .inr ⟨b, off, _, c, rfl, rfl, by simp, h1, h2, h5, h6⟩
set_option maxRecDepth 100000 in
set_option maxHeartbeats 4000000 in
theorem rsize_any (P : Nat → Prop) (t : Syn) : ∀ (w : World) (v : Value), (∀ b, P b → b < w.heap.size) → SynV w P t v → t.big ≤ 1073741824 →
    Calls Try.prog 16 #[v] w fun e w' => e = .returned (.int .i64 t.size) ∧ Below w.heap.size w w' := by
  induction t using Syn.ind with
  | h t ih =>
  intro w v hP ht hbig
  have HIH := Lib.hid ih
  clear ih
  have hbg := Pl.big_eq t
  have hlen := Pl.len_big t
  have hsb := Pl.size_big t
  have hsz := Pl.size_eq t
  have hds := Pl.depth_size t
  have HT := Lib.hid ht
  rw [synV_iff] at ht
  obtain ⟨hs, nv, lv, rfl, ⟨sa, sc, rfl, -⟩, hl⟩ := ht
  generalize hsn : t.names.length = sn at *
  have hbl : Pl.bigs t.l < t.big := by omega
  have HEQ := Lib.hid (Pl.size_eq t)
  have hsl : Pl.sizes t.l < t.size := by omega
  have hdl : Pl.depths t.l < t.depth := by have := Pl.depth_eq t; omega
  clear hs hsn hbg hsz
  rcases hl.cases with ⟨hk0, a, c, rfl, -, -⟩ | ⟨b, off, n, c, rfl, hnl, hn0, hnc, hcm, hPb, hka⟩
  · have bx := blk_new w #[.int .i64 t.op, .int .i64 t.n, .string t.s, .slice sa sn sc, .slice a 0 c] 25
    have c4 := bx.cell 4 _ rfl
    have hb1 : Below w.heap.size w (w.alloc (.cells #[.int .i64 t.op, .int .i64 t.n, .string t.s, .slice sa sn sc, .slice a 0 c] 25)) := (Below.refl _ _).alloc (Nat.le_refl _) _
    have HB := Lib.hid hb1
    have HK := Lib.hid hk0
    clear hl hk0 bx hb1
    go_enter Try.func16, Try.ntmps16
    go_wp2_with fail
    go_loopg [3, 4] 1 (fun g m i wr => i = .int .i64 0 ∧ m = .int .i64 1 ∧ wr = w.alloc (.cells #[.int .i64 t.op, .int .i64 t.n, .string t.s, .slice sa sn sc, .slice a 0 c] 25))
    case atStart => exact ⟨rfl, rfl, rfl⟩
    case round =>
      obtain ⟨rfl, rfl, rfl⟩ := hrel
      go_wp2
      go_ret
      exact ⟨by rw [HEQ.out, HK.out, Pl.sizes_nil]; rfl, HB.out⟩
  · have hb1 : Below w.heap.size w (w.alloc (.cells #[.int .i64 t.op, .int .i64 t.n, .string t.s, .slice sa sn sc, .slice (some ⟨b, off, none⟩) n c] 25)) := (Below.refl _ _).alloc (Nat.le_refl _) _
    have bx := blk_new w #[.int .i64 t.op, .int .i64 t.n, .string t.s, .slice sa sn sc, .slice (some ⟨b, off, none⟩) n c] 25
    have HBX := Lib.hid bx
    have HB := Lib.hid hb1
    have HNL := Lib.hid hnl
    have HKA := Lib.hid hka
    have HP := Lib.hid hP
    have HPB := Lib.hid hPb
    have HCM := Lib.hid hcm
    have c4 := bx.cell 4 _ rfl
    clear hl bx hb1 hnl hka hP hPb
    go_enter Try.func16, Try.ntmps16
    go_wp2_with fail
    go_loopg [3, 4] (n + 1) (fun g m i wr => ∃ k : Nat, k ≤ n ∧ i = .int .i64 k ∧ m = .int .i64 (1 + (Pl.sizes (t.l.take k) : Nat)) ∧ g = n + 1 - k ∧ Below (w.heap.size + 1) (w.alloc (.cells #[.int .i64 t.op, .int .i64 t.n, .string t.s, .slice sa sn sc, .slice (some ⟨b, off, none⟩) n c] 25)) wr)
    case atStart => exact ⟨0, by omega, rfl, by rw [List.take_zero, Pl.sizes_nil]; rfl, by omega, Below.refl _ _⟩
    case round =>
      obtain ⟨k, hk, rfl, rfl, hg, hbw⟩ := hrel
      have hbx := HBX.out.of_eq (hbw.block _ (by omega))
      have d4 := hbx.cell 4 _ rfl
      have hts := Pl.take_sizes t.l k
      have htd := Pl.take_depths t.l k
      have HBW := Lib.hid hbw
      have hw0 : Below w.heap.size w wr := HB.out.trans (hbw.mono (by omega))
      have HW0 := Lib.hid hw0
      by_cases hlt : k < n
      · have hkl : k < t.l.length := by rw [HNL.out]; exact hlt
        have hmem : t.l[k] ∈ t.l := List.getElem_mem hkl
        have hms := Pl.mem_size hmem
        have hmb := Pl.mem_big hmem
        have hxd := Pl.depth_size t.l[k]
        have hsn := Pl.sizes_snoc t.l k hkl
        have hts1 := Pl.take_sizes t.l (k + 1)
        obtain ⟨xo, xn, xs, na, nn, nc, la, ln, lc, -, a0, a1, a2, a3, a4, hxs⟩ := (HKA.out.keep (Same.of_below hw0 HP.out) HPB.out).part k hkl
        have HC := Lib.hid (HIH.out _ hmem wr _ (fun b hb => Nat.lt_of_lt_of_le (HP.out b hb) hw0.size) hxs (by omega))
        have HSN := Lib.hid (Pl.sizes_snoc t.l k hkl)
        have HWS := Lib.hid (show w.heap.size + 1 ≤ wr.heap.size from by have := hbw.size; rw [size_alloc] at this; exact this)
        rw [hsn] at hts1
        skip
        generalize Pl.sizes (t.l.take k) = m at *
        generalize t.l[k].size = mx at *
        clear hbx hbw hw0 hmem hms hmb hxs hsn htd hts
        go_wp2_with fail
        refine HC.out.mono ?_
        rintro e w3 ⟨rfl, hb3⟩
        have hbx3 : Blk w3 w.heap.size 25 #[.int .i64 t.op, .int .i64 t.n, .string t.s, .slice sa sn sc, .slice (some ⟨b, off, none⟩) n c] := (HBX.out.of_eq (HBW.out.block _ (by omega))).of_eq (hb3.block _ (by have := HWS.out; omega))
        have HB3 := Lib.hid (HBW.out.trans (hb3.mono HWS.out))
        clear hb3 hbx3 a0 a1 a2 a3 a4 d4
        go_wp2
        go_roundg (gk - 1)
        case measure => omega
        case rel => exact ⟨k + 1, by omega, by go_num, by rw [HSN.out]; go_num, by omega, HB3.out⟩
      · have hkn : t.l.take k = t.l := List.take_of_length_le (by rw [HNL.out]; omega)
        rw [hkn] at hts htd ⊢
        have HEK := Lib.hid hkn
        generalize hpl : Pl.sizes t.l = m at *
        have HPL := Lib.hid hpl
        clear hbx hbw hw0 hkn hpl
        go_wp2
        go_ret
        exact ⟨by have := HEQ.out; rw [this]; first | rfl | (congr 2; omega), HW0.out⟩
set_option maxRecDepth 100000 in
set_option maxHeartbeats 4000000 in
theorem rdepth_any (P : Nat → Prop) (t : Syn) : ∀ (w : World) (v : Value), (∀ b, P b → b < w.heap.size) → SynV w P t v → t.big ≤ 1073741824 →
    Calls Try.prog 18 #[v] w fun e w' => e = .returned (.int .i64 t.depth) ∧ Below w.heap.size w w' := by
  induction t using Syn.ind with
  | h t ih =>
  intro w v hP ht hbig
  have HIH := Lib.hid ih
  clear ih
  have hbg := Pl.big_eq t
  have hlen := Pl.len_big t
  have hsb := Pl.size_big t
  have hsz := Pl.size_eq t
  have hds := Pl.depth_size t
  have HT := Lib.hid ht
  rw [synV_iff] at ht
  obtain ⟨hs, nv, lv, rfl, ⟨sa, sc, rfl, -⟩, hl⟩ := ht
  generalize hsn : t.names.length = sn at *
  have hbl : Pl.bigs t.l < t.big := by omega
  have HEQ := Lib.hid (Pl.depth_eq t)
  have hsl : Pl.sizes t.l < t.size := by omega
  have hdl : Pl.depths t.l < t.depth := by have := Pl.depth_eq t; omega
  clear hs hsn hbg hsz
  rcases hl.cases with ⟨hk0, a, c, rfl, -, -⟩ | ⟨b, off, n, c, rfl, hnl, hn0, hnc, hcm, hPb, hka⟩
  · have bx := blk_new w #[.int .i64 t.op, .int .i64 t.n, .string t.s, .slice sa sn sc, .slice a 0 c] 25
    have c4 := bx.cell 4 _ rfl
    have hb1 : Below w.heap.size w (w.alloc (.cells #[.int .i64 t.op, .int .i64 t.n, .string t.s, .slice sa sn sc, .slice a 0 c] 25)) := (Below.refl _ _).alloc (Nat.le_refl _) _
    have HB := Lib.hid hb1
    have HK := Lib.hid hk0
    clear hl hk0 bx hb1
    go_enter Try.func18, Try.ntmps18
    go_wp2_with fail
    go_loopg [3, 4] 1 (fun g m i wr => i = .int .i64 0 ∧ m = .int .i64 0 ∧ wr = w.alloc (.cells #[.int .i64 t.op, .int .i64 t.n, .string t.s, .slice sa sn sc, .slice a 0 c] 25))
    case atStart => exact ⟨rfl, rfl, rfl⟩
    case round =>
      obtain ⟨rfl, rfl, rfl⟩ := hrel
      go_wp2
      go_ret
      exact ⟨by rw [HEQ.out, HK.out, Pl.depths_nil]; rfl, HB.out⟩
  · have hb1 : Below w.heap.size w (w.alloc (.cells #[.int .i64 t.op, .int .i64 t.n, .string t.s, .slice sa sn sc, .slice (some ⟨b, off, none⟩) n c] 25)) := (Below.refl _ _).alloc (Nat.le_refl _) _
    have bx := blk_new w #[.int .i64 t.op, .int .i64 t.n, .string t.s, .slice sa sn sc, .slice (some ⟨b, off, none⟩) n c] 25
    have HBX := Lib.hid bx
    have HB := Lib.hid hb1
    have HNL := Lib.hid hnl
    have HKA := Lib.hid hka
    have HP := Lib.hid hP
    have HPB := Lib.hid hPb
    have HCM := Lib.hid hcm
    have c4 := bx.cell 4 _ rfl
    clear hl bx hb1 hnl hka hP hPb
    go_enter Try.func18, Try.ntmps18
    go_wp2_with fail
    go_loopg [3, 4] (n + 1) (fun g m i wr => ∃ k : Nat, k ≤ n ∧ i = .int .i64 k ∧ m = .int .i64 ((Pl.depths (t.l.take k) : Nat)) ∧ g = n + 1 - k ∧ Below (w.heap.size + 1) (w.alloc (.cells #[.int .i64 t.op, .int .i64 t.n, .string t.s, .slice sa sn sc, .slice (some ⟨b, off, none⟩) n c] 25)) wr)
    case atStart => exact ⟨0, by omega, rfl, by rw [List.take_zero, Pl.depths_nil]; rfl, by omega, Below.refl _ _⟩
    case round =>
      obtain ⟨k, hk, rfl, rfl, hg, hbw⟩ := hrel
      have hbx := HBX.out.of_eq (hbw.block _ (by omega))
      have d4 := hbx.cell 4 _ rfl
      have hts := Pl.take_sizes t.l k
      have htd := Pl.take_depths t.l k
      have HBW := Lib.hid hbw
      have hw0 : Below w.heap.size w wr := HB.out.trans (hbw.mono (by omega))
      have HW0 := Lib.hid hw0
      by_cases hlt : k < n
      · have hkl : k < t.l.length := by rw [HNL.out]; exact hlt
        have hmem : t.l[k] ∈ t.l := List.getElem_mem hkl
        have hms := Pl.mem_size hmem
        have hmb := Pl.mem_big hmem
        have hxd := Pl.depth_size t.l[k]
        have hsn := Pl.sizes_snoc t.l k hkl
        have hts1 := Pl.take_sizes t.l (k + 1)
        obtain ⟨xo, xn, xs, na, nn, nc, la, ln, lc, -, a0, a1, a2, a3, a4, hxs⟩ := (HKA.out.keep (Same.of_below hw0 HP.out) HPB.out).part k hkl
        have HC := Lib.hid (HIH.out _ hmem wr _ (fun b hb => Nat.lt_of_lt_of_le (HP.out b hb) hw0.size) hxs (by omega))
        have HSN := Lib.hid (Pl.depths_snoc t.l k hkl)
        have HWS := Lib.hid (show w.heap.size + 1 ≤ wr.heap.size from by have := hbw.size; rw [size_alloc] at this; exact this)
        rw [hsn] at hts1
        have hdd := Nat.le_trans hxd hms
        generalize Pl.depths (t.l.take k) = m at *
        generalize t.l[k].depth = mx at *
        clear hbx hbw hw0 hmem hms hmb hxs hsn htd hts
        go_wp2_with fail
        refine HC.out.mono ?_
        rintro e w3 ⟨rfl, hb3⟩
        have hbx3 : Blk w3 w.heap.size 25 #[.int .i64 t.op, .int .i64 t.n, .string t.s, .slice sa sn sc, .slice (some ⟨b, off, none⟩) n c] := (HBX.out.of_eq (HBW.out.block _ (by omega))).of_eq (hb3.block _ (by have := HWS.out; omega))
        have HB3 := Lib.hid (HBW.out.trans (hb3.mono HWS.out))
        clear hb3 hbx3 a0 a1 a2 a3 a4 d4
        go_wp2
        all_goals
          go_roundg (gk - 1)
          case measure => omega
          case rel => exact ⟨k + 1, by omega, by go_num, by rw [HSN.out]; congr 1; omega, by omega, HB3.out⟩
      · have hkn : t.l.take k = t.l := List.take_of_length_le (by rw [HNL.out]; omega)
        rw [hkn] at hts htd ⊢
        have HEK := Lib.hid hkn
        generalize hpl : Pl.depths t.l = m at *
        have HPL := Lib.hid hpl
        clear hbx hbw hw0 hkn hpl
        go_wp2
        go_ret
        exact ⟨by have := HEQ.out; rw [this]; first | rfl | (congr 2; omega), HW0.out⟩
end Go.Proofs.Ytkhpihacjhhklaa
