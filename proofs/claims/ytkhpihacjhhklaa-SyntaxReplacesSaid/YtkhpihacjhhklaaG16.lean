/-
  Walks and plain mathematics, several texts in one (Xu Xv Xw).
-/
import Derived.Test.YtkhpihacjhhklaaG11
import Derived.Test.YtkhpihacjhhklaaG12
import Derived.Test.YtkhpihacjhhklaaG14
import Derived.Test.YtkhpihacjhhklaaG15
import Derived.StillTailTactics
import Derived.Test.YtkhpihacjhhklaaG9
/-
  Walks of layer 3: the reference's forms of all kinds.
-/
namespace Go.Proofs.Ytkhpihacjhhklaa
open Go Go.RowKit
open Pl (Syn)
set_option linter.unusedSimpArgs false

set_option maxRecDepth 100000 in
set_option maxHeartbeats 4000000 in
theorem rform_c1 (P : Nat → Prop) (op : Int) (nn : Int) (ss : ByteArray) (mm : List ByteArray) (ll : List Syn) (anon : Bool) (w : World) (v : Value) (hP : ∀ b, P b → b < w.heap.size) (ht : SynV w P ⟨op, nn, ss, mm, ll⟩ v) (hc : Pl.cat op = 1) (h43 : op ≠ 43) (h30 : op ≠ 30) (h45 : op ≠ 45) :
    Calls Try.prog 66 #[v, .bool anon] w fun e w' => e = .returned (.bool (Pl.typeF ⟨op, nn, ss, mm, ll⟩)) ∧ Below w.heap.size w w' := by
  have HT := Lib.hid ht
  rw [synV_iff] at ht
  obtain ⟨hs, nv, lv, rfl, hn, hl⟩ := ht
  obtain ⟨na, nc, rfl, hnm⟩ := hn.form
  obtain ⟨la, lc, rfl, hlmm⟩ := hl.form
  dsimp only at hnm hlmm
  have hb0 : Below w.heap.size w (w.alloc (.cells #[.int .i64 op, .int .i64 nn, .string ss, .slice na mm.length nc, .slice la ll.length lc] 25)) := (Below.refl _ _).alloc (Nat.le_refl _) _
  have bx := blk_new w #[.int .i64 op, .int .i64 nn, .string ss, .slice na mm.length nc, .slice la ll.length lc] 25
  have HB0 := Lib.hid hb0
  obtain ⟨y0, y1, y2, y3, y4⟩ := box_cells bx
  have hcat := hc
  have q43 : (op == 43) = false := beq_eq_false_iff_ne.2 h43
  have q30 : (op == 30) = false := beq_eq_false_iff_ne.2 h30
  have q45 : (op == 45) = false := beq_eq_false_iff_ne.2 h45
  have HC := Lib.hid (fun W => rcategory_any op W)
  rw [hcat] at HC
  have HF := Lib.hid (fun W (h : Below w.heap.size w W) => rtypeF_any P ⟨op, nn, ss, mm, ll⟩ W _ (fun b hb => Nat.lt_of_lt_of_le (hP b hb) h.size) (HT.out.keep (Same.of_below h hP)) hcat)
  clear hc h43 h30 h45 hcat
  clear hs hn hl bx hP HT
  go_enter Try.func66, Try.ntmps66
  go_wp2_with (first
    | (go_at_call 14; refine (HC.out _).mono ?_; rintro e wn ⟨rfl, rfl⟩)
    | (go_at_call 80; refine (HF.out _ (by assumption)).mono ?_; rintro e wn ⟨rfl, hbn⟩; have hbn2 := belowStep hbn HB0.out))
  all_goals
    go_ret
    exact ⟨rfl, (by assumption)⟩
set_option maxRecDepth 100000 in
set_option maxHeartbeats 4000000 in
theorem rform_c2 (P : Nat → Prop) (op : Int) (nn : Int) (ss : ByteArray) (mm : List ByteArray) (ll : List Syn) (anon : Bool) (w : World) (v : Value) (hP : ∀ b, P b → b < w.heap.size) (ht : SynV w P ⟨op, nn, ss, mm, ll⟩ v) (hc : Pl.cat op = 2) (h43 : op ≠ 43) (h30 : op ≠ 30) (h45 : op ≠ 45) :
    Calls Try.prog 66 #[v, .bool anon] w fun e w' => e = .returned (.bool (Pl.patF ⟨op, nn, ss, mm, ll⟩)) ∧ Below w.heap.size w w' := by
  have HT := Lib.hid ht
  rw [synV_iff] at ht
  obtain ⟨hs, nv, lv, rfl, hn, hl⟩ := ht
  obtain ⟨na, nc, rfl, hnm⟩ := hn.form
  obtain ⟨la, lc, rfl, hlmm⟩ := hl.form
  dsimp only at hnm hlmm
  have hb0 : Below w.heap.size w (w.alloc (.cells #[.int .i64 op, .int .i64 nn, .string ss, .slice na mm.length nc, .slice la ll.length lc] 25)) := (Below.refl _ _).alloc (Nat.le_refl _) _
  have bx := blk_new w #[.int .i64 op, .int .i64 nn, .string ss, .slice na mm.length nc, .slice la ll.length lc] 25
  have HB0 := Lib.hid hb0
  obtain ⟨y0, y1, y2, y3, y4⟩ := box_cells bx
  have hcat := hc
  have q43 : (op == 43) = false := beq_eq_false_iff_ne.2 h43
  have q30 : (op == 30) = false := beq_eq_false_iff_ne.2 h30
  have q45 : (op == 45) = false := beq_eq_false_iff_ne.2 h45
  have HC := Lib.hid (fun W => rcategory_any op W)
  rw [hcat] at HC
  have HF := Lib.hid (fun W (h : Below w.heap.size w W) => rpatF_any P ⟨op, nn, ss, mm, ll⟩ W _ (fun b hb => Nat.lt_of_lt_of_le (hP b hb) h.size) (HT.out.keep (Same.of_below h hP)) hcat)
  clear hc h43 h30 h45 hcat
  clear hs hn hl bx hP HT
  go_enter Try.func66, Try.ntmps66
  go_wp2_with (first
    | (go_at_call 14; refine (HC.out _).mono ?_; rintro e wn ⟨rfl, rfl⟩)
    | (go_at_call 81; refine (HF.out _ (by assumption)).mono ?_; rintro e wn ⟨rfl, hbn⟩; have hbn2 := belowStep hbn HB0.out))
  all_goals
    go_ret
    exact ⟨rfl, (by assumption)⟩
set_option maxRecDepth 100000 in
set_option maxHeartbeats 4000000 in
theorem rform_c3 (P : Nat → Prop) (op : Int) (nn : Int) (ss : ByteArray) (mm : List ByteArray) (ll : List Syn) (anon : Bool) (w : World) (v : Value) (hP : ∀ b, P b → b < w.heap.size) (ht : SynV w P ⟨op, nn, ss, mm, ll⟩ v) (hc : Pl.cat op = 3) (h43 : op ≠ 43) (h30 : op ≠ 30) (h45 : op ≠ 45) :
    Calls Try.prog 66 #[v, .bool anon] w fun e w' => e = .returned (.bool (Pl.exprF ⟨op, nn, ss, mm, ll⟩)) ∧ Below w.heap.size w w' := by
  have HT := Lib.hid ht
  rw [synV_iff] at ht
  obtain ⟨hs, nv, lv, rfl, hn, hl⟩ := ht
  obtain ⟨na, nc, rfl, hnm⟩ := hn.form
  obtain ⟨la, lc, rfl, hlmm⟩ := hl.form
  dsimp only at hnm hlmm
  have hb0 : Below w.heap.size w (w.alloc (.cells #[.int .i64 op, .int .i64 nn, .string ss, .slice na mm.length nc, .slice la ll.length lc] 25)) := (Below.refl _ _).alloc (Nat.le_refl _) _
  have bx := blk_new w #[.int .i64 op, .int .i64 nn, .string ss, .slice na mm.length nc, .slice la ll.length lc] 25
  have HB0 := Lib.hid hb0
  obtain ⟨y0, y1, y2, y3, y4⟩ := box_cells bx
  have hcat := hc
  have q43 : (op == 43) = false := beq_eq_false_iff_ne.2 h43
  have q30 : (op == 30) = false := beq_eq_false_iff_ne.2 h30
  have q45 : (op == 45) = false := beq_eq_false_iff_ne.2 h45
  have HC := Lib.hid (fun W => rcategory_any op W)
  rw [hcat] at HC
  have HF := Lib.hid (fun W (h : Below w.heap.size w W) => rexprF_any P ⟨op, nn, ss, mm, ll⟩ W _ (fun b hb => Nat.lt_of_lt_of_le (hP b hb) h.size) (HT.out.keep (Same.of_below h hP)) (.inl hcat))
  clear hc h43 h30 h45 hcat
  clear hs hn hl bx hP HT
  go_enter Try.func66, Try.ntmps66
  go_wp2_with (first
    | (go_at_call 14; refine (HC.out _).mono ?_; rintro e wn ⟨rfl, rfl⟩)
    | (go_at_call 82; refine (HF.out _ (by assumption)).mono ?_; rintro e wn ⟨rfl, hbn⟩; have hbn2 := belowStep hbn HB0.out))
  all_goals
    go_ret
    exact ⟨rfl, (by assumption)⟩
set_option maxRecDepth 100000 in
set_option maxHeartbeats 4000000 in
theorem rform_c4 (P : Nat → Prop) (op : Int) (nn : Int) (ss : ByteArray) (mm : List ByteArray) (ll : List Syn) (anon : Bool) (w : World) (v : Value) (hP : ∀ b, P b → b < w.heap.size) (ht : SynV w P ⟨op, nn, ss, mm, ll⟩ v) (hc : Pl.cat op = 4) (h43 : op ≠ 43) (h30 : op ≠ 30) (h45 : op ≠ 45) :
    Calls Try.prog 66 #[v, .bool anon] w fun e w' => e = .returned (.bool (Pl.declF ⟨op, nn, ss, mm, ll⟩)) ∧ Below w.heap.size w w' := by
  have HT := Lib.hid ht
  rw [synV_iff] at ht
  obtain ⟨hs, nv, lv, rfl, hn, hl⟩ := ht
  obtain ⟨na, nc, rfl, hnm⟩ := hn.form
  obtain ⟨la, lc, rfl, hlmm⟩ := hl.form
  dsimp only at hnm hlmm
  have hb0 : Below w.heap.size w (w.alloc (.cells #[.int .i64 op, .int .i64 nn, .string ss, .slice na mm.length nc, .slice la ll.length lc] 25)) := (Below.refl _ _).alloc (Nat.le_refl _) _
  have bx := blk_new w #[.int .i64 op, .int .i64 nn, .string ss, .slice na mm.length nc, .slice la ll.length lc] 25
  have HB0 := Lib.hid hb0
  obtain ⟨y0, y1, y2, y3, y4⟩ := box_cells bx
  have hcat := hc
  have q43 : (op == 43) = false := beq_eq_false_iff_ne.2 h43
  have q30 : (op == 30) = false := beq_eq_false_iff_ne.2 h30
  have q45 : (op == 45) = false := beq_eq_false_iff_ne.2 h45
  have HC := Lib.hid (fun W => rcategory_any op W)
  rw [hcat] at HC
  have HF := Lib.hid (fun W (h : Below w.heap.size w W) => rdeclF_any P ⟨op, nn, ss, mm, ll⟩ W _ (fun b hb => Nat.lt_of_lt_of_le (hP b hb) h.size) (HT.out.keep (Same.of_below h hP)) (.inl hcat))
  clear hc h43 h30 h45 hcat
  clear hs hn hl bx hP HT
  go_enter Try.func66, Try.ntmps66
  go_wp2_with (first
    | (go_at_call 14; refine (HC.out _).mono ?_; rintro e wn ⟨rfl, rfl⟩)
    | (go_at_call 83; refine (HF.out _ (by assumption)).mono ?_; rintro e wn ⟨rfl, hbn⟩; have hbn2 := belowStep hbn HB0.out))
  all_goals
    go_ret
    exact ⟨rfl, (by assumption)⟩
set_option maxRecDepth 100000 in
set_option maxHeartbeats 4000000 in
theorem rform_c5 (P : Nat → Prop) (op : Int) (nn : Int) (ss : ByteArray) (mm : List ByteArray) (ll : List Syn) (anon : Bool) (w : World) (v : Value) (hP : ∀ b, P b → b < w.heap.size) (ht : SynV w P ⟨op, nn, ss, mm, ll⟩ v) (hc : Pl.cat op = 5) (h43 : op ≠ 43) (h30 : op ≠ 30) (h45 : op ≠ 45) :
    Calls Try.prog 66 #[v, .bool anon] w fun e w' => e = .returned (.bool (Pl.specF ⟨op, nn, ss, mm, ll⟩)) ∧ Below w.heap.size w w' := by
  have HT := Lib.hid ht
  rw [synV_iff] at ht
  obtain ⟨hs, nv, lv, rfl, hn, hl⟩ := ht
  obtain ⟨na, nc, rfl, hnm⟩ := hn.form
  obtain ⟨la, lc, rfl, hlmm⟩ := hl.form
  dsimp only at hnm hlmm
  have hb0 : Below w.heap.size w (w.alloc (.cells #[.int .i64 op, .int .i64 nn, .string ss, .slice na mm.length nc, .slice la ll.length lc] 25)) := (Below.refl _ _).alloc (Nat.le_refl _) _
  have bx := blk_new w #[.int .i64 op, .int .i64 nn, .string ss, .slice na mm.length nc, .slice la ll.length lc] 25
  have HB0 := Lib.hid hb0
  obtain ⟨y0, y1, y2, y3, y4⟩ := box_cells bx
  have hcat := hc
  have q43 : (op == 43) = false := beq_eq_false_iff_ne.2 h43
  have q30 : (op == 30) = false := beq_eq_false_iff_ne.2 h30
  have q45 : (op == 45) = false := beq_eq_false_iff_ne.2 h45
  have HC := Lib.hid (fun W => rcategory_any op W)
  rw [hcat] at HC
  have HF := Lib.hid (fun W (h : Below w.heap.size w W) => rspecF_any P ⟨op, nn, ss, mm, ll⟩ W _ (fun b hb => Nat.lt_of_lt_of_le (hP b hb) h.size) (HT.out.keep (Same.of_below h hP)) (.inl hcat))
  clear hc h43 h30 h45 hcat
  clear hs hn hl bx hP HT
  go_enter Try.func66, Try.ntmps66
  go_wp2_with (first
    | (go_at_call 14; refine (HC.out _).mono ?_; rintro e wn ⟨rfl, rfl⟩)
    | (go_at_call 84; refine (HF.out _ (by assumption)).mono ?_; rintro e wn ⟨rfl, hbn⟩; have hbn2 := belowStep hbn HB0.out))
  all_goals
    go_ret
    exact ⟨rfl, (by assumption)⟩
set_option maxRecDepth 100000 in
set_option maxHeartbeats 4000000 in
theorem rform_c6 (P : Nat → Prop) (op : Int) (nn : Int) (ss : ByteArray) (mm : List ByteArray) (ll : List Syn) (anon : Bool) (w : World) (v : Value) (hP : ∀ b, P b → b < w.heap.size) (ht : SynV w P ⟨op, nn, ss, mm, ll⟩ v) (hc : Pl.cat op = 6) (h43 : op ≠ 43) (h30 : op ≠ 30) (h45 : op ≠ 45) :
    Calls Try.prog 66 #[v, .bool anon] w fun e w' => e = .returned (.bool (Pl.specF ⟨op, nn, ss, mm, ll⟩)) ∧ Below w.heap.size w w' := by
  have HT := Lib.hid ht
  rw [synV_iff] at ht
  obtain ⟨hs, nv, lv, rfl, hn, hl⟩ := ht
  obtain ⟨na, nc, rfl, hnm⟩ := hn.form
  obtain ⟨la, lc, rfl, hlmm⟩ := hl.form
  dsimp only at hnm hlmm
  have hb0 : Below w.heap.size w (w.alloc (.cells #[.int .i64 op, .int .i64 nn, .string ss, .slice na mm.length nc, .slice la ll.length lc] 25)) := (Below.refl _ _).alloc (Nat.le_refl _) _
  have bx := blk_new w #[.int .i64 op, .int .i64 nn, .string ss, .slice na mm.length nc, .slice la ll.length lc] 25
  have HB0 := Lib.hid hb0
  obtain ⟨y0, y1, y2, y3, y4⟩ := box_cells bx
  have hcat := hc
  have q43 : (op == 43) = false := beq_eq_false_iff_ne.2 h43
  have q30 : (op == 30) = false := beq_eq_false_iff_ne.2 h30
  have q45 : (op == 45) = false := beq_eq_false_iff_ne.2 h45
  have HC := Lib.hid (fun W => rcategory_any op W)
  rw [hcat] at HC
  have HF := Lib.hid (fun W (h : Below w.heap.size w W) => rspecF_any P ⟨op, nn, ss, mm, ll⟩ W _ (fun b hb => Nat.lt_of_lt_of_le (hP b hb) h.size) (HT.out.keep (Same.of_below h hP)) (.inr hcat))
  clear hc h43 h30 h45 hcat
  clear hs hn hl bx hP HT
  go_enter Try.func66, Try.ntmps66
  go_wp2_with (first
    | (go_at_call 14; refine (HC.out _).mono ?_; rintro e wn ⟨rfl, rfl⟩)
    | (go_at_call 84; refine (HF.out _ (by assumption)).mono ?_; rintro e wn ⟨rfl, hbn⟩; have hbn2 := belowStep hbn HB0.out))
  all_goals
    go_ret
    exact ⟨rfl, (by assumption)⟩
set_option maxRecDepth 100000 in
set_option maxHeartbeats 4000000 in
theorem rform_c7 (P : Nat → Prop) (op : Int) (nn : Int) (ss : ByteArray) (mm : List ByteArray) (ll : List Syn) (anon : Bool) (w : World) (v : Value) (hP : ∀ b, P b → b < w.heap.size) (ht : SynV w P ⟨op, nn, ss, mm, ll⟩ v) (hc : Pl.cat op = 7) (h43 : op ≠ 43) (h30 : op ≠ 30) (h45 : op ≠ 45) :
    Calls Try.prog 66 #[v, .bool anon] w fun e w' => e = .returned (.bool (Pl.modF ⟨op, nn, ss, mm, ll⟩)) ∧ Below w.heap.size w w' := by
  have HT := Lib.hid ht
  rw [synV_iff] at ht
  obtain ⟨hs, nv, lv, rfl, hn, hl⟩ := ht
  obtain ⟨na, nc, rfl, hnm⟩ := hn.form
  obtain ⟨la, lc, rfl, hlmm⟩ := hl.form
  dsimp only at hnm hlmm
  have hb0 : Below w.heap.size w (w.alloc (.cells #[.int .i64 op, .int .i64 nn, .string ss, .slice na mm.length nc, .slice la ll.length lc] 25)) := (Below.refl _ _).alloc (Nat.le_refl _) _
  have bx := blk_new w #[.int .i64 op, .int .i64 nn, .string ss, .slice na mm.length nc, .slice la ll.length lc] 25
  have HB0 := Lib.hid hb0
  obtain ⟨y0, y1, y2, y3, y4⟩ := box_cells bx
  have hcat := hc
  have q43 : (op == 43) = false := beq_eq_false_iff_ne.2 h43
  have q30 : (op == 30) = false := beq_eq_false_iff_ne.2 h30
  have q45 : (op == 45) = false := beq_eq_false_iff_ne.2 h45
  have HC := Lib.hid (fun W => rcategory_any op W)
  rw [hcat] at HC
  have HF := Lib.hid (fun W (h : Below w.heap.size w W) => rmodF_any P ⟨op, nn, ss, mm, ll⟩ W _ (fun b hb => Nat.lt_of_lt_of_le (hP b hb) h.size) (HT.out.keep (Same.of_below h hP)) hcat)
  clear hc h43 h30 h45 hcat
  clear hs hn hl bx hP HT
  go_enter Try.func66, Try.ntmps66
  go_wp2_with (first
    | (go_at_call 14; refine (HC.out _).mono ?_; rintro e wn ⟨rfl, rfl⟩)
    | (go_at_call 85; refine (HF.out _ (by assumption)).mono ?_; rintro e wn ⟨rfl, hbn⟩; have hbn2 := belowStep hbn HB0.out))
  all_goals
    go_ret
    exact ⟨rfl, (by assumption)⟩
set_option maxRecDepth 100000 in
set_option maxHeartbeats 4000000 in
theorem rform_c0 (P : Nat → Prop) (op : Int) (nn : Int) (ss : ByteArray) (mm : List ByteArray) (ll : List Syn) (anon : Bool) (w : World) (v : Value) (ht : SynV w P ⟨op, nn, ss, mm, ll⟩ v) (hc : Pl.cat op = 0) (h43 : op ≠ 43) (h30 : op ≠ 30) (h45 : op ≠ 45) :
    Calls Try.prog 66 #[v, .bool anon] w fun e w' => e = .returned (.bool (false)) ∧ Below w.heap.size w w' := by
  have HT := Lib.hid ht
  rw [synV_iff] at ht
  obtain ⟨hs, nv, lv, rfl, hn, hl⟩ := ht
  obtain ⟨na, nc, rfl, hnm⟩ := hn.form
  obtain ⟨la, lc, rfl, hlmm⟩ := hl.form
  dsimp only at hnm hlmm
  have hb0 : Below w.heap.size w (w.alloc (.cells #[.int .i64 op, .int .i64 nn, .string ss, .slice na mm.length nc, .slice la ll.length lc] 25)) := (Below.refl _ _).alloc (Nat.le_refl _) _
  have bx := blk_new w #[.int .i64 op, .int .i64 nn, .string ss, .slice na mm.length nc, .slice la ll.length lc] 25
  have HB0 := Lib.hid hb0
  obtain ⟨y0, y1, y2, y3, y4⟩ := box_cells bx
  have hcat := hc
  have q43 : (op == 43) = false := beq_eq_false_iff_ne.2 h43
  have q30 : (op == 30) = false := beq_eq_false_iff_ne.2 h30
  have q45 : (op == 45) = false := beq_eq_false_iff_ne.2 h45
  have HC := Lib.hid (fun W => rcategory_any op W)
  rw [hcat] at HC
  clear hc h43 h30 h45 hcat
  clear hs hn hl bx HT
  go_enter Try.func66, Try.ntmps66
  go_wp2_with (first
    | (go_at_call 14; refine (HC.out _).mono ?_; rintro e wn ⟨rfl, rfl⟩))
  all_goals
    go_ret
    exact ⟨rfl, (by assumption)⟩
set_option maxRecDepth 100000 in
set_option maxHeartbeats 4000000 in
theorem rform_30 (P : Nat → Prop) (nn : Int) (ss : ByteArray) (mm : List ByteArray) (ll : List Syn) (anon : Bool) (w : World) (v : Value) (hP : ∀ b, P b → b < w.heap.size) (ht : SynV w P ⟨30, nn, ss, mm, ll⟩ v) :
    Calls Try.prog 66 #[v, .bool anon] w fun e w' => e = .returned (.bool (Pl.exprF ⟨30, nn, ss, mm, ll⟩)) ∧ Below w.heap.size w w' := by
  have HT := Lib.hid ht
  rw [synV_iff] at ht
  obtain ⟨hs, nv, lv, rfl, hn, hl⟩ := ht
  obtain ⟨na, nc, rfl, hnm⟩ := hn.form
  obtain ⟨la, lc, rfl, hlmm⟩ := hl.form
  dsimp only at hnm hlmm
  have hb0 : Below w.heap.size w (w.alloc (.cells #[.int .i64 30, .int .i64 nn, .string ss, .slice na mm.length nc, .slice la ll.length lc] 25)) := (Below.refl _ _).alloc (Nat.le_refl _) _
  have bx := blk_new w #[.int .i64 30, .int .i64 nn, .string ss, .slice na mm.length nc, .slice la ll.length lc] 25
  have HB0 := Lib.hid hb0
  obtain ⟨y0, y1, y2, y3, y4⟩ := box_cells bx
  have hcat : Pl.cat 30 = 0 := by decide
  have HC := Lib.hid (fun W => rcategory_any 30 W)
  rw [hcat] at HC
  have HF := Lib.hid (fun W (h : Below w.heap.size w W) => rexprF_any P ⟨30, nn, ss, mm, ll⟩ W _ (fun b hb => Nat.lt_of_lt_of_le (hP b hb) h.size) (HT.out.keep (Same.of_below h hP)) (.inr rfl))
  clear hcat
  clear hs hn hl bx hP HT
  go_enter Try.func66, Try.ntmps66
  go_wp2_with (first
    | (go_at_call 14; refine (HC.out _).mono ?_; rintro e wn ⟨rfl, rfl⟩)
    | (go_at_call 82; refine (HF.out _ (by assumption)).mono ?_; rintro e wn ⟨rfl, hbn⟩; have hbn2 := belowStep hbn HB0.out))
  all_goals
    go_ret
    exact ⟨rfl, (by assumption)⟩
set_option maxRecDepth 100000 in
set_option maxHeartbeats 4000000 in
theorem rform_45 (P : Nat → Prop) (nn : Int) (ss : ByteArray) (mm : List ByteArray) (ll : List Syn) (anon : Bool) (w : World) (v : Value) (hP : ∀ b, P b → b < w.heap.size) (ht : SynV w P ⟨45, nn, ss, mm, ll⟩ v) :
    Calls Try.prog 66 #[v, .bool anon] w fun e w' => e = .returned (.bool (Pl.declF ⟨45, nn, ss, mm, ll⟩)) ∧ Below w.heap.size w w' := by
  have HT := Lib.hid ht
  rw [synV_iff] at ht
  obtain ⟨hs, nv, lv, rfl, hn, hl⟩ := ht
  obtain ⟨na, nc, rfl, hnm⟩ := hn.form
  obtain ⟨la, lc, rfl, hlmm⟩ := hl.form
  dsimp only at hnm hlmm
  have hb0 : Below w.heap.size w (w.alloc (.cells #[.int .i64 45, .int .i64 nn, .string ss, .slice na mm.length nc, .slice la ll.length lc] 25)) := (Below.refl _ _).alloc (Nat.le_refl _) _
  have bx := blk_new w #[.int .i64 45, .int .i64 nn, .string ss, .slice na mm.length nc, .slice la ll.length lc] 25
  have HB0 := Lib.hid hb0
  obtain ⟨y0, y1, y2, y3, y4⟩ := box_cells bx
  have hcat : Pl.cat 45 = 0 := by decide
  have HC := Lib.hid (fun W => rcategory_any 45 W)
  rw [hcat] at HC
  have HF := Lib.hid (fun W (h : Below w.heap.size w W) => rdeclF_any P ⟨45, nn, ss, mm, ll⟩ W _ (fun b hb => Nat.lt_of_lt_of_le (hP b hb) h.size) (HT.out.keep (Same.of_below h hP)) (.inr rfl))
  clear hcat
  clear hs hn hl bx hP HT
  go_enter Try.func66, Try.ntmps66
  go_wp2_with (first
    | (go_at_call 14; refine (HC.out _).mono ?_; rintro e wn ⟨rfl, rfl⟩)
    | (go_at_call 83; refine (HF.out _ (by assumption)).mono ?_; rintro e wn ⟨rfl, hbn⟩; have hbn2 := belowStep hbn HB0.out))
  all_goals
    go_ret
    exact ⟨rfl, (by assumption)⟩
set_option maxRecDepth 100000 in
set_option maxHeartbeats 4000000 in
theorem rform_43_0_false (P : Nat → Prop) (nn : Int) (ss : ByteArray) (mm : List ByteArray) (ll : List Syn) (w : World) (v : Value) (hP : ∀ b, P b → b < w.heap.size) (ht : SynV w P ⟨43, nn, ss, mm, ll⟩ v) (he : ¬ ss.toList = []) :
    Calls Try.prog 66 #[v, .bool false] w fun e w' => e = .returned (.bool (Pl.declF ⟨43, nn, ss, mm, ll⟩)) ∧ Below w.heap.size w w' := by
  have HT := Lib.hid ht
  rw [synV_iff] at ht
  obtain ⟨hs, nv, lv, rfl, hn, hl⟩ := ht
  obtain ⟨na, nc, rfl, hnm⟩ := hn.form
  obtain ⟨la, lc, rfl, hlmm⟩ := hl.form
  dsimp only at hnm hlmm
  have hb0 : Below w.heap.size w (w.alloc (.cells #[.int .i64 43, .int .i64 nn, .string ss, .slice na mm.length nc, .slice la ll.length lc] 25)) := (Below.refl _ _).alloc (Nat.le_refl _) _
  have bx := blk_new w #[.int .i64 43, .int .i64 nn, .string ss, .slice na mm.length nc, .slice la ll.length lc] 25
  have HB0 := Lib.hid hb0
  obtain ⟨y0, y1, y2, y3, y4⟩ := box_cells bx
  have hcat : Pl.cat 43 = 4 := by decide
  have HC := Lib.hid (fun W => rcategory_any 43 W)
  rw [hcat] at HC
  have HF := Lib.hid (fun W (h : Below w.heap.size w W) => rdeclF_any P ⟨43, nn, ss, mm, ll⟩ W _ (fun b hb => Nat.lt_of_lt_of_le (hP b hb) h.size) (HT.out.keep (Same.of_below h hP)) (.inl hcat))
  clear hcat
  clear hs hn hl bx hP HT
  have qe : (ss.toList == []) = false := beq_eq_false_iff_ne.2 he
  go_enter Try.func66, Try.ntmps66
  go_wp2_with (first
    | (go_at_call 14; refine (HC.out _).mono ?_; rintro e wn ⟨rfl, rfl⟩)
    | (go_at_call 83; refine (HF.out _ (by assumption)).mono ?_; rintro e wn ⟨rfl, hbn⟩; have hbn2 := belowStep hbn HB0.out))
  all_goals
    go_ret
    exact ⟨rfl, (by assumption)⟩
set_option maxRecDepth 100000 in
set_option maxHeartbeats 4000000 in
theorem rform_43_0_true (P : Nat → Prop) (nn : Int) (ss : ByteArray) (mm : List ByteArray) (ll : List Syn) (w : World) (v : Value) (ht : SynV w P ⟨43, nn, ss, mm, ll⟩ v) (he : ¬ ss.toList = []) :
    Calls Try.prog 66 #[v, .bool true] w fun e w' => e = .returned (.bool (false)) ∧ Below w.heap.size w w' := by
  have HT := Lib.hid ht
  rw [synV_iff] at ht
  obtain ⟨hs, nv, lv, rfl, hn, hl⟩ := ht
  obtain ⟨na, nc, rfl, hnm⟩ := hn.form
  obtain ⟨la, lc, rfl, hlmm⟩ := hl.form
  dsimp only at hnm hlmm
  have hb0 : Below w.heap.size w (w.alloc (.cells #[.int .i64 43, .int .i64 nn, .string ss, .slice na mm.length nc, .slice la ll.length lc] 25)) := (Below.refl _ _).alloc (Nat.le_refl _) _
  have bx := blk_new w #[.int .i64 43, .int .i64 nn, .string ss, .slice na mm.length nc, .slice la ll.length lc] 25
  have HB0 := Lib.hid hb0
  obtain ⟨y0, y1, y2, y3, y4⟩ := box_cells bx
  have hcat : Pl.cat 43 = 4 := by decide
  have HC := Lib.hid (fun W => rcategory_any 43 W)
  rw [hcat] at HC
  clear hcat
  clear hs hn hl bx HT
  have qe : (ss.toList == []) = false := beq_eq_false_iff_ne.2 he
  go_enter Try.func66, Try.ntmps66
  go_wp2_with (first
    | (go_at_call 14; refine (HC.out _).mono ?_; rintro e wn ⟨rfl, rfl⟩))
  all_goals
    go_ret
    exact ⟨rfl, (by assumption)⟩
set_option maxRecDepth 100000 in
set_option maxHeartbeats 4000000 in
theorem rform_43_1_false (P : Nat → Prop) (nn : Int) (ss : ByteArray) (mm : List ByteArray) (ll : List Syn) (w : World) (v : Value) (ht : SynV w P ⟨43, nn, ss, mm, ll⟩ v) (he : ss.toList = []) :
    Calls Try.prog 66 #[v, .bool false] w fun e w' => e = .returned (.bool (false)) ∧ Below w.heap.size w w' := by
  have HT := Lib.hid ht
  rw [synV_iff] at ht
  obtain ⟨hs, nv, lv, rfl, hn, hl⟩ := ht
  obtain ⟨na, nc, rfl, hnm⟩ := hn.form
  obtain ⟨la, lc, rfl, hlmm⟩ := hl.form
  dsimp only at hnm hlmm
  have hb0 : Below w.heap.size w (w.alloc (.cells #[.int .i64 43, .int .i64 nn, .string ss, .slice na mm.length nc, .slice la ll.length lc] 25)) := (Below.refl _ _).alloc (Nat.le_refl _) _
  have bx := blk_new w #[.int .i64 43, .int .i64 nn, .string ss, .slice na mm.length nc, .slice la ll.length lc] 25
  have HB0 := Lib.hid hb0
  obtain ⟨y0, y1, y2, y3, y4⟩ := box_cells bx
  have hcat : Pl.cat 43 = 4 := by decide
  have HC := Lib.hid (fun W => rcategory_any 43 W)
  rw [hcat] at HC
  clear hcat
  clear hs hn hl bx HT
  go_enter Try.func66, Try.ntmps66
  go_wp2_with (first
    | (go_at_call 14; refine (HC.out _).mono ?_; rintro e wn ⟨rfl, rfl⟩))
  all_goals
    go_ret
    exact ⟨rfl, (by assumption)⟩
set_option maxRecDepth 100000 in
set_option maxHeartbeats 4000000 in
theorem rform_43_1_true (P : Nat → Prop) (nn : Int) (ss : ByteArray) (mm : List ByteArray) (ll : List Syn) (w : World) (v : Value) (hP : ∀ b, P b → b < w.heap.size) (ht : SynV w P ⟨43, nn, ss, mm, ll⟩ v) (he : ss.toList = []) :
    Calls Try.prog 66 #[v, .bool true] w fun e w' => e = .returned (.bool (Pl.declF ⟨43, nn, ss, mm, ll⟩)) ∧ Below w.heap.size w w' := by
  have HT := Lib.hid ht
  rw [synV_iff] at ht
  obtain ⟨hs, nv, lv, rfl, hn, hl⟩ := ht
  obtain ⟨na, nc, rfl, hnm⟩ := hn.form
  obtain ⟨la, lc, rfl, hlmm⟩ := hl.form
  dsimp only at hnm hlmm
  have hb0 : Below w.heap.size w (w.alloc (.cells #[.int .i64 43, .int .i64 nn, .string ss, .slice na mm.length nc, .slice la ll.length lc] 25)) := (Below.refl _ _).alloc (Nat.le_refl _) _
  have bx := blk_new w #[.int .i64 43, .int .i64 nn, .string ss, .slice na mm.length nc, .slice la ll.length lc] 25
  have HB0 := Lib.hid hb0
  obtain ⟨y0, y1, y2, y3, y4⟩ := box_cells bx
  have hcat : Pl.cat 43 = 4 := by decide
  have HC := Lib.hid (fun W => rcategory_any 43 W)
  rw [hcat] at HC
  have HF := Lib.hid (fun W (h : Below w.heap.size w W) => rdeclF_any P ⟨43, nn, ss, mm, ll⟩ W _ (fun b hb => Nat.lt_of_lt_of_le (hP b hb) h.size) (HT.out.keep (Same.of_below h hP)) (.inl hcat))
  clear hcat
  clear hs hn hl bx hP HT
  go_enter Try.func66, Try.ntmps66
  go_wp2_with (first
    | (go_at_call 14; refine (HC.out _).mono ?_; rintro e wn ⟨rfl, rfl⟩)
    | (go_at_call 83; refine (HF.out _ (by assumption)).mono ?_; rintro e wn ⟨rfl, hbn⟩; have hbn2 := belowStep hbn HB0.out))
  all_goals
    go_ret
    exact ⟨rfl, (by assumption)⟩
theorem rform_any (P : Nat → Prop) (t : Syn) (anon : Bool) (w : World) (v : Value) (hP : ∀ b, P b → b < w.heap.size) (ht : SynV w P t v) :
    Calls Try.prog 66 #[v, .bool anon] w fun e w' => e = .returned (.bool (Pl.rform t anon)) ∧ Below w.heap.size w w' := by
  obtain ⟨op, nn, ss, mm, ll⟩ := t
  by_cases h30 : op = 30
  · subst h30
    exact rform_30 P nn ss mm ll anon w v hP ht
  by_cases h45 : op = 45
  · subst h45
    exact rform_45 P nn ss mm ll anon w v hP ht
  by_cases h43 : op = 43
  · subst h43
    by_cases he : ss.toList = []
    · have e1 : Pl.emptyS ss = true := by unfold Pl.emptyS; rw [he]; rfl
      cases anon
      · have : Pl.rform ⟨43, nn, ss, mm, ll⟩ false = false := by unfold Pl.rform; rw [if_pos (by simp [e1])]
        rw [this]; exact rform_43_1_false P nn ss mm ll w v ht he
      · have : Pl.rform ⟨43, nn, ss, mm, ll⟩ true = Pl.declF ⟨43, nn, ss, mm, ll⟩ := by unfold Pl.rform; rw [if_neg (by simp [e1])]; rfl
        rw [this]; exact rform_43_1_true P nn ss mm ll w v hP ht he
    · have e1 : Pl.emptyS ss = false := by
        unfold Pl.emptyS
        cases h : ss.toList with
        | nil => exact absurd h he
        | cons a r => rfl
      cases anon
      · have : Pl.rform ⟨43, nn, ss, mm, ll⟩ false = Pl.declF ⟨43, nn, ss, mm, ll⟩ := by unfold Pl.rform; rw [if_neg (by simp [e1])]; rfl
        rw [this]; exact rform_43_0_false P nn ss mm ll w v hP ht he
      · have : Pl.rform ⟨43, nn, ss, mm, ll⟩ true = false := by unfold Pl.rform; rw [if_pos (by simp [e1])]
        rw [this]; exact rform_43_0_true P nn ss mm ll w v ht he
  have hr : Pl.rform ⟨op, nn, ss, mm, ll⟩ anon = (if Pl.cat op = 1 then Pl.typeF ⟨op, nn, ss, mm, ll⟩ else if Pl.cat op = 2 then Pl.patF ⟨op, nn, ss, mm, ll⟩ else if Pl.cat op = 3 then Pl.exprF ⟨op, nn, ss, mm, ll⟩ else if Pl.cat op = 4 then Pl.declF ⟨op, nn, ss, mm, ll⟩ else if Pl.cat op = 5 ∨ Pl.cat op = 6 then Pl.specF ⟨op, nn, ss, mm, ll⟩ else decide (Pl.cat op = 7) && Pl.modF ⟨op, nn, ss, mm, ll⟩) := by
    unfold Pl.rform
    rw [if_neg (by rintro ⟨h, _⟩; exact h43 h)]
    simp only [show (op = 30) = False from eq_false h30, show (op = 45) = False from eq_false h45, or_false]
  rw [hr]
  have hcr := Pl.cat_range op
  have hcc : Pl.cat op = 0 ∨ Pl.cat op = 1 ∨ Pl.cat op = 2 ∨ Pl.cat op = 3 ∨ Pl.cat op = 4 ∨ Pl.cat op = 5 ∨ Pl.cat op = 6 ∨ Pl.cat op = 7 := by omega
  rcases hcc with hc | hc | hc | hc | hc | hc | hc | hc
  · rw [hc]; simp (config := { decide := true }) only [if_true, if_false, false_or, or_false, true_or, or_true, decide_true, decide_false, Bool.true_and, Bool.false_and]; exact rform_c0 P op nn ss mm ll anon w v ht hc h43 h30 h45
  · rw [hc]; simp (config := { decide := true }) only [if_true, if_false, false_or, or_false, true_or, or_true, decide_true, decide_false, Bool.true_and, Bool.false_and]; exact rform_c1 P op nn ss mm ll anon w v hP ht hc h43 h30 h45
  · rw [hc]; simp (config := { decide := true }) only [if_true, if_false, false_or, or_false, true_or, or_true, decide_true, decide_false, Bool.true_and, Bool.false_and]; exact rform_c2 P op nn ss mm ll anon w v hP ht hc h43 h30 h45
  · rw [hc]; simp (config := { decide := true }) only [if_true, if_false, false_or, or_false, true_or, or_true, decide_true, decide_false, Bool.true_and, Bool.false_and]; exact rform_c3 P op nn ss mm ll anon w v hP ht hc h43 h30 h45
  · rw [hc]; simp (config := { decide := true }) only [if_true, if_false, false_or, or_false, true_or, or_true, decide_true, decide_false, Bool.true_and, Bool.false_and]; exact rform_c4 P op nn ss mm ll anon w v hP ht hc h43 h30 h45
  · rw [hc]; simp (config := { decide := true }) only [if_true, if_false, false_or, or_false, true_or, or_true, decide_true, decide_false, Bool.true_and, Bool.false_and]; exact rform_c5 P op nn ss mm ll anon w v hP ht hc h43 h30 h45
  · rw [hc]; simp (config := { decide := true }) only [if_true, if_false, false_or, or_false, true_or, or_true, decide_true, decide_false, Bool.true_and, Bool.false_and]; exact rform_c6 P op nn ss mm ll anon w v hP ht hc h43 h30 h45
  · rw [hc]; simp (config := { decide := true }) only [if_true, if_false, false_or, or_false, true_or, or_true, decide_true, decide_false, Bool.true_and, Bool.false_and]; exact rform_c7 P op nn ss mm ll anon w v hP ht hc h43 h30 h45
end Go.Proofs.Ytkhpihacjhhklaa

/-
  Walks of layer 3: the reference's forms of nodes and well-formed trees.
-/
namespace Go.Proofs.Ytkhpihacjhhklaa
open Go Go.RowKit
open Pl (Syn)
set_option linter.unusedSimpArgs false

namespace Pl
theorem nodess_iff (op : Int) (l : List Syn) : ∀ j, nodess l op j = true ↔ ∀ q (h : q < l.length), l[q].nodes (anonAt op (j + q)) = true := by
  induction l with
  | nil => intro j; rw [nodess_nil]; simp
  | cons t r ih =>
    intro j
    rw [nodess_cons, Bool.and_eq_true, ih]
    constructor
    · rintro ⟨h0, h1⟩ q hq
      cases q with
      | zero => simpa using h0
      | succ q =>
        have := h1 q (by simpa using hq)
        rw [show j + 1 + q = j + (q + 1) from by omega] at this
        simpa using this
    · intro h
      refine ⟨by simpa using h 0 (Nat.zero_lt_succ _), fun q hq => ?_⟩
      have := h (q + 1) (by simpa using hq)
      rw [show j + (q + 1) = j + 1 + q from by omega] at this
      simpa using this
end Pl
set_option maxRecDepth 100000 in
set_option maxHeartbeats 8000000 in
theorem rnodes_any (P : Nat → Prop) (t : Syn) : ∀ (w : World) (v : Value) (anon : Bool), (∀ b, P b → b < w.heap.size) → SynV w P t v →
    Calls Try.prog 56 #[v, .bool anon] w fun e w' => e = .returned (.bool (t.nodes anon)) ∧ Below w.heap.size w w' := by
  induction t using Syn.ind with
  | h t ih =>
  intro w v anon hP ht
  have HIH := Lib.hid ih
  clear ih
  have HEQ := Lib.hid (Pl.nodes_eq t anon)
  have HF := Lib.hid (fun W (h : Below w.heap.size w W) => rform_any P t anon W v (fun b hb => Nat.lt_of_lt_of_le (hP b hb) h.size) (ht.keep (Same.of_below h hP)))
  rw [synV_iff] at ht
  obtain ⟨hs, nv, lv, rfl, ⟨sa, sc, rfl, -⟩, hl⟩ := ht
  obtain ⟨la, lc, rfl, hlm⟩ := hl.form
  unfold maxLen at hlm
  have HL := Lib.hid hl
  have HP := Lib.hid hP
  generalize hsn : t.names.length = sn at *
  have hb0 : Below w.heap.size w (w.alloc (.cells #[.int .i64 t.op, .int .i64 t.n, .string t.s, .slice sa sn sc, .slice la t.l.length lc] 25)) := (Below.refl _ _).alloc (Nat.le_refl _) _
  have bx := blk_new w #[.int .i64 t.op, .int .i64 t.n, .string t.s, .slice sa sn sc, .slice la t.l.length lc] 25
  have HB0 := Lib.hid hb0
  have HBX := Lib.hid bx
  obtain ⟨y0, y1, y2, y3, y4⟩ := box_cells bx
  have HFN := Lib.hid (HF.out _ hb0)
  have HNI := Lib.hid (Pl.nodess_iff t.op t.l 0)
  generalize hrf : Pl.rform t anon = rf at *
  generalize hnd : t.nodes anon = nd at *
  generalize Pl.nodess t.l t.op 0 = ns at *
  clear hs hsn hrf hnd bx hb0 hl hP HF
  have HNO := Lib.hid (fun k (hk : k < t.l.length) (h : t.l[k].nodes (Pl.anonAt t.op (0 + k)) = false) => show ns = false from by
    rw [Bool.eq_false_iff]; intro e; rw [HNI.out.1 e k hk] at h; cases h)
  have HYE := Lib.hid (fun h => show ns = true from HNI.out.2 h)
  obtain ⟨ln, hln⟩ : ∃ ln, ln = t.l.length := ⟨_, rfl⟩
  rw [← hln] at hlm y0 y1 y2 y3 y4 HFN HBX HB0 HL
  simp only [← hln]
  have HLN := Lib.hid hln.symm
  clear hln HNI
  cases rf
  · go_enter Try.func56, Try.ntmps56
    go_wp2_with fail
    refine HFN.out.mono ?_
    rintro e w1 ⟨rfl, hb1⟩
    have HB1 := Lib.hid (belowStep hb1 HB0.out)
    clear hb1
    go_wp2
    go_ret
    exact ⟨ret_bool (by rw [HEQ.out]; rfl), HB1.out⟩
  rcases HL.out.cases with ⟨hk0, a, c, hv, -, -⟩ | ⟨b, off, n, c, hv, hnl, hn0, hnc, hcm, hPb, hka⟩
  · injection hv with hv1 hv2 hv3
    have HR := Lib.hid (show nd = true from by rw [HEQ.out, HYE.out (fun q hq => by rw [hk0] at hq; simp at hq)]; rfl)
    clear hk0
    subst hv1 hv2 hv3
    go_enter Try.func56, Try.ntmps56
    go_wp2_with fail
    refine HFN.out.mono ?_
    rintro e w1 ⟨rfl, hb1⟩
    have HB1 := Lib.hid (belowStep hb1 HB0.out)
    obtain ⟨z0, z1, z2, z3, z4⟩ := box_cells (Blk.of_eq HBX.out (hb1.block _ (Blk.lt HBX.out)))
    clear hb1
    go_wp2_with fail
    go_loopg [5] 1 (fun g iv wr => iv = .int .i64 0 ∧ wr = w1)
    case atStart => exact ⟨rfl, rfl⟩
    case round =>
      obtain ⟨rfl, rfl⟩ := hrel
      go_wp2
      go_ret
      exact ⟨ret_bool HR.out.symm, HB1.out⟩
  injection hv with hv1 hv2 hv3
  subst hv1 hv3
  have HKA := Lib.hid hka
  have HPB := Lib.hid hPb
  subst hv2
  clear hnl hka hPb
  go_enter Try.func56, Try.ntmps56
  go_wp2_with fail
  refine HFN.out.mono ?_
  rintro e w1 ⟨rfl, hb1⟩
  have HB1 := Lib.hid (belowStep hb1 HB0.out)
  have HX1 := Lib.hid (Blk.of_eq HBX.out (hb1.block _ (Blk.lt HBX.out)))
  obtain ⟨z0, z1, z2, z3, z4⟩ := box_cells HX1.out
  clear hb1 y0 y1 y2 y3 y4
  go_wp2_with fail
  go_loopg [5] (ln + 1) (fun g iv wr => ∃ k : Nat, k ≤ ln ∧ iv = .int .i64 k ∧ g = ln + 1 - k ∧ Below w1.heap.size w1 wr ∧ ∀ q (h : q < t.l.length), q < k → t.l[q].nodes (Pl.anonAt t.op (0 + q)) = true)
  case atStart => exact ⟨0, by omega, rfl, by omega, Below.refl _ _, fun q _ h => absurd h (Nat.not_lt_zero _)⟩
  case round =>
    obtain ⟨k, hk, rfl, hg, hbw, hall⟩ := hrel
    have HA := Lib.hid hall
    have hbw2 := belowStep hbw HB1.out
    have HBW := Lib.hid hbw2
    have HBI := Lib.hid hbw
    have HX2 := Lib.hid (Blk.of_eq HX1.out (hbw.block _ (Blk.lt HX1.out)))
    obtain ⟨v0, v1, v2, v3, v4⟩ := box_cells HX2.out
    clear hall z0 z1 z2 z3 z4
    by_cases hlt : k < ln
    · have hkl : k < t.l.length := by rw [HLN.out]; exact hlt
      obtain ⟨xo, xn, xs, na, nn, nc, la, lkn, lkc, -, a0, a1, a2, a3, a4, hxs⟩ := (HKA.out.keep (Same.of_below hbw2 HP.out) HPB.out).part k hkl
      have hPW : ∀ b, P b → b < wr.heap.size := fun b hb => Nat.lt_of_lt_of_le (HP.out b hb) hbw2.size
      have HC := Lib.hid (fun W (hW : Below wr.heap.size wr W) => HIH.out t.l[k] (List.getElem_mem hkl) W _ (Pl.anonAt t.op k) (fun b hb => Nat.lt_of_lt_of_le (hPW b hb) hW.size) (hxs.keep (Same.of_below hW hPW)))
      have hwd : Below wr.heap.size wr wr.drew := (Below.refl _ _).drew
      have hl1 := hPW _ HPB.out
      have hzl := Blk.lt HX2.out
      have v0d := (hwd.cell (p := ⟨w.heap.size, 0, none⟩) hzl).trans v0
      have v4d := (hwd.cell (p := ⟨w.heap.size, 4, none⟩) hzl).trans v4
      have a0d := (hwd.cell (p := ⟨b, off + k * 5, none⟩) hl1).trans a0
      have a1d := (hwd.cell (p := ⟨b, off + k * 5 + 1, none⟩) hl1).trans a1
      have a2d := (hwd.cell (p := ⟨b, off + k * 5 + 2, none⟩) hl1).trans a2
      have a3d := (hwd.cell (p := ⟨b, off + k * 5 + 3, none⟩) hl1).trans a3
      have a4d := (hwd.cell (p := ⟨b, off + k * 5 + 4, none⟩) hl1).trans a4
      have HWD := Lib.hid hwd
      have HYS := Lib.hid (show t.l[k].nodes (Pl.anonAt t.op k) = true → ∀ q (h : q < t.l.length), q < k + 1 → t.l[q].nodes (Pl.anonAt t.op (0 + q)) = true from fun hx q hq h2 => by
        by_cases hqk : q = k
        · subst hqk; rw [Nat.zero_add]; exact hx
        · exact HA.out q hq (by omega))
      have HN1 := Lib.hid (show t.l[k].nodes (Pl.anonAt t.op k) = false → ns = false from fun hx => HNO.out k hkl (by rw [Nat.zero_add]; exact hx))
      generalize hr : t.l[k].nodes (Pl.anonAt t.op k) = r at *
      have hanon : Pl.anonAt t.op k = (decide (t.op = 74) && decide ((k : Int) = 1)) := by
        unfold Pl.anonAt
        rw [Bool.eq_iff_iff, Bool.and_eq_true, decide_eq_true_iff, decide_eq_true_iff, decide_eq_true_iff]
        omega
      rw [hanon] at HC
      generalize t.op = op at *
      clear hr hanon hbw hbw2 hxs hPW hl1 hzl a0 a1 a2 a3 a4 v1 v2 v3 HB1
      have main : ∀ bb : Bool, Calls Try.prog 56 #[.agg #[.int .i64 xo, .int .i64 xn, .string xs, .slice na nn nc, .slice la lkn lkc], .bool bb] wr.drew (fun e w' => e = .returned (.bool r) ∧ Below wr.drew.heap.size wr.drew w') → bb = (decide (op = 74) && decide ((k : Int) = 1)) → True := fun _ _ _ => trivial
      clear main
      by_cases h74 : op = 74
      · have q74 : (op == 74) = true := beq_iff_eq.2 h74
        rw [decide_eq_true h74, Bool.true_and] at HC
        clear h74
        by_cases hk1 : (k : Int) = 1
        · have qk : ((k : Int) == 1) = true := beq_iff_eq.2 hk1
          rw [decide_eq_true hk1] at HC
          clear hk1
          go_wp2
          refine wp_region_still_tail 12 (by kernel_rfl) (by kernel_rfl) ?_
          change wpStill _ _ wr.drew (fun a' => wpList _ _ _ _ a' wr.drew) _ _
          clear v0 v4
          generalize wr.drew = wd at *
          simp only [List.take_succ_cons, List.take_zero, List.drop_succ_cons, List.drop_zero]
          repeat still_step
          refine wpStill_nil ?_
          go_wp2_with fail
          refine (HC.out _ HWD.out).mono ?_
          rintro e w3 ⟨rfl, hb3⟩
          have HB3 := Lib.hid (belowStep (belowStep hb3 HWD.out) HBW.out)
          have HB4 := Lib.hid (belowStep hb3 HWD.out)
          clear hb3 a0d a1d a2d a3d a4d v0d v4d
          cases r
          · go_wp2
            go_ret
            exact ⟨ret_bool (by rw [HEQ.out, HN1.out (by first | rfl | trivial)]; rfl), HB3.out⟩
          · go_wp2
            go_roundg (gk - 1)
            case measure => omega
            case rel => exact ⟨k + 1, by omega, by go_num, by omega, belowStep HB4.out HBI.out, HYS.out (by first | rfl | trivial)⟩
        · have qk : ((k : Int) == 1) = false := beq_eq_false_iff_ne.2 hk1
          rw [decide_eq_false hk1] at HC
          clear hk1
          go_wp2
          refine wp_region_still_tail 12 (by kernel_rfl) (by kernel_rfl) ?_
          change wpStill _ _ wr.drew (fun a' => wpList _ _ _ _ a' wr.drew) _ _
          clear v0 v4
          generalize wr.drew = wd at *
          simp only [List.take_succ_cons, List.take_zero, List.drop_succ_cons, List.drop_zero]
          repeat still_step
          refine wpStill_nil ?_
          go_wp2_with fail
          refine (HC.out _ HWD.out).mono ?_
          rintro e w3 ⟨rfl, hb3⟩
          have HB3 := Lib.hid (belowStep (belowStep hb3 HWD.out) HBW.out)
          have HB4 := Lib.hid (belowStep hb3 HWD.out)
          clear hb3 a0d a1d a2d a3d a4d v0d v4d
          cases r
          · go_wp2
            go_ret
            exact ⟨ret_bool (by rw [HEQ.out, HN1.out (by first | rfl | trivial)]; rfl), HB3.out⟩
          · go_wp2
            go_roundg (gk - 1)
            case measure => omega
            case rel => exact ⟨k + 1, by omega, by go_num, by omega, belowStep HB4.out HBI.out, HYS.out (by first | rfl | trivial)⟩
      · have q74 : (op == 74) = false := beq_eq_false_iff_ne.2 h74
        rw [decide_eq_false h74, Bool.false_and] at HC
        clear h74
        go_wp2
        refine wp_region_still_tail 12 (by kernel_rfl) (by kernel_rfl) ?_
        change wpStill _ _ wr.drew (fun a' => wpList _ _ _ _ a' wr.drew) _ _
        clear v0 v4
        generalize wr.drew = wd at *
        simp only [List.take_succ_cons, List.take_zero, List.drop_succ_cons, List.drop_zero]
        repeat still_step
        refine wpStill_nil ?_
        go_wp2_with fail
        refine (HC.out _ HWD.out).mono ?_
        rintro e w3 ⟨rfl, hb3⟩
        have HB3 := Lib.hid (belowStep (belowStep hb3 HWD.out) HBW.out)
        have HB4 := Lib.hid (belowStep hb3 HWD.out)
        clear hb3 a0d a1d a2d a3d a4d v0d v4d
        cases r
        · go_wp2
          go_ret
          exact ⟨ret_bool (by rw [HEQ.out, HN1.out (by first | rfl | trivial)]; rfl), HB3.out⟩
        · go_wp2
          go_roundg (gk - 1)
          case measure => omega
          case rel => exact ⟨k + 1, by omega, by go_num, by omega, belowStep HB4.out HBI.out, HYS.out (by first | rfl | trivial)⟩
    · have HR := Lib.hid (HYE.out (fun q hq => HA.out q hq (by have := HLN.out; omega)))
      clear hbw hbw2
      go_wp2
      go_ret
      exact ⟨ret_bool (by rw [HEQ.out, HR.out]; rfl), HBW.out⟩
end Go.Proofs.Ytkhpihacjhhklaa

/-
  Walks of layer 3: the reference's forms of well-formed trees, Valid, Any; SyntaxForms.
-/
namespace Go.Proofs.Ytkhpihacjhhklaa
open Go Go.RowKit
open Pl (Syn)
set_option linter.unusedSimpArgs false

theorem nat_lek (n k : Nat) : decide (n ≤ k) = decide ((n : Int) ≤ (k : Int)) := by
  rw [Bool.eq_iff_iff, decide_eq_true_iff, decide_eq_true_iff]; omega
set_option maxRecDepth 100000 in
set_option maxHeartbeats 4000000 in
theorem rformed_any (P : Nat → Prop) (t : Syn) (w : World) (v : Value) (hP : ∀ b, P b → b < w.heap.size) (ht : SynV w P t v) (hbig : t.big ≤ 1073741824) :
    Calls Try.prog 34 #[v] w fun e w' => e = .returned (.bool (Pl.formed t)) ∧ Below w.heap.size w w' := by
  have HT := Lib.hid ht
  have hsz := Pl.size_big t
  have hdz := Pl.depth_size t
  obtain ⟨na, nn, nc, la, ln, lc, rfl⟩ := ht.form
  have hb0 : Below w.heap.size w (w.alloc (.cells #[.int .i64 t.op, .int .i64 t.n, .string t.s, .slice na nn nc, .slice la ln lc] 25)) := (Below.refl _ _).alloc (Nat.le_refl _) _
  have bx := blk_new w #[.int .i64 t.op, .int .i64 t.n, .string t.s, .slice na nn nc, .slice la ln lc] 25
  have HB0 := Lib.hid hb0
  have HBX := Lib.hid bx
  have HS := Lib.hid (fun W (h : Below w.heap.size w W) => rsize_any P t W _ (fun b hb => Nat.lt_of_lt_of_le (hP b hb) h.size) (HT.out.keep (Same.of_below h hP)) hbig)
  have HD := Lib.hid (fun W (h : Below w.heap.size w W) => rdepth_any P t W _ (fun b hb => Nat.lt_of_lt_of_le (hP b hb) h.size) (HT.out.keep (Same.of_below h hP)) hbig)
  have HN := Lib.hid (fun W (h : Below w.heap.size w W) => rnodes_any P t W _ false (fun b hb => Nat.lt_of_lt_of_le (hP b hb) h.size) (HT.out.keep (Same.of_below h hP)))
  have HE := Lib.hid (show Pl.formed t = (decide (t.size ≤ 20000) && decide (t.depth ≤ 400) && t.nodes false) from rfl)
  rw [nat_lek, nat_lek] at HE
  have HQ := Lib.hid (fun W (hW : Below w.heap.size w W) (hx : Blk W w.heap.size 25 #[.int .i64 t.op, .int .i64 t.n, .string t.s, .slice na nn nc, .slice la ln lc]) => box_cells hx)
  obtain ⟨y0, y1, y2, y3, y4⟩ := box_cells bx
  generalize Pl.formed t = rr at *
  generalize t.nodes false = rn at *
  generalize t.size = sz at *
  generalize t.depth = dz at *
  clear ht HT hP bx
  go_enter Try.func34, Try.ntmps34
  go_wp2_with (first
    | (go_at_call 16; refine (HS.out _ (by assumption)).mono ?_; rintro e wn ⟨rfl, hbn⟩; have hbn2 := belowStep hbn HB0.out; have HX1 := Lib.hid (Blk.of_eq HBX.out (hbn.block _ (Blk.lt HBX.out))); have HB1 := Lib.hid hbn2; obtain ⟨z0, z1, z2, z3, z4⟩ := box_cells HX1.out; clear hbn)
    | (go_at_call 18; refine (HD.out _ (by assumption)).mono ?_; rintro e wm ⟨rfl, hbm⟩; have hbm2 := belowStep hbm HB1.out; have HX2 := Lib.hid (Blk.of_eq HX1.out (hbm.block _ (Blk.lt HX1.out))); have HB2 := Lib.hid hbm2; obtain ⟨u0, u1, u2, u3, u4⟩ := box_cells HX2.out; clear hbm)
    | (go_at_call 56; refine (HN.out _ (by assumption)).mono ?_; rintro e wk ⟨rfl, hbk⟩; have hbk2 := belowStep hbk HB2.out; clear hbk))
  all_goals
    go_ret
    refine ⟨ret_bool ?_, by assumption⟩
    rw [HE.out]
    first | rfl | (simp_all; done) | (simp_all; intros; omega)
set_option maxRecDepth 100000 in
set_option maxHeartbeats 4000000 in
theorem rany_any (P : Nat → Prop) (t : Syn) (w : World) (v : Value) (hP : ∀ b, P b → b < w.heap.size) (ht : SynV w P t v) (hbig : t.big ≤ 1073741824) :
    Calls Try.prog 22 #[v] w fun e w' => e = .returned (.bool (anyP t)) ∧ Below w.heap.size w w' := by
  have HT := Lib.hid ht
  obtain ⟨na, nn, nc, la, ln, lc, rfl⟩ := ht.form
  have hb0 : Below w.heap.size w (w.alloc (.cells #[.int .i64 t.op, .int .i64 t.n, .string t.s, .slice na nn nc, .slice la ln lc] 25)) := (Below.refl _ _).alloc (Nat.le_refl _) _
  have bx := blk_new w #[.int .i64 t.op, .int .i64 t.n, .string t.s, .slice na nn nc, .slice la ln lc] 25
  have HB0 := Lib.hid hb0
  have HF := Lib.hid (fun W (h : Below w.heap.size w W) => rformed_any P t W _ (fun b hb => Nat.lt_of_lt_of_le (hP b hb) h.size) (HT.out.keep (Same.of_below h hP)) hbig)
  have HC := Lib.hid (fun W => rcategory_any t.op W)
  have HE := Lib.hid (show anyP t = (decide (Pl.cat t.op ≠ 0) && Pl.formed t) from rfl)
  obtain ⟨y0, y1, y2, y3, y4⟩ := box_cells bx
  generalize anyP t = rr at *
  generalize Pl.formed t = rf at *
  generalize Pl.cat t.op = c at *
  clear ht HT hP bx hbig
  by_cases hc : c = 0
  · subst hc
    go_enter Try.func22, Try.ntmps22
    go_wp2_with (first
      | (go_at_call 14; refine (HC.out _).mono ?_; rintro e wn ⟨rfl, rfl⟩))
    go_ret
    exact ⟨ret_bool (by rw [HE.out]; rfl), HB0.out⟩
  · have q : (c != 0) = true := bne_iff_ne.2 hc
    rw [decide_eq_true hc] at HE
    clear hc
    go_enter Try.func22, Try.ntmps22
    go_wp2_with (first
      | (go_at_call 14; refine (HC.out _).mono ?_; rintro e wn ⟨rfl, rfl⟩)
      | (go_at_call 34; refine (HF.out _ (by assumption)).mono ?_; rintro e wn ⟨rfl, hbn⟩; have hbn2 := belowStep hbn HB0.out; clear hbn))
    all_goals
      go_ret
      exact ⟨ret_bool (by rw [HE.out]; rfl), by assumption⟩
theorem valid_split (c : Int) (t : Syn) : validP c t = (decide (c ≥ 1) && decide (c ≤ 7) && Pl.rbel t.op c && Pl.formed t) := by
  unfold validP
  congr 1
  by_cases h0 : c = 0
  · subst h0; rw [Pl.bel_zero]; rfl
  rw [Pl.bel_eq _ _ h0]
  by_cases h : c ≥ 1 ∧ c ≤ 7
  · rw [decide_eq_true h.1, decide_eq_true h.2]; simp
  · have hr := Pl.cat_range t.op
    have : Pl.rbel t.op c = false := by
      unfold Pl.rbel
      rw [decide_eq_false_iff_not]
      omega
    rw [this, Bool.and_false]
set_option maxRecDepth 100000 in
set_option maxHeartbeats 4000000 in
theorem rvalid_any (P : Nat → Prop) (t : Syn) (c : Int) (w : World) (v : Value) (hP : ∀ b, P b → b < w.heap.size) (ht : SynV w P t v) (hbig : t.big ≤ 1073741824) :
    Calls Try.prog 12 #[.int .i64 c, v] w fun e w' => e = .returned (.bool (validP c t)) ∧ Below w.heap.size w w' := by
  have HT := Lib.hid ht
  obtain ⟨na, nn, nc, la, ln, lc, rfl⟩ := ht.form
  have hb0 : Below w.heap.size w (w.alloc (.cells #[.int .i64 t.op, .int .i64 t.n, .string t.s, .slice na nn nc, .slice la ln lc] 25)) := (Below.refl _ _).alloc (Nat.le_refl _) _
  have bx := blk_new w #[.int .i64 t.op, .int .i64 t.n, .string t.s, .slice na nn nc, .slice la ln lc] 25
  have HB0 := Lib.hid hb0
  have HF := Lib.hid (fun W (h : Below w.heap.size w W) => rformed_any P t W _ (fun b hb => Nat.lt_of_lt_of_le (hP b hb) h.size) (HT.out.keep (Same.of_below h hP)) hbig)
  have HC := Lib.hid (fun W => rbelongs_any t.op c W)
  have HE := Lib.hid (valid_split c t)
  obtain ⟨y0, y1, y2, y3, y4⟩ := box_cells bx
  generalize validP c t = rr at *
  generalize Pl.formed t = rf at *
  generalize Pl.rbel t.op c = rb at *
  clear ht HT hP bx hbig
  go_enter Try.func12, Try.ntmps12
  go_wp2_with (first
    | (go_at_call 33; refine (HC.out _).mono ?_; rintro e wn ⟨rfl, rfl⟩)
    | (go_at_call 34; refine (HF.out _ (by assumption)).mono ?_; rintro e wn ⟨rfl, hbn⟩; have hbn2 := belowStep hbn HB0.out; clear hbn))
  all_goals
    go_ret
    refine ⟨ret_bool ?_, by assumption⟩
    rw [HE.out]
    first | rfl | (simp_all; done) | (simp_all; intros; omega)
end Go.Proofs.Ytkhpihacjhhklaa
