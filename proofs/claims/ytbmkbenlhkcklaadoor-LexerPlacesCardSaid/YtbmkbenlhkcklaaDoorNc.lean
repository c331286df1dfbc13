/-
  The law LexerPlaces, as a walk: the lines, and what is left of one.
-/
import Derived.Test.YtbmkbenlhkcklaaDoorNb
namespace Go.Proofs.YtbmkbenlhkcklaaDoor
open Go.RowKit

/-- What every walk is handed of the world: the library's own variable holds a number. -/
def Wok (w : World) : Prop := (∃ m, w.cell? ⟨0, 0, none⟩ = some (.int .i64 m)) ∧ 0 < w.heap.size
theorem Wok.below {w w' : World} (h : Wok w) (hb : Below w.heap.size w w') : Wok w' := by
  obtain ⟨⟨m, hm⟩, h1⟩ := h
  exact ⟨⟨m, (hb.cell (p := ⟨0, 0, none⟩) h1).trans hm⟩, Nat.lt_of_lt_of_le h1 hb.size⟩
theorem split_lines (s : ByteArray) (L : List Pl.Bytes) (hL : Pl.lines s.toList = L) (w : World) (hs : s.size < 4294967281) (hw : Wok w) :
    Calls Tryd.prog 6 #[.string s, .string ⟨#[10]⟩] w fun e w' => e = .returned (.slice (some ⟨w.heap.size, 0, none⟩) L.length L.length) ∧ w.alloc (.cells (L.map fun x => Value.string (Pl.mk x)).toArray 9) = w' := by
  obtain ⟨⟨m, hm⟩, _⟩ := hw
  have h := Tryd.strings_Split s ⟨#[10]⟩ m w hs hm (by decide)
  rw [Pl.linesB_eq, Pl.linesC_eq, ← Pl.linesS_length] at h
  unfold Pl.linesS at h
  rw [hL, List.length_map, List.map_map] at h
  exact h.mono fun e w' ⟨h1, h2⟩ => ⟨h1, h2.symm⟩
/-- the lines in memory, as the closure sees them -/
def LinesAt (w : World) (g lb : Nat) (L : List Pl.Bytes) : Prop :=
  w.cell? ⟨g, 0, none⟩ = some (.slice (some ⟨lb, 0, none⟩) L.length L.length) ∧ g < w.heap.size ∧ lb < w.heap.size ∧ ∀ k x, L[k]? = some x → w.cell? ⟨lb, k, none⟩ = some (.string (Pl.mk x))
theorem LinesAt.below {w w' : World} {g lb : Nat} {L : List Pl.Bytes} (h : LinesAt w g lb L) (hb : Below w.heap.size w w') : LinesAt w' g lb L := by
  obtain ⟨h1, h2, h3, h4⟩ := h
  exact ⟨(hb.cell (p := ⟨g, 0, none⟩) h2).trans h1, Nat.lt_of_lt_of_le h2 hb.size, Nat.lt_of_lt_of_le h3 hb.size, fun k x hk => (hb.cell (p := ⟨lb, k, none⟩) h3).trans (h4 k x hk)⟩
theorem lines_laid (w : World) (L : List Pl.Bytes) :
    LinesAt ((w.alloc (.cells (L.map fun x => Value.string (Pl.mk x)).toArray 9)).alloc (.cells #[.slice (some ⟨w.heap.size, 0, none⟩) L.length L.length] 29)) (w.heap.size + 1) w.heap.size L := by
  have h1 := blk_new w (L.map fun x => Value.string (Pl.mk x)).toArray 9
  have h2 := blk_new (w.alloc (.cells (L.map fun x => Value.string (Pl.mk x)).toArray 9)) #[.slice (some ⟨w.heap.size, 0, none⟩) L.length L.length] 29
  have hsz : (w.alloc (.cells (L.map fun x => Value.string (Pl.mk x)).toArray 9)).heap.size = w.heap.size + 1 := by simp
  rw [hsz] at h2
  have h3 := h1.alloc (.cells #[.slice (some ⟨w.heap.size, 0, none⟩) L.length L.length] 29)
  exact ⟨h2.cell 0 _ rfl, h2.lt, h3.lt, fun k x hk => h3.cell k _ (by simp [hk])⟩
set_option maxRecDepth 100000 in
set_option maxHeartbeats 1000000 in
theorem rest_any (w : World) (g lb : Nat) (L : List Pl.Bytes) (a b : Int) (x : Pl.Bytes) (c : Nat) (hL : LinesAt w g lb L) (hn : L.length ≤ 100000) (hin : Pl.InLines L a b x c) (hx : x.length ≤ 100000) :
    Calls Tryd.prog 7 #[.agg #[.int .i64 a, .int .i64 b], .pointer (some ⟨g, 0, none⟩)] w fun e w' => (∃ r, e = .returned (.tuple #[.string r, .bool true]) ∧ r.toList = x.drop c) ∧ Below w.heap.size w w' := by
  obtain ⟨k, rfl, rfl, hk, hc⟩ := hin
  have hkl : k < L.length := (List.getElem?_eq_some_iff.1 hk).1
  have hb1 : Below w.heap.size w (w.alloc (.cells #[.int .i64 ((k : Int) + 1), .int .i64 ((c : Int) + 1)] 25)) := (Below.refl _ _).alloc (Nat.le_refl _) _
  obtain ⟨l1, -, -, l4⟩ := hL.below hb1
  have l5 := l4 k x hk
  have hk0 := blk_new w #[.int .i64 ((k : Int) + 1), .int .i64 ((c : Int) + 1)] 25
  obtain ⟨d0, d1, -, -⟩ := psAt_of hk0
  generalize L.length = n at *
  have hr : ((Pl.mk x).extract c (Pl.mk x).size).toList = x.drop c := by
    rw [Pl.extract_end, Pl.mk_toList]
  have hsz : (Pl.mk x).size = x.length := Pl.mk_size x
  have HR := Lib.hid hr
  have HB := Lib.hid hb1
  clear hr hb1 l4 hk0 hL hk
  generalize Pl.mk x = X at l5 hsz HR
  have p1 : decide ((k : Int) + 1 < 1) = false := by simp; omega
  have p2 : decide ((n : Int) < (k : Int) + 1) = false := by simp; omega
  have p3 : decide ((c : Int) + 1 < 1) = false := by simp; omega
  have p4 : decide ((X.size : Int) + 1 < (c : Int) + 1) = false := by simp; omega
  go_enter Tryd.func7, Tryd.ntmps7
  go_wp2_with fail
  go_quiet (fail)
  go_wp2_with fail
  go_quiet (fail)
  go_wp2
  go_ret2
  exact ⟨⟨_, rfl, by rw [← hsz]; exact HR.out⟩, below_drewN (below_drewN HB.out _) _⟩
end Go.Proofs.YtbmkbenlhkcklaaDoor
