/-
  Walks of layer 3: Paths.
-/
import Derived.Test.YtkhpihacjhhklaaTq
import Derived.Deep.RegionLaw
import Derived.Deep.AppendLies
namespace Go.Proofs.Ytkhpihacjhhklaa
open Go Go.RowKit
open Pl (Syn)
set_option linter.unusedSimpArgs false

theorem cloneStrs_any (P : Nat → Prop) (v : Value) (zs : List ByteArray) (w : World) (h : StrSl w P v zs) (hl : zs.length ≤ 1073741824) :
    Calls Try.prog 42 #[v] w fun e w' => ∃ a n c, e = .returned (.slice a n c) ∧ StrSl w' (fun b => w.heap.size ≤ b ∧ b < w'.heap.size) (.slice a n c) zs ∧ Below w.heap.size w w' := by
  obtain ⟨a, c, rfl, h1, h2, h3, h4, h5⟩ := h
  have fin : ∀ (e : Ending) (w' : World), (∃ v', e = .returned v' ∧ w'.ownsRow w.heap.size 9 1 v' zs.length (zs.map Value.string) ∧ v' ≠ .slice none 0 0 ∧ Below w.heap.size w w') → ∃ a n c, e = .returned (.slice a n c) ∧ StrSl w' (fun b => w.heap.size ≤ b ∧ b < w'.heap.size) (.slice a n c) zs ∧ Below w.heap.size w w' := by
    rintro e w' ⟨v', rfl, ho, hne, hb⟩
    have hs := strSl_owns ho h4
    obtain ⟨a', c', rfl, _⟩ := hs.form
    exact ⟨a', _, c', rfl, hs, hb⟩
  rcases h5 with rfl | ⟨b, off, rfl, -, h5⟩
  · cases a with
    | none =>
      refine (Try.slices_Clone_string_nil 0 c w).mono ?_
      rintro e w' ⟨rfl, rfl⟩
      exact ⟨none, 0, 0, rfl, ⟨none, 0, rfl, Nat.le_refl _, Nat.zero_le _, fun _ => rfl, fun z hz => (by cases hz), .inl rfl⟩, Below.refl _ _⟩
    | some a => exact (Try.slices_Clone_string_zero a c w).mono fin
  · have := Try.slices_Clone_string b off zs.length c zs w (Nat.le_refl _) (by omega) h5.getD
    rw [List.take_length] at this
    exact this.mono fin
theorem infoStrs : (Try.prog.info? 22).map (fun i => (i.zero, i.size, i.bytes)) = some (some (.slice none 0 0), 1, 24) := by kernel_rfl
/-- the paths so far -/
def PInv (g : Nat) (pss : List (List ByteArray)) (lv : Value) (w : World) : Prop :=
  Blk w g 33 #[lv] ∧ ∃ us, us.length = pss.length ∧ w.ownsRow (g + 1) 22 1 lv pss.length us ∧ (∀ u ∈ us, u.oneCell' = true) ∧ ∀ j (h : j < us.length) (h' : j < pss.length), StrSl w (fun b => b < w.heap.size ∧ b ≠ g ∧ lv.ownBlock ≠ some b) us[j] pss[j]
theorem PInv.below {g : Nat} {pss : List (List ByteArray)} {lv : Value} {w w' : World} (h : PInv g pss lv w) (hb : Below w.heap.size w w') : PInv g pss lv w' := by
  obtain ⟨h1, us, h2, h3, h4, h5⟩ := h
  refine ⟨h1.of_eq (hb.block _ h1.lt), us, h2, h3.kept (row := none) ⟨hb.os, hb.tape, hb.output, hb.size, fun i hi _ => hb.block i hi⟩ ?_, h4, fun j hj hj' => ?_⟩
  · cases ho : lv.ownBlock with
    | none => exact .inl rfl
    | some k => exact .inr (by simp)
  · exact ((h5 j hj hj').keep (Same.of_below hb (fun b hb' => hb'.1))).mono (fun b hb' => ⟨Nat.lt_of_lt_of_le hb'.1 hb.size, hb'.2⟩)
abbrev pathsV (g : Nat) : Visitor where
  St := List (List ByteArray)
  G := Value
  fid := 40
  g := g
  Inv pss lv w := PInv g pss lv w
  own lv i := i = g ∨ lv.ownBlock = some i
  cnt pss := pss.length
  next pss t _ _ := (if Pl.hasPath t.op then pss ++ [t.names] else pss, true)
theorem grown_blk {w w' : World} {row : Option Nat} (h : w.grownBy w' row) {g : Nat} {t : TypeId} {cs : Array Value} (hb : Blk w g t cs) (hne : row ≠ some g) : Blk w' g t cs := hb.of_eq (World.grownBy.block h g hb.lt (fun e => hne e.symm))
/-- one path more -/
theorem pinv_push {g n cap gg : Nat} {pss : List (List ByteArray)} {zs : List ByteArray} {lv u : Value} {w0 wC w1 : World} {us : List Value}
    (hbg : Blk w0 g 33 #[lv]) (hul : us.length = pss.length) (hown : w0.ownsRow (g + 1) 22 1 lv pss.length us) (hu1 : ∀ u ∈ us, u.oneCell' = true)
    (hus : ∀ j (h : j < us.length) (h' : j < pss.length), StrSl w0 (fun b => b < w0.heap.size ∧ b ≠ g ∧ lv.ownBlock ≠ some b) us[j] pss[j])
    (hbC : Below w0.heap.size w0 wC) (hst : StrSl wC (fun b => w0.heap.size ≤ b ∧ b < wC.heap.size) u zs) (hu : u.oneCell' = true) (hn : n = pss.length + 1)
    (hown1 : w1.ownsRow (g + 1) 22 1 (.slice (some ⟨gg, 0, none⟩) n cap) n (us ++ [u])) (hgrow : (wC.alloc (.cells #[u] 22)).grownBy w1 lv.ownBlock)
    (hat : lv.ownBlock = some gg ∨ gg = wC.heap.size + 1) :
    PInv g (pss ++ [zs]) (.slice (some ⟨gg, 0, none⟩) n cap) (w1.setCell ⟨g, 0, none⟩ (.slice (some ⟨gg, 0, none⟩) n cap)) ∧ Fr (fun i => i = g ∨ lv.ownBlock = some i) (fun i => i = g ∨ (Value.slice (some ⟨gg, 0, none⟩) n cap).ownBlock = some i) w0 (w1.setCell ⟨g, 0, none⟩ (.slice (some ⟨gg, 0, none⟩) n cap)) := by
  have hggl : g + 1 ≤ gg := (hown1.lt gg rfl).1
  have hne : lv.ownBlock ≠ some g := fun e => by have := (hown.lt g e).1; omega
  have hglt : g < w0.heap.size := hbg.lt
  have hszC := hbC.size
  have hsz1 : wC.heap.size + 1 ≤ w1.heap.size := by have := World.grownBy.size hgrow; rw [size_alloc] at this; exact this
  have hblk : ∀ b, b < wC.heap.size → lv.ownBlock ≠ some b → w1.heap[b]? = wC.heap[b]? := fun b hb hnb => (World.grownBy.block hgrow b (by rw [size_alloc]; omega) (fun e => hnb e.symm)).trans (Below.heap_alloc _ _ b hb)
  have hset : ∀ b, b ≠ g → (w1.setCell ⟨g, 0, none⟩ (.slice (some ⟨gg, 0, none⟩) n cap)).heap[b]? = w1.heap[b]? := fun b hb => Below.heap_setCell w1 ⟨g, 0, none⟩ _ b hb
  have hb1 : Blk w1 g 33 #[lv] := (hbg.of_eq (hbC.block g hglt)).of_eq (hblk g (by omega) hne)
  have hob : (Value.slice (some ⟨gg, 0, none⟩) n cap).ownBlock = some gg := rfl
  have hsz2 : (w1.setCell ⟨g, 0, none⟩ (.slice (some ⟨gg, 0, none⟩) n cap)).heap.size = w1.heap.size := size_setCell _ _ _
  refine ⟨⟨?_, us ++ [u], by simp [hul], ?_, ?_, fun j hj hj' => ?_⟩, ?_⟩
  · have := hb1.set 0 (.slice (some ⟨gg, 0, none⟩) n cap)
    simpa using this
  · have := hown1.kept (w' := w1.setCell ⟨g, 0, none⟩ (.slice (some ⟨gg, 0, none⟩) n cap)) (row := some g) ⟨rfl, rfl, rfl, by rw [hsz2]; exact Nat.le_refl _, fun i _ hne' => hset i (fun e => hne' (by rw [e]))⟩ (.inr (by rw [hob]; intro e; injection e with e; omega))
    rw [List.length_append, List.length_singleton, ← hn]; exact this
  · intro x hx
    rw [List.mem_append] at hx
    rcases hx with hx | hx
    · exact hu1 x hx
    · simp at hx; subst hx; exact hu
  · rcases Nat.lt_or_ge j us.length with h | h
    · rw [List.getElem_append_left h, List.getElem_append_left (by omega)]
      refine ((hus j h (by omega)).keep (fun b hb => ?_)).mono (fun b hb => ⟨by rw [hsz2]; omega, hb.2.1, ?_⟩)
      · exact (hset b hb.2.1).trans ((hblk b (by omega) hb.2.2).trans (hbC.block b hb.1))
      · rw [hob]; intro e; injection e with e
        rcases hat with h1 | h1
        · exact hb.2.2 (by rw [h1, e])
        · omega
    · have hj2 : j = us.length := by
        rw [List.length_append, List.length_singleton] at hj; omega
      subst hj2
      rw [List.getElem_append_right (Nat.le_refl _), List.getElem_append_right (by omega)]
      simp only [hul, Nat.sub_self, List.getElem_singleton]
      refine (hst.keep (fun b hb => ?_)).mono (fun b hb => ⟨by rw [hsz2]; omega, by omega, ?_⟩)
      · exact (hset b (by omega)).trans (hblk b hb.2 (fun e => by have := (hown.lt b e).2; omega))
      · rw [hob]; intro e; injection e with e
        rcases hat with h1 | h1
        · have := (hown.lt gg h1).2; omega
        · omega
  · refine ⟨(World.grownBy.os hgrow).trans hbC.os, (World.grownBy.tape hgrow).trans hbC.tape, (World.grownBy.output hgrow).trans hbC.output, by rw [hsz2]; omega, fun i hi hni => ?_, fun i hi => ?_⟩
    · have h1 : i ≠ g := fun e => hni (.inl e)
      have h2 : lv.ownBlock ≠ some i := fun e => hni (.inr e)
      exact (hset i h1).trans ((hblk i (by omega) h2).trans (hbC.block i hi))
    · rcases hi with hi | hi
      · exact .inl (.inl hi)
      · rw [hob] at hi; injection hi with hi
        rcases hat with h1 | h1
        · exact .inl (.inr (by rw [h1, hi]))
        · exact .inr (by omega)
set_option maxRecDepth 100000 in
set_option maxHeartbeats 8000000 in
theorem paths1_yes (g : Nat) (pss : List (List ByteArray)) (lv : Value) (w : World) (t : Syn) (v : Value) (P : Nat → Prop) (around depth : Int) (hi : PInv g pss lv w) (ht : SynV w P t v) (hP : ∀ b, P b → b < w.heap.size ∧ ¬ (b = g ∨ lv.ownBlock = some b)) (hbig : t.big ≤ 1073741824) (hn : pss.length < 1073741824) (hpath : Pl.hasPath t.op = true) :
    Calls Try.prog 40 #[v, .int .i64 around, .int .i64 depth, .pointer (some ⟨g, 0, none⟩)] w fun e w' => e = .returned (.bool true) ∧ ∃ lv', PInv g (pss ++ [t.names]) lv' w' ∧ Fr (fun i => i = g ∨ lv.ownBlock = some i) (fun i => i = g ∨ lv'.ownBlock = some i) w w' := by
  have hlb := Pl.len_big t
  obtain ⟨i22, hi0, hz0, hz1, hz2⟩ := info_parts infoStrs
  rw [synV_iff] at ht
  obtain ⟨hs, nv, lv0, rfl, hnm, hl⟩ := ht
  have hb : Below w.heap.size w (w.alloc (.cells #[.int .i64 t.op, .int .i64 t.n, .string t.s, nv, lv0] 25)) := (Below.refl _ _).alloc (Nat.le_refl _) _
  have bx := blk_new w #[.int .i64 t.op, .int .i64 t.n, .string t.s, nv, lv0] 25
  have hi1 := hi.below hb
  obtain ⟨bg, us, hul, hown, hu1, hus⟩ := hi1
  have HH := Lib.hid (fun W => hasPath_any t.op W)
  rw [hpath] at HH
  have x0 := bx.cell 0 _ rfl
  have x3 := bx.cell 3 _ rfl
  have g0 := bg.cell 0 _ rfl
  have f0 := bg.thaw 0
  have HCL := Lib.hid (fun W (hW : Below w.heap.size w W) => cloneStrs_any P nv t.names W (hnm.keep (Same.of_below hW (fun b hb => (hP b hb).1))) (by omega))
  have HB := Lib.hid hb
  have HBX := Lib.hid bx
  have HBG := Lib.hid bg
  have HOWN := Lib.hid hown
  have HUS := Lib.hid hus
  have HU1 := Lib.hid hu1
  have HUL := Lib.hid hul
  have hpn := hn
  clear hi hb bx hl hs hpath hus hu1 hul hown
  go_enter Try.func40, Try.ntmps40
  go_wp2_with fail
  refine (HH.out _).mono ?_
  rintro e w1 ⟨rfl, rfl⟩
  go_wp2
  have HBD := Lib.hid HB.out.drew
  have HNEG := Lib.hid (show lv.ownBlock ≠ some g from fun e => by have := (HOWN.out.lt g e).1; omega)
  have HK0 := Lib.hid (show (w.alloc (.cells #[.int .i64 t.op, .int .i64 t.n, .string t.s, nv, lv0] 25)).drew.ownsRow (g + 1) 22 1 lv pss.length us from HOWN.out)
  go_region_law (first
    | (go_simp; go_at_call 42; refine (HCL.out _ HBD.out).mono ?_; rintro e wC ⟨ca, cn, cc, rfl, hst, hbC⟩; have HST := Lib.hid hst; have HBC := Lib.hid hbC; have HKC := Lib.hid (HK0.out.kept (row := none) (w' := wC) ⟨hbC.os, hbC.tape, hbC.output, hbC.size, fun i hi _ => hbC.block i hi⟩ (by cases ho : lv.ownBlock with | none => exact .inl rfl | some k => exact .inr (by simp))); have hbCg : Blk wC g 33 #[lv] := Blk.of_eq HBG.out (hbC.block g (Blk.lt HBG.out)); have gC := hbCg.cell 0 _ rfl; have gD := (hbCg.alloc (.cells #[.slice ca cn cc] 22)).cell 0 _ rfl; have HBCG := Lib.hid hbCg; clear hst hbC hbCg)
    | (refine step_append_lies _ (by rfl) _ _ _ (by rfl) (g + 1) 22 i22 _ 1 24 Try.underlying33 hi0 hz0 hz1 hz2 rfl (by omega) lv pss.length us (by rfl) (HKC.out.alloc _)
        ⟨wC.heap.size, 0, none⟩ 1 1 [.slice ca cn cc] (by rfl) (by rfl) (World.news_of_block (cs := #[.slice ca cn cc]) (t := 22) (fr := (0, 0)) (heap_alloc_new wC _)) (by simp [Value.oneCell'])
        (by omega) (by unfold maxLen; omega) (by omega) (by have h1 := Blk.lt HBG.out; have h2 := HBC.out.size; simp at h1 h2 ⊢; omega) (wC.heap.size + 1) (by simp) ?_; intro gg cap w1 hown1 hgrow hat hlt; have hb1 : Blk w1 g 33 #[lv] := grown_blk hgrow (HBCG.out.alloc _) HNEG.out; have g1 := hb1.cell 0 _ rfl; have f1 := hb1.thaw 0; have HP1 := Lib.hid (pinv_push (w0 := (w.alloc (.cells #[.int .i64 t.op, .int .i64 t.n, .string t.s, nv, lv0] 25)).drew) HBG.out HUL.out HOWN.out HU1.out HUS.out HBC.out HST.out (by simp [Value.oneCell']) rfl hown1 hgrow hat); clear hb1 hown1 hgrow hat hlt))
  all_goals
    go_wp2
    go_ret
    exact ⟨by first | rfl | trivial, _, HP1.out.1, (Fr.of_below HBD.out).trans HP1.out.2⟩
end Go.Proofs.Ytkhpihacjhhklaa
