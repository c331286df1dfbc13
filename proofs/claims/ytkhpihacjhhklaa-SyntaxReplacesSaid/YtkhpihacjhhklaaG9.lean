/-
  Walks and plain mathematics, several texts in one (Tr Ts Tt Tu).
-/
import Derived.Test.YtkhpihacjhhklaaG8
import Derived.Deep.RegionLaw
import Derived.Deep.AppendLies
import Derived.Test.YtkhpihacjhhklaaG5
import Derived.Test.YtkhpihacjhhklaaG4
import Derived.Deep.RegionHeld3
/-
  Walks of layer 3: Paths.
-/
namespace Go.Proofs.Ytkhpihacjhhklaa
open Go Go.RowKit
open Pl (Syn)
set_option linter.unusedSimpArgs false

theorem cloneStrs_any (P : Nat → Prop) (v : Value) (zs : List ByteArray) (w : World) (h : StrSl w P v zs) (hl : zs.length ≤ 1073741824) :
    Calls Try.prog 42 #[v] w fun e w' => ∃ a n c, e = .returned (.slice a n c) ∧ StrSl w' (fun b => w.heap.size ≤ b ∧ b < w'.heap.size) (.slice a n c) zs ∧ Below w.heap.size w w' := by
  obtain ⟨a, c, rfl, h1, h2, h3, h4, h5⟩ := h
  have fin : ∀ (e : Ending) (w' : World), (∃ v', e = .returned v' ∧ w'.ownsRow w.heap.size 9 1 v' zs.length (zs.map Value.string) ∧ v' ≠ .slice none 0 0 ∧ Below w.heap.size w w') → ∃ a n c, e = .returned (.slice a n c) ∧ StrSl w' (fun b => w.heap.size ≤ b ∧ b < w'.heap.size) (.slice a n c) zs ∧ Below w.heap.size w w' := by
    rintro e w' ⟨v', rfl, ho, hne, hb⟩
    have hs := strSl_owns ho h4
    obtain ⟨a', c', rfl, _⟩ := hs.form
    exact ⟨a', _, c', rfl, hs, hb⟩
  rcases h5 with rfl | ⟨b, off, rfl, -, h5⟩
  · cases a with
    | none =>
      refine (Try.slices_Clone_string_nil 0 c w).mono ?_
      rintro e w' ⟨rfl, rfl⟩
      exact ⟨none, 0, 0, rfl, ⟨none, 0, rfl, Nat.le_refl _, Nat.zero_le _, fun _ => rfl, fun z hz => (by cases hz), .inl rfl⟩, Below.refl _ _⟩
    | some a => exact (Try.slices_Clone_string_zero a c w).mono fin
  · have := Try.slices_Clone_string b off zs.length c zs w (Nat.le_refl _) (by omega) h5.getD
    rw [List.take_length] at this
    exact this.mono fin
theorem infoStrs : (Try.prog.info? 22).map (fun i => (i.zero, i.size, i.bytes)) = some (some (.slice none 0 0), 1, 24) := by kernel_rfl
/-- the paths so far -/
def PInv (g : Nat) (pss : List (List ByteArray)) (lv : Value) (w : World) : Prop :=
  Blk w g 33 #[lv] ∧ ∃ us, us.length = pss.length ∧ w.ownsRow (g + 1) 22 1 lv pss.length us ∧ (∀ u ∈ us, u.oneCell' = true) ∧ ∀ j (h : j < us.length) (h' : j < pss.length), StrSl w (fun b => b < w.heap.size ∧ b ≠ g ∧ lv.ownBlock ≠ some b) us[j] pss[j]
theorem PInv.below {g : Nat} {pss : List (List ByteArray)} {lv : Value} {w w' : World} (h : PInv g pss lv w) (hb : Below w.heap.size w w') : PInv g pss lv w' := by
  obtain ⟨h1, us, h2, h3, h4, h5⟩ := h
  refine ⟨h1.of_eq (hb.block _ h1.lt), us, h2, h3.kept (row := none) ⟨hb.os, hb.tape, hb.output, hb.size, fun i hi _ => hb.block i hi⟩ ?_, h4, fun j hj hj' => ?_⟩
  · cases ho : lv.ownBlock with
    | none => exact .inl rfl
    | some k => exact .inr (by simp)
  · exact ((h5 j hj hj').keep (Same.of_below hb (fun b hb' => hb'.1))).mono (fun b hb' => ⟨Nat.lt_of_lt_of_le hb'.1 hb.size, hb'.2⟩)
abbrev pathsV (g : Nat) : Visitor where
  St := List (List ByteArray)
  G := Value
  fid := 40
  g := g
  Inv pss lv w := PInv g pss lv w
  own lv i := i = g ∨ lv.ownBlock = some i
  cnt pss := pss.length
  next pss t _ _ := (if Pl.hasPath t.op then pss ++ [t.names] else pss, true)
theorem grown_blk {w w' : World} {row : Option Nat} (h : w.grownBy w' row) {g : Nat} {t : TypeId} {cs : Array Value} (hb : Blk w g t cs) (hne : row ≠ some g) : Blk w' g t cs := hb.of_eq (World.grownBy.block h g hb.lt (fun e => hne e.symm))
/-- one path more -/
theorem pinv_push {g n cap gg : Nat} {pss : List (List ByteArray)} {zs : List ByteArray} {lv u : Value} {w0 wC w1 : World} {us : List Value}
    (hbg : Blk w0 g 33 #[lv]) (hul : us.length = pss.length) (hown : w0.ownsRow (g + 1) 22 1 lv pss.length us) (hu1 : ∀ u ∈ us, u.oneCell' = true)
    (hus : ∀ j (h : j < us.length) (h' : j < pss.length), StrSl w0 (fun b => b < w0.heap.size ∧ b ≠ g ∧ lv.ownBlock ≠ some b) us[j] pss[j])
    (hbC : Below w0.heap.size w0 wC) (hst : StrSl wC (fun b => w0.heap.size ≤ b ∧ b < wC.heap.size) u zs) (hu : u.oneCell' = true) (hn : n = pss.length + 1)
    (hown1 : w1.ownsRow (g + 1) 22 1 (.slice (some ⟨gg, 0, none⟩) n cap) n (us ++ [u])) (hgrow : (wC.alloc (.cells #[u] 22)).grownBy w1 lv.ownBlock)
    (hat : lv.ownBlock = some gg ∨ gg = wC.heap.size + 1) :
    PInv g (pss ++ [zs]) (.slice (some ⟨gg, 0, none⟩) n cap) (w1.setCell ⟨g, 0, none⟩ (.slice (some ⟨gg, 0, none⟩) n cap)) ∧ Fr (fun i => i = g ∨ lv.ownBlock = some i) (fun i => i = g ∨ (Value.slice (some ⟨gg, 0, none⟩) n cap).ownBlock = some i) w0 (w1.setCell ⟨g, 0, none⟩ (.slice (some ⟨gg, 0, none⟩) n cap)) := by
  have hggl : g + 1 ≤ gg := (hown1.lt gg rfl).1
  have hne : lv.ownBlock ≠ some g := fun e => by have := (hown.lt g e).1; omega
  have hglt : g < w0.heap.size := hbg.lt
  have hszC := hbC.size
  have hsz1 : wC.heap.size + 1 ≤ w1.heap.size := by have := World.grownBy.size hgrow; rw [size_alloc] at this; exact this
  have hblk : ∀ b, b < wC.heap.size → lv.ownBlock ≠ some b → w1.heap[b]? = wC.heap[b]? := fun b hb hnb => (World.grownBy.block hgrow b (by rw [size_alloc]; omega) (fun e => hnb e.symm)).trans (Below.heap_alloc _ _ b hb)
  have hset : ∀ b, b ≠ g → (w1.setCell ⟨g, 0, none⟩ (.slice (some ⟨gg, 0, none⟩) n cap)).heap[b]? = w1.heap[b]? := fun b hb => Below.heap_setCell w1 ⟨g, 0, none⟩ _ b hb
  have hb1 : Blk w1 g 33 #[lv] := (hbg.of_eq (hbC.block g hglt)).of_eq (hblk g (by omega) hne)
  have hob : (Value.slice (some ⟨gg, 0, none⟩) n cap).ownBlock = some gg := rfl
  have hsz2 : (w1.setCell ⟨g, 0, none⟩ (.slice (some ⟨gg, 0, none⟩) n cap)).heap.size = w1.heap.size := size_setCell _ _ _
  refine ⟨⟨?_, us ++ [u], by simp [hul], ?_, ?_, fun j hj hj' => ?_⟩, ?_⟩
  · have := hb1.set 0 (.slice (some ⟨gg, 0, none⟩) n cap)
    simpa using this
  · have := hown1.kept (w' := w1.setCell ⟨g, 0, none⟩ (.slice (some ⟨gg, 0, none⟩) n cap)) (row := some g) ⟨rfl, rfl, rfl, by rw [hsz2]; exact Nat.le_refl _, fun i _ hne' => hset i (fun e => hne' (by rw [e]))⟩ (.inr (by rw [hob]; intro e; injection e with e; omega))
    rw [List.length_append, List.length_singleton, ← hn]; exact this
  · intro x hx
    rw [List.mem_append] at hx
    rcases hx with hx | hx
    · exact hu1 x hx
    · simp at hx; subst hx; exact hu
  · rcases Nat.lt_or_ge j us.length with h | h
    · rw [List.getElem_append_left h, List.getElem_append_left (by omega)]
      refine ((hus j h (by omega)).keep (fun b hb => ?_)).mono (fun b hb => ⟨by rw [hsz2]; omega, hb.2.1, ?_⟩)
      · exact (hset b hb.2.1).trans ((hblk b (by omega) hb.2.2).trans (hbC.block b hb.1))
      · rw [hob]; intro e; injection e with e
        rcases hat with h1 | h1
        · exact hb.2.2 (by rw [h1, e])
        · omega
    · have hj2 : j = us.length := by
        rw [List.length_append, List.length_singleton] at hj; omega
      subst hj2
      rw [List.getElem_append_right (Nat.le_refl _), List.getElem_append_right (by omega)]
      simp only [hul, Nat.sub_self, List.getElem_singleton]
      refine (hst.keep (fun b hb => ?_)).mono (fun b hb => ⟨by rw [hsz2]; omega, by omega, ?_⟩)
      · exact (hset b (by omega)).trans (hblk b hb.2 (fun e => by have := (hown.lt b e).2; omega))
      · rw [hob]; intro e; injection e with e
        rcases hat with h1 | h1
        · have := (hown.lt gg h1).2; omega
        · omega
  · refine ⟨(World.grownBy.os hgrow).trans hbC.os, (World.grownBy.tape hgrow).trans hbC.tape, (World.grownBy.output hgrow).trans hbC.output, by rw [hsz2]; omega, fun i hi hni => ?_, fun i hi => ?_⟩
    · have h1 : i ≠ g := fun e => hni (.inl e)
      have h2 : lv.ownBlock ≠ some i := fun e => hni (.inr e)
      exact (hset i h1).trans ((hblk i (by omega) h2).trans (hbC.block i hi))
    · rcases hi with hi | hi
      · exact .inl (.inl hi)
      · rw [hob] at hi; injection hi with hi
        rcases hat with h1 | h1
        · exact .inl (.inr (by rw [h1, hi]))
        · exact .inr (by omega)
set_option maxRecDepth 100000 in
set_option maxHeartbeats 8000000 in
theorem paths1_yes (g : Nat) (pss : List (List ByteArray)) (lv : Value) (w : World) (t : Syn) (v : Value) (P : Nat → Prop) (around depth : Int) (hi : PInv g pss lv w) (ht : SynV w P t v) (hP : ∀ b, P b → b < w.heap.size ∧ ¬ (b = g ∨ lv.ownBlock = some b)) (hbig : t.big ≤ 1073741824) (hn : pss.length < 1073741824) (hpath : Pl.hasPath t.op = true) :
    Calls Try.prog 40 #[v, .int .i64 around, .int .i64 depth, .pointer (some ⟨g, 0, none⟩)] w fun e w' => e = .returned (.bool true) ∧ ∃ lv', PInv g (pss ++ [t.names]) lv' w' ∧ Fr (fun i => i = g ∨ lv.ownBlock = some i) (fun i => i = g ∨ lv'.ownBlock = some i) w w' := by
  have hlb := Pl.len_big t
  obtain ⟨i22, hi0, hz0, hz1, hz2⟩ := info_parts infoStrs
  rw [synV_iff] at ht
  obtain ⟨hs, nv, lv0, rfl, hnm, hl⟩ := ht
  have hb : Below w.heap.size w (w.alloc (.cells #[.int .i64 t.op, .int .i64 t.n, .string t.s, nv, lv0] 25)) := (Below.refl _ _).alloc (Nat.le_refl _) _
  have bx := blk_new w #[.int .i64 t.op, .int .i64 t.n, .string t.s, nv, lv0] 25
  have hi1 := hi.below hb
  obtain ⟨bg, us, hul, hown, hu1, hus⟩ := hi1
  have HH := Lib.hid (fun W => hasPath_any t.op W)
  rw [hpath] at HH
  have x0 := bx.cell 0 _ rfl
  have x3 := bx.cell 3 _ rfl
  have g0 := bg.cell 0 _ rfl
  have f0 := bg.thaw 0
  have HCL := Lib.hid (fun W (hW : Below w.heap.size w W) => cloneStrs_any P nv t.names W (hnm.keep (Same.of_below hW (fun b hb => (hP b hb).1))) (by omega))
  have HB := Lib.hid hb
  have HBX := Lib.hid bx
  have HBG := Lib.hid bg
  have HOWN := Lib.hid hown
  have HUS := Lib.hid hus
  have HU1 := Lib.hid hu1
  have HUL := Lib.hid hul
  have hpn := hn
  clear hi hb bx hl hs hpath hus hu1 hul hown
  go_enter Try.func40, Try.ntmps40
  go_wp2_with fail
  refine (HH.out _).mono ?_
  rintro e w1 ⟨rfl, rfl⟩
  go_wp2
  have HBD := Lib.hid HB.out.drew
  have HNEG := Lib.hid (show lv.ownBlock ≠ some g from fun e => by have := (HOWN.out.lt g e).1; omega)
  have HK0 := Lib.hid (show (w.alloc (.cells #[.int .i64 t.op, .int .i64 t.n, .string t.s, nv, lv0] 25)).drew.ownsRow (g + 1) 22 1 lv pss.length us from HOWN.out)
  go_region_law (first
    | (go_simp; go_at_call 42; refine (HCL.out _ HBD.out).mono ?_; rintro e wC ⟨ca, cn, cc, rfl, hst, hbC⟩; have HST := Lib.hid hst; have HBC := Lib.hid hbC; have HKC := Lib.hid (HK0.out.kept (row := none) (w' := wC) ⟨hbC.os, hbC.tape, hbC.output, hbC.size, fun i hi _ => hbC.block i hi⟩ (by cases ho : lv.ownBlock with | none => exact .inl rfl | some k => exact .inr (by simp))); have hbCg : Blk wC g 33 #[lv] := Blk.of_eq HBG.out (hbC.block g (Blk.lt HBG.out)); have gC := hbCg.cell 0 _ rfl; have gD := (hbCg.alloc (.cells #[.slice ca cn cc] 22)).cell 0 _ rfl; have HBCG := Lib.hid hbCg; clear hst hbC hbCg)
    | (refine step_append_lies _ (by rfl) _ _ _ (by rfl) (g + 1) 22 i22 _ 1 24 Try.underlying33 hi0 hz0 hz1 hz2 rfl (by omega) lv pss.length us (by rfl) (HKC.out.alloc _)
        ⟨wC.heap.size, 0, none⟩ 1 1 [.slice ca cn cc] (by rfl) (by rfl) (World.news_of_block (cs := #[.slice ca cn cc]) (t := 22) (fr := (0, 0)) (heap_alloc_new wC _)) (by simp [Value.oneCell'])
        (by omega) (by unfold maxLen; omega) (by omega) (by have h1 := Blk.lt HBG.out; have h2 := HBC.out.size; simp at h1 h2 ⊢; omega) (wC.heap.size + 1) (by simp) ?_; intro gg cap w1 hown1 hgrow hat hlt; have hb1 : Blk w1 g 33 #[lv] := grown_blk hgrow (HBCG.out.alloc _) HNEG.out; have g1 := hb1.cell 0 _ rfl; have f1 := hb1.thaw 0; have HP1 := Lib.hid (pinv_push (w0 := (w.alloc (.cells #[.int .i64 t.op, .int .i64 t.n, .string t.s, nv, lv0] 25)).drew) HBG.out HUL.out HOWN.out HU1.out HUS.out HBC.out HST.out (by simp [Value.oneCell']) rfl hown1 hgrow hat); clear hb1 hown1 hgrow hat hlt))
  all_goals
    go_wp2
    go_ret
    exact ⟨by first | rfl | trivial, _, HP1.out.1, (Fr.of_below HBD.out).trans HP1.out.2⟩
end Go.Proofs.Ytkhpihacjhhklaa

/-
  Walks of layer 3: Paths, whole.
-/
namespace Go.Proofs.Ytkhpihacjhhklaa
open Go Go.RowKit
open Pl (Syn)
set_option linter.unusedSimpArgs false

set_option maxRecDepth 100000 in
set_option maxHeartbeats 4000000 in
theorem paths1_no (g : Nat) (w : World) (t : Syn) (v : Value) (P : Nat → Prop) (around depth : Int) (ht : SynV w P t v) (hpath : Pl.hasPath t.op = false) :
    Calls Try.prog 40 #[v, .int .i64 around, .int .i64 depth, .pointer (some ⟨g, 0, none⟩)] w fun e w' => e = .returned (.bool true) ∧ Below w.heap.size w w' := by
  obtain ⟨na, nn, nc, la, ln, lc, rfl⟩ := ht.form
  have HB := Lib.hid (show Below w.heap.size w (w.alloc (.cells #[.int .i64 t.op, .int .i64 t.n, .string t.s, .slice na nn nc, .slice la ln lc] 25)) from (Below.refl _ _).alloc (Nat.le_refl _) _)
  have HH := Lib.hid (fun W => hasPath_any t.op W)
  rw [hpath] at HH
  clear ht hpath
  go_enter Try.func40, Try.ntmps40
  go_wp2_with fail
  refine (HH.out _).mono ?_
  rintro e w1 ⟨rfl, rfl⟩
  go_wp2
  go_ret
  exact ⟨rfl, HB.out⟩
theorem paths_good (g : Nat) : (pathsV g).Good where
  enter := by
    intro args w
    show Sem.run Try.prog (callFunc 40 args) w = .ok (.enter 40 args) w
    kernel_rfl
  calls := fun σ γ w P t v around depth hi ht hP hb hc h0 h1 => by
    cases hp : Pl.hasPath t.op
    · refine (paths1_no g w t v P around depth ht hp).mono fun e w' h => ⟨h.1, γ, ?_, Fr.of_below h.2⟩
      show PInv g (if Pl.hasPath t.op then σ ++ [t.names] else σ) γ w'
      rw [hp]
      exact PInv.below hi h.2
    · refine (paths1_yes g σ γ w t v P around depth hi ht hP hb hc hp).mono ?_
      rintro e w' ⟨he, lv', h2, h3⟩
      refine ⟨he, lv', ?_, h3⟩
      show PInv g (if Pl.hasPath t.op then σ ++ [t.names] else σ) lv' w'
      rw [hp]
      exact h2
  keep := fun σ γ w w' hi hb => PInv.below hi hb
  lt := fun σ γ w i hi ho => by
    obtain ⟨h1, us, h2, h3, _⟩ := hi
    rcases ho with rfl | ho
    · exact h1.lt
    · exact (h3.lt i ho).2
  cnt_le := fun σ t around depth => by
    show (if Pl.hasPath t.op then σ ++ [t.names] else σ).length ≤ σ.length + 1
    split <;> simp
theorem paths_run (g : Nat) (t : Syn) : ∀ (pss : List (List ByteArray)) (around depth : Int), (pathsV g).run pss t around depth = (pss ++ t.paths, true) := by
  induction t using Syn.ind with
  | h t ih =>
    intro pss around depth
    have hl : ∀ l : List Syn, (∀ x ∈ l, ∀ (pss : List (List ByteArray)) (around depth : Int), (pathsV g).run pss x around depth = (pss ++ x.paths, true)) → ∀ (pss : List (List ByteArray)) (around depth : Int), (pathsV g).runs pss l around depth = (pss ++ Pl.pathss l, true) := by
      intro l
      induction l with
      | nil => intro _ pss around depth; rw [Visitor.runs_nil, Pl.pathss_nil, List.append_nil]
      | cons x r ihr =>
        intro h pss around depth
        rw [Visitor.runs_cons, h x List.mem_cons_self, Pl.pathss_cons]
        simp only [if_true]
        rw [ihr (fun y hy => h y (List.mem_cons_of_mem _ hy)), List.append_assoc]
    rw [Visitor.run_eq]
    show (if true = true then (pathsV g).runs (if Pl.hasPath t.op then pss ++ [t.names] else pss) t.l t.op (depth + 1) else _) = _
    rw [if_pos rfl, hl t.l ih, Pl.paths_eq]
    split <;> simp
/-- a slice of paths -/
def PathsAt (w : World) (P : Nat → Prop) (v : Value) (pss : List (List ByteArray)) : Prop :=
  ∃ a c, v = .slice a pss.length c ∧ pss.length ≤ maxLen ∧ (pss = [] ∨ ∃ b off, a = some ⟨b, off, none⟩ ∧ P b ∧ ∀ j (h : j < pss.length), ∃ ua un uc, w.cell? ⟨b, off + j, none⟩ = some (.slice ua un uc) ∧ StrSl w P (.slice ua un uc) pss[j])
theorem PathsAt.keep {w w' : World} {P : Nat → Prop} {v : Value} {pss : List (List ByteArray)} (h : PathsAt w P v pss) (hs : Same P w w') : PathsAt w' P v pss := by
  obtain ⟨a, c, h1, h2, h3⟩ := h
  refine ⟨a, c, h1, h2, ?_⟩
  rcases h3 with h3 | ⟨b, off, h3, h4, h5⟩
  · exact .inl h3
  · refine .inr ⟨b, off, h3, h4, fun j hj => ?_⟩
    obtain ⟨ua, un, uc, g1, g2⟩ := h5 j hj
    exact ⟨ua, un, uc, (hs.cell h4).trans g1, g2.keep hs⟩
theorem pathsAt_of {w : World} {base : Nat} {P : Nat → Prop} {v : Value} {us : List Value} {pss : List (List ByteArray)} (hul : us.length = pss.length) (hown : w.ownsRow base 22 1 v pss.length us) (hP : ∀ b, v.ownBlock = some b → P b)
    (hus : ∀ j (h : j < us.length) (h' : j < pss.length), StrSl w P us[j] pss[j]) : PathsAt w P v pss := by
  obtain ⟨hlen, hf⟩ := id hown
  rcases hf with ⟨rfl, h0⟩ | ⟨g, cap, cur, rfl, hgb, hg, hnc, hm, _, _⟩
  · refine ⟨none, 0, by rw [h0], by rw [h0]; exact Nat.zero_le _, .inl (List.eq_nil_of_length_eq_zero h0)⟩
  · refine ⟨some ⟨g, 0, none⟩, cap, rfl, Nat.le_trans hnc hm, .inr ⟨g, 0, rfl, hP g rfl, fun j hj => ?_⟩⟩
    have h1 := hus j (by omega) hj
    obtain ⟨ua, uc, e, _⟩ := h1.form
    refine ⟨ua, _, uc, ?_, e ▸ h1⟩
    rw [Nat.zero_add, hown.cellAt j (by omega), List.getElem?_eq_getElem (by omega), e]
def PathsPost (t : Syn) (w : World) (e : Ending) (w' : World) : Prop :=
  ((anyP t = true ∧ ∃ v, e = .returned (.tuple #[v, .int .i64 0]) ∧ PathsAt w' (fun b => b < w'.heap.size) v t.paths) ∨ (anyP t = false ∧ e = .returned (.tuple #[.slice none 0 0, .int .i64 1]))) ∧ Below w.heap.size w w'
set_option maxRecDepth 100000 in
set_option maxHeartbeats 4000000 in
theorem paths_any (P : Nat → Prop) (t : Syn) (w : World) (v : Value) (hP : ∀ b, P b → b < w.heap.size) (ht : SynV w P t v) (hbig : t.big ≤ 536870912) :
    Calls Try.prog 21 #[v] w (PathsPost t w) := by
  have hsb := Pl.size_big t
  have HT := Lib.hid ht
  obtain ⟨na, nn, nc, la, ln, lc, rfl⟩ := ht.form
  have hb : Below w.heap.size w (w.alloc (.cells #[.int .i64 t.op, .int .i64 t.n, .string t.s, .slice na nn nc, .slice la ln lc] 25)) := (Below.refl _ _).alloc (Nat.le_refl _) _
  have bx := blk_new w #[.int .i64 t.op, .int .i64 t.n, .string t.s, .slice na nn nc, .slice la ln lc] 25
  have HC := Lib.hid (isTree_any P t _ (.agg #[.int .i64 t.op, .int .i64 t.n, .string t.s, .slice na nn nc, .slice la ln lc]) (fun b hb' => Nat.lt_of_lt_of_le (hP b hb') hb.size) (HT.out.keep (Same.of_below hb hP)) hbig)
  have HB := Lib.hid hb
  have HBX := Lib.hid bx
  have HP := Lib.hid hP
  have hsz := size_alloc w (.cells #[.int .i64 t.op, .int .i64 t.n, .string t.s, .slice na nn nc, .slice la ln lc] 25)
  have HSZ := Lib.hid hsz
  generalize hat : anyP t = at' at *
  have HAT := Lib.hid hat
  clear ht hb hP bx hsz hat
  cases at'
  · go_enter Try.func21, Try.ntmps21
    go_wp2_with fail
    refine HC.out.mono ?_
    rintro e w1 ⟨rfl, hb1⟩
    have HB1 := Lib.hid (HB.out.trans (hb1.mono HB.out.size))
    clear hb1
    go_wp2
    go_ret2
    exact ⟨.inr ⟨HAT.out, rfl⟩, HB1.out⟩
  · go_enter Try.func21, Try.ntmps21
    go_wp2_with fail
    refine HC.out.mono ?_
    rintro e w1 ⟨rfl, hb1⟩
    have HB1 := Lib.hid (HB.out.trans (hb1.mono HB.out.size))
    have hbx := HBX.out.of_eq (hb1.block _ HBX.out.lt)
    have x0 := (hbx.alloc (.cells #[.slice none 0 0] 33)).cell 0 _ rfl
    have x1 := (hbx.alloc (.cells #[.slice none 0 0] 33)).cell 1 _ rfl
    have x2 := (hbx.alloc (.cells #[.slice none 0 0] 33)).cell 2 _ rfl
    have x3 := (hbx.alloc (.cells #[.slice none 0 0] 33)).cell 3 _ rfl
    have x4 := (hbx.alloc (.cells #[.slice none 0 0] 33)).cell 4 _ rfl
    have hw1 : Below w.heap.size w (w1.alloc (.cells #[.slice none 0 0] 33)) := HB1.out.alloc HB1.out.size _
    have hgb : w.heap.size ≤ w1.heap.size := HB1.out.size
    have hi : PInv w1.heap.size [] (.slice none 0 0) (w1.alloc (.cells #[.slice none 0 0] 33)) :=
      ⟨blk_new _ _ _, [], rfl, World.ownsRow_nil _ _ _ _, (fun u hu => by cases hu), fun j hj => absurd hj (Nat.not_lt_zero _)⟩
    have HV := Lib.hid (visit_any (pathsV w1.heap.size) (paths_good _) P t ([] : List (List ByteArray)) (.slice none 0 0) _ (.agg #[.int .i64 t.op, .int .i64 t.n, .string t.s, .slice na nn nc, .slice la ln lc]) hi (fun b hbp => ⟨Nat.lt_of_lt_of_le (HP.out b hbp) hw1.size, fun ho => by
      have := HP.out b hbp
      rcases ho with ho | ho
      · omega
      · cases ho⟩) (HT.out.keep (Same.of_below hw1 HP.out)) (by omega) (by show 0 + t.size ≤ 1073741824; omega))
    rw [paths_run] at HV
    have HW1 := Lib.hid hw1
    have HGB := Lib.hid hgb
    clear hb1 hbx hw1 hi hgb
    go_wp2_with fail
    refine HV.out.mono ?_
    rintro e w3 ⟨rfl, lv, hi3, hf3⟩
    have hi3' : PInv w1.heap.size ([] ++ t.paths) lv w3 := hi3
    rw [List.nil_append] at hi3'
    have g0 := hi3'.1.cell 0 _ rfl
    have HI3 := Lib.hid hi3'
    have HB3 := Lib.hid (fr_above (B := w.heap.size) HW1.out hf3 HW1.out.size (fun i ho => by
      rcases ho with ho | ho
      · have := HGB.out; omega
      · cases ho))
    clear hi3 hf3 hi3'
    go_wp2
    go_ret2
    refine ⟨.inl ⟨HAT.out, lv, rfl, ?_⟩, HB3.out⟩
    obtain ⟨_, us, h2, h3, _, h5⟩ := HI3.out
    exact pathsAt_of h2 h3 (fun b hb => (h3.lt b hb).2) (fun j hj hj' => (h5 j hj hj').mono (fun b hb => hb.1))
end Go.Proofs.Ytkhpihacjhhklaa

/-
  Walks of layer 3: the example of the chapter; trees that are few.
-/
namespace Go.Proofs.Ytkhpihacjhhklaa
open Go Go.RowKit
open Pl (Syn)
set_option linter.unusedSimpArgs false

def xB : ByteArray := ⟨#[120]⟩
def eB : ByteArray := ⟨#[]⟩
def exVar : Syn := ⟨23, 0, eB, [xB], []⟩
def exInt : Syn := ⟨21, 1, eB, [], []⟩
def exOp : Syn := ⟨32, 7, eB, [], [exVar, exInt]⟩
def ex : Syn := ⟨25, 0, xB, [], [exOp]⟩
theorem ex_size : ex.size = 4 := by
  simp [ex, exOp, exVar, exInt, Pl.size_eq, Pl.sizes_cons, Pl.sizes_nil]
theorem ex_depth : ex.depth = 3 := by
  simp [ex, exOp, exVar, exInt, Pl.depth_eq, Pl.depths_cons, Pl.depths_nil]
theorem ex_big : ex.big = 5 := by
  simp [ex, exOp, exVar, exInt, Pl.big_eq, Pl.bigs_cons, Pl.bigs_nil]
theorem ex_paths : ex.paths = [[xB]] := by
  simp [ex, exOp, exVar, exInt, Pl.paths_eq, Pl.pathss_cons, Pl.pathss_nil, Pl.hasPath]
theorem lowS_x : Pl.lowS xB = true := by
  unfold Pl.lowS
  rw [Pl.toList_eq]
  decide
theorem emptyS_e : Pl.emptyS eB = true := by
  unfold Pl.emptyS
  rw [Pl.toList_eq]
  rfl
theorem ex_ok : ex.ok 0 = true := by
  simp [ex, exOp, exVar, exInt, Pl.ok_eq, Pl.oks_cons, Pl.oks_nil, Pl.form, Pl.num, Pl.txt, Pl.nam, Pl.core, Pl.hasPath, Pl.lowEnd, Pl.pathOk, Pl.path, Pl.parts, Pl.bel, Pl.cat, lowS_x, emptyS_e]
theorem ex_formed : Pl.formed ex = true := by
  rw [Pl.formed_ok, ex_size, ex_depth, ex_ok]; rfl
theorem ex_any : anyP ex = true := by unfold anyP; rw [ex_formed]; rfl
theorem ex_valid3 : validP 3 ex = true := by unfold validP; rw [ex_formed]; rfl
theorem ex_valid1 : validP 1 ex = false := by unfold validP; rw [ex_formed]; rfl
/-- the example in memory -/
def exW (w : World) : World := (((w.alloc (.cells #[.string xB] 9)).alloc (.cells #[.int .i64 23, .int .i64 0, .string eB, .slice (some ⟨w.heap.size, 0, none⟩) 1 1, .slice none 0 0, .int .i64 21, .int .i64 1, .string eB, .slice none 0 0, .slice none 0 0] 25)).alloc (.cells #[.int .i64 32, .int .i64 7, .string eB, .slice none 0 0, .slice (some ⟨w.heap.size + 1, 0, none⟩) 2 2] 25)).alloc (.cells #[.int .i64 25, .int .i64 0, .string xB, .slice none 0 0, .slice (some ⟨w.heap.size + 1 + 1, 0, none⟩) 1 1] 25)
theorem exW_below (w : World) : Below w.heap.size w (exW w) := ((((Below.refl _ _).alloc (Nat.le_refl _) _).alloc (by simp) _).alloc (by simp; omega) _).alloc (by simp; omega) _
theorem exW_0 (w : World) : Blk (exW w) w.heap.size 9 #[.string xB] := (((blk_new w #[.string xB] 9).alloc _).alloc _).alloc _
theorem exW_1 (w : World) : Blk (exW w) (w.heap.size + 1) 25 #[.int .i64 23, .int .i64 0, .string eB, .slice (some ⟨w.heap.size, 0, none⟩) 1 1, .slice none 0 0, .int .i64 21, .int .i64 1, .string eB, .slice none 0 0, .slice none 0 0] := by
  have := blk_new (w.alloc (.cells #[.string xB] 9)) #[.int .i64 23, .int .i64 0, .string eB, .slice (some ⟨w.heap.size, 0, none⟩) 1 1, .slice none 0 0, .int .i64 21, .int .i64 1, .string eB, .slice none 0 0, .slice none 0 0] 25
  rw [size_alloc] at this
  exact (this.alloc _).alloc _
theorem exW_2 (w : World) : Blk (exW w) (w.heap.size + 1 + 1) 25 #[.int .i64 32, .int .i64 7, .string eB, .slice none 0 0, .slice (some ⟨w.heap.size + 1, 0, none⟩) 2 2] := by
  have := blk_new ((w.alloc (.cells #[.string xB] 9)).alloc (.cells #[.int .i64 23, .int .i64 0, .string eB, .slice (some ⟨w.heap.size, 0, none⟩) 1 1, .slice none 0 0, .int .i64 21, .int .i64 1, .string eB, .slice none 0 0, .slice none 0 0] 25)) #[.int .i64 32, .int .i64 7, .string eB, .slice none 0 0, .slice (some ⟨w.heap.size + 1, 0, none⟩) 2 2] 25
  rw [size_alloc, size_alloc] at this
  exact this.alloc _
theorem exW_3 (w : World) : Blk (exW w) (w.heap.size + 1 + 1 + 1) 25 #[.int .i64 25, .int .i64 0, .string xB, .slice none 0 0, .slice (some ⟨w.heap.size + 1 + 1, 0, none⟩) 1 1] := by
  have := blk_new (((w.alloc (.cells #[.string xB] 9)).alloc (.cells #[.int .i64 23, .int .i64 0, .string eB, .slice (some ⟨w.heap.size, 0, none⟩) 1 1, .slice none 0 0, .int .i64 21, .int .i64 1, .string eB, .slice none 0 0, .slice none 0 0] 25)).alloc (.cells #[.int .i64 32, .int .i64 7, .string eB, .slice none 0 0, .slice (some ⟨w.heap.size + 1, 0, none⟩) 2 2] 25)) #[.int .i64 25, .int .i64 0, .string xB, .slice none 0 0, .slice (some ⟨w.heap.size + 1 + 1, 0, none⟩) 1 1] 25
  rw [size_alloc, size_alloc, size_alloc] at this
  exact this
theorem strNil (w : World) (P : Nat → Prop) : StrSl w P (.slice none 0 0) [] := ⟨none, 0, rfl, Nat.le_refl _, Nat.zero_le _, fun _ => rfl, fun z hz => (by cases hz), .inl rfl⟩
theorem synNil (w : World) (P : Nat → Prop) : SynSl w P (.slice none 0 0) [] := ⟨none, 0, rfl, Nat.le_refl _, Nat.zero_le _, fun _ => rfl, .inl rfl⟩
theorem exW_syn (w : World) : SynV (exW w) (fun b => b < (exW w).heap.size) ex (.agg #[.int .i64 25, .int .i64 0, .string xB, .slice none 0 0, .slice (some ⟨w.heap.size + 1 + 1, 0, none⟩) 1 1]) := by
  have h0 := exW_0 w
  have h1 := exW_1 w
  have h2 := exW_2 w
  have hx : (1 : Nat) ≤ maxLen := by unfold maxLen; omega
  rw [synV_iff]
  refine ⟨hx, _, _, rfl, strNil _ _, _, 1, rfl, Nat.le_refl _, hx, fun h => (by cases h), .inr ⟨_, 0, rfl, h2.lt, ?_⟩⟩
  rw [kidsAt_iff]
  intro j hj
  have hj0 : j = 0 := by have : j < 1 := hj; omega
  subst hj0
  refine ⟨_, ⟨_, _, _, _, _, rfl, h2.cell 0 _ rfl, h2.cell 1 _ rfl, h2.cell 2 _ rfl, h2.cell 3 _ rfl, h2.cell 4 _ rfl⟩, ?_⟩
  show SynV (exW w) _ exOp _
  rw [synV_iff]
  refine ⟨Nat.zero_le _, _, _, rfl, strNil _ _, _, 2, rfl, Nat.le_refl _, by unfold maxLen; omega, fun h => (by cases h), .inr ⟨_, 0, rfl, h1.lt, ?_⟩⟩
  rw [kidsAt_iff]
  intro j hj
  have hj2 : j < 2 := hj
  match j, hj2 with
  | 0, _ =>
    refine ⟨_, ⟨_, _, _, _, _, rfl, h1.cell 0 _ rfl, h1.cell 1 _ rfl, h1.cell 2 _ rfl, h1.cell 3 _ rfl, h1.cell 4 _ rfl⟩, ?_⟩
    show SynV (exW w) _ exVar _
    rw [synV_iff]
    refine ⟨Nat.zero_le _, _, _, rfl, ⟨_, 1, rfl, Nat.le_refl _, hx, fun h => (by cases h), fun z hz => ?_, .inr ⟨_, 0, rfl, h0.lt, fun j hj => ?_⟩⟩, synNil _ _⟩
    · have : z = xB := by simpa [exVar] using hz
      subst this; exact hx
    · have hj0 : j = 0 := by have : j < 1 := hj; omega
      subst hj0
      exact h0.cell 0 _ rfl
  | 1, _ =>
    refine ⟨_, ⟨_, _, _, _, _, rfl, h1.cell 5 _ rfl, h1.cell 6 _ rfl, h1.cell 7 _ rfl, h1.cell 8 _ rfl, h1.cell 9 _ rfl⟩, ?_⟩
    show SynV (exW w) _ exInt _
    rw [synV_iff]
    exact ⟨Nat.zero_le _, _, _, rfl, strNil _ _, synNil _ _⟩
theorem xB_small : ∀ z ∈ [xB], z.size ≤ maxLen := by
  intro z hz
  have : z = xB := by simpa using hz
  subst this
  exact Nat.le_trans (show xB.size ≤ 1 from Nat.le_refl _) (by unfold maxLen; omega)
set_option maxRecDepth 100000 in
set_option maxHeartbeats 4000000 in
theorem awake_any (w : World) : Calls Try.prog 9 #[] w fun e w' => e = .returned (.bool true) ∧ Below w.heap.size w w' := by
  have hsy := exW_syn w
  have HSY := Lib.hid (fun W (hW : Below (exW w).heap.size (exW w) W) => hsy.keep (Same.of_below hW (fun b hb => hb)))
  have HPW := Lib.hid (fun W (hW : Below (exW w).heap.size (exW w) W) b (hb : b < (exW w).heap.size) => Nat.lt_of_lt_of_le hb hW.size)
  have HB := Lib.hid (exW_below w)
  have HX := Lib.hid (fun W (hW : Below (exW w).heap.size (exW w) W) => (exW_3 w).of_eq (hW.block _ (exW_3 w).lt))
  have hbig : ex.big ≤ 536870912 := by rw [ex_big]; omega
  have hb0 : Below (exW w).heap.size (exW w) (exW w) := Below.refl _ _
  have HP := Lib.hid (paths_any _ ex _ _ (HPW.out _ hb0) (HSY.out _ hb0) hbig)
  have hx := HX.out _ hb0
  have x0 := hx.cell 0 _ rfl
  have x1 := hx.cell 1 _ rfl
  have x2 := hx.cell 2 _ rfl
  have x3 := hx.cell 3 _ rfl
  have x4 := hx.cell 4 _ rfl
  unfold exW xB eB at x0 x1 x2 x3 x4 HP
  clear hsy hx hb0
  go_enter Try.func9, Try.ntmps9
  go_wp2_with fail
  refine HP.out.mono ?_
  rintro e w1 ⟨hr, hb1⟩
  have hb1' : Below (exW w).heap.size (exW w) w1 := hb1
  rcases hr with ⟨_, lv, rfl, hpa⟩ | ⟨h, -⟩
  · have HB1 := Lib.hid hb1'
    rw [ex_paths] at hpa
    obtain ⟨la, lc, rfl, -, hl⟩ := hpa
    rcases hl with hl | ⟨lb, lo, rfl, hlb, hl⟩
    · cases hl
    obtain ⟨ua, un, uc, hc0, hst⟩ := hl 0 (by decide)
    have HU := Lib.hid (fun W (hW : Below w1.heap.size w1 W) => hst.keep (Same.of_below hW (fun b hb => hb)))
    have HC0 := Lib.hid (fun W (hW : Below w1.heap.size w1 W) => (hW.cell (p := ⟨lb, lo + 0, none⟩) hlb).trans hc0)
    have HV3 := Lib.hid (fun W hW => valid_any _ ex 3 W _ (HPW.out W hW) (HSY.out W hW) hbig)
    have HV1 := Lib.hid (fun W hW => valid_any _ ex 1 W _ (HPW.out W hW) (HSY.out W hW) hbig)
    have HSZ := Lib.hid (fun W hW => size_any _ ex W _ (HPW.out W hW) (HSY.out W hW) (by omega))
    have HDP := Lib.hid (fun W hW => depth_any _ ex W _ (HPW.out W hW) (HSY.out W hW) (by omega))
    rw [ex_valid3] at HV3
    rw [ex_valid1] at HV1
    rw [ex_size] at HSZ
    rw [ex_depth] at HDP
    have hx := HX.out _ HB1.out
    have x0 := hx.cell 0 _ rfl
    have x1 := hx.cell 1 _ rfl
    have x2 := hx.cell 2 _ rfl
    have x3 := hx.cell 3 _ rfl
    have x4 := hx.cell 4 _ rfl
    unfold xB at HV3 HV1 HSZ HDP x0 x1 x2 x3 x4
    clear hb1 hb1' hst hc0 hl hx
    go_wp2_with fail
    refine (HV3.out _ HB1.out).mono ?_
    rintro e w2 ⟨rfl, hb2⟩
    have HB2 := Lib.hid (HB1.out.trans (hb2.mono HB1.out.size))
    have HE2 := Lib.hid hb2
    have hx := HX.out _ HB2.out
    have x0 := hx.cell 0 _ rfl
    have x1 := hx.cell 1 _ rfl
    have x2 := hx.cell 2 _ rfl
    have x3 := hx.cell 3 _ rfl
    have x4 := hx.cell 4 _ rfl
    unfold xB at x0 x1 x2 x3 x4
    clear hb2 hx
    go_wp2_with fail
    refine (HV1.out _ HB2.out).mono ?_
    rintro e w3 ⟨rfl, hb3⟩
    have HB3 := Lib.hid (HB2.out.trans (hb3.mono HB2.out.size))
    have HE3 := Lib.hid (HE2.out.trans (hb3.mono HE2.out.size))
    have hx := HX.out _ HB3.out
    have x0 := hx.cell 0 _ rfl
    have x1 := hx.cell 1 _ rfl
    have x2 := hx.cell 2 _ rfl
    have x3 := hx.cell 3 _ rfl
    have x4 := hx.cell 4 _ rfl
    unfold xB at x0 x1 x2 x3 x4
    clear hb3 hx
    go_wp2_with fail
    refine (HSZ.out _ HB3.out).mono ?_
    rintro e w4 ⟨rfl, hb4⟩
    have HB4 := Lib.hid (HB3.out.trans (hb4.mono HB3.out.size))
    have HE4 := Lib.hid (HE3.out.trans (hb4.mono HE3.out.size))
    have hx := HX.out _ HB4.out
    have x0 := hx.cell 0 _ rfl
    have x1 := hx.cell 1 _ rfl
    have x2 := hx.cell 2 _ rfl
    have x3 := hx.cell 3 _ rfl
    have x4 := hx.cell 4 _ rfl
    unfold xB at x0 x1 x2 x3 x4
    clear hb4 hx
    go_wp2_with fail
    refine (HDP.out _ HB4.out).mono ?_
    rintro e w5 ⟨rfl, hb5⟩
    have HB5 := Lib.hid (HB4.out.trans (hb5.mono HB4.out.size))
    have HE5 := Lib.hid (HE4.out.trans (hb5.mono HE4.out.size))
    have y0 := HC0.out _ HE5.out
    rw [Nat.add_zero] at y0
    have hb6 : Below w5.heap.size w5 (w5.alloc (.cells #[.string ⟨#[120]⟩] 9)) := (Below.refl _ _).alloc (Nat.le_refl _) _
    have hst6 : StrSl (w5.alloc (.cells #[.string ⟨#[120]⟩] 9)) (fun _ => True) (.slice (some ⟨w5.heap.size, 0, none⟩) 1 1) [xB] := ⟨_, 1, rfl, Nat.le_refl _, by unfold maxLen; omega, fun h => (by cases h), xB_small, .inr ⟨_, 0, rfl, trivial, fun j hj => by
      have hj0 : j = 0 := by have : j < 1 := hj; omega
      subst hj0
      exact (blk_new w5 #[.string ⟨#[120]⟩] 9).cell 0 _ rfl⟩⟩
    have HEQ := Lib.hid (strsEq_any _ _ _ _ _ _ _ (HU.out _ (HE5.out.trans (hb6.mono HE5.out.size))) hst6)
    have HB6 := Lib.hid (HB5.out.trans (hb6.mono HB5.out.size))
    rw [decide_eq_true (show ([[xB]][0] : List ByteArray) = [xB] from rfl)] at HEQ
    clear hb5 hb6 hst6
    go_wp2_with fail
    refine HEQ.out.mono ?_
    rintro e w7 ⟨rfl, q, rfl⟩
    go_wp2
    go_ret
    exact ⟨rfl, below_drewN (HB.out.trans (HB6.out.mono HB.out.size)) q⟩
  · rw [ex_any] at h; cases h
end Go.Proofs.Ytkhpihacjhhklaa

/-
  Walks of layer 3: trees that are few; SyntaxSizes.
-/
namespace Go.Proofs.Ytkhpihacjhhklaa
open Go Go.RowKit
open Pl (Syn)
set_option linter.unusedSimpArgs false

def FitsPost (t : Syn) (w : World) (e : Ending) (w' : World) : Prop := ∃ r : Bool, e = .returned (.bool r) ∧ (r = true → t.big ≤ 139500) ∧ Below w.heap.size w w'
set_option maxRecDepth 100000 in
set_option maxHeartbeats 4000000 in
theorem fits_any (P : Nat → Prop) (t : Syn) (w : World) (v : Value) (hP : ∀ b, P b → b < w.heap.size) (ht : SynV w P t v) : Calls Try.prog 10 #[v] w (FitsPost t w) := by
  have HT := Lib.hid ht
  obtain ⟨na, nn, nc, la, ln, lc, rfl⟩ := ht.form
  have hb : Below w.heap.size w ((w.alloc (.cells #[.int .i64 t.op, .int .i64 t.n, .string t.s, .slice na nn nc, .slice la ln lc] 25)).alloc (.cells #[.int .i64 4500] 3)) := (((Below.refl _ _).alloc (Nat.le_refl _) _).alloc (by simp) _)
  have hi : Cell1 (w.heap.size + 1) (4500 : Int) ((w.alloc (.cells #[.int .i64 t.op, .int .i64 t.n, .string t.s, .slice na nn nc, .slice la ln lc] 25)).alloc (.cells #[.int .i64 4500] 3)) := by
    have := blk_new (w.alloc (.cells #[.int .i64 t.op, .int .i64 t.n, .string t.s, .slice na nn nc, .slice la ln lc] 25)) #[.int .i64 4500] 3
    rw [size_alloc] at this
    exact this
  have HC := Lib.hid (few_any t P _ (.agg #[.int .i64 t.op, .int .i64 t.n, .string t.s, .slice na nn nc, .slice la ln lc]) (w.heap.size + 1) 4500 0 hi (HT.out.keep (Same.of_below hb hP)) (fun b hbp => ⟨Nat.lt_of_lt_of_le (hP b hbp) hb.size, fun e => by have := hP b hbp; omega⟩) (by omega) (by omega) (by omega) (by omega))
  have HB := Lib.hid hb
  clear ht hb hi hP
  go_enter Try.func10, Try.ntmps10
  go_wp2_with fail
  refine HC.out.mono ?_
  rintro e w1 ⟨r, rfl, left', hc1, hf1, h1, h2, h3⟩
  have HF1 := Lib.hid (fr_above HB.out hf1 HB.out.size (fun i hi => by have h1 : i = w.heap.size + 1 := hi; omega))
  have H3 := Lib.hid h3
  clear hf1 hc1 h3
  go_wp2
  go_ret
  refine ⟨r, rfl, fun h => ?_, HF1.out⟩
  have := H3.out h
  omega
open Classical in
/-- a Bool for what holds -/
noncomputable def yes (p : Prop) : Bool := decide p
open Classical in
theorem yes_iff {p : Prop} : yes p = true ↔ p := by unfold yes; exact decide_eq_true_iff
theorem tells_yesB {p : Prop} {w w' : World} {e : Ending} (h : Tells p w e w') : e = .returned (.bool (yes p)) ∧ Below w.heap.size w w' := by
  obtain ⟨r, rfl, hr, hb⟩ := h
  refine ⟨?_, hb⟩
  have : r = yes p := by
    rw [Bool.eq_iff_iff, hr, yes_iff]
  rw [this]
theorem yes_true {p : Prop} (h : p) : yes p = true := yes_iff.2 h
theorem belowStep {a b c : World} (h2 : Below b.heap.size b c) (h1 : Below a.heap.size a b) : Below a.heap.size a c := h1.trans (h2.mono h1.size)
theorem box_cells {w : World} {g : Nat} {a b c d e : Value} (h : Blk w g 25 #[a, b, c, d, e]) : w.cell? ⟨g, 0, none⟩ = some a ∧ w.cell? ⟨g, 1, none⟩ = some b ∧ w.cell? ⟨g, 2, none⟩ = some c ∧ w.cell? ⟨g, 3, none⟩ = some d ∧ w.cell? ⟨g, 4, none⟩ = some e :=
  ⟨h.cell 0 _ rfl, h.cell 1 _ rfl, h.cell 2 _ rfl, h.cell 3 _ rfl, h.cell 4 _ rfl⟩
set_option maxRecDepth 100000 in
set_option maxHeartbeats 8000000 in
theorem sizes_any (P Q : Nat → Prop) (a b : Syn) (w : World) (u v : Value) (hP : ∀ i, P i → i < w.heap.size) (hQ : ∀ i, Q i → i < w.heap.size) (ha : SynV w P a u) (hb : SynV w Q b v) :
    Calls Try.prog 4 #[u, v] w fun e w' => e = .returned (.bool true) ∧ Below w.heap.size w w' := by
  have HA := Lib.hid ha
  have HBB := Lib.hid hb
  obtain ⟨na, nn, nc, la, ln, lc, rfl⟩ := ha.form
  obtain ⟨ma, mn, mc, ka, kn, kc, rfl⟩ := hb.form
  have hw0 := below2 w (.cells #[.int .i64 a.op, .int .i64 a.n, .string a.s, .slice na nn nc, .slice la ln lc] 25) (.cells #[.int .i64 b.op, .int .i64 b.n, .string b.s, .slice ma mn mc, .slice ka kn kc] 25)
  have hbx := boxes_new w #[.int .i64 a.op, .int .i64 a.n, .string a.s, .slice na nn nc, .slice la ln lc] #[.int .i64 b.op, .int .i64 b.n, .string b.s, .slice ma mn mc, .slice ka kn kc]
  have HW0 := Lib.hid hw0
  have HBX := Lib.hid hbx
  have HP := Lib.hid hP
  have HQ := Lib.hid hQ
  clear ha hb hw0 hbx hP hQ
  go_enter Try.func4, Try.ntmps4
  go_wp2_with fail
  generalize (w.alloc (.cells #[.int .i64 a.op, .int .i64 a.n, .string a.s, .slice na nn nc, .slice la ln lc] 25)).alloc (.cells #[.int .i64 b.op, .int .i64 b.n, .string b.s, .slice ma mn mc, .slice ka kn kc] 25) = w0 at *
  refine (awake_any _).mono ?_
  rintro e w1 ⟨rfl, hb1⟩
  have HB1 := Lib.hid (HW0.out.trans (hb1.mono HW0.out.size))
  have HX1 := Lib.hid (HBX.out.below hb1)
  obtain ⟨x0, x1, x2, x3, x4⟩ := box_cells HX1.out.1
  obtain ⟨y0, y1, y2, y3, y4⟩ := box_cells HX1.out.2
  clear hb1
  go_wp2_with fail
  refine (fits_any P a w1 _ (fun i hi => Nat.lt_of_lt_of_le (HP.out i hi) HB1.out.size) (HA.out.keep (Same.of_below HB1.out HP.out))).mono ?_
  rintro e w2 ⟨r, rfl, hr, hb2⟩
  have HB2 := Lib.hid (belowStep hb2 HB1.out)
  have HX2 := Lib.hid (HX1.out.below hb2)
  have HR := Lib.hid hr
  clear hb2 hr x0 x1 x2 x3 x4 y0 y1 y2 y3 y4
  obtain ⟨x0, x1, x2, x3, x4⟩ := box_cells HX2.out.1
  obtain ⟨y0, y1, y2, y3, y4⟩ := box_cells HX2.out.2
  cases r
  · go_wp2
    go_ret
    exact ⟨rfl, HB2.out⟩
  have hba := HR.out rfl
  go_wp2_with fail
  refine (fits_any Q b w2 _ (fun i hi => Nat.lt_of_lt_of_le (HQ.out i hi) HB2.out.size) (HBB.out.keep (Same.of_below HB2.out HQ.out))).mono ?_
  rintro e w3 ⟨r, rfl, hr, hb3⟩
  have HB3 := Lib.hid (belowStep hb3 HB2.out)
  have HX3 := Lib.hid (HX2.out.below hb3)
  have HR2 := Lib.hid hr
  clear hb3 hr x0 x1 x2 x3 x4 y0 y1 y2 y3 y4
  obtain ⟨x0, x1, x2, x3, x4⟩ := box_cells HX3.out.1
  obtain ⟨y0, y1, y2, y3, y4⟩ := box_cells HX3.out.2
  cases r
  · go_wp2
    go_ret
    exact ⟨rfl, HB3.out⟩
  have hbb := HR2.out rfl
  have HS := Lib.hid (fun W (hW : Below w3.heap.size w3 W) => (show _ ∧ _ ∧ _ from ⟨hW, box_cells (HX3.out.below hW).1, box_cells (HX3.out.below hW).2⟩))
  have hPW := fun W (hW : Below w3.heap.size w3 W) i (hi : P i) => Nat.lt_of_lt_of_le (HP.out i hi) (Nat.le_trans HB3.out.size hW.size)
  have hQW := fun W (hW : Below w3.heap.size w3 W) i (hi : Q i) => Nat.lt_of_lt_of_le (HQ.out i hi) (Nat.le_trans HB3.out.size hW.size)
  have hAW := fun W (hW : Below w3.heap.size w3 W) => HA.out.keep (Same.of_below (belowStep hW HB3.out) HP.out)
  have hBW := fun W (hW : Below w3.heap.size w3 W) => HBB.out.keep (Same.of_below (belowStep hW HB3.out) HQ.out)
  have H15 := Lib.hid (fun W hW => size_any P a W _ (hPW W hW) (hAW W hW) (by omega))
  have H16 := Lib.hid (fun W hW => rsize_any P a W _ (hPW W hW) (hAW W hW) (by omega))
  have H17 := Lib.hid (fun W hW => depth_any P a W _ (hPW W hW) (hAW W hW) (by omega))
  have H18 := Lib.hid (fun W hW => rdepth_any P a W _ (hPW W hW) (hAW W hW) (by omega))
  have H19 := Lib.hid (fun W hW => (equal_any a P Q b W _ _ (hPW W hW) (hQW W hW) (hAW W hW) (hBW W hW)).mono fun _ _ => tells_yesB)
  have H20 := Lib.hid (fun W hW => (requal_any a P Q b W _ _ (hPW W hW) (hQW W hW) (hAW W hW) (hBW W hW)).mono fun _ _ => tells_yesB)
  have H21 := Lib.hid (fun W hW => (equal_any b Q Q b W _ _ (hQW W hW) (hQW W hW) (hBW W hW) (hBW W hW)).mono fun _ _ => tells_yesB)
  rw [yes_true (show b = b from rfl)] at H21
  generalize yes (a = b) = r at H19 H20
  clear hPW hQW hAW hBW hba hbb
  have HD0 := Lib.hid (Below.refl w3.heap.size w3).drew
  go_wp2
  go_region_held3 (fun W => Below w3.heap.size w3 W ∧ (W.cell? ⟨w.heap.size, 0, none⟩ = some (.int .i64 a.op) ∧ W.cell? ⟨w.heap.size, 1, none⟩ = some (.int .i64 a.n) ∧ W.cell? ⟨w.heap.size, 2, none⟩ = some (.string a.s) ∧ W.cell? ⟨w.heap.size, 3, none⟩ = some (.slice na nn nc) ∧ W.cell? ⟨w.heap.size, 4, none⟩ = some (.slice la ln lc)) ∧ (W.cell? ⟨w.heap.size + 1, 0, none⟩ = some (.int .i64 b.op) ∧ W.cell? ⟨w.heap.size + 1, 1, none⟩ = some (.int .i64 b.n) ∧ W.cell? ⟨w.heap.size + 1, 2, none⟩ = some (.string b.s) ∧ W.cell? ⟨w.heap.size + 1, 3, none⟩ = some (.slice ma mn mc) ∧ W.cell? ⟨w.heap.size + 1, 4, none⟩ = some (.slice ka kn kc)))
    (first | exact HS.out _ HD0.out | exact HS.out _ (by assumption))
    (first
    | (go_at_call 15; refine (H15.out _ (by assumption)).mono ?_; rintro e wn ⟨rfl, hbn⟩; have hbn2 := belowStep (a := w3) hbn (by assumption))
    | (go_at_call 16; refine (H16.out _ (by assumption)).mono ?_; rintro e wn ⟨rfl, hbn⟩; have hbn2 := belowStep (a := w3) hbn (by assumption))
    | (go_at_call 17; refine (H17.out _ (by assumption)).mono ?_; rintro e wn ⟨rfl, hbn⟩; have hbn2 := belowStep (a := w3) hbn (by assumption))
    | (go_at_call 18; refine (H18.out _ (by assumption)).mono ?_; rintro e wn ⟨rfl, hbn⟩; have hbn2 := belowStep (a := w3) hbn (by assumption))
    | (go_at_call 20; refine (H20.out _ (by assumption)).mono ?_; rintro e wn ⟨rfl, hbn⟩; have hbn2 := belowStep (a := w3) hbn (by assumption))
    | (go_at_call 19; first | ((with_reducible refine (H19.out _ (by assumption)).mono ?_); rintro e wn ⟨rfl, hbn⟩; have hbn2 := belowStep (a := w3) hbn (by assumption)) | ((with_reducible refine (H21.out _ (by assumption)).mono ?_); rintro e wn ⟨rfl, hbn⟩; have hbn2 := belowStep (a := w3) hbn (by assumption))))
  all_goals
    go_wp2
    go_ret
    exact ⟨by first | rfl | trivial, belowStep (by assumption) HB3.out⟩
end Go.Proofs.Ytkhpihacjhhklaa
