/-
  Walks and plain mathematics, several texts in one (Xz Yb Yc).
-/
import Derived.Test.YtkhpihacjhhklaaG9
import Derived.Laws.AppendOwnNone
import Derived.Deep.Onto
import Derived.Deep.RegionWith
import Derived.Deep.RegionLaw
/-
  Walks of layer 3: the reference's Paths.
-/
namespace Go.Proofs.Ytkhpihacjhhklaa
open Go Go.RowKit
open Pl (Syn)
set_option linter.unusedSimpArgs false

/-- a row's values are slices of these strings, in the blocks P -/
def RowOf (w : World) (P : Nat → Prop) (us : List Value) (pss : List (List ByteArray)) : Prop :=
  us.length = pss.length ∧ (∀ u ∈ us, u.oneCell' = true) ∧ ∀ j (h : j < us.length) (h' : j < pss.length), StrSl w P us[j] pss[j]
theorem RowOf.nil (w : World) (P : Nat → Prop) : RowOf w P [] [] := ⟨rfl, fun u hu => (by cases hu), fun j hj => absurd hj (Nat.not_lt_zero _)⟩
theorem RowOf.keep {w w' : World} {P : Nat → Prop} {us : List Value} {pss : List (List ByteArray)} (h : RowOf w P us pss) (hs : Same P w w') : RowOf w' P us pss := ⟨h.1, h.2.1, fun j hj hj' => (h.2.2 j hj hj').keep hs⟩
theorem RowOf.append {w : World} {P : Nat → Prop} {us vs : List Value} {pss qss : List (List ByteArray)} (h : RowOf w P us pss) (k : RowOf w P vs qss) : RowOf w P (us ++ vs) (pss ++ qss) := by
  refine ⟨by simp [h.1, k.1], fun u hu => ?_, fun j hj hj' => ?_⟩
  · rw [List.mem_append] at hu
    rcases hu with hu | hu
    · exact h.2.1 u hu
    · exact k.2.1 u hu
  · rcases Nat.lt_or_ge j us.length with hlt | hge
    · rw [List.getElem_append_left hlt, List.getElem_append_left (by rw [← h.1]; exact hlt)]
      exact h.2.2 j hlt _
    · rw [List.getElem_append_right hge, List.getElem_append_right (by rw [← h.1]; exact hge)]
      simp only [← h.1]
      exact k.2.2 _ _ _
theorem RowOf.one {w : World} {P : Nat → Prop} {u : Value} {zs : List ByteArray} (h : StrSl w P u zs) : RowOf w P [u] [zs] := by
  refine ⟨rfl, fun x hx => ?_, fun j hj hj' => ?_⟩
  · simp at hx; subst hx
    obtain ⟨a, c, rfl, -⟩ := h.form
    rfl
  · have : j = 0 := by simpa using hj
    subst this
    exact h
/-- a row's forms: nothing, or a block of its own -/
theorem owns_cases {w : World} {base : Nat} {T : TypeId} {v : Value} {n : Nat} {xs : List Value} (h : w.ownsRow base T 1 v n xs) : (v = .slice none 0 0 ∧ n = 0 ∧ xs = []) ∨ ∃ g cap, v = .slice (some ⟨g, 0, none⟩) n cap ∧ ∀ j u, xs[j]? = some u → w.cell? ((⟨g, 0, none⟩ : Addr).add j) = some u := by
  obtain ⟨hlen, hf⟩ := id h
  rcases hf with ⟨rfl, h0⟩ | ⟨g, cap, cur, rfl, hgb, hg, hnc, hm, _, _⟩
  · exact .inl ⟨rfl, h0, List.eq_nil_of_length_eq_zero (by omega)⟩
  · refine .inr ⟨g, cap, rfl, fun j u hj => ?_⟩
    have hj' : j < xs.length := by
      rcases Nat.lt_or_ge j xs.length with h1 | h1
      · exact h1
      · rw [List.getElem?_eq_none h1] at hj; cases hj
    have := h.cellAt j (by omega)
    rw [Go.WideShapes.add_plain, Nat.zero_add, this, hj]
theorem owns_ne {w : World} {base g : Nat} {T : TypeId} {v : Value} {n : Nat} {xs : List Value} (h : w.ownsRow base T 1 v n xs) (hg : g < base) : v.ownBlock ≠ some g := fun e => by have := (h.lt g e).1; omega
/-- the row stays where nothing below is written -/
theorem owns_below {w w' : World} {base : Nat} {T : TypeId} {v : Value} {n : Nat} {xs : List Value} (h : w.ownsRow base T 1 v n xs) (hb : Below w.heap.size w w') : w'.ownsRow base T 1 v n xs :=
  h.kept (row := none) ⟨hb.os, hb.tape, hb.output, hb.size, fun i hi _ => hb.block i hi⟩ (by cases ho : v.ownBlock with | none => exact .inl rfl | some k => exact .inr (by simp))
/-- what the reference's Paths holds while it goes on -/
def RP (w wr : World) (P : Nat → Prop) (box : Array Value) (u : Value) (pss : List (List ByteArray)) : Prop :=
  Below w.heap.size w wr ∧ Blk wr w.heap.size 25 box ∧ ∃ us, wr.ownsRow (w.heap.size + 1) 22 1 u pss.length us ∧ RowOf wr P us pss
theorem RP.below {w wr w' : World} {P : Nat → Prop} {box : Array Value} {u : Value} {pss : List (List ByteArray)} (h : RP w wr P box u pss) (hP : ∀ b, P b → b < w.heap.size) (hb : Below wr.heap.size wr w') : RP w w' P box u pss := by
  obtain ⟨h1, h2, us, h3, h4⟩ := h
  exact ⟨belowStep hb h1, h2.of_eq (hb.block _ h2.lt), us, owns_below h3 hb, h4.keep (Same.of_below hb (fun b hb' => Nat.lt_of_lt_of_le (hP b hb') h1.size))⟩
/-- the row is appended to -/
theorem RP.push {w wr w2 w3 : World} {P : Nat → Prop} {box : Array Value} {u u' : Value} {pss qss : List (List ByteArray)} {us vs : List Value} (hP : ∀ b, P b → b < w.heap.size) (h1 : Below w.heap.size w wr) (h2 : Blk wr w.heap.size 25 box) (h3 : wr.ownsRow (w.heap.size + 1) 22 1 u pss.length us) (h4 : RowOf wr P us pss)
    (hb : Below wr.heap.size wr w2) (hq : RowOf w2 P vs qss) {n : Nat} (hn : n = (pss ++ qss).length) (ho : w3.ownsRow (w.heap.size + 1) 22 1 u' n (us ++ vs)) (hg : w2.grownBy w3 u.ownBlock) : RP w w3 P box u' (pss ++ qss) := by
  subst hn
  have hne : u.ownBlock ≠ some w.heap.size := owns_ne h3 (Nat.lt_succ_self _)
  have hB2 := belowStep hb h1
  have hB3 : Below w.heap.size w w3 := hB2.grown hg hB2.size (fun j hj => Nat.le_of_succ_le (h3.lt j hj).1)
  refine ⟨hB3, grown_blk hg (h2.of_eq (hb.block _ h2.lt)) hne, us ++ vs, ho, ?_⟩
  have hs : Same P w2 w3 := fun b hb' => World.grownBy.block hg b (Nat.lt_of_lt_of_le (hP b hb') hB2.size) (fun e => by have := (h3.lt b e.symm).1; have := hP b hb'; omega)
  exact ((h4.keep (Same.of_below hb (fun b hb' => Nat.lt_of_lt_of_le (hP b hb') h1.size))).append hq).keep hs
theorem paths_take (l : List Syn) (k : Nat) : (Pl.pathss (l.take k)).length ≤ (Pl.pathss l).length := by
  have h := Pl.pathss_app (l.take k) (l.drop k)
  rw [List.take_append_drop] at h
  rw [h, List.length_append]
  omega
def RPost (t : Syn) (P : Nat → Prop) (w : World) (e : Ending) (w' : World) : Prop := (∃ pv us, e = .returned pv ∧ w'.ownsRow w.heap.size 22 1 pv t.paths.length us ∧ RowOf w' P us t.paths) ∧ Below w.heap.size w w'
set_option maxRecDepth 100000 in
set_option maxHeartbeats 8000000 in
theorem rpaths_any (P : Nat → Prop) (t : Syn) : ∀ (w : World) (v : Value), (∀ b, P b → b < w.heap.size) → SynV w P t v → t.big ≤ 536870912 →
    Calls Try.prog 24 #[v] w (RPost t P w) := by
  induction t using Syn.ind with
  | h t ih =>
  intro w v hP ht hbig
  have hsb := Pl.size_big t
  have hlp := Pl.len_paths t
  have hbe := Pl.big_eq t
  have HIH := Lib.hid (fun x (hx : x ∈ t.l) w v hP ht => ih x hx w v hP ht (by have := Pl.mem_big hx; omega))
  obtain ⟨i22, hi0, hz0, hz1, hz2⟩ := info_parts infoStrs
  rw [synV_iff] at ht
  obtain ⟨hs, nv, lv, rfl, hn, hl⟩ := ht
  obtain ⟨na, nc, rfl, hnm⟩ := hn.form
  obtain ⟨la, lc, rfl, hlmm⟩ := hl.form
  have hpe := Pl.paths_eq t
  have hb0 : Below w.heap.size w (w.alloc (.cells #[.int .i64 t.op, .int .i64 t.n, .string t.s, .slice na t.names.length nc, .slice la t.l.length lc] 25)) := (Below.refl _ _).alloc (Nat.le_refl _) _
  have bx := blk_new w #[.int .i64 t.op, .int .i64 t.n, .string t.s, .slice na t.names.length nc, .slice la t.l.length lc] 25
  have HNM := Lib.hid (fun W (hW : Below w.heap.size w W) => hn.keep (Same.of_below hW hP))
  have HLL := Lib.hid hl
  have HP := Lib.hid hP
  have HB0 := Lib.hid hb0
  have HBX := Lib.hid bx
  obtain ⟨y0, y1, y2, y3, y4⟩ := box_cells bx
  have HND := Lib.hid (fun W => named_any t.op W)
  have HSZ := Lib.hid (show w.heap.size + 1 ≤ (w.alloc (.cells #[.int .i64 t.op, .int .i64 t.n, .string t.s, .slice na t.names.length nc, .slice la t.l.length lc] 25)).heap.size by rw [size_alloc]; exact Nat.le_refl _)
  have HPT := Lib.hid (fun k => paths_take t.l k)
  have HSN := Lib.hid (fun k (hk : k < t.l.length) => Pl.pathss_snoc t.l k hk)
  have HMP := Lib.hid (fun k (hk : k < t.l.length) => show (Pl.pathss (t.l.take k) ++ t.l[k].paths).length ≤ (Pl.pathss t.l).length from by rw [← Pl.pathss_snoc t.l k hk]; exact paths_take t.l (k + 1))
  obtain ⟨own, hown⟩ : ∃ own, own = (if Pl.hasPath t.op then [t.names] else []) := ⟨_, rfl⟩
  rw [← hown] at hpe
  have hlen : own.length + (Pl.pathss t.l).length ≤ 536870912 := by
    have := congrArg List.length hpe
    rw [List.length_append] at this
    omega
  have HPE := Lib.hid hpe
  have hown2 : own = (if Pl.hasPath t.op = true then [t.names] else []) := hown
  clear hown hpe hlp hsb hbe hbig ih
  -- the loop, at whatever stands before it
  have LOOPEND := Lib.hid (fun (wr : World) (u : Value) (hr : RP w wr P #[.int .i64 t.op, .int .i64 t.n, .string t.s, .slice na t.names.length nc, .slice la t.l.length lc] u t.paths) => show RPost t P w (.returned u) wr from by
    obtain ⟨h1, -, us, h3, h4⟩ := hr
    exact ⟨⟨u, us, rfl, World.ownsRow.mono h3 (Nat.le_succ _), h4⟩, h1⟩)
  have HFIN := Lib.hid (show own ++ Pl.pathss (t.l.take t.l.length) = t.paths by rw [List.take_length]; exact HPE.out.symm)
  obtain ⟨ln, hln⟩ : ∃ ln, ln = t.l.length := ⟨_, rfl⟩
  rw [← hln] at hlmm y0 y1 y2 y3 y4 HBX HB0 HLL LOOPEND HSZ HFIN
  simp only [← hln]
  have HLN := Lib.hid hln.symm
  obtain ⟨mn, hmn⟩ : ∃ mn, mn = t.names.length := ⟨_, rfl⟩
  rw [← hmn] at hnm y0 y1 y2 y3 y4 HBX HB0 HNM LOOPEND HSZ
  simp only [← hmn]
  unfold maxLen at hnm hlmm
  generalize t.s = ss at *
  generalize t.n = nn at *
  clear hmn hln hs hn hl hb0 bx hP
  cases hpo : Pl.hasPath t.op
  all_goals rw [hpo] at HND hown2
  · have hown3 : own = [] := by rw [hown2]; rfl
    subst hown3
    generalize t.op = op at *
    clear hpo hown2
    go_enter Try.func24, Try.ntmps24
    go_wp2_with fail
    refine (HND.out _).mono ?_
    rintro e w1 ⟨rfl, hb1⟩
    have HR0 := Lib.hid (show RP w w1 P #[.int .i64 op, .int .i64 nn, .string ss, .slice na mn nc, .slice la ln lc] (.slice none 0 0) ([] ++ Pl.pathss (t.l.take 0)) from ⟨belowStep hb1 HB0.out, Blk.of_eq HBX.out (hb1.block _ (Blk.lt HBX.out)), [], World.ownsRow_nil _ _ _ _, by rw [List.take_zero, Pl.pathss_nil]; exact RowOf.nil _ _⟩)
    obtain ⟨z0, z1, z2, z3, z4⟩ := box_cells HR0.out.2.1
    clear hb1 y0 y1 y2 y3 y4
    go_wp2_with fail
    go_loopg [3, 4] (ln + 1) (fun g u iv wr => ∃ k : Nat, k ≤ ln ∧ iv = .int .i64 k ∧ g = ln + 1 - k ∧ RP w wr P #[.int .i64 op, .int .i64 nn, .string ss, .slice na mn nc, .slice la ln lc] u (([] : List (List ByteArray)) ++ Pl.pathss (t.l.take k)))
    case atStart => exact ⟨0, by omega, rfl, by omega, HR0.out⟩
    case round =>
      obtain ⟨k, hk, rfl, hg, hrp⟩ := hrel
      have HRP := Lib.hid hrp
      obtain ⟨hbw, hbx, us, hour, hrow⟩ := hrp
      obtain ⟨v0, v1, v2, v3, v4⟩ := box_cells hbx
      have HBW := Lib.hid hbw
      have HBXR := Lib.hid hbx
      have HOUR := Lib.hid hour
      have HROW := Lib.hid hrow
      clear hbx hour hrow z0 z1 z2 z3 z4
      by_cases hlt : k < ln
      · have hkl : k < t.l.length := by rw [HLN.out]; exact hlt
        rcases SynSl.cases HLL.out with ⟨hk0, -⟩ | ⟨b, off, n', c', hv, hnl, hn0, hnc, hcm, hPb, hka⟩
        · rw [hk0] at hkl; simp at hkl
        injection hv with hv1 hv2 hv3
        subst hv1 hv2 hv3
        unfold maxLen at hcm
        obtain ⟨xo, xn, xs, xna, xnn, xnc, xla, xln, xlc, -, a0, a1, a2, a3, a4, hxs⟩ := (hka.keep (Same.of_below hbw HP.out) hPb).part k hkl
        have hPW : ∀ b, P b → b < wr.heap.size := fun b hb => Nat.lt_of_lt_of_le (HP.out b hb) hbw.size
        have HC := Lib.hid (HIH.out t.l[k] (List.getElem_mem hkl) wr _ hPW hxs)
        have hmp := HMP.out k hkl
        have hsn := HSN.out k hkl
        have hlenk : (([] : List (List ByteArray)) ++ Pl.pathss (t.l.take k)).length + t.l[k].paths.length ≤ 536870912 := by
          rw [List.length_append] at hmp ⊢
          omega
        have HKN := Lib.hid (show (([] : List (List ByteArray)) ++ Pl.pathss (t.l.take k)) ++ t.l[k].paths = ([] : List (List ByteArray)) ++ Pl.pathss (t.l.take (k + 1)) from by rw [hsn, List.append_assoc])
        generalize ([] : List (List ByteArray)) ++ Pl.pathss (t.l.take k) = cur at *
        unfold RPost at HC
        generalize t.l[k].paths = xp at *
        have HLK := Lib.hid hlenk
        clear hka hPb hnl hn0 hnc hxs hPW hsn hmp hbw hlen
        go_wp2_with fail
        refine HC.out.mono ?_
        rintro e w3 ⟨⟨pv, vs, rfl, hpo, hpr⟩, hb3⟩
        have HB3 := Lib.hid hb3
        have HO3 := Lib.hid (owns_below HOUR.out hb3)
        have HPR := Lib.hid hpr
        have HNC := Lib.hid (show cur.length + xp.length = (cur ++ xp).length from by rw [List.length_append])
        have HS3 := Lib.hid (show w.heap.size + 1 ≤ w3.heap.size from by have h1 := Blk.lt HBXR.out; have h2 := hb3.size; omega)
        have HVL := Lib.hid (show vs.length = xp.length from hpr.1)
        rcases owns_cases hpo with ⟨rfl, hx0, hvs⟩ | ⟨pg, pcap, rfl, hpc⟩
        · have hxp : xp = [] := List.eq_nil_of_length_eq_zero hx0
          subst hxp
          have HRB := Lib.hid (RP.below HRP.out HP.out hb3)
          clear hb3 hpo hpr a0 a1 a2 a3 a4 v0 v1 v2 v3 v4 hx0
          go_wp2_with (at_builtin; refine wpList_append_own_none rfl _ _ 33 rfl (w.heap.size + 1) 22 i22 1 Try.underlying33 hi0 _ _ _ rfl HO3.out rfl ?_)
          go_wp2
          go_roundg (gk - 1)
          case measure => omega
          case rel => exact ⟨k + 1, by omega, by go_num, by omega, by rw [← HKN.out, List.append_nil]; exact HRB.out⟩
        · have HPC := Lib.hid hpc
          clear hb3 hpo hpr hpc a0 a1 a2 a3 a4 v0 v1 v2 v3 v4
          generalize hxl : xp.length = xl at *
          generalize hcl : cur.length = cl at *
          go_wp2_with (at_builtin; refine wpList_append_own _ rfl _ _ 33 rfl (w.heap.size + 1) 22 i22 (.slice none 0 0) 1 24 Try.underlying33 hi0 hz0 hz1 hz2 rfl (by decide) _ _ _ rfl HO3.out ⟨pg, 0, none⟩ xl pcap vs rfl ?d0 ?d1 ?d2 ?d3 ?d4 ?d5 ?_)
          case d0 => rw [HVL.out, Nat.mul_one]
          case d1 => exact HPC.out
          case d2 => exact HPR.out.2.1
          case d3 => unfold maxLen; omega
          case d4 => omega
          case d5 => exact HS3.out
          intro v' w4 hown' hgrow _
          have HR4 := Lib.hid (show RP w w4 P #[.int .i64 op, .int .i64 nn, .string ss, .slice na mn nc, .slice (some ⟨b, off, none⟩) ln lc] v' (cur ++ xp) from RP.push (w3 := w4) HP.out HBW.out HBXR.out (by rw [hcl]; exact HOUR.out) HROW.out HB3.out HPR.out (n := cl + xl) (by rw [← HNC.out]) hown' hgrow)
          clear hown' hgrow
          go_wp2
          go_roundg (gk - 1)
          case measure => omega
          case rel => exact ⟨k + 1, by omega, by go_num, by omega, by rw [← HKN.out]; exact HR4.out⟩
      · have hkk : k = ln := by omega
        subst hkk
        have HE := Lib.hid (LOOPEND.out wr _ (by have := HRP.out; rw [HFIN.out] at this; exact this))
        clear hbw
        go_wp2
        go_ret
        exact HE.out
  · have hown3 : own = [t.names] := by rw [hown2]; rfl
    subst hown3
    have HST := Lib.hid (fun W h => RowOf.one (HNM.out W h))
    generalize t.op = op at *
    generalize hownv : [t.names] = own at *
    have hol : own.length = 1 := by rw [← hownv]; rfl
    have HOL := Lib.hid hol
    clear hpo hown2 hownv hol
    go_enter Try.func24, Try.ntmps24
    go_wp2_with fail
    refine (HND.out _).mono ?_
    rintro e w1 ⟨rfl, hb1⟩
    have HB1 := Lib.hid (belowStep hb1 HB0.out)
    have HX1 := Lib.hid (Blk.of_eq HBX.out (hb1.block _ (Blk.lt HBX.out)))
    have HS1 := Lib.hid (Nat.le_trans HSZ.out hb1.size)
    obtain ⟨z0, z1, z2, z3, z4⟩ := box_cells HX1.out
    clear hb1 y0 y1 y2 y3 y4
    go_wp2_with (at_builtin; refine wpList_append_own _ rfl _ _ 33 rfl (w.heap.size + 1) 22 i22 (.slice none 0 0) 1 24 Try.underlying33 hi0 hz0 hz1 hz2 rfl (by decide) _ _ _ rfl (World.ownsRow_nil _ _ _ _) ⟨w1.heap.size, 0, none⟩ 1 1 [.slice na mn nc] rfl rfl ?c1 ?c2 ?c3 ?c4 ?c5 ?_)
    case c1 =>
      intro j u hj
      match j, hj with
      | 0, hj =>
        simp at hj; subst hj
        exact (blk_new w1 #[.slice na mn nc] 22).cell 0 _ rfl
    case c2 => intro u hu; simp at hu; subst hu; rfl
    case c3 => unfold maxLen; omega
    case c4 => omega
    case c5 => have := HS1.out; simp; omega
    intro v' w2 hown' hgrow _
    have HR0 := Lib.hid (show RP w w2 P #[.int .i64 op, .int .i64 nn, .string ss, .slice na mn nc, .slice la ln lc] v' (own ++ Pl.pathss (t.l.take 0)) from by
      have hb : Below w1.heap.size w1 (w1.alloc (.cells #[.slice na mn nc] 22)) := (Below.refl _ _).alloc (Nat.le_refl _) _
      have := RP.push (pss := []) (us := []) (w3 := w2) HP.out HB1.out HX1.out (World.ownsRow_nil _ _ _ _) (RowOf.nil _ _) hb (HST.out _ (belowStep hb HB1.out)) (n := 0 + 1) (by rw [List.nil_append, HOL.out]) hown' hgrow
      rw [List.take_zero, Pl.pathss_nil, List.append_nil]
      rw [List.nil_append] at this
      exact this)
    clear hown' hgrow z0 z1 z2 z3 z4
    obtain ⟨z0, z1, z2, z3, z4⟩ := box_cells HR0.out.2.1
    go_wp2_with fail
    go_loopg [3, 4] (ln + 1) (fun g u iv wr => ∃ k : Nat, k ≤ ln ∧ iv = .int .i64 k ∧ g = ln + 1 - k ∧ RP w wr P #[.int .i64 op, .int .i64 nn, .string ss, .slice na mn nc, .slice la ln lc] u (own ++ Pl.pathss (t.l.take k)))
    case atStart => exact ⟨0, by omega, rfl, by omega, HR0.out⟩
    case round =>
      obtain ⟨k, hk, rfl, hg, hrp⟩ := hrel
      have HRP := Lib.hid hrp
      obtain ⟨hbw, hbx, us, hour, hrow⟩ := hrp
      obtain ⟨v0, v1, v2, v3, v4⟩ := box_cells hbx
      have HBW := Lib.hid hbw
      have HBXR := Lib.hid hbx
      have HOUR := Lib.hid hour
      have HROW := Lib.hid hrow
      clear hbx hour hrow z0 z1 z2 z3 z4
      by_cases hlt : k < ln
      · have hkl : k < t.l.length := by rw [HLN.out]; exact hlt
        rcases SynSl.cases HLL.out with ⟨hk0, -⟩ | ⟨b, off, n', c', hv, hnl, hn0, hnc, hcm, hPb, hka⟩
        · rw [hk0] at hkl; simp at hkl
        injection hv with hv1 hv2 hv3
        subst hv1 hv2 hv3
        unfold maxLen at hcm
        obtain ⟨xo, xn, xs, xna, xnn, xnc, xla, xln, xlc, -, a0, a1, a2, a3, a4, hxs⟩ := (hka.keep (Same.of_below hbw HP.out) hPb).part k hkl
        have hPW : ∀ b, P b → b < wr.heap.size := fun b hb => Nat.lt_of_lt_of_le (HP.out b hb) hbw.size
        have HC := Lib.hid (HIH.out t.l[k] (List.getElem_mem hkl) wr _ hPW hxs)
        have hmp := HMP.out k hkl
        have hsn := HSN.out k hkl
        have hlenk : (own ++ Pl.pathss (t.l.take k)).length + t.l[k].paths.length ≤ 536870912 := by
          rw [List.length_append] at hmp ⊢
          omega
        have HKN := Lib.hid (show (own ++ Pl.pathss (t.l.take k)) ++ t.l[k].paths = own ++ Pl.pathss (t.l.take (k + 1)) from by rw [hsn, List.append_assoc])
        generalize own ++ Pl.pathss (t.l.take k) = cur at *
        unfold RPost at HC
        generalize t.l[k].paths = xp at *
        have HLK := Lib.hid hlenk
        clear hka hPb hnl hn0 hnc hxs hPW hsn hmp hbw hlen
        go_wp2_with fail
        refine HC.out.mono ?_
        rintro e w3 ⟨⟨pv, vs, rfl, hpo, hpr⟩, hb3⟩
        have HB3 := Lib.hid hb3
        have HO3 := Lib.hid (owns_below HOUR.out hb3)
        have HPR := Lib.hid hpr
        have HNC := Lib.hid (show cur.length + xp.length = (cur ++ xp).length from by rw [List.length_append])
        have HS3 := Lib.hid (show w.heap.size + 1 ≤ w3.heap.size from by have h1 := Blk.lt HBXR.out; have h2 := hb3.size; omega)
        have HVL := Lib.hid (show vs.length = xp.length from hpr.1)
        rcases owns_cases hpo with ⟨rfl, hx0, hvs⟩ | ⟨pg, pcap, rfl, hpc⟩
        · have hxp : xp = [] := List.eq_nil_of_length_eq_zero hx0
          subst hxp
          have HRB := Lib.hid (RP.below HRP.out HP.out hb3)
          clear hb3 hpo hpr a0 a1 a2 a3 a4 v0 v1 v2 v3 v4 hx0
          go_wp2_with (at_builtin; refine wpList_append_own_none rfl _ _ 33 rfl (w.heap.size + 1) 22 i22 1 Try.underlying33 hi0 _ _ _ rfl HO3.out rfl ?_)
          go_wp2
          go_roundg (gk - 1)
          case measure => omega
          case rel => exact ⟨k + 1, by omega, by go_num, by omega, by rw [← HKN.out, List.append_nil]; exact HRB.out⟩
        · have HPC := Lib.hid hpc
          clear hb3 hpo hpr hpc a0 a1 a2 a3 a4 v0 v1 v2 v3 v4
          generalize hxl : xp.length = xl at *
          generalize hcl : cur.length = cl at *
          go_wp2_with (at_builtin; refine wpList_append_own _ rfl _ _ 33 rfl (w.heap.size + 1) 22 i22 (.slice none 0 0) 1 24 Try.underlying33 hi0 hz0 hz1 hz2 rfl (by decide) _ _ _ rfl HO3.out ⟨pg, 0, none⟩ xl pcap vs rfl ?d0 ?d1 ?d2 ?d3 ?d4 ?d5 ?_)
          case d0 => rw [HVL.out, Nat.mul_one]
          case d1 => exact HPC.out
          case d2 => exact HPR.out.2.1
          case d3 => unfold maxLen; omega
          case d4 => omega
          case d5 => exact HS3.out
          intro v' w4 hown' hgrow _
          have HR4 := Lib.hid (show RP w w4 P #[.int .i64 op, .int .i64 nn, .string ss, .slice na mn nc, .slice (some ⟨b, off, none⟩) ln lc] v' (cur ++ xp) from RP.push (w3 := w4) HP.out HBW.out HBXR.out (by rw [hcl]; exact HOUR.out) HROW.out HB3.out HPR.out (n := cl + xl) (by rw [← HNC.out]) hown' hgrow)
          clear hown' hgrow
          go_wp2
          go_roundg (gk - 1)
          case measure => omega
          case rel => exact ⟨k + 1, by omega, by go_num, by omega, by rw [← HKN.out]; exact HR4.out⟩
      · have hkk : k = ln := by omega
        subst hkk
        have HE := Lib.hid (LOOPEND.out wr _ (by have := HRP.out; rw [HFIN.out] at this; exact this))
        clear hbw
        go_wp2
        go_ret
        exact HE.out
end Go.Proofs.Ytkhpihacjhhklaa

/-
  Walks of layer 3: a list of trees is cloned.
-/
namespace Go.Proofs.Ytkhpihacjhhklaa
open Go Go.RowKit
open Pl (Syn)
set_option linter.unusedSimpArgs false

theorem infoSyn : (Try.prog.info? 25).map (fun i => (i.zero, i.size, i.bytes)) = some (some (.agg #[.int .i64 0, .int .i64 0, .string ByteArray.empty, .slice none 0 0, .slice none 0 0]), 5, 80) := by kernel_rfl
/-- the five cells of a node in a block's cells -/
def NodeIn (cur : Array Value) (o : Nat) (v : Value) : Prop := ∃ x0 x1 x2 x3 x4, v = .agg #[x0, x1, x2, x3, x4] ∧ cur[o]? = some x0 ∧ cur[o + 1]? = some x1 ∧ cur[o + 2]? = some x2 ∧ cur[o + 3]? = some x3 ∧ cur[o + 4]? = some x4
/-- a list of trees whose nodes lie in a block of the call's own, their parts in the blocks Q -/
def FreshSl (w : World) (base : Nat) (Q : Nat → Prop) (v : Value) (l : List Syn) : Prop :=
  ∃ a c, v = .slice a l.length c ∧ l.length ≤ c ∧ c ≤ maxLen ∧ (a = none → c = 0) ∧ (l = [] ∨ ∃ g cur, a = some ⟨g, 0, none⟩ ∧ base ≤ g ∧ Blk w g 25 cur ∧ l.length * 5 ≤ cur.size ∧ ∀ j (h : j < l.length), ∃ x, NodeIn cur (j * 5) x ∧ SynV w Q l[j] x)
theorem NodeIn.at {w : World} {g o : Nat} {cur : Array Value} {v : Value} {T : TypeId} (h : NodeIn cur o v) (hb : Blk w g T cur) : NodeAt w g o v := by
  obtain ⟨x0, x1, x2, x3, x4, rfl, h0, h1, h2, h3, h4⟩ := h
  exact ⟨x0, x1, x2, x3, x4, rfl, hb.cell _ _ h0, hb.cell _ _ h1, hb.cell _ _ h2, hb.cell _ _ h3, hb.cell _ _ h4⟩
/-- as a list of trees -/
theorem FreshSl.syns {w : World} {base : Nat} {Q R : Nat → Prop} {v : Value} {l : List Syn} (h : FreshSl w base Q v l) (hQ : ∀ b, Q b → R b) (hR : ∀ b, base ≤ b → b < w.heap.size → R b) : SynSl w R v l := by
  obtain ⟨a, c, h1, h2, h3, h4, h5⟩ := h
  refine ⟨a, c, h1, h2, h3, h4, ?_⟩
  rcases h5 with h5 | ⟨g, cur, h5, h6, h7, -, h8⟩
  · exact .inl h5
  · refine .inr ⟨g, 0, h5, hR g h6 h7.lt, ?_⟩
    rw [kidsAt_iff]
    intro j hj
    obtain ⟨x, hx, hv⟩ := h8 j hj
    exact ⟨x, by rw [Nat.zero_add]; exact hx.at h7, hv.mono hQ⟩
theorem one_cell_of {w : World} {P : Nat → Prop} {t : Syn} {v : Value} (h : SynV w P t v) : ∃ x0 x1 x2 x3 x4, v = .agg #[x0, x1, x2, x3, x4] ∧ x0.oneCell' = true ∧ x1.oneCell' = true ∧ x2.oneCell' = true ∧ x3.oneCell' = true ∧ x4.oneCell' = true := by
  obtain ⟨na, nn, nc, la, ln, lc, rfl⟩ := h.form
  exact ⟨_, _, _, _, _, rfl, rfl, rfl, rfl, rfl, rfl⟩
/-- the cells of nodes side by side -/
theorem kid_row {w : World} {P : Nat → Prop} {l : List Syn} {b off : Nat} (h : KidsAt w P l b off) : ∃ us : List Value, us.length = l.length * 5 ∧ (∀ i u, us[i]? = some u → w.cell? ⟨b, off + i, none⟩ = some u) ∧ ∀ u ∈ us, u.oneCell' = true := by
  induction l generalizing off with
  | nil => exact ⟨[], rfl, (fun i u hu => by simp at hu), fun u hu => by cases hu⟩
  | cons t r ih =>
    rw [KidsAt] at h
    obtain ⟨⟨v, hv, hs⟩, hr⟩ := h
    obtain ⟨us, h1, h2, h3⟩ := ih hr
    obtain ⟨x0, x1, x2, x3, x4, rfl, o0, o1, o2, o3, o4⟩ := one_cell_of hs
    obtain ⟨y0, y1, y2, y3, y4, he, c0, c1, c2, c3, c4⟩ := hv
    simp only [Value.agg.injEq, Array.mk.injEq, List.cons.injEq, and_true] at he
    obtain ⟨rfl, rfl, rfl, rfl, rfl⟩ := he
    refine ⟨x0 :: x1 :: x2 :: x3 :: x4 :: us, by simp [h1]; omega, fun i u hu => ?_, fun u hu => ?_⟩
    · match i, hu with
      | 0, hu => simp at hu; subst hu; exact c0
      | 1, hu => simp at hu; subst hu; exact c1
      | 2, hu => simp at hu; subst hu; exact c2
      | 3, hu => simp at hu; subst hu; exact c3
      | 4, hu => simp at hu; subst hu; exact c4
      | i + 5, hu =>
        have := h2 i u (by simpa using hu)
        rw [show off + 5 + i = off + (i + 5) from by omega] at this
        exact this
    · simp at hu
      rcases hu with rfl | rfl | rfl | rfl | rfl | hu
      · exact o0
      · exact o1
      · exact o2
      · exact o3
      · exact o4
      · exact h3 u hu
theorem fresh_of {w w1 : World} {base : Nat} {P : Nat → Prop} {l : List Syn} {b off : Nat} {us : List Value} {v' : Value} (hk : KidsAt w P l b off) (hl : us.length = l.length * 5) (hu : ∀ i u, us[i]? = some u → w.cell? ⟨b, off + i, none⟩ = some u) (hs : Same P w w1) (hne : 0 < l.length)
    (ho : w1.ownsRow base 25 5 v' l.length us) : FreshSl w1 base P v' l := by
  rcases ho.2 with ⟨_, h0⟩ | ⟨g, cap, cur, rfl, hbg, hg, hnc, hcm, hcs, htake⟩
  · omega
  · refine ⟨_, cap, rfl, hnc, hcm, (fun h => by cases h), .inr ⟨g, cur, rfl, hbg, hg, by rw [hcs]; exact Nat.mul_le_mul_right 5 hnc, fun j hj => ?_⟩⟩
    obtain ⟨v, hv, hsv⟩ := (kidsAt_iff _ _ _ _ _).1 hk j hj
    refine ⟨v, ?_, hsv.keep hs⟩
    have each : ∀ d x, d < 5 → w.cell? ⟨b, off + j * 5 + d, none⟩ = some x → cur[j * 5 + d]? = some x := by
      intro d x hd hx
      have hlt : j * 5 + d < us.length := by rw [hl]; omega
      have h1 := hu (j * 5 + d) us[j * 5 + d] (List.getElem?_eq_getElem hlt)
      rw [← Nat.add_assoc, hx] at h1
      injection h1 with h1
      have h2 : us[j * 5 + d]? = some x := by rw [h1]; exact List.getElem?_eq_getElem hlt
      rw [← htake, List.getElem?_take_of_lt (by rw [hl] at hlt; exact hlt)] at h2
      simpa using h2
    obtain ⟨x0, x1, x2, x3, x4, rfl, c0, c1, c2, c3, c4⟩ := hv
    exact ⟨x0, x1, x2, x3, x4, rfl, each 0 _ (by omega) c0, each 1 _ (by omega) c1, each 2 _ (by omega) c2, each 3 _ (by omega) c3, each 4 _ (by omega) c4⟩
set_option maxRecDepth 100000 in
set_option maxHeartbeats 4000000 in
theorem cloneSyn_any (P : Nat → Prop) (v : Value) (l : List Syn) (w : World) (hP : ∀ b, P b → b < w.heap.size) (h : SynSl w P v l) (hbig : l.length ≤ 536870912) :
    Calls Try.prog 58 #[v] w fun e w' => (∃ a n c, e = .returned (.slice a n c) ∧ FreshSl w' w.heap.size P (.slice a n c) l) ∧ Below w.heap.size w w' := by
  obtain ⟨i25, hi0, hz0, hz1, hz2⟩ := info_parts infoSyn
  have HB := Lib.hid (show Below w.heap.size w (w.alloc (.cells #[] 25)) from (Below.refl _ _).alloc (Nat.le_refl _) _)
  have HBL := Lib.hid (Below.refl w.heap.size w)
  have HO := Lib.hid (show (w.alloc (.cells #[] 25)).ownsRow w.heap.size 25 5 (.slice (some ⟨w.heap.size, 0, none⟩) 0 0) 0 [] from ⟨rfl, .inr ⟨w.heap.size, 0, #[], rfl, Nat.le_refl _, blk_new w #[] 25, Nat.le_refl _, Nat.zero_le _, rfl, rfl⟩⟩)
  have HN := Lib.hid (fun (a : Option Addr) c W (h1 : c ≤ maxLen) (h2 : a = none → c = 0) => show FreshSl W w.heap.size P (.slice a 0 c) [] from ⟨a, c, rfl, Nat.zero_le _, h1, h2, .inl rfl⟩)
  rcases h.cases with ⟨rfl, a, c, rfl, hac, hcm⟩ | ⟨b, off, n, c, rfl, hnl, hn0, hnc, hcm, hPb, hka⟩
  · clear h
    cases a with
    | none =>
      obtain rfl := hac rfl
      have he : ∀ W : World, (binOp .eql 23 (.slice none 0 0) (.slice none 0 0)).run Try.prog W = .ok (.bool true) W := fun _ => rfl
      go_enter Try.func58, Try.ntmps58
      go_wp2
      go_ret
      exact ⟨⟨none, 0, 0, rfl, HN.out _ _ _ (Nat.zero_le _) (fun _ => rfl)⟩, HBL.out⟩
    | some a =>
      have he : ∀ W : World, (binOp .eql 23 (.slice (some a) 0 c) (.slice none 0 0)).run Try.prog W = .ok (.bool false) W := fun _ => rfl
      go_enter Try.func58, Try.ntmps58
      go_wp2_with (at_builtin; refine wpList_append_own _ rfl _ _ 23 rfl w.heap.size 25 i25 (.agg #[.int .i64 0, .int .i64 0, .string ByteArray.empty, .slice none 0 0, .slice none 0 0]) 5 80 Try.underlying23 hi0 hz0 hz1 hz2 rfl (by decide) _ _ _ rfl HO.out a 0 c [] rfl ?c0 ?c1 ?c2 ?c3 ?c4 ?c5 ?_)
      case c0 => rfl
      case c1 => intro j u hj; simp at hj
      case c2 => intro u hu; cases hu
      case c3 => exact Nat.zero_le _
      case c4 => omega
      case c5 => exact HB.out.size
      intro v' w1 hown hgrow _
      have HB1 := Lib.hid (HB.out.grown hgrow HB.out.size (fun j hj => (HO.out.lt j hj).1))
      have HO1 := Lib.hid hown
      clear hown hgrow
      go_wp2
      go_ret
      refine ⟨?_, HB1.out⟩
      rcases HO1.out.2 with ⟨rfl, _⟩ | ⟨g, cap, cur, rfl, _, _, _, hcm2, _, _⟩
      · exact ⟨none, 0, 0, rfl, HN.out _ _ _ (Nat.zero_le _) (fun _ => rfl)⟩
      · exact ⟨_, _, cap, rfl, HN.out _ _ _ hcm2 (fun h => by cases h)⟩
  · obtain ⟨us, hul, huc, hu1⟩ := kid_row hka
    have he : ∀ W : World, (binOp .eql 23 (.slice (some ⟨b, off, none⟩) n c) (.slice none 0 0)).run Try.prog W = .ok (.bool false) W := fun _ => rfl
    have HKA := Lib.hid hka
    have HUL := Lib.hid hul
    have HUC := Lib.hid huc
    have HU1 := Lib.hid hu1
    have HP := Lib.hid hP
    have HPB := Lib.hid hPb
    have HNL := Lib.hid hnl
    rw [hnl] at hbig
    clear hka hul huc hu1 hP hPb hnl h
    go_enter Try.func58, Try.ntmps58
    go_wp2_with (at_builtin; refine wpList_append_own _ rfl _ _ 23 rfl w.heap.size 25 i25 (.agg #[.int .i64 0, .int .i64 0, .string ByteArray.empty, .slice none 0 0, .slice none 0 0]) 5 80 Try.underlying23 hi0 hz0 hz1 hz2 rfl (by decide) _ _ _ rfl HO.out ⟨b, off, none⟩ n c us rfl ?c0 ?c1 ?c2 ?c3 ?c4 ?c5 ?_)
    case c0 => rw [HUL.out, HNL.out]
    case c1 =>
      intro j u hj
      rw [Go.WideShapes.add_plain, HB.out.cell (p := ⟨b, off + j, none⟩) (HP.out _ HPB.out)]
      exact HUC.out j u hj
    case c2 => exact HU1.out
    case c3 => unfold maxLen; omega
    case c4 => omega
    case c5 => exact HB.out.size
    intro v' w1 hown hgrow _
    have HB1 := Lib.hid (HB.out.grown hgrow HB.out.size (fun j hj => (HO.out.lt j hj).1))
    have HO1 := Lib.hid hown
    clear hown hgrow
    go_wp2
    go_ret
    refine ⟨?_, HB1.out⟩
    have ho : w1.ownsRow w.heap.size 25 5 v' l.length us := by
      have := HO1.out
      rw [← HNL.out] at this
      exact this
    have hf := fresh_of (w1 := w1) HKA.out HUL.out HUC.out (Same.of_below HB1.out HP.out) (by rw [HNL.out]; exact hn0) ho
    obtain ⟨a', c', rfl, hr⟩ := id hf
    exact ⟨a', _, c', rfl, hf⟩
end Go.Proofs.Ytkhpihacjhhklaa

/-
  Walks of layer 3: a tree is copied.
-/
namespace Go.Proofs.Ytkhpihacjhhklaa
open Go Go.RowKit
open Pl (Syn)
set_option linter.unusedSimpArgs false

/-- five cells are written -/
def put5 (cur : Array Value) (o : Nat) (x0 x1 x2 x3 x4 : Value) : Array Value := ((((cur.setIfInBounds o x0).setIfInBounds (o + 1) x1).setIfInBounds (o + 2) x2).setIfInBounds (o + 3) x3).setIfInBounds (o + 4) x4
theorem put5_size (cur : Array Value) (o : Nat) (x0 x1 x2 x3 x4 : Value) : (put5 cur o x0 x1 x2 x3 x4).size = cur.size := by unfold put5; simp
theorem put5_in (cur : Array Value) (o : Nat) (x0 x1 x2 x3 x4 : Value) (h : o + 4 < cur.size) : NodeIn (put5 cur o x0 x1 x2 x3 x4) o (.agg #[x0, x1, x2, x3, x4]) := by
  refine ⟨x0, x1, x2, x3, x4, rfl, ?_, ?_, ?_, ?_, ?_⟩ <;> (unfold put5; simp [Array.getElem?_setIfInBounds]; try omega)
theorem put5_other (cur : Array Value) (o : Nat) (x0 x1 x2 x3 x4 : Value) (q : Nat) (v : Value) (hq : q + 4 < o ∨ o + 4 < q) (h : NodeIn cur q v) : NodeIn (put5 cur o x0 x1 x2 x3 x4) q v := by
  obtain ⟨y0, y1, y2, y3, y4, rfl, h0, h1, h2, h3, h4⟩ := h
  have each : ∀ d y, d < 5 → cur[q + d]? = some y → (put5 cur o x0 x1 x2 x3 x4)[q + d]? = some y := by
    intro d y hd hy
    unfold put5
    rw [Array.getElem?_setIfInBounds_ne (by omega), Array.getElem?_setIfInBounds_ne (by omega), Array.getElem?_setIfInBounds_ne (by omega), Array.getElem?_setIfInBounds_ne (by omega), Array.getElem?_setIfInBounds_ne (by omega)]
    exact hy
  exact ⟨y0, y1, y2, y3, y4, rfl, each 0 _ (by omega) h0, each 1 _ (by omega) h1, each 2 _ (by omega) h2, each 3 _ (by omega) h3, each 4 _ (by omega) h4⟩
/-- the blocks of a call's own, but one -/
def Own (w wr : World) (g : Option Nat) (b : Nat) : Prop := w.heap.size + 2 ≤ b ∧ b < wr.heap.size ∧ g ≠ some b
/-- what copied holds while it goes on: the first k parts are copies -/
structure CP (w wr : World) (P : Nat → Prop) (t : Syn) (ma : Option Addr) (mc : Nat) (ga : Option Addr) (gc : Nat) (k : Nat) : Prop where
  below : Below w.heap.size w wr
  box : Blk wr w.heap.size 25 #[.int .i64 t.op, .int .i64 t.n, .string t.s, .slice ma t.names.length mc, .slice ga t.l.length gc]
  res : Blk wr (w.heap.size + 1) 25 #[.int .i64 0, .int .i64 0, .string ByteArray.empty, .slice none 0 0, .slice none 0 0]
  names : StrSl wr (fun b => Own w wr none b ∧ (t.l ≠ [] → ga ≠ some ⟨b, 0, none⟩)) (.slice ma t.names.length mc) t.names
  len : t.l.length ≤ gc ∧ gc ≤ maxLen ∧ (ga = none → gc = 0)
  row : t.l = [] ∨ ∃ g cur, ga = some ⟨g, 0, none⟩ ∧ w.heap.size + 2 ≤ g ∧ Blk wr g 25 cur ∧ t.l.length * 5 ≤ cur.size ∧
    (∀ j (h : j < t.l.length), j < k → ∃ x, NodeIn cur (j * 5) x ∧ SynV wr (Own w wr (some g)) t.l[j] x) ∧ (∀ j (h : j < t.l.length), k ≤ j → ∃ x, NodeIn cur (j * 5) x ∧ SynV wr P t.l[j] x)
def store5 (w : World) (g o : Nat) (x0 x1 x2 x3 x4 : Value) : World := ((((w.setCell ⟨g, o, none⟩ x0).setCell ⟨g, o + 1, none⟩ x1).setCell ⟨g, o + 2, none⟩ x2).setCell ⟨g, o + 3, none⟩ x3).setCell ⟨g, o + 4, none⟩ x4
theorem store5_blk {w : World} {g : Nat} {T : TypeId} {cur : Array Value} (h : Blk w g T cur) (o : Nat) (x0 x1 x2 x3 x4 : Value) : Blk (store5 w g o x0 x1 x2 x3 x4) g T (put5 cur o x0 x1 x2 x3 x4) :=
  ((((h.set o x0).set (o + 1) x1).set (o + 2) x2).set (o + 3) x3).set (o + 4) x4
theorem store5_size (w : World) (g o : Nat) (x0 x1 x2 x3 x4 : Value) : (store5 w g o x0 x1 x2 x3 x4).heap.size = w.heap.size := by
  unfold store5
  rw [size_setCell, size_setCell, size_setCell, size_setCell, size_setCell]
theorem store5_other (w : World) (g o : Nat) (x0 x1 x2 x3 x4 : Value) (b : Nat) (h : b ≠ g) : (store5 w g o x0 x1 x2 x3 x4).heap[b]? = w.heap[b]? := by
  unfold store5
  rw [Below.heap_setCell _ _ _ _ h, Below.heap_setCell _ _ _ _ h, Below.heap_setCell _ _ _ _ h, Below.heap_setCell _ _ _ _ h, Below.heap_setCell _ _ _ _ h]
theorem store5_below {B : Nat} {a w : World} (h : Below B a w) (g o : Nat) (x0 x1 x2 x3 x4 : Value) (hB : B ≤ g) : Below B a (store5 w g o x0 x1 x2 x3 x4) :=
  ((((h.setCell (p := ⟨g, o, none⟩) hB x0).setCell (p := ⟨g, o + 1, none⟩) hB x1).setCell (p := ⟨g, o + 2, none⟩) hB x2).setCell (p := ⟨g, o + 3, none⟩) hB x3).setCell (p := ⟨g, o + 4, none⟩) hB x4
theorem CP.push {w wr w5 : World} {P : Nat → Prop} {t : Syn} {ma : Option Addr} {mc g gc k B : Nat} {x0 x1 x2 x3 x4 : Value} (hP : ∀ b, P b → b < w.heap.size) (h : CP w wr P t ma mc (some ⟨g, 0, none⟩) gc k) (hk : k < t.l.length) (hb : Below wr.heap.size wr w5) (hB : wr.heap.size ≤ B)
    (hv : SynV w5 (fun b => B ≤ b ∧ b < w5.heap.size) t.l[k] (.agg #[x0, x1, x2, x3, x4])) : CP w (store5 w5 g (k * 5) x0 x1 x2 x3 x4) P t ma mc (some ⟨g, 0, none⟩) gc (k + 1) := by
  rcases h.row with h0 | ⟨g', cur, he, hgb, hblk, hsz, hdone, htodo⟩
  · rw [h0] at hk; simp at hk
  injection he with he
  injection he with he
  subst he
  have hne : t.l ≠ [] := fun e => by rw [e] at hk; simp at hk
  have hws := h.below.size
  have hgl := hblk.lt
  have hsame : ∀ b, b < wr.heap.size → b ≠ g → (store5 w5 g (k * 5) x0 x1 x2 x3 x4).heap[b]? = wr.heap[b]? := fun b hb1 hb2 => (store5_other w5 g (k * 5) x0 x1 x2 x3 x4 b hb2).trans (hb.block b hb1)
  have hss := hb.size
  refine ⟨store5_below (belowStep hb h.below) g (k * 5) x0 x1 x2 x3 x4 (by omega), h.box.of_eq (hsame _ h.box.lt (by omega)), h.res.of_eq (hsame _ h.res.lt (by omega)), ?_, h.len, .inr ⟨g, _, rfl, hgb, store5_blk (hblk.of_eq (hb.block g hgl)) (k * 5) x0 x1 x2 x3 x4, by rw [put5_size]; exact hsz, fun j hj hjk => ?_, fun j hj hjk => ?_⟩⟩
  · refine (h.names.keep (fun b hb1 => hsame b hb1.1.2.1 (fun e => hb1.2 hne (by rw [e])))).mono (fun b hb1 => ⟨⟨hb1.1.1, by rw [store5_size]; exact Nat.lt_of_lt_of_le hb1.1.2.1 hss, by simp⟩, hb1.2⟩)
  · by_cases hjk2 : j = k
    · subst hjk2
      refine ⟨_, put5_in cur (j * 5) x0 x1 x2 x3 x4 (by omega), (hv.keep (fun b hb1 => store5_other w5 g (j * 5) x0 x1 x2 x3 x4 b (by omega))).mono (fun b hb1 => ⟨by omega, by rw [store5_size]; exact hb1.2, fun e => ?_⟩)⟩
      injection e with e
      omega
    · obtain ⟨x, hx, hs⟩ := hdone j hj (by omega)
      exact ⟨x, put5_other cur (k * 5) x0 x1 x2 x3 x4 (j * 5) x (by omega) hx, (hs.keep (fun b hb1 => hsame b hb1.2.1 (fun e => hb1.2.2 (by rw [e])))).mono (fun b hb1 => ⟨hb1.1, by rw [store5_size]; exact Nat.lt_of_lt_of_le hb1.2.1 hss, hb1.2.2⟩)⟩
  · obtain ⟨x, hx, hs⟩ := htodo j hj (by omega)
    exact ⟨x, put5_other cur (k * 5) x0 x1 x2 x3 x4 (j * 5) x (by omega) hx, hs.keep (fun b hb1 => hsame b (by have := hP b hb1; omega) (by have := hP b hb1; omega))⟩
/-- all parts are copies: the tree is one -/
theorem CP.done {w wr w' : World} {P : Nat → Prop} {t : Syn} {ma : Option Addr} {mc : Nat} {ga : Option Addr} {gc k : Nat} (h : CP w wr P t ma mc ga gc k) (hk : t.l.length ≤ k) (hs : t.s.size ≤ maxLen) (hsame : ∀ b, w.heap.size + 2 ≤ b → b < wr.heap.size → w'.heap[b]? = wr.heap[b]?) (hsz : wr.heap.size ≤ w'.heap.size) :
    SynV w' (fun b => w.heap.size ≤ b ∧ b < w'.heap.size) t (.agg #[.int .i64 t.op, .int .i64 t.n, .string t.s, .slice ma t.names.length mc, .slice ga t.l.length gc]) := by
  rw [synV_iff]
  refine ⟨hs, _, _, rfl, (h.names.keep (fun b hb1 => hsame b hb1.1.1 hb1.1.2.1)).mono (fun b hb1 => ⟨by have := hb1.1.1; omega, Nat.lt_of_lt_of_le hb1.1.2.1 hsz⟩), ga, gc, rfl, h.len.1, h.len.2.1, h.len.2.2, ?_⟩
  rcases h.row with h0 | ⟨g, cur, rfl, hgb, hblk, hcs, hdone, -⟩
  · exact .inl h0
  · have hgl := hblk.lt
    refine .inr ⟨g, 0, rfl, ⟨by omega, by omega⟩, ?_⟩
    rw [kidsAt_iff]
    intro j hj
    obtain ⟨x, hx, hv⟩ := hdone j hj (by omega)
    refine ⟨x, by rw [Nat.zero_add]; exact hx.at (hblk.of_eq (hsame g hgb hgl)), (hv.keep (fun b hb1 => hsame b hb1.1 hb1.2.1)).mono (fun b hb1 => ⟨by have := hb1.1; omega, Nat.lt_of_lt_of_le hb1.2.1 hsz⟩)⟩
def CopyPost (t : Syn) (w : World) (e : Ending) (w' : World) : Prop := (∃ v, e = .returned v ∧ SynV w' (fun b => w.heap.size ≤ b ∧ b < w'.heap.size) t v) ∧ Below w.heap.size w w'
set_option maxRecDepth 100000 in
set_option maxHeartbeats 8000000 in
theorem copied_any (P : Nat → Prop) (t : Syn) : ∀ (w : World) (v : Value), (∀ b, P b → b < w.heap.size) → SynV w P t v → t.big ≤ 268435456 →
    Calls Try.prog 48 #[v] w (CopyPost t w) := by
  induction t using Syn.ind with
  | h t ih =>
  intro w v hP ht hbig
  have hlb := Pl.len_big t
  have hbe := Pl.big_eq t
  have HIH := Lib.hid (fun x (hx : x ∈ t.l) w v hP ht => ih x hx w v hP ht (by have := Pl.mem_big hx; omega))
  have HS := Lib.hid ((synV_iff _ _ _ _).1 ht).1
  rw [synV_iff] at ht
  obtain ⟨hs, nv, lv, rfl, hn, hl⟩ := ht
  obtain ⟨na, nc, rfl, hnm⟩ := hn.form
  obtain ⟨la, lc, rfl, hlmm⟩ := hl.form
  have HP := Lib.hid hP
  have hb0 := below2 w (.cells #[.int .i64 t.op, .int .i64 t.n, .string t.s, .slice na t.names.length nc, .slice la t.l.length lc] 25) (.cells #[.int .i64 0, .int .i64 0, .string ByteArray.empty, .slice none 0 0, .slice none 0 0] 25)
  have hbx := boxes_new w #[.int .i64 t.op, .int .i64 t.n, .string t.s, .slice na t.names.length nc, .slice la t.l.length lc] #[.int .i64 0, .int .i64 0, .string ByteArray.empty, .slice none 0 0, .slice none 0 0]
  have HN := Lib.hid (fun W (hW : Below w.heap.size w W) => cloneStrs_any P _ t.names W (hn.keep (Same.of_below hW hP)) (by omega))
  have HL := Lib.hid (fun W (hW : Below w.heap.size w W) => cloneSyn_any P _ t.l W (fun b hb => Nat.lt_of_lt_of_le (hP b hb) hW.size) (hl.keep (Same.of_below hW hP)) (by omega))
  have HB0 := Lib.hid hb0
  have HBX := Lib.hid hbx
  have HSZ := Lib.hid (show ((w.alloc (.cells #[.int .i64 t.op, .int .i64 t.n, .string t.s, .slice na t.names.length nc, .slice la t.l.length lc] 25)).alloc (.cells #[.int .i64 0, .int .i64 0, .string ByteArray.empty, .slice none 0 0, .slice none 0 0] 25)).heap.size = w.heap.size + 2 by simp)
  obtain ⟨x0, x1, x2, x3, x4⟩ := box_cells hbx.1
  have f3 := hbx.1.thaw 3
  have f4 := hbx.1.thaw 4
  clear hs hn hl hb0 hbx hP ih
  go_enter Try.func48, Try.ntmps48
  go_wp2_with fail
  refine (HN.out _ HB0.out).mono ?_
  rintro e w1 ⟨ma, mn, mc, rfl, hst, hb1⟩
  obtain ⟨ma', mc', hme, hmn⟩ := hst.form
  injection hme with hm1 hm2 hm3
  subst hm1 hm2 hm3
  have HB1 := Lib.hid (belowStep hb1 HB0.out)
  have HX1 := Lib.hid (HBX.out.below hb1)
  have HST := Lib.hid hst
  have HS1 := Lib.hid (show w.heap.size + 2 ≤ w1.heap.size from by have := hb1.size; rw [HSZ.out] at this; exact this)
  clear hb1 hst x0 x1 x2 x3 x4 f3 f4
  obtain ⟨x0, x1, x2, x3, x4⟩ := box_cells HX1.out.1
  have f3 := HX1.out.1.thaw 3
  have f4 := HX1.out.1.thaw 4
  go_wp2_with fail
  have hb2 : Below w.heap.size w (w1.setCell ⟨w.heap.size, 3, none⟩ (.slice ma t.names.length mc)) := HB1.out.setCell (p := ⟨w.heap.size, 3, none⟩) (Nat.le_refl _) _
  have hx2 : Blk (w1.setCell ⟨w.heap.size, 3, none⟩ (.slice ma t.names.length mc)) w.heap.size 25 #[.int .i64 t.op, .int .i64 t.n, .string t.s, .slice ma t.names.length mc, .slice la t.l.length lc] := by simpa using HX1.out.1.set 3 (.slice ma t.names.length mc)
  have hy2 := HX1.out.2.other ⟨w.heap.size, 3, none⟩ (.slice ma t.names.length mc) (by show w.heap.size + 1 ≠ w.heap.size; omega)
  have hst2 : StrSl (w1.setCell ⟨w.heap.size, 3, none⟩ (.slice ma t.names.length mc)) (fun b => w.heap.size + 2 ≤ b ∧ b < w1.heap.size) (.slice ma t.names.length mc) t.names := (HST.out.mono (fun b hb => ⟨by have := hb.1; rw [HSZ.out] at this; exact this, hb.2⟩)).keep (fun b hb => Below.heap_setCell w1 ⟨w.heap.size, 3, none⟩ _ b (by show b ≠ w.heap.size; omega))
  have hsz2 : (w1.setCell ⟨w.heap.size, 3, none⟩ (.slice ma t.names.length mc)).heap.size = w1.heap.size := size_setCell _ _ _
  generalize w1.setCell ⟨w.heap.size, 3, none⟩ (.slice ma t.names.length mc) = w2 at *
  refine (HL.out _ hb2).mono ?_
  rintro e w3 ⟨⟨ga, gn, gc, rfl, hfr⟩, hb3⟩
  have HB3 := Lib.hid (belowStep hb3 hb2)
  have HX3 := Lib.hid (hx2.of_eq (hb3.block _ hx2.lt))
  have HY3 := Lib.hid (hy2.of_eq (hb3.block _ hy2.lt))
  have HST3 := Lib.hid (hst2.keep (Same.of_below hb3 (fun b hb => by omega)))
  rw [hsz2] at hfr
  have HFR := Lib.hid hfr
  have HG3 := Lib.hid (show w1.heap.size ≤ w3.heap.size from by have := hb3.size; omega)
  obtain ⟨ga', gc', hge, hfl, hfm, hfn, hfx⟩ := hfr
  injection hge with hg1 hg2 hg3
  subst hg1 hg2 hg3
  clear hfl hfm hfn hfx hb3 hst2 hy2 x0 x1 x2 x3 x4 f3 f4 hb2 hx2
  obtain ⟨x0, x1, x2, x3, x4⟩ := box_cells HX3.out
  have f3 := HX3.out.thaw 3
  have f4 := HX3.out.thaw 4
  go_wp2_with fail
  have hb4 : Below w.heap.size w (w3.setCell ⟨w.heap.size, 4, none⟩ (.slice ga t.l.length gc)) := HB3.out.setCell (p := ⟨w.heap.size, 4, none⟩) (Nat.le_refl _) _
  have hx4 : Blk (w3.setCell ⟨w.heap.size, 4, none⟩ (.slice ga t.l.length gc)) w.heap.size 25 #[.int .i64 t.op, .int .i64 t.n, .string t.s, .slice ma t.names.length mc, .slice ga t.l.length gc] := by simpa using HX3.out.set 4 (.slice ga t.l.length gc)
  have hy4 := HY3.out.other ⟨w.heap.size, 4, none⟩ (.slice ga t.l.length gc) (by show w.heap.size + 1 ≠ w.heap.size; omega)
  have hsz4 : (w3.setCell ⟨w.heap.size, 4, none⟩ (.slice ga t.l.length gc)).heap.size = w3.heap.size := size_setCell _ _ _
  have hset4 : ∀ b, b ≠ w.heap.size → (w3.setCell ⟨w.heap.size, 4, none⟩ (.slice ga t.l.length gc)).heap[b]? = w3.heap[b]? := fun b hb => Below.heap_setCell w3 ⟨w.heap.size, 4, none⟩ _ b hb
  have HCP := Lib.hid (show CP w (w3.setCell ⟨w.heap.size, 4, none⟩ (.slice ga t.l.length gc)) P t ma mc ga gc 0 from by
    obtain ⟨a', c', he, k1, k2, k3, k4⟩ := HFR.out
    injection he with e1 e2 e3
    subst e1 e3
    refine ⟨hb4, hx4, hy4, ?_, ⟨k1, k2, k3⟩, ?_⟩
    · refine (HST3.out.keep (fun b hb => hset4 b (by omega))).mono (fun b hb => ⟨⟨hb.1, by rw [hsz4]; exact Nat.lt_of_lt_of_le hb.2 HG3.out, by simp⟩, fun hne e => ?_⟩)
      rcases k4 with k4 | ⟨g, cur, rfl, k5, k6, k7, k8⟩
      · exact hne k4
      · injection e with e; injection e with e; omega
    · rcases k4 with k4 | ⟨g, cur, rfl, k5, k6, k7, k8⟩
      · exact .inl k4
      · refine .inr ⟨g, cur, rfl, by have := HS1.out; omega, k6.of_eq (hset4 g (by have := HS1.out; omega)), k7, fun j hj h => absurd h (Nat.not_lt_zero _), fun j hj _ => ?_⟩
        obtain ⟨x, hx, hv⟩ := k8 j hj
        exact ⟨x, hx, hv.keep (fun b hb => hset4 b (by have := HP.out b hb; omega))⟩)
  clear hb4 hx4 hy4 hsz4 hset4
  generalize w3.setCell ⟨w.heap.size, 4, none⟩ (.slice ga t.l.length gc) = w4 at *
  clear x0 x1 x2 x3 x4 f3 f4
  obtain ⟨x0, x1, x2, x3, x4⟩ := box_cells HCP.out.box
  generalize hln : t.l.length = ln at *
  have HLN := Lib.hid hln
  clear hln
  go_wp2_with fail
  go_loopg [16] (ln + 1) (fun g iv wr => ∃ k : Nat, k ≤ ln ∧ iv = .int .i64 k ∧ g = ln + 1 - k ∧ CP w wr P t ma mc ga gc k)
  case atStart => exact ⟨0, by omega, rfl, by omega, HCP.out⟩
  case round =>
    obtain ⟨k, hk, rfl, hg, hcp⟩ := hrel
    have HCK := Lib.hid hcp
    have hbx := hcp.box
    rw [HLN.out] at hbx
    have HBK := Lib.hid hbx
    obtain ⟨v0, v1, v2, v3, v4⟩ := box_cells hbx
    by_cases hlt : k < ln
    · have hkl : k < t.l.length := by rw [HLN.out]; exact hlt
      rcases hcp.row with hr | ⟨g, cur, rfl, hgb, hblk, hsz, hdone, htodo⟩
      · rw [hr] at hkl; simp at hkl
      obtain ⟨x, ⟨c0, c1, c2, c3, c4, rfl, d0, d1, d2, d3, d4⟩, hx⟩ := htodo k hkl (Nat.le_refl _)
      obtain ⟨pna, pnn, pnc, pla, pln, plc, hpf⟩ := hx.form
      simp only [Value.agg.injEq, Array.mk.injEq, List.cons.injEq, and_true] at hpf
      obtain ⟨rfl, rfl, rfl, rfl, rfl⟩ := hpf
      generalize hpo : t.l[k].op = po at *
      generalize hpn : t.l[k].n = pn at *
      generalize hps : t.l[k].s = ps at *
      have e0 := hblk.cell _ _ d0
      have e1 := hblk.cell _ _ d1
      have e2 := hblk.cell _ _ d2
      have e3 := hblk.cell _ _ d3
      have e4 := hblk.cell _ _ d4
      have g0 := hblk.thaw (k * 5)
      have g1 := hblk.thaw (k * 5 + 1)
      have g2 := hblk.thaw (k * 5 + 2)
      have g3 := hblk.thaw (k * 5 + 3)
      have g4 := hblk.thaw (k * 5 + 4)
      have hPW : ∀ b, P b → b < wr.heap.size := fun b hb => Nat.lt_of_lt_of_le (HP.out b hb) hcp.below.size
      have HI := Lib.hid (fun W (hW : Below wr.heap.size wr W) => HIH.out t.l[k] (List.getElem_mem hkl) W _ (fun b hb => Nat.lt_of_lt_of_le (hPW b hb) hW.size) (hx.keep (Same.of_below hW hPW)))
      have hal0 : Below wr.heap.size wr (wr.alloc (.cells #[.int .i64 po, .int .i64 pn, .string ps, .slice pna pnn pnc, .slice pla pln plc] 25)) := (Below.refl _ _).alloc (Nat.le_refl _) _
      have HBLK := Lib.hid hblk
      have HD := Lib.hid (And.intro d0 (And.intro d1 (And.intro d2 (And.intro d3 d4))))
      have HAL := Lib.hid hal0.drew
      have HAL0 := Lib.hid hal0
      have HGB := Lib.hid hgb
      clear hdone htodo hcp hpo hpn hps d0 d1 d2 d3 d4 hx hPW hblk hbx
      have HX0 := Lib.hid (blk_new wr #[.int .i64 po, .int .i64 pn, .string ps, .slice pna pnn pnc, .slice pla pln plc] 25)
      obtain ⟨m0, m1, m2, m3, m4⟩ := box_cells HX0.out
      have n4 := (hal0.cell (p := ⟨w.heap.size, 4, none⟩) (Blk.lt HBK.out)).trans v4
      clear hal0
      go_wp2
      generalize wr.alloc (.cells #[.int .i64 po, .int .i64 pn, .string ps, .slice pna pnn pnc, .slice pla pln plc] 25) = wp at *
      go_region_law (go_simp; go_at_call 48; refine (HI.out _ HAL.out).mono ?_; rintro e w5 ⟨⟨v', rfl, hv'⟩, hb5⟩; obtain ⟨qna, qnn, qnc, qla, qln, qlc, rfl⟩ := hv'.form; have HV5 := Lib.hid hv'; have HB5 := Lib.hid hb5; have HW5 := Lib.hid (belowStep hb5 HAL.out); have HBK5 := Lib.hid (Blk.of_eq HBK.out (HW5.out.block _ (Blk.lt HBK.out))); have HBL5 := Lib.hid (Blk.of_eq HBLK.out (HW5.out.block _ (Blk.lt HBLK.out))); obtain ⟨u0, u1, u2, u3, u4⟩ := box_cells HBK5.out; have r0 := HBL5.out.cell _ _ HD.out.1; have r1 := HBL5.out.cell _ _ HD.out.2.1; have r2 := HBL5.out.cell _ _ HD.out.2.2.1; have r3 := HBL5.out.cell _ _ HD.out.2.2.2.1; have r4 := HBL5.out.cell _ _ HD.out.2.2.2.2; have t0 := HBL5.out.thaw (k * 5); have t1 := HBL5.out.thaw (k * 5 + 1); have t2 := HBL5.out.thaw (k * 5 + 2); have t3 := HBL5.out.thaw (k * 5 + 3); have t4 := HBL5.out.thaw (k * 5 + 4); clear hv' hb5)
      all_goals
        have HNX := Lib.hid (CP.push HP.out HCK.out hkl HW5.out HAL.out.size HV5.out)
        unfold store5 at HNX
        go_wp2
        go_roundg (gk - 1)
        case measure => omega
        case rel => exact ⟨k + 1, by omega, by go_num, by omega, HNX.out⟩
    · have HRS := Lib.hid hcp.res
      have hrs0 := hcp.res.cell 0 _ rfl
      have hrs1 := hcp.res.cell 1 _ rfl
      have hrs2 := hcp.res.cell 2 _ rfl
      have hrs3 := hcp.res.cell 3 _ rfl
      have hrs4 := hcp.res.cell 4 _ rfl
      have th0 := hcp.res.thaw 0
      have th1 := hcp.res.thaw 1
      have th2 := hcp.res.thaw 2
      have th3 := hcp.res.thaw 3
      have th4 := hcp.res.thaw 4
      have HW5 := Lib.hid (show Below w.heap.size w (store5 wr (w.heap.size + 1) 0 (.int .i64 t.op) (.int .i64 t.n) (.string t.s) (.slice ma t.names.length mc) (.slice ga ln gc)) from store5_below hcp.below _ _ _ _ _ _ _ (Nat.le_succ _))
      have HR5 := Lib.hid (show Blk (store5 wr (w.heap.size + 1) 0 (.int .i64 t.op) (.int .i64 t.n) (.string t.s) (.slice ma t.names.length mc) (.slice ga ln gc)) (w.heap.size + 1) 25 #[.int .i64 t.op, .int .i64 t.n, .string t.s, .slice ma t.names.length mc, .slice ga ln gc] from by
        have := store5_blk hcp.res 0 (.int .i64 t.op) (.int .i64 t.n) (.string t.s) (.slice ma t.names.length mc) (.slice ga ln gc)
        simpa [put5] using this)
      have HD5 := Lib.hid (CP.done hcp (w' := store5 wr (w.heap.size + 1) 0 (.int .i64 t.op) (.int .i64 t.n) (.string t.s) (.slice ma t.names.length mc) (.slice ga ln gc)) (by rw [HLN.out]; omega) HS.out (fun b hb1 hb2 => store5_other _ _ _ _ _ _ _ _ b (by omega)) (by rw [store5_size]; exact Nat.le_refl _))
      rw [HLN.out] at HD5
      unfold store5 at HW5 HR5 HD5
      clear hcp hbx
      go_wp2
      obtain ⟨z0, z1, z2, z3, z4⟩ := box_cells HR5.out
      simp only [Nat.zero_add] at z0 z1 z2 z3 z4
      have HE := Lib.hid (show CopyPost t w (.returned _) _ from ⟨⟨_, rfl, HD5.out⟩, HW5.out⟩)
      simp only [Nat.zero_add] at HE
      refine bodyPost_ret (v := .agg #[.int .i64 t.op, .int .i64 t.n, .string t.s, .slice ma t.names.length mc, .slice ga ln gc]) (by simp [results, Try.results48, go_sem, z0, z1, z2, z3, z4]) rfl ?_
      exact HE.out
end Go.Proofs.Ytkhpihacjhhklaa
