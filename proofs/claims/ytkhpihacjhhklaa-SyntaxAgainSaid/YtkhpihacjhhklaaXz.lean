/-
  Walks of layer 3: the reference's Paths.
-/
import Derived.Test.YtkhpihacjhhklaaTs
import Derived.Test.YtkhpihacjhhklaaTu
import Derived.Laws.AppendOwnNone
import Derived.Deep.Onto
namespace Go.Proofs.Ytkhpihacjhhklaa
open Go Go.RowKit
open Pl (Syn)
set_option linter.unusedSimpArgs false

/-- a row's values are slices of these strings, in the blocks P -/
def RowOf (w : World) (P : Nat → Prop) (us : List Value) (pss : List (List ByteArray)) : Prop :=
  us.length = pss.length ∧ (∀ u ∈ us, u.oneCell' = true) ∧ ∀ j (h : j < us.length) (h' : j < pss.length), StrSl w P us[j] pss[j]
theorem RowOf.nil (w : World) (P : Nat → Prop) : RowOf w P [] [] := ⟨rfl, fun u hu => (by cases hu), fun j hj => absurd hj (Nat.not_lt_zero _)⟩
theorem RowOf.keep {w w' : World} {P : Nat → Prop} {us : List Value} {pss : List (List ByteArray)} (h : RowOf w P us pss) (hs : Same P w w') : RowOf w' P us pss := ⟨h.1, h.2.1, fun j hj hj' => (h.2.2 j hj hj').keep hs⟩
theorem RowOf.append {w : World} {P : Nat → Prop} {us vs : List Value} {pss qss : List (List ByteArray)} (h : RowOf w P us pss) (k : RowOf w P vs qss) : RowOf w P (us ++ vs) (pss ++ qss) := by
  refine ⟨by simp [h.1, k.1], fun u hu => ?_, fun j hj hj' => ?_⟩
  · rw [List.mem_append] at hu
    rcases hu with hu | hu
    · exact h.2.1 u hu
    · exact k.2.1 u hu
  · rcases Nat.lt_or_ge j us.length with hlt | hge
    · rw [List.getElem_append_left hlt, List.getElem_append_left (by rw [← h.1]; exact hlt)]
      exact h.2.2 j hlt _
    · rw [List.getElem_append_right hge, List.getElem_append_right (by rw [← h.1]; exact hge)]
      simp only [← h.1]
      exact k.2.2 _ _ _
theorem RowOf.one {w : World} {P : Nat → Prop} {u : Value} {zs : List ByteArray} (h : StrSl w P u zs) : RowOf w P [u] [zs] := by
  refine ⟨rfl, fun x hx => ?_, fun j hj hj' => ?_⟩
  · simp at hx; subst hx
    obtain ⟨a, c, rfl, -⟩ := h.form
    rfl
  · have : j = 0 := by simpa using hj
    subst this
    exact h
/-- a row's forms: nothing, or a block of its own -/
theorem owns_cases {w : World} {base : Nat} {T : TypeId} {v : Value} {n : Nat} {xs : List Value} (h : w.ownsRow base T 1 v n xs) : (v = .slice none 0 0 ∧ n = 0 ∧ xs = []) ∨ ∃ g cap, v = .slice (some ⟨g, 0, none⟩) n cap ∧ ∀ j u, xs[j]? = some u → w.cell? ((⟨g, 0, none⟩ : Addr).add j) = some u := by
  obtain ⟨hlen, hf⟩ := id h
  rcases hf with ⟨rfl, h0⟩ | ⟨g, cap, cur, rfl, hgb, hg, hnc, hm, _, _⟩
  · exact .inl ⟨rfl, h0, List.eq_nil_of_length_eq_zero (by omega)⟩
  · refine .inr ⟨g, cap, rfl, fun j u hj => ?_⟩
    have hj' : j < xs.length := by
      rcases Nat.lt_or_ge j xs.length with h1 | h1
      · exact h1
      · rw [List.getElem?_eq_none h1] at hj; cases hj
    have := h.cellAt j (by omega)
    rw [Go.WideShapes.add_plain, Nat.zero_add, this, hj]
theorem owns_ne {w : World} {base g : Nat} {T : TypeId} {v : Value} {n : Nat} {xs : List Value} (h : w.ownsRow base T 1 v n xs) (hg : g < base) : v.ownBlock ≠ some g := fun e => by have := (h.lt g e).1; omega
/-- the row stays where nothing below is written -/
theorem owns_below {w w' : World} {base : Nat} {T : TypeId} {v : Value} {n : Nat} {xs : List Value} (h : w.ownsRow base T 1 v n xs) (hb : Below w.heap.size w w') : w'.ownsRow base T 1 v n xs :=
  h.kept (row := none) ⟨hb.os, hb.tape, hb.output, hb.size, fun i hi _ => hb.block i hi⟩ (by cases ho : v.ownBlock with | none => exact .inl rfl | some k => exact .inr (by simp))
/-- what the reference's Paths holds while it goes on -/
def RP (w wr : World) (P : Nat → Prop) (box : Array Value) (u : Value) (pss : List (List ByteArray)) : Prop :=
  Below w.heap.size w wr ∧ Blk wr w.heap.size 25 box ∧ ∃ us, wr.ownsRow (w.heap.size + 1) 22 1 u pss.length us ∧ RowOf wr P us pss
theorem RP.below {w wr w' : World} {P : Nat → Prop} {box : Array Value} {u : Value} {pss : List (List ByteArray)} (h : RP w wr P box u pss) (hP : ∀ b, P b → b < w.heap.size) (hb : Below wr.heap.size wr w') : RP w w' P box u pss := by
  obtain ⟨h1, h2, us, h3, h4⟩ := h
  exact ⟨belowStep hb h1, h2.of_eq (hb.block _ h2.lt), us, owns_below h3 hb, h4.keep (Same.of_below hb (fun b hb' => Nat.lt_of_lt_of_le (hP b hb') h1.size))⟩
/-- the row is appended to -/
theorem RP.push {w wr w2 w3 : World} {P : Nat → Prop} {box : Array Value} {u u' : Value} {pss qss : List (List ByteArray)} {us vs : List Value} (hP : ∀ b, P b → b < w.heap.size) (h1 : Below w.heap.size w wr) (h2 : Blk wr w.heap.size 25 box) (h3 : wr.ownsRow (w.heap.size + 1) 22 1 u pss.length us) (h4 : RowOf wr P us pss)
    (hb : Below wr.heap.size wr w2) (hq : RowOf w2 P vs qss) {n : Nat} (hn : n = (pss ++ qss).length) (ho : w3.ownsRow (w.heap.size + 1) 22 1 u' n (us ++ vs)) (hg : w2.grownBy w3 u.ownBlock) : RP w w3 P box u' (pss ++ qss) := by
  subst hn
  have hne : u.ownBlock ≠ some w.heap.size := owns_ne h3 (Nat.lt_succ_self _)
  have hB2 := belowStep hb h1
  have hB3 : Below w.heap.size w w3 := hB2.grown hg hB2.size (fun j hj => Nat.le_of_succ_le (h3.lt j hj).1)
  refine ⟨hB3, grown_blk hg (h2.of_eq (hb.block _ h2.lt)) hne, us ++ vs, ho, ?_⟩
  have hs : Same P w2 w3 := fun b hb' => World.grownBy.block hg b (Nat.lt_of_lt_of_le (hP b hb') hB2.size) (fun e => by have := (h3.lt b e.symm).1; have := hP b hb'; omega)
  exact ((h4.keep (Same.of_below hb (fun b hb' => Nat.lt_of_lt_of_le (hP b hb') h1.size))).append hq).keep hs
theorem paths_take (l : List Syn) (k : Nat) : (Pl.pathss (l.take k)).length ≤ (Pl.pathss l).length := by
  have h := Pl.pathss_app (l.take k) (l.drop k)
  rw [List.take_append_drop] at h
  rw [h, List.length_append]
  omega
def RPost (t : Syn) (P : Nat → Prop) (w : World) (e : Ending) (w' : World) : Prop := (∃ pv us, e = .returned pv ∧ w'.ownsRow w.heap.size 22 1 pv t.paths.length us ∧ RowOf w' P us t.paths) ∧ Below w.heap.size w w'
set_option maxRecDepth 100000 in
set_option maxHeartbeats 8000000 in
theorem rpaths_any (P : Nat → Prop) (t : Syn) : ∀ (w : World) (v : Value), (∀ b, P b → b < w.heap.size) → SynV w P t v → t.big ≤ 536870912 →
    Calls Try.prog 24 #[v] w (RPost t P w) := by
  induction t using Syn.ind with
  | h t ih =>
  intro w v hP ht hbig
  have hsb := Pl.size_big t
  have hlp := Pl.len_paths t
  have hbe := Pl.big_eq t
  have HIH := Lib.hid (fun x (hx : x ∈ t.l) w v hP ht => ih x hx w v hP ht (by have := Pl.mem_big hx; omega))
  obtain ⟨i22, hi0, hz0, hz1, hz2⟩ := info_parts infoStrs
  rw [synV_iff] at ht
  obtain ⟨hs, nv, lv, rfl, hn, hl⟩ := ht
  obtain ⟨na, nc, rfl, hnm⟩ := hn.form
  obtain ⟨la, lc, rfl, hlmm⟩ := hl.form
  have hpe := Pl.paths_eq t
  have hb0 : Below w.heap.size w (w.alloc (.cells #[.int .i64 t.op, .int .i64 t.n, .string t.s, .slice na t.names.length nc, .slice la t.l.length lc] 25)) := (Below.refl _ _).alloc (Nat.le_refl _) _
  have bx := blk_new w #[.int .i64 t.op, .int .i64 t.n, .string t.s, .slice na t.names.length nc, .slice la t.l.length lc] 25
  have HNM := Lib.hid (fun W (hW : Below w.heap.size w W) => hn.keep (Same.of_below hW hP))
  have HLL := Lib.hid hl
  have HP := Lib.hid hP
  have HB0 := Lib.hid hb0
  have HBX := Lib.hid bx
  obtain ⟨y0, y1, y2, y3, y4⟩ := box_cells bx
  have HND := Lib.hid (fun W => named_any t.op W)
  have HSZ := Lib.hid (show w.heap.size + 1 ≤ (w.alloc (.cells #[.int .i64 t.op, .int .i64 t.n, .string t.s, .slice na t.names.length nc, .slice la t.l.length lc] 25)).heap.size by rw [size_alloc]; exact Nat.le_refl _)
  have HPT := Lib.hid (fun k => paths_take t.l k)
  have HSN := Lib.hid (fun k (hk : k < t.l.length) => Pl.pathss_snoc t.l k hk)
  have HMP := Lib.hid (fun k (hk : k < t.l.length) => show (Pl.pathss (t.l.take k) ++ t.l[k].paths).length ≤ (Pl.pathss t.l).length from by rw [← Pl.pathss_snoc t.l k hk]; exact paths_take t.l (k + 1))
  obtain ⟨own, hown⟩ : ∃ own, own = (if Pl.hasPath t.op then [t.names] else []) := ⟨_, rfl⟩
  rw [← hown] at hpe
  have hlen : own.length + (Pl.pathss t.l).length ≤ 536870912 := by
    have := congrArg List.length hpe
    rw [List.length_append] at this
    omega
  have HPE := Lib.hid hpe
  have hown2 : own = (if Pl.hasPath t.op = true then [t.names] else []) := hown
  clear hown hpe hlp hsb hbe hbig ih
  -- the loop, at whatever stands before it
  have LOOPEND := Lib.hid (fun (wr : World) (u : Value) (hr : RP w wr P #[.int .i64 t.op, .int .i64 t.n, .string t.s, .slice na t.names.length nc, .slice la t.l.length lc] u t.paths) => show RPost t P w (.returned u) wr from by
    obtain ⟨h1, -, us, h3, h4⟩ := hr
    exact ⟨⟨u, us, rfl, World.ownsRow.mono h3 (Nat.le_succ _), h4⟩, h1⟩)
  have HFIN := Lib.hid (show own ++ Pl.pathss (t.l.take t.l.length) = t.paths by rw [List.take_length]; exact HPE.out.symm)
  obtain ⟨ln, hln⟩ : ∃ ln, ln = t.l.length := ⟨_, rfl⟩
  rw [← hln] at hlmm y0 y1 y2 y3 y4 HBX HB0 HLL LOOPEND HSZ HFIN
  simp only [← hln]
  have HLN := Lib.hid hln.symm
  obtain ⟨mn, hmn⟩ : ∃ mn, mn = t.names.length := ⟨_, rfl⟩
  rw [← hmn] at hnm y0 y1 y2 y3 y4 HBX HB0 HNM LOOPEND HSZ
  simp only [← hmn]
  unfold maxLen at hnm hlmm
  generalize t.s = ss at *
  generalize t.n = nn at *
  clear hmn hln hs hn hl hb0 bx hP
  cases hpo : Pl.hasPath t.op
  all_goals rw [hpo] at HND hown2
  · have hown3 : own = [] := by rw [hown2]; rfl
    subst hown3
    generalize t.op = op at *
    clear hpo hown2
    go_enter Try.func24, Try.ntmps24
    go_wp2_with fail
    refine (HND.out _).mono ?_
    rintro e w1 ⟨rfl, hb1⟩
    have HR0 := Lib.hid (show RP w w1 P #[.int .i64 op, .int .i64 nn, .string ss, .slice na mn nc, .slice la ln lc] (.slice none 0 0) ([] ++ Pl.pathss (t.l.take 0)) from ⟨belowStep hb1 HB0.out, Blk.of_eq HBX.out (hb1.block _ (Blk.lt HBX.out)), [], World.ownsRow_nil _ _ _ _, by rw [List.take_zero, Pl.pathss_nil]; exact RowOf.nil _ _⟩)
    obtain ⟨z0, z1, z2, z3, z4⟩ := box_cells HR0.out.2.1
    clear hb1 y0 y1 y2 y3 y4
    go_wp2_with fail
    go_loopg [3, 4] (ln + 1) (fun g u iv wr => ∃ k : Nat, k ≤ ln ∧ iv = .int .i64 k ∧ g = ln + 1 - k ∧ RP w wr P #[.int .i64 op, .int .i64 nn, .string ss, .slice na mn nc, .slice la ln lc] u (([] : List (List ByteArray)) ++ Pl.pathss (t.l.take k)))
    case atStart => exact ⟨0, by omega, rfl, by omega, HR0.out⟩
    case round =>
      obtain ⟨k, hk, rfl, hg, hrp⟩ := hrel
      have HRP := Lib.hid hrp
      obtain ⟨hbw, hbx, us, hour, hrow⟩ := hrp
      obtain ⟨v0, v1, v2, v3, v4⟩ := box_cells hbx
      have HBW := Lib.hid hbw
      have HBXR := Lib.hid hbx
      have HOUR := Lib.hid hour
      have HROW := Lib.hid hrow
      clear hbx hour hrow z0 z1 z2 z3 z4
      by_cases hlt : k < ln
      · have hkl : k < t.l.length := by rw [HLN.out]; exact hlt
        rcases SynSl.cases HLL.out with ⟨hk0, -⟩ | ⟨b, off, n', c', hv, hnl, hn0, hnc, hcm, hPb, hka⟩
        · rw [hk0] at hkl; simp at hkl
        injection hv with hv1 hv2 hv3
        subst hv1 hv2 hv3
        unfold maxLen at hcm
        obtain ⟨xo, xn, xs, xna, xnn, xnc, xla, xln, xlc, -, a0, a1, a2, a3, a4, hxs⟩ := (hka.keep (Same.of_below hbw HP.out) hPb).part k hkl
        have hPW : ∀ b, P b → b < wr.heap.size := fun b hb => Nat.lt_of_lt_of_le (HP.out b hb) hbw.size
        have HC := Lib.hid (HIH.out t.l[k] (List.getElem_mem hkl) wr _ hPW hxs)
        have hmp := HMP.out k hkl
        have hsn := HSN.out k hkl
        have hlenk : (([] : List (List ByteArray)) ++ Pl.pathss (t.l.take k)).length + t.l[k].paths.length ≤ 536870912 := by
          rw [List.length_append] at hmp ⊢
          omega
        have HKN := Lib.hid (show (([] : List (List ByteArray)) ++ Pl.pathss (t.l.take k)) ++ t.l[k].paths = ([] : List (List ByteArray)) ++ Pl.pathss (t.l.take (k + 1)) from by rw [hsn, List.append_assoc])
        generalize ([] : List (List ByteArray)) ++ Pl.pathss (t.l.take k) = cur at *
        unfold RPost at HC
        generalize t.l[k].paths = xp at *
        have HLK := Lib.hid hlenk
        clear hka hPb hnl hn0 hnc hxs hPW hsn hmp hbw hlen
        go_wp2_with fail
        refine HC.out.mono ?_
        rintro e w3 ⟨⟨pv, vs, rfl, hpo, hpr⟩, hb3⟩
        have HB3 := Lib.hid hb3
        have HO3 := Lib.hid (owns_below HOUR.out hb3)
        have HPR := Lib.hid hpr
        have HNC := Lib.hid (show cur.length + xp.length = (cur ++ xp).length from by rw [List.length_append])
        have HS3 := Lib.hid (show w.heap.size + 1 ≤ w3.heap.size from by have h1 := Blk.lt HBXR.out; have h2 := hb3.size; omega)
        have HVL := Lib.hid (show vs.length = xp.length from hpr.1)
        rcases owns_cases hpo with ⟨rfl, hx0, hvs⟩ | ⟨pg, pcap, rfl, hpc⟩
        · have hxp : xp = [] := List.eq_nil_of_length_eq_zero hx0
          subst hxp
          have HRB := Lib.hid (RP.below HRP.out HP.out hb3)
          clear hb3 hpo hpr a0 a1 a2 a3 a4 v0 v1 v2 v3 v4 hx0
          go_wp2_with (at_builtin; refine wpList_append_own_none rfl _ _ 33 rfl (w.heap.size + 1) 22 i22 1 Try.underlying33 hi0 _ _ _ rfl HO3.out rfl ?_)
          go_wp2
          go_roundg (gk - 1)
          case measure => omega
          case rel => exact ⟨k + 1, by omega, by go_num, by omega, by rw [← HKN.out, List.append_nil]; exact HRB.out⟩
        · have HPC := Lib.hid hpc
          clear hb3 hpo hpr hpc a0 a1 a2 a3 a4 v0 v1 v2 v3 v4
          generalize hxl : xp.length = xl at *
          generalize hcl : cur.length = cl at *
          go_wp2_with (at_builtin; refine wpList_append_own _ rfl _ _ 33 rfl (w.heap.size + 1) 22 i22 (.slice none 0 0) 1 24 Try.underlying33 hi0 hz0 hz1 hz2 rfl (by decide) _ _ _ rfl HO3.out ⟨pg, 0, none⟩ xl pcap vs rfl ?d0 ?d1 ?d2 ?d3 ?d4 ?d5 ?_)
          case d0 => rw [HVL.out, Nat.mul_one]
          case d1 => exact HPC.out
          case d2 => exact HPR.out.2.1
          case d3 => unfold maxLen; omega
          case d4 => omega
          case d5 => exact HS3.out
          intro v' w4 hown' hgrow _
          have HR4 := Lib.hid (show RP w w4 P #[.int .i64 op, .int .i64 nn, .string ss, .slice na mn nc, .slice (some ⟨b, off, none⟩) ln lc] v' (cur ++ xp) from RP.push (w3 := w4) HP.out HBW.out HBXR.out (by rw [hcl]; exact HOUR.out) HROW.out HB3.out HPR.out (n := cl + xl) (by rw [← HNC.out]) hown' hgrow)
          clear hown' hgrow
          go_wp2
          go_roundg (gk - 1)
          case measure => omega
          case rel => exact ⟨k + 1, by omega, by go_num, by omega, by rw [← HKN.out]; exact HR4.out⟩
      · have hkk : k = ln := by omega
        subst hkk
        have HE := Lib.hid (LOOPEND.out wr _ (by have := HRP.out; rw [HFIN.out] at this; exact this))
        clear hbw
        go_wp2
        go_ret
        exact HE.out
  · have hown3 : own = [t.names] := by rw [hown2]; rfl
    subst hown3
    have HST := Lib.hid (fun W h => RowOf.one (HNM.out W h))
    generalize t.op = op at *
    generalize hownv : [t.names] = own at *
    have hol : own.length = 1 := by rw [← hownv]; rfl
    have HOL := Lib.hid hol
    clear hpo hown2 hownv hol
    go_enter Try.func24, Try.ntmps24
    go_wp2_with fail
    refine (HND.out _).mono ?_
    rintro e w1 ⟨rfl, hb1⟩
    have HB1 := Lib.hid (belowStep hb1 HB0.out)
    have HX1 := Lib.hid (Blk.of_eq HBX.out (hb1.block _ (Blk.lt HBX.out)))
    have HS1 := Lib.hid (Nat.le_trans HSZ.out hb1.size)
    obtain ⟨z0, z1, z2, z3, z4⟩ := box_cells HX1.out
    clear hb1 y0 y1 y2 y3 y4
    go_wp2_with (at_builtin; refine wpList_append_own _ rfl _ _ 33 rfl (w.heap.size + 1) 22 i22 (.slice none 0 0) 1 24 Try.underlying33 hi0 hz0 hz1 hz2 rfl (by decide) _ _ _ rfl (World.ownsRow_nil _ _ _ _) ⟨w1.heap.size, 0, none⟩ 1 1 [.slice na mn nc] rfl rfl ?c1 ?c2 ?c3 ?c4 ?c5 ?_)
    case c1 =>
      intro j u hj
      match j, hj with
      | 0, hj =>
        simp at hj; subst hj
        exact (blk_new w1 #[.slice na mn nc] 22).cell 0 _ rfl
    case c2 => intro u hu; simp at hu; subst hu; rfl
    case c3 => unfold maxLen; omega
    case c4 => omega
    case c5 => have := HS1.out; simp; omega
    intro v' w2 hown' hgrow _
    have HR0 := Lib.hid (show RP w w2 P #[.int .i64 op, .int .i64 nn, .string ss, .slice na mn nc, .slice la ln lc] v' (own ++ Pl.pathss (t.l.take 0)) from by
      have hb : Below w1.heap.size w1 (w1.alloc (.cells #[.slice na mn nc] 22)) := (Below.refl _ _).alloc (Nat.le_refl _) _
      have := RP.push (pss := []) (us := []) (w3 := w2) HP.out HB1.out HX1.out (World.ownsRow_nil _ _ _ _) (RowOf.nil _ _) hb (HST.out _ (belowStep hb HB1.out)) (n := 0 + 1) (by rw [List.nil_append, HOL.out]) hown' hgrow
      rw [List.take_zero, Pl.pathss_nil, List.append_nil]
      rw [List.nil_append] at this
      exact this)
    clear hown' hgrow z0 z1 z2 z3 z4
    obtain ⟨z0, z1, z2, z3, z4⟩ := box_cells HR0.out.2.1
    go_wp2_with fail
    go_loopg [3, 4] (ln + 1) (fun g u iv wr => ∃ k : Nat, k ≤ ln ∧ iv = .int .i64 k ∧ g = ln + 1 - k ∧ RP w wr P #[.int .i64 op, .int .i64 nn, .string ss, .slice na mn nc, .slice la ln lc] u (own ++ Pl.pathss (t.l.take k)))
    case atStart => exact ⟨0, by omega, rfl, by omega, HR0.out⟩
    case round =>
      obtain ⟨k, hk, rfl, hg, hrp⟩ := hrel
      have HRP := Lib.hid hrp
      obtain ⟨hbw, hbx, us, hour, hrow⟩ := hrp
      obtain ⟨v0, v1, v2, v3, v4⟩ := box_cells hbx
      have HBW := Lib.hid hbw
      have HBXR := Lib.hid hbx
      have HOUR := Lib.hid hour
      have HROW := Lib.hid hrow
      clear hbx hour hrow z0 z1 z2 z3 z4
      by_cases hlt : k < ln
      · have hkl : k < t.l.length := by rw [HLN.out]; exact hlt
        rcases SynSl.cases HLL.out with ⟨hk0, -⟩ | ⟨b, off, n', c', hv, hnl, hn0, hnc, hcm, hPb, hka⟩
        · rw [hk0] at hkl; simp at hkl
        injection hv with hv1 hv2 hv3
        subst hv1 hv2 hv3
        unfold maxLen at hcm
        obtain ⟨xo, xn, xs, xna, xnn, xnc, xla, xln, xlc, -, a0, a1, a2, a3, a4, hxs⟩ := (hka.keep (Same.of_below hbw HP.out) hPb).part k hkl
        have hPW : ∀ b, P b → b < wr.heap.size := fun b hb => Nat.lt_of_lt_of_le (HP.out b hb) hbw.size
        have HC := Lib.hid (HIH.out t.l[k] (List.getElem_mem hkl) wr _ hPW hxs)
        have hmp := HMP.out k hkl
        have hsn := HSN.out k hkl
        have hlenk : (own ++ Pl.pathss (t.l.take k)).length + t.l[k].paths.length ≤ 536870912 := by
          rw [List.length_append] at hmp ⊢
          omega
        have HKN := Lib.hid (show (own ++ Pl.pathss (t.l.take k)) ++ t.l[k].paths = own ++ Pl.pathss (t.l.take (k + 1)) from by rw [hsn, List.append_assoc])
        generalize own ++ Pl.pathss (t.l.take k) = cur at *
        unfold RPost at HC
        generalize t.l[k].paths = xp at *
        have HLK := Lib.hid hlenk
        clear hka hPb hnl hn0 hnc hxs hPW hsn hmp hbw hlen
        go_wp2_with fail
        refine HC.out.mono ?_
        rintro e w3 ⟨⟨pv, vs, rfl, hpo, hpr⟩, hb3⟩
        have HB3 := Lib.hid hb3
        have HO3 := Lib.hid (owns_below HOUR.out hb3)
        have HPR := Lib.hid hpr
        have HNC := Lib.hid (show cur.length + xp.length = (cur ++ xp).length from by rw [List.length_append])
        have HS3 := Lib.hid (show w.heap.size + 1 ≤ w3.heap.size from by have h1 := Blk.lt HBXR.out; have h2 := hb3.size; omega)
        have HVL := Lib.hid (show vs.length = xp.length from hpr.1)
        rcases owns_cases hpo with ⟨rfl, hx0, hvs⟩ | ⟨pg, pcap, rfl, hpc⟩
        · have hxp : xp = [] := List.eq_nil_of_length_eq_zero hx0
          subst hxp
          have HRB := Lib.hid (RP.below HRP.out HP.out hb3)
          clear hb3 hpo hpr a0 a1 a2 a3 a4 v0 v1 v2 v3 v4 hx0
          go_wp2_with (at_builtin; refine wpList_append_own_none rfl _ _ 33 rfl (w.heap.size + 1) 22 i22 1 Try.underlying33 hi0 _ _ _ rfl HO3.out rfl ?_)
          go_wp2
          go_roundg (gk - 1)
          case measure => omega
          case rel => exact ⟨k + 1, by omega, by go_num, by omega, by rw [← HKN.out, List.append_nil]; exact HRB.out⟩
        · have HPC := Lib.hid hpc
          clear hb3 hpo hpr hpc a0 a1 a2 a3 a4 v0 v1 v2 v3 v4
          generalize hxl : xp.length = xl at *
          generalize hcl : cur.length = cl at *
          go_wp2_with (at_builtin; refine wpList_append_own _ rfl _ _ 33 rfl (w.heap.size + 1) 22 i22 (.slice none 0 0) 1 24 Try.underlying33 hi0 hz0 hz1 hz2 rfl (by decide) _ _ _ rfl HO3.out ⟨pg, 0, none⟩ xl pcap vs rfl ?d0 ?d1 ?d2 ?d3 ?d4 ?d5 ?_)
          case d0 => rw [HVL.out, Nat.mul_one]
          case d1 => exact HPC.out
          case d2 => exact HPR.out.2.1
          case d3 => unfold maxLen; omega
          case d4 => omega
          case d5 => exact HS3.out
          intro v' w4 hown' hgrow _
          have HR4 := Lib.hid (show RP w w4 P #[.int .i64 op, .int .i64 nn, .string ss, .slice na mn nc, .slice (some ⟨b, off, none⟩) ln lc] v' (cur ++ xp) from RP.push (w3 := w4) HP.out HBW.out HBXR.out (by rw [hcl]; exact HOUR.out) HROW.out HB3.out HPR.out (n := cl + xl) (by rw [← HNC.out]) hown' hgrow)
          clear hown' hgrow
          go_wp2
          go_roundg (gk - 1)
          case measure => omega
          case rel => exact ⟨k + 1, by omega, by go_num, by omega, by rw [← HKN.out]; exact HR4.out⟩
      · have hkk : k = ln := by omega
        subst hkk
        have HE := Lib.hid (LOOPEND.out wr _ (by have := HRP.out; rw [HFIN.out] at this; exact this))
        clear hbw
        go_wp2
        go_ret
        exact HE.out
end Go.Proofs.Ytkhpihacjhhklaa
