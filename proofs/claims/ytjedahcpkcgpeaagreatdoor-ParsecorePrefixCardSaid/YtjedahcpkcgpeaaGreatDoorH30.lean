/-
  Walks and plain mathematics, several texts in one (Fi Fj).
-/
import Derived.Test.YtjedahcpkcgpeaaGreatDoorH28
import Derived.Test.YtjedahcpkcgpeaaGreatDoorH29
/-
  Walks of layer 4: a source.
-/
namespace Go.Proofs.YtjedahcpkcgpeaaGreatDoor
open Go Go.RowKit
set_option linter.unusedSimpArgs false
structure SRes where
  t : Pl.Syn
  line : Int
  col : Int
  err : Int
def placeT (ts : List Pl.Tok) (j : Nat) : Pl.Tok := ts.getD j ⟨8, [], 0, 0⟩
def wholeP (cat : Int) (toks : List Pl.Tok) (r : Pl.PR Pl.Syn) : SRes := match r with
  | .ok t _ => if validP cat t = true then ⟨t, 0, 0, 0⟩ else ⟨Pl.none0, 0, 0, 5⟩
  | .bad j => ⟨Pl.none0, (placeT toks j).line, (placeT toks j).col, if (placeT toks j).kind = 8 then 4 else 3⟩
def sourceP (cat : Int) (rd : List Pl.Tok → Pl.PR Pl.Syn) (O : Pl.Out) : SRes :=
  if O.err = 0 then wholeP cat O.toks (wholeR O.toks.dropLast (rd O.toks.dropLast)) else ⟨Pl.none0, O.line, O.col, O.err⟩
def SourceOut (R : SRes) (w : World) (e : Ending) (w' : World) : Prop :=
  (∃ v, e = .returned (.tuple #[v, .agg #[.int .i64 R.line, .int .i64 R.col], .int .i64 R.err]) ∧ SynV w' (Own w.heap.size w') R.t v) ∧ Below w.heap.size w w'
theorem two_cells {w : World} {g : Nat} {T : TypeId} {a b : Value} (h : Blk w g T #[a, b]) : w.cell? ⟨g, 0, none⟩ = some a ∧ w.cell? ⟨g, 1, none⟩ = some b := ⟨h.cell 0 _ rfl, h.cell 1 _ rfl⟩
theorem set_two {w : World} {g : Nat} {T : TypeId} {a b : Value} (h : Blk w g T #[a, b]) (y z : Value) : Blk ((w.setCell ⟨g, 0, none⟩ y).setCell ⟨g, 1, none⟩ z) g T #[y, z] := by
  have := (h.set 0 y).set 1 z
  simpa using this
theorem two_put {w3 : World} {b0 b1 : Nat} {T0 T1 : TypeId} {a b c d e p q : Value} (h01 : b0 < b1) (m0 : Blk w3 b0 T0 #[a, b, c, d, e]) (m1 : Blk w3 b1 T1 #[p, q]) (x0 x1 x2 x3 x4 y z : Value) :
    Blk (((putFive w3 b0 x0 x1 x2 x3 x4).setCell ⟨b1, 0, none⟩ y).setCell ⟨b1, 1, none⟩ z) b0 T0 #[x0, x1, x2, x3, x4] ∧ Blk (((putFive w3 b0 x0 x1 x2 x3 x4).setCell ⟨b1, 0, none⟩ y).setCell ⟨b1, 1, none⟩ z) b1 T1 #[y, z] ∧ (∀ B, B ≤ b0 → Below B w3 (((putFive w3 b0 x0 x1 x2 x3 x4).setCell ⟨b1, 0, none⟩ y).setCell ⟨b1, 1, none⟩ z)) ∧ (∀ g, g ≠ b0 → g ≠ b1 → (((putFive w3 b0 x0 x1 x2 x3 x4).setCell ⟨b1, 0, none⟩ y).setCell ⟨b1, 1, none⟩ z).heap[g]? = w3.heap[g]?) := by
  refine ⟨blk_fr (blk_fr (putFive_blk m0 x0 x1 x2 x3 x4) (show b0 ≠ b1 by omega) (fr_put _ b1 0 y)) (show b0 ≠ b1 by omega) (fr_put _ b1 1 z), set_two (blk_fr m1 (show b1 ≠ b0 by omega) (fr_putFive w3 b0 x0 x1 x2 x3 x4)) y z, fun B hB => ?_, fun g h0 h1 => ?_⟩
  · exact ((putFive_below (Below.refl B w3) hB x0 x1 x2 x3 x4).setCell (p := ⟨b1, 0, none⟩) (show B ≤ b1 by omega) y).setCell (p := ⟨b1, 1, none⟩) (show B ≤ b1 by omega) z
  · rw [Below.heap_setCell _ _ _ g h1, Below.heap_setCell _ _ _ g h1]
    exact putFive_other w3 b0 g h0 x0 x1 x2 x3 x4
theorem source_boxes (w : World) (rv a b : Value) (T0 T1 T2 : TypeId) (x : Array Value) :
    Blk (((w.alloc (.cells #[rv] T0)).alloc (.cells x T1)).alloc (.cells #[a, b] T2)) w.heap.size T0 #[rv] ∧ Blk (((w.alloc (.cells #[rv] T0)).alloc (.cells x T1)).alloc (.cells #[a, b] T2)) (w.heap.size + 1) T1 x ∧ Blk (((w.alloc (.cells #[rv] T0)).alloc (.cells x T1)).alloc (.cells #[a, b] T2)) (w.heap.size + 1 + 1) T2 #[a, b] ∧ Below w.heap.size w (((w.alloc (.cells #[rv] T0)).alloc (.cells x T1)).alloc (.cells #[a, b] T2)) := by
  have e1 : (w.alloc (.cells #[rv] T0)).heap.size = w.heap.size + 1 := by simp
  have e2 : ((w.alloc (.cells #[rv] T0)).alloc (.cells x T1)).heap.size = w.heap.size + 1 + 1 := by simp
  have h0 := blk_new w #[rv] T0
  have h1 := blk_new (w.alloc (.cells #[rv] T0)) x T1
  have h2 := blk_new ((w.alloc (.cells #[rv] T0)).alloc (.cells x T1)) #[a, b] T2
  rw [e1] at h1
  rw [e2] at h2
  exact ⟨(h0.alloc _).alloc _, h1.alloc _, h2, (((Below.refl _ _).alloc (Nat.le_refl _) _).alloc (by omega) _).alloc (by omega) _⟩
theorem src_of {w : World} {ts : List Pl.Tok} {en : Pl.Tok} {b off c n : Nat} (h : ∀ j (hj : j < (ts ++ [en]).length), TokAt w b (off + 4 * j) (ts ++ [en])[j]) (hr : ts.length + 1 ≤ c) (hc : c ≤ maxLen) (hk : en.kind = 8) (ht : en.text = []) (hR : ∀ t ∈ ts, Pl.RightT n t) (hn : n ≤ maxLen) : SrcAt w ⟨b, off, c, ts, en⟩ :=
  ⟨hr, hc, hk, ht, fun t h => Nat.le_trans (hR t h).2.1 hn, h⟩
theorem nums_of {ts : List Pl.Tok} {en : Pl.Tok} {b off c : Nat} (hR : ∀ t ∈ ts, Pl.RightT 16384 t) : NumsOk ⟨b, off, c, ts, en⟩ := fun t h hk => ⟨(hR t h).2.2 hk, by have := (hR t h).2.1; omega⟩
theorem whole_in {ts : List Pl.Tok} {r : Pl.PR Pl.Syn} (h : Pl.InB ts r) : Pl.InB ts (wholeR ts r) := by
  unfold wholeR
  exact h.next fun t j hj => Pl.InB.ite (fun _ => Pl.InB.ok _ hj) (fun _ => Pl.InB.bad hj)
theorem whole_ok {ts : List Pl.Tok} {r : Pl.PR Pl.Syn} {t : Pl.Syn} {j : Nat} (h : wholeR ts r = .ok t j) : r = .ok t j := by
  unfold wholeR at h
  cases r with
  | bad q => rw [Pl.PR.then_bad] at h; cases h
  | ok u q =>
    rw [Pl.PR.then_ok] at h
    split at h
    · exact h
    · cases h
theorem other_type {w : World} {b g : Nat} {T T' : TypeId} {cs cs' : Array Value} (h : Blk w b T cs) (k : Blk w g T' cs') (hT : T ≠ T') : b ≠ g := fun e => by
  subst e
  have h1 : w.heap[b]? = some (.cells cs T (0, 0)) := h
  have h2 : w.heap[b]? = some (.cells cs' T' (0, 0)) := k
  rw [h1] at h2
  injection h2 with h2
  injection h2 with _ h3
  exact hT h3
theorem cell_at {W : World} {b : Nat} {T : TypeId} {cs : Array Value} (h : Blk W b T cs) (i : Nat) (v : Value) (hv : W.cell? ⟨b, i, none⟩ = some v) : cs[i]? = some v := by
  have h' : W.heap[b]? = some (.cells cs T (0, 0)) := h
  simpa [World.cell?, h'] using hv
theorem not_syn {W : World} {b tb o : Nat} {T : TypeId} {x0 x1 n : Int} {x2 z : ByteArray} {na la : Option Addr} {nl nc ll lc : Nat} (h : Blk W b T #[.int .i64 x0, .int .i64 x1, .string x2, .slice na nl nc, .slice la ll lc]) (h1 : W.cell? ⟨tb, o + 1, none⟩ = some (.string z)) (h2 : W.cell? ⟨tb, o + 2, none⟩ = some (.int .i64 n)) : tb ≠ b := by
  rintro rfl
  have k1 := cell_at h _ _ h1
  have k2 := cell_at h _ _ h2
  match o with
  | 0 => simp at k1
  | 1 => simp at k2
  | 2 => simp at k1
  | 3 => simp at k1
  | o + 4 => simp at k1
theorem not_pos {W : World} {b tb o : Nat} {T : TypeId} {x0 x1 : Int} {z : ByteArray} (h : Blk W b T #[.int .i64 x0, .int .i64 x1]) (h1 : W.cell? ⟨tb, o + 1, none⟩ = some (.string z)) : tb ≠ b := by
  rintro rfl
  have k1 := cell_at h _ _ h1
  match o with
  | 0 => simp at k1
  | o + 1 => simp at k1
set_option maxRecDepth 100000 in
set_option maxHeartbeats 8000000 in
theorem psource_any (k : Nat) (cat : Int) (rd : List Pl.Tok → Pl.PR Pl.Syn) (str : ByteArray) (w : World) (hs : str.size ≤ maxLen)
    (hrd : ∀ (s : Src) g W, NumsOk s → s.ts.length ≤ 16384 → PAt W g s 0 → Calls Tryz.prog k #[.pointer (some ⟨g, 0, none⟩)] W (TreeOut s g (rd s.ts) W))
    (hen : ∀ W g, Sem.run Tryz.prog (callFunc k #[.pointer (some ⟨g, 0, none⟩)]) W = .ok (.enter k #[.pointer (some ⟨g, 0, none⟩)]) W)
    (hsm : ∀ (ts : List Pl.Tok) t j, ts.length ≤ 16384 → rd ts = .ok t j → t.big ≤ 536870912) (hin : ∀ ts, Pl.InB ts (rd ts)) :
    Calls Tryz.prog 37 #[.string str, .int .i64 cat, .func (.func k) #[] #[]] w (SourceOut (sourceP cat rd (Pl.tokens str.toList)) w) := by
  have hmf : ∀ (fn : Fn) (first cap : Array Value) (w : World), (Instr.makeFunc fn first cap).run Tryz.prog w = .ok (.func fn first cap) w := fun _ _ _ _ => rfl
  obtain ⟨R, hR⟩ : ∃ R, R = sourceP cat rd (Pl.tokens str.toList) := ⟨_, rfl⟩
  rw [← hR]
  have HR := Lib.hid hR
  obtain ⟨k0, k1, k2, k3⟩ := source_boxes w (.func (.func k) #[] #[]) (.int .i64 0) (.int .i64 0) 75 27 29 #[.int .i64 0, .int .i64 0, .string ⟨#[]⟩, .slice none 0 0, .slice none 0 0]
  have HK := Lib.hid (⟨k0, k1, k2⟩ : Blk _ _ _ _ ∧ Blk _ _ _ _ ∧ Blk _ _ _ _)
  have HB := Lib.hid k3
  have HRD := Lib.hid hrd
  have HEN := Lib.hid hen
  have HSM := Lib.hid hsm
  have HIN := Lib.hid hin
  have HLT := Lib.hid (fun W => lexTokens_any str W hs)
  obtain ⟨O, hO⟩ : ∃ O, O = Pl.tokens str.toList := ⟨_, rfl⟩
  have hE := Pl.tokens_ends str.toList
  rw [← hO] at HR HLT hE
  have HE := Lib.hid hE
  clear k0 k1 k2 k3 hR hrd hen hsm hin hO hE
  go_enter Tryz.func37, Tryz.ntmps37
  go_wp2_with fail
  generalize ((w.alloc (.cells #[.func (.func k) #[] #[]] 75)).alloc (.cells #[.int .i64 0, .int .i64 0, .string ⟨#[]⟩, .slice none 0 0, .slice none 0 0] 27)).alloc (.cells #[.int .i64 0, .int .i64 0] 29) = w1 at *
  have h01 : w.heap.size < w.heap.size + 1 := by omega
  have h12 : w.heap.size + 1 < w.heap.size + 1 + 1 := by omega
  generalize w.heap.size + 1 + 1 = b7 at *
  generalize w.heap.size + 1 = b6 at *
  obtain ⟨b5, hb5⟩ : ∃ b5, b5 = w.heap.size := ⟨_, rfl⟩
  have HB5 := Lib.hid hb5
  rw [← hb5] at h01 HK
  rw [← hb5]
  clear hb5
  refine (HLT.out w1).mono ?_
  rintro e w2 ho
  have h20 : Below w1.heap.size w1 w2 := ho.elim (fun h => h.2.2) (fun h => h.2.2.2)
  have HB2 := Lib.hid (HB.out.trans (h20.mono HB.out.size))
  have HK2 := Lib.hid (⟨HK.out.1.of_eq (h20.block _ HK.out.1.lt), HK.out.2.1.of_eq (h20.block _ HK.out.2.1.lt), HK.out.2.2.of_eq (h20.block _ HK.out.2.2.lt)⟩ : Blk _ _ _ _ ∧ Blk _ _ _ _ ∧ Blk _ _ _ _)
  clear h20
  rcases ho with ⟨herr, ⟨v, rfl, htk⟩, -⟩ | ⟨herr, -, rfl, -⟩
  · obtain ⟨ts, en, e1, e2, e3, e4, e5⟩ := HE.out herr
    have hlen : O.toks.length = ts.length + 1 := by rw [e1]; simp
    rcases htk with ⟨h0, -⟩ | ⟨tb, off, tc, hv, hl1, hlc, hcm, htb, hcs⟩
    · rw [e1] at h0; simp at h0
    rw [hlen] at hv hlc
    subst hv
    have hdl : O.toks.dropLast = ts := by rw [e1]; simp
    obtain ⟨pr, hpr⟩ : ∃ pr, pr = wholeR ts (rd ts) := ⟨_, rfl⟩
    have HRE := Lib.hid (show R = wholeP cat O.toks pr from by rw [HR.out, sourceP, if_pos herr, hdl, hpr])
    have hcs2 : ∀ j (hj : j < (ts ++ [en]).length), TokAt w2 tb (off + 4 * j) (ts ++ [en])[j] := by
      intro j hj
      have := hcs j (by rw [e1]; exact hj)
      simp only [e1] at this
      exact this
    have hs2 : SrcAt w2 ⟨tb, off, tc, ts, en⟩ := src_of hcs2 hlc hcm e2 e3 e4 (by unfold maxLen; omega)
    have HNU := Lib.hid (nums_of (en := en) (b := tb) (off := off) (c := tc) e4)
    have hL5 : ts.length ≤ 16384 := e5
    have HX := Lib.hid (blk_new w2 #[.int .i64 0, .int .i64 0] 29)
    have hbw : Below w2.heap.size w2 (w2.alloc (.cells #[.int .i64 0, .int .i64 0] 29)) := (Below.refl _ _).alloc (Nat.le_refl _) _
    have HS3 := Lib.hid (hs2.keep (hbw.block tb htb))
    have HTB := Lib.hid (show tb < (World.heap (w2.alloc (.cells #[.int .i64 0, .int .i64 0] 29))).size from Nat.lt_of_lt_of_le htb hbw.size)
    have HK3 := Lib.hid (⟨HK2.out.1.of_eq (hbw.block _ HK2.out.1.lt), HK2.out.2.1.of_eq (hbw.block _ HK2.out.2.1.lt), HK2.out.2.2.of_eq (hbw.block _ HK2.out.2.2.lt)⟩ : Blk _ _ _ _ ∧ Blk _ _ _ _ ∧ Blk _ _ _ _)
    have HB3 := Lib.hid (HB2.out.trans (hbw.mono HB2.out.size))
    have HTK := Lib.hid e1
    have HPR := Lib.hid hpr
    have hen8 : en.kind = 8 := e2
    have HCS := Lib.hid (fun j hj => (hcs2 j hj).below hbw htb)
    clear hcs hcs2 hs2 hbw HE herr hdl hlen e1 e2 e3 e4 e5 hl1
    go_wp2_with fail
    generalize w2.alloc (.cells #[.int .i64 0, .int .i64 0] 29) = w3 at *
    have hpc := pparsec_any ⟨tb, off, tc, ts, en⟩ 0 62 b5 cat pr w3 HS3.out HTB.out (Nat.zero_le _)
      (fun t j h => HSM.out ts t j hL5 (whole_ok (HPR.out.symm.trans h)))
      (fun W g hW hP => by
        have hb5W := HK3.out.1.of_eq (hW.block _ HK3.out.1.lt)
        rw [HPR.out]
        exact pwhole_any ⟨tb, off, tc, ts, en⟩ g 0 k b5 (rd ts) W hP hb5W (other_type hb5W hP.blk (by decide)) (fun V hV => HRD.out ⟨tb, off, tc, ts, en⟩ g V HNU.out hL5 hV) (fun V => HEN.out V g))
      (fun W g => rfl)
    refine hpc.mono ?_
    rintro e w4 ho
    have h43 : Below w3.heap.size w3 w4 := ho.2
    have HK4 := Lib.hid (⟨HK3.out.1.of_eq (h43.block _ HK3.out.1.lt), HK3.out.2.1.of_eq (h43.block _ HK3.out.2.1.lt), HK3.out.2.2.of_eq (h43.block _ HK3.out.2.2.lt)⟩ : Blk _ _ _ _ ∧ Blk _ _ _ _ ∧ Blk _ _ _ _)
    have HB4 := Lib.hid (HB3.out.trans (h43.mono HB3.out.size))
    have HO := Lib.hid ho.1
    have H43 := Lib.hid h43
    have HIW := Lib.hid (whole_in (HIN.out ts))
    rw [← HPR.out] at HIW
    have n0 : ¬ b6 = b7 := by omega
    have n1 : ¬ b7 = b6 := by omega
    have h72 := HK4.out.2.2.lt
    have n2 : ¬ w4.heap.size = b6 := by omega
    have n3 : ¬ w4.heap.size = b7 := by omega
    have n4 : ¬ b6 = w4.heap.size := by omega
    have n5 : ¬ b7 = w4.heap.size := by omega
    clear hpc ho h43 hpr
    cases pr with
    | ok t j =>
      have ho := HO.out
      by_cases hvp : validP cat t = true
      · have ho2 : ∃ v, e = .returned (.tuple #[v, .int .i64 j, .int .i64 0]) ∧ SynV w4 (fun b => w3.heap.size ≤ b ∧ b < w4.heap.size) t v := (if_pos hvp).mp ho
        obtain ⟨v, rfl, ht⟩ := ho2
        obtain ⟨x0, x1, x2, xa, xl, xc, xd, xe, xf, rfl⟩ := tree_open ht
        have HRR := Lib.hid (HRE.out.trans (show wholeP cat O.toks (.ok t j) = ⟨t, 0, 0, 0⟩ from if_pos hvp))
        have HT := Lib.hid ht
        clear ht ho
        have hbv : Below w4.heap.size w4 (w4.alloc (.cells #[.int .i64 x0, .int .i64 x1, .string x2, .slice xa xl xc, .slice xd xe xf] 27)) := (Below.refl _ _).alloc (Nat.le_refl _) _
        have HV := Lib.hid (blk_new w4 #[.int .i64 x0, .int .i64 x1, .string x2, .slice xa xl xc, .slice xd xe xf] 27)
        have HK5 := Lib.hid (⟨HK4.out.1.of_eq (hbv.block _ HK4.out.1.lt), HK4.out.2.1.of_eq (hbv.block _ HK4.out.2.1.lt), HK4.out.2.2.of_eq (hbv.block _ HK4.out.2.2.lt)⟩ : Blk _ _ _ _ ∧ Blk _ _ _ _ ∧ Blk _ _ _ _)
        have HB5' := Lib.hid (HB4.out.trans (hbv.mono HB4.out.size))
        have HT5 := Lib.hid ((HT.out.keep (fun b hb => hbv.block b hb.2)).mono (Q := Own w3.heap.size _) (fun b hb => ⟨hb.1, Nat.lt_of_lt_of_le hb.2 hbv.size⟩))
        obtain ⟨c0, c1, c2, c3, c4⟩ := five_cells HK5.out.2.1
        obtain ⟨c5, c6⟩ := two_cells HK5.out.2.2
        obtain ⟨v0, v1, v2, v3, v4⟩ := five_cells HV.out
        have f0 := HK5.out.2.1.thaw 0
        have f1 := HK5.out.2.1.thaw 1
        have f2 := HK5.out.2.1.thaw 2
        have f3 := HK5.out.2.1.thaw 3
        have f4 := HK5.out.2.1.thaw 4
        have f5 := HK5.out.2.2.thaw 0
        have f6 := HK5.out.2.2.thaw 1
        clear hbv
        go_wp2_with fail
        generalize w4.alloc (.cells #[.int .i64 x0, .int .i64 x1, .string x2, .slice xa xl xc, .slice xd xe xf] 27) = w5 at *
        obtain ⟨q0, q1, q2, q3⟩ := two_put h12 HK5.out.2.1 HK5.out.2.2 (.int .i64 x0) (.int .i64 x1) (.string x2) (.slice xa xl xc) (.slice xd xe xf) (.int .i64 0) (.int .i64 0)
        obtain ⟨W, hW⟩ : ∃ W, W = (((putFive w5 b6 (.int .i64 x0) (.int .i64 x1) (.string x2) (.slice xa xl xc) (.slice xd xe xf)).setCell ⟨b7, 0, none⟩ (.int .i64 0)).setCell ⟨b7, 1, none⟩ (.int .i64 0)) := ⟨_, rfl⟩
        have HQ2 := Lib.hid (q2 w.heap.size (by have := HB5.out; omega))
        have HQ0 := Lib.hid q0
        have HQ1 := Lib.hid q1
        have HT6 := Lib.hid ((HT5.out.keep (fun b hb => q3 b (by have := hb.1; have := HK3.out.2.1.lt; omega) (by have := hb.1; have := HK3.out.2.2.lt; omega))).mono (Q := Own w.heap.size _) (fun b hb => ⟨by have := HB3.out.size; have := hb.1; omega, Nat.lt_of_lt_of_le hb.2 (q2 0 (Nat.zero_le _)).size⟩))
        rw [← hW] at HQ0 HQ1 HQ2 HT6
        unfold putFive at hW
        rw [← hW]
        clear hW q0 q1 q2 q3
        obtain ⟨d0, d1, d2, d3, d4⟩ := five_cells HQ0.out
        obtain ⟨d5, d6⟩ := two_cells HQ1.out
        refine bodyPost_ret (v := .tuple #[.agg #[.int .i64 x0, .int .i64 x1, .string x2, .slice xa xl xc, .slice xd xe xf], .agg #[.int .i64 0, .int .i64 0], .int .i64 0]) (by simp [results, Tryz.results37, go_sem, d0, d1, d2, d3, d4, d5, d6]) rfl ?_
        rw [HRR.out]
        exact ⟨⟨_, rfl, HT6.out⟩, HB5'.out.trans HQ2.out⟩
      · have ho2 : e = .returned (.tuple #[.agg #[.int .i64 0, .int .i64 0, .string ⟨#[]⟩, .slice none 0 0, .slice none 0 0], .int .i64 0, .int .i64 5]) := (if_neg hvp).mp ho
        subst ho2
        have HRR := Lib.hid (HRE.out.trans (show wholeP cat O.toks (.ok t j) = ⟨Pl.none0, 0, 0, 5⟩ from if_neg hvp))
        clear ho
        have hbv : Below w4.heap.size w4 (w4.alloc (.cells #[.int .i64 0, .int .i64 0, .string ⟨#[]⟩, .slice none 0 0, .slice none 0 0] 27)) := (Below.refl _ _).alloc (Nat.le_refl _) _
        have HV := Lib.hid (blk_new w4 #[.int .i64 0, .int .i64 0, .string ⟨#[]⟩, .slice none 0 0, .slice none 0 0] 27)
        have HK5 := Lib.hid (⟨HK4.out.1.of_eq (hbv.block _ HK4.out.1.lt), HK4.out.2.1.of_eq (hbv.block _ HK4.out.2.1.lt), HK4.out.2.2.of_eq (hbv.block _ HK4.out.2.2.lt)⟩ : Blk _ _ _ _ ∧ Blk _ _ _ _ ∧ Blk _ _ _ _)
        have HB5' := Lib.hid (HB4.out.trans (hbv.mono HB4.out.size))
        obtain ⟨c0, c1, c2, c3, c4⟩ := five_cells HK5.out.2.1
        obtain ⟨c5, c6⟩ := two_cells HK5.out.2.2
        obtain ⟨v0, v1, v2, v3, v4⟩ := five_cells HV.out
        have f0 := HK5.out.2.1.thaw 0
        have f1 := HK5.out.2.1.thaw 1
        have f2 := HK5.out.2.1.thaw 2
        have f3 := HK5.out.2.1.thaw 3
        have f4 := HK5.out.2.1.thaw 4
        have f5 := HK5.out.2.2.thaw 0
        have f6 := HK5.out.2.2.thaw 1
        clear hbv
        go_wp2_with fail
        generalize w4.alloc (.cells #[.int .i64 0, .int .i64 0, .string ⟨#[]⟩, .slice none 0 0, .slice none 0 0] 27) = w5 at *
        obtain ⟨q0, q1, q2, q3⟩ := two_put h12 HK5.out.2.1 HK5.out.2.2 (.int .i64 0) (.int .i64 0) (.string ⟨#[]⟩) (.slice none 0 0) (.slice none 0 0) (.int .i64 0) (.int .i64 0)
        obtain ⟨W, hW⟩ : ∃ W, W = (((putFive w5 b6 (.int .i64 0) (.int .i64 0) (.string ⟨#[]⟩) (.slice none 0 0) (.slice none 0 0)).setCell ⟨b7, 0, none⟩ (.int .i64 0)).setCell ⟨b7, 1, none⟩ (.int .i64 0)) := ⟨_, rfl⟩
        have HQ2 := Lib.hid (q2 w.heap.size (by have := HB5.out; omega))
        have HQ0 := Lib.hid q0
        have HQ1 := Lib.hid q1
        rw [← hW] at HQ0 HQ1 HQ2
        unfold putFive at hW
        rw [← hW]
        clear hW q0 q1 q2 q3
        obtain ⟨d0, d1, d2, d3, d4⟩ := five_cells HQ0.out
        obtain ⟨d5, d6⟩ := two_cells HQ1.out
        refine bodyPost_ret (v := .tuple #[.agg #[.int .i64 0, .int .i64 0, .string ⟨#[]⟩, .slice none 0 0, .slice none 0 0], .agg #[.int .i64 0, .int .i64 0], .int .i64 5]) (by simp [results, Tryz.results37, go_sem, d0, d1, d2, d3, d4, d5, d6]) rfl ?_
        rw [HRR.out]
        exact ⟨⟨_, rfl, synV_none _ _⟩, HB5'.out.trans HQ2.out⟩
    | bad j =>
      have ho : e = .returned (.tuple #[.agg #[.int .i64 0, .int .i64 0, .string ⟨#[]⟩, .slice none 0 0, .slice none 0 0], .int .i64 j, .int .i64 (if (Pl.tkAt ts j).kind = 8 then 4 else 3)]) := HO.out
      subst ho
      have hjn : j ≤ ts.length := HIW.out.2 j rfl
      have hj : j < (ts ++ [en]).length := by simp; omega
      obtain ⟨t0, t1, t2, t3⟩ := (HCS.out j hj).below H43.out HTB.out
      have N6 := Lib.hid (not_syn HK4.out.2.1 t1 t2)
      have N8 := Lib.hid (not_pos HK4.out.2.2 t1)
      have hpl : placeT O.toks j = (ts ++ [en])[j] := by
        unfold placeT
        rw [HTK.out]
        simp only [List.getD, List.getElem?_eq_getElem hj, Option.getD_some]
      have hkd : (placeT O.toks j).kind = (Pl.tkAt ts j).kind := by
        rw [hpl]
        unfold Pl.tkAt
        rcases Nat.lt_or_ge j ts.length with hlt | hge
        · rw [List.getElem_append_left hlt]
          simp [List.getD, hlt]
        · rw [List.getElem_append_right hge]
          have : j = ts.length := by omega
          subst this
          simp [List.getD, hen8]
      have HRR := Lib.hid (HRE.out.trans (show wholeP cat O.toks (.bad j) = ⟨Pl.none0, (ts ++ [en])[j].line, (ts ++ [en])[j].col, if (Pl.tkAt ts j).kind = 8 then 4 else 3⟩ from by unfold wholeP; dsimp only; rw [hkd, hpl]))
      generalize (ts ++ [en])[j].line = li at *
      generalize (ts ++ [en])[j].col = co at *
      generalize (Pl.tkAt ts j).kind = kd at *
      obtain ⟨code, hcode⟩ : ∃ code, code = (if kd = 8 then (4 : Int) else 3) := ⟨_, rfl⟩
      rw [← hcode] at HRR ⊢
      have hc34 : code = 3 ∨ code = 4 := by rw [hcode]; split <;> simp
      rw [Nat.mul_comm 4 j] at t2 t3
      have hi1 : (0 : Int) ≤ (j : Int) := by omega
      have hi2 : (j : Int) < (ts.length : Int) + 1 := by omega
      have T2 := Lib.hid t2
      have T3 := Lib.hid t3
      clear hcode hpl hkd t0 t1 t2 t3 hj HO
      have hbv : Below w4.heap.size w4 (w4.alloc (.cells #[.int .i64 0, .int .i64 0, .string ⟨#[]⟩, .slice none 0 0, .slice none 0 0] 27)) := (Below.refl _ _).alloc (Nat.le_refl _) _
      have HK5 := Lib.hid (⟨HK4.out.1.of_eq (hbv.block _ HK4.out.1.lt), HK4.out.2.1.of_eq (hbv.block _ HK4.out.2.1.lt), HK4.out.2.2.of_eq (hbv.block _ HK4.out.2.2.lt)⟩ : Blk _ _ _ _ ∧ Blk _ _ _ _ ∧ Blk _ _ _ _)
      have HB5' := Lib.hid (HB4.out.trans (hbv.mono HB4.out.size))
      obtain ⟨c0, c1, c2, c3, c4⟩ := five_cells HK5.out.2.1
      obtain ⟨c5, c6⟩ := two_cells HK5.out.2.2
      have f0 := HK5.out.2.1.thaw 0
      have f1 := HK5.out.2.1.thaw 1
      have f2 := HK5.out.2.1.thaw 2
      have f3 := HK5.out.2.1.thaw 3
      have f4 := HK5.out.2.1.thaw 4
      have f5 := HK5.out.2.2.thaw 0
      have f6 := HK5.out.2.2.thaw 1
      have htb4 : tb < w4.heap.size := Nat.lt_of_lt_of_le HTB.out H43.out.size
      have t2 := (hbv.cell (p := ⟨tb, off + j * 4 + 2, none⟩) htb4).trans T2.out
      have t3 := (hbv.cell (p := ⟨tb, off + j * 4 + 3, none⟩) htb4).trans T3.out
      have n6 : ¬ tb = b6 := N6.out
      have n7 : ¬ b6 = tb := fun e => n6 e.symm
      have n8 : ¬ tb = b7 := N8.out
      have n9 : ¬ b7 = tb := fun e => n8 e.symm
      clear hbv
      rcases hc34 with rfl | rfl
      · go_wp2_with fail
        generalize w4.alloc (.cells #[.int .i64 0, .int .i64 0, .string ⟨#[]⟩, .slice none 0 0, .slice none 0 0] 27) = w5 at *
        go_region
        all_goals
          go_wp2_with fail
          obtain ⟨q0, q1, q2, q3⟩ := two_put h12 HK5.out.2.1 HK5.out.2.2 (.int .i64 0) (.int .i64 0) (.string ⟨#[]⟩) (.slice none 0 0) (.slice none 0 0) (.int .i64 li) (.int .i64 co)
          obtain ⟨W, hW⟩ : ∃ W, W = (World.drew (((putFive w5 b6 (.int .i64 0) (.int .i64 0) (.string ⟨#[]⟩) (.slice none 0 0) (.slice none 0 0)).setCell ⟨b7, 0, none⟩ (.int .i64 li)).setCell ⟨b7, 1, none⟩ (.int .i64 co))) := ⟨_, rfl⟩
          have HQ2 := Lib.hid (q2 w.heap.size (by have := HB5.out; omega)).drew
          have HQ0 := Lib.hid q0.drew
          have HQ1 := Lib.hid q1.drew
          rw [← hW] at HQ0 HQ1 HQ2
          unfold putFive at hW
          rw [← hW]
          clear hW q0 q1 q2 q3
          obtain ⟨d0, d1, d2, d3, d4⟩ := five_cells HQ0.out
          obtain ⟨d5, d6⟩ := two_cells HQ1.out
          refine bodyPost_ret (v := .tuple #[.agg #[.int .i64 0, .int .i64 0, .string ⟨#[]⟩, .slice none 0 0, .slice none 0 0], .agg #[.int .i64 li, .int .i64 co], .int .i64 3]) (by simp [results, Tryz.results37, go_sem, d0, d1, d2, d3, d4, d5, d6]) rfl ?_
          rw [HRR.out]
          exact ⟨⟨_, rfl, synV_none _ _⟩, HB5'.out.trans HQ2.out⟩
      · go_wp2_with fail
        generalize w4.alloc (.cells #[.int .i64 0, .int .i64 0, .string ⟨#[]⟩, .slice none 0 0, .slice none 0 0] 27) = w5 at *
        go_region
        all_goals
          go_wp2_with fail
          obtain ⟨q0, q1, q2, q3⟩ := two_put h12 HK5.out.2.1 HK5.out.2.2 (.int .i64 0) (.int .i64 0) (.string ⟨#[]⟩) (.slice none 0 0) (.slice none 0 0) (.int .i64 li) (.int .i64 co)
          obtain ⟨W, hW⟩ : ∃ W, W = (World.drew (((putFive w5 b6 (.int .i64 0) (.int .i64 0) (.string ⟨#[]⟩) (.slice none 0 0) (.slice none 0 0)).setCell ⟨b7, 0, none⟩ (.int .i64 li)).setCell ⟨b7, 1, none⟩ (.int .i64 co))) := ⟨_, rfl⟩
          have HQ2 := Lib.hid (q2 w.heap.size (by have := HB5.out; omega)).drew
          have HQ0 := Lib.hid q0.drew
          have HQ1 := Lib.hid q1.drew
          rw [← hW] at HQ0 HQ1 HQ2
          unfold putFive at hW
          rw [← hW]
          clear hW q0 q1 q2 q3
          obtain ⟨d0, d1, d2, d3, d4⟩ := five_cells HQ0.out
          obtain ⟨d5, d6⟩ := two_cells HQ1.out
          refine bodyPost_ret (v := .tuple #[.agg #[.int .i64 0, .int .i64 0, .string ⟨#[]⟩, .slice none 0 0, .slice none 0 0], .agg #[.int .i64 li, .int .i64 co], .int .i64 4]) (by simp [results, Tryz.results37, go_sem, d0, d1, d2, d3, d4, d5, d6]) rfl ?_
          rw [HRR.out]
          exact ⟨⟨_, rfl, synV_none _ _⟩, HB5'.out.trans HQ2.out⟩
  · have HRE := Lib.hid (show R = ⟨Pl.none0, O.line, O.col, O.err⟩ from by rw [HR.out, sourceP, if_neg herr])
    have hq : (O.err == 0) = false := by simpa using herr
    clear herr
    generalize O.line = li at *
    generalize O.col = co at *
    generalize O.err = er at *
    have HX := Lib.hid (blk_new w2 #[.int .i64 li, .int .i64 co] 29)
    have HK3 := Lib.hid (⟨(HK2.out.1).alloc (.cells #[.int .i64 li, .int .i64 co] 29), (HK2.out.2.1).alloc (.cells #[.int .i64 li, .int .i64 co] 29), (HK2.out.2.2).alloc (.cells #[.int .i64 li, .int .i64 co] 29)⟩ : Blk _ _ _ _ ∧ Blk _ _ _ _ ∧ Blk _ _ _ _)
    have HB3 := Lib.hid (HB2.out.alloc (o := .cells #[.int .i64 li, .int .i64 co] 29) HB2.out.size)
    obtain ⟨c0, c1, c2, c3, c4⟩ := five_cells HK3.out.2.1
    obtain ⟨c5, c6⟩ := two_cells HK3.out.2.2
    obtain ⟨c7, c8⟩ := two_cells HX.out
    have f0 := HK3.out.2.1.thaw 0
    have f1 := HK3.out.2.1.thaw 1
    have f2 := HK3.out.2.1.thaw 2
    have f3 := HK3.out.2.1.thaw 3
    have f4 := HK3.out.2.1.thaw 4
    have f5 := HK3.out.2.2.thaw 0
    have f6 := HK3.out.2.2.thaw 1
    have n0 : ¬ b6 = b7 := by omega
    have n1 : ¬ b7 = b6 := by omega
    have h72 := HK2.out.2.2.lt
    have n2 : ¬ w2.heap.size = b6 := by omega
    have n3 : ¬ w2.heap.size = b7 := by omega
    have n4 : ¬ b6 = w2.heap.size := by omega
    have n5 : ¬ b7 = w2.heap.size := by omega
    clear h72
    go_wp2_with fail
    generalize w2.alloc (.cells #[.int .i64 li, .int .i64 co] 29) = w3 at *
    generalize w2.heap.size = bx at *
    go_region
    all_goals
      go_wp2_with fail
      obtain ⟨q0, q1, q2, q3⟩ := two_put h12 HK3.out.2.1 HK3.out.2.2 (.int .i64 0) (.int .i64 0) (.string ⟨#[]⟩) (.slice none 0 0) (.slice none 0 0) (.int .i64 li) (.int .i64 co)
      obtain ⟨W, hW⟩ : ∃ W, W = (World.drew (((putFive w3 b6 (.int .i64 0) (.int .i64 0) (.string ⟨#[]⟩) (.slice none 0 0) (.slice none 0 0)).setCell ⟨b7, 0, none⟩ (.int .i64 li)).setCell ⟨b7, 1, none⟩ (.int .i64 co))) := ⟨_, rfl⟩
      have HQ2 := Lib.hid (q2 w.heap.size (by have := HB5.out; omega)).drew
      have HQ0 := Lib.hid q0.drew
      have HQ1 := Lib.hid q1.drew
      rw [← hW] at HQ0 HQ1 HQ2
      unfold putFive at hW
      rw [← hW]
      clear hW q0 q1 q2 q3
      obtain ⟨d0, d1, d2, d3, d4⟩ := five_cells HQ0.out
      obtain ⟨d5, d6⟩ := two_cells HQ1.out
      refine bodyPost_ret (v := .tuple #[.agg #[.int .i64 0, .int .i64 0, .string ⟨#[]⟩, .slice none 0 0, .slice none 0 0], .agg #[.int .i64 li, .int .i64 co], .int .i64 er]) (by simp [results, Tryz.results37, go_sem, d0, d1, d2, d3, d4, d5, d6]) rfl ?_
      rw [HRE.out]
      exact ⟨⟨_, rfl, synV_none _ _⟩, HB3.out.trans HQ2.out⟩
end Go.Proofs.YtjedahcpkcgpeaaGreatDoor

/-
  Walks of layer 4: Type, Pattern, Expr.
-/
namespace Go.Proofs.YtjedahcpkcgpeaaGreatDoor
open Go Go.RowKit
set_option linter.unusedSimpArgs false
theorem res_boxes (w : World) (a b : Value) (T1 T2 : TypeId) (x : Array Value) :
    Blk ((w.alloc (.cells x T1)).alloc (.cells #[a, b] T2)) w.heap.size T1 x ∧ Blk ((w.alloc (.cells x T1)).alloc (.cells #[a, b] T2)) (w.heap.size + 1) T2 #[a, b] ∧ Below w.heap.size w ((w.alloc (.cells x T1)).alloc (.cells #[a, b] T2)) := by
  have e1 : (w.alloc (.cells x T1)).heap.size = w.heap.size + 1 := by simp
  have h1 := blk_new (w.alloc (.cells x T1)) #[a, b] T2
  rw [e1] at h1
  exact ⟨(blk_new w x T1).alloc _, h1, ((Below.refl _ _).alloc (Nat.le_refl _) _).alloc (by omega) _⟩
def typP (l : Pl.Bytes) : SRes := sourceP 1 (fun ts => (Pl.full ts numOfText).typ 0) (Pl.tokens l)
set_option maxRecDepth 100000 in
set_option maxHeartbeats 4000000 in
theorem pType_any (str : ByteArray) (w : World) (hs : str.size ≤ maxLen) : Calls Tryz.prog 23 #[.string str] w (SourceOut (typP str.toList) w) := by
  have hmf : ∀ (fn : Fn) (first cap : Array Value) (w : World), (Instr.makeFunc fn first cap).run Tryz.prog w = .ok (.func fn first cap) w := fun _ _ _ _ => rfl
  have H := Lib.hid (fun W => psource_any 39 1 (fun ts => (Pl.full ts numOfText).typ 0) str W hs
    (fun s g V hn hl hV => (reads_all s g 0 hn (by omega) (Nat.zero_le _)).typ V hV) (fun _ _ => rfl)
    (fun ts t j hl h => by
      have h1 := (Pl.full_small ts numOfText).typ 0 _ _ h
      have h2 := (Pl.full_ends ts numOfText).typ 0 _ _ h
      simp only [Pl.mT] at h1
      omega)
    (fun ts => (Pl.full_within ts numOfText).typ 0 (Nat.zero_le _)))
  unfold typP
  obtain ⟨R, hR⟩ : ∃ R, R = sourceP 1 (fun ts => (Pl.full ts numOfText).typ 0) (Pl.tokens str.toList) := ⟨_, rfl⟩
  rw [← hR] at H ⊢
  clear hR
  obtain ⟨k0, k1, k2⟩ := res_boxes w (.int .i64 0) (.int .i64 0) 27 29 #[.int .i64 0, .int .i64 0, .string ⟨#[]⟩, .slice none 0 0, .slice none 0 0]
  have HK := Lib.hid (⟨k0, k1⟩ : Blk _ _ _ _ ∧ Blk _ _ _ _)
  have HB := Lib.hid k2
  clear k0 k1 k2
  go_enter Tryz.func23, Tryz.ntmps23
  go_wp2_with fail
  generalize (w.alloc (.cells #[.int .i64 0, .int .i64 0, .string ⟨#[]⟩, .slice none 0 0, .slice none 0 0] 27)).alloc (.cells #[.int .i64 0, .int .i64 0] 29) = w1 at *
  have h12 : w.heap.size < w.heap.size + 1 := Nat.lt_succ_self _
  generalize w.heap.size + 1 = b7 at *
  obtain ⟨b6, hb6⟩ : ∃ b6, b6 = w.heap.size := ⟨_, rfl⟩
  have HB6 := Lib.hid hb6
  rw [← hb6] at h12 HK
  rw [← hb6]
  clear hb6
  refine (H.out w1).mono ?_
  rintro e w2 ⟨⟨v, rfl, ht⟩, h21⟩
  obtain ⟨x0, x1, x2, xa, xl, xc, xd, xe, xf, rfl⟩ := tree_open ht
  have HK2 := Lib.hid (⟨HK.out.1.of_eq (h21.block _ HK.out.1.lt), HK.out.2.of_eq (h21.block _ HK.out.2.lt)⟩ : Blk _ _ _ _ ∧ Blk _ _ _ _)
  have HB2 := Lib.hid (HB.out.trans (h21.mono HB.out.size))
  have HT := Lib.hid ht
  obtain ⟨c0, c1, c2, c3, c4⟩ := five_cells HK2.out.1
  obtain ⟨c5, c6⟩ := two_cells HK2.out.2
  have f0 := HK2.out.1.thaw 0
  have f1 := HK2.out.1.thaw 1
  have f2 := HK2.out.1.thaw 2
  have f3 := HK2.out.1.thaw 3
  have f4 := HK2.out.1.thaw 4
  have f5 := HK2.out.2.thaw 0
  have f6 := HK2.out.2.thaw 1
  have n0 : ¬ b6 = b7 := by omega
  have n1 : ¬ b7 = b6 := by omega
  obtain ⟨li, hli⟩ : ∃ li, li = R.line := ⟨_, rfl⟩
  obtain ⟨co, hco⟩ : ∃ co, co = R.col := ⟨_, rfl⟩
  obtain ⟨er, her⟩ : ∃ er, er = R.err := ⟨_, rfl⟩
  rw [← hli, ← hco, ← her]
  have HRR := Lib.hid (⟨hli, hco, her⟩ : li = R.line ∧ co = R.col ∧ er = R.err)
  clear ht h21 hli hco her
  go_wp2_with fail
  obtain ⟨q0, q1, q2, q3⟩ := two_put h12 HK2.out.1 HK2.out.2 (.int .i64 x0) (.int .i64 x1) (.string x2) (.slice xa xl xc) (.slice xd xe xf) (.int .i64 li) (.int .i64 co)
  have HQ3 := Lib.hid ((HT.out.keep (fun b hb => q3 b (by have := hb.1; have := HK.out.1.lt; omega) (by have := hb.1; have := HK.out.2.lt; omega))).mono (Q := Own w.heap.size _) (fun b hb => ⟨by have := HB.out.size; have := hb.1; omega, Nat.lt_of_lt_of_le hb.2 (q2 0 (Nat.zero_le _)).size⟩))
  obtain ⟨W, hW⟩ : ∃ W, W = (((putFive w2 b6 (.int .i64 x0) (.int .i64 x1) (.string x2) (.slice xa xl xc) (.slice xd xe xf)).setCell ⟨b7, 0, none⟩ (.int .i64 li)).setCell ⟨b7, 1, none⟩ (.int .i64 co)) := ⟨_, rfl⟩
  have HQ2 := Lib.hid (q2 w.heap.size (by have := HB6.out; omega))
  have HQ0 := Lib.hid q0
  have HQ1 := Lib.hid q1
  rw [← hW] at HQ0 HQ1 HQ2 HQ3
  unfold putFive at hW
  rw [← hW]
  clear hW q0 q1 q2 q3
  obtain ⟨d0, d1, d2, d3, d4⟩ := five_cells HQ0.out
  obtain ⟨d5, d6⟩ := two_cells HQ1.out
  refine bodyPost_ret (v := .tuple #[.agg #[.int .i64 x0, .int .i64 x1, .string x2, .slice xa xl xc, .slice xd xe xf], .agg #[.int .i64 li, .int .i64 co], .int .i64 er]) (by simp [results, Tryz.results23, go_sem, d0, d1, d2, d3, d4, d5, d6]) rfl ?_
  rw [HRR.out.1, HRR.out.2.1, HRR.out.2.2]
  exact ⟨⟨_, rfl, HQ3.out⟩, HB2.out.trans HQ2.out⟩
def patP (l : Pl.Bytes) : SRes := sourceP 2 (fun ts => (Pl.full ts numOfText).pat 0) (Pl.tokens l)
set_option maxRecDepth 100000 in
set_option maxHeartbeats 4000000 in
theorem pPattern_any (str : ByteArray) (w : World) (hs : str.size ≤ maxLen) : Calls Tryz.prog 24 #[.string str] w (SourceOut (patP str.toList) w) := by
  have hmf : ∀ (fn : Fn) (first cap : Array Value) (w : World), (Instr.makeFunc fn first cap).run Tryz.prog w = .ok (.func fn first cap) w := fun _ _ _ _ => rfl
  have H := Lib.hid (fun W => psource_any 40 2 (fun ts => (Pl.full ts numOfText).pat 0) str W hs
    (fun s g V hn hl hV => (reads_all s g 0 hn (by omega) (Nat.zero_le _)).pat V hV) (fun _ _ => rfl)
    (fun ts t j hl h => by
      have h1 := (Pl.full_small ts numOfText).pat 0 _ _ h
      have h2 := (Pl.full_ends ts numOfText).pat 0 _ _ h
      simp only [Pl.mT] at h1
      omega)
    (fun ts => (Pl.full_within ts numOfText).pat 0 (Nat.zero_le _)))
  unfold patP
  obtain ⟨R, hR⟩ : ∃ R, R = sourceP 2 (fun ts => (Pl.full ts numOfText).pat 0) (Pl.tokens str.toList) := ⟨_, rfl⟩
  rw [← hR] at H ⊢
  clear hR
  obtain ⟨k0, k1, k2⟩ := res_boxes w (.int .i64 0) (.int .i64 0) 27 29 #[.int .i64 0, .int .i64 0, .string ⟨#[]⟩, .slice none 0 0, .slice none 0 0]
  have HK := Lib.hid (⟨k0, k1⟩ : Blk _ _ _ _ ∧ Blk _ _ _ _)
  have HB := Lib.hid k2
  clear k0 k1 k2
  go_enter Tryz.func24, Tryz.ntmps24
  go_wp2_with fail
  generalize (w.alloc (.cells #[.int .i64 0, .int .i64 0, .string ⟨#[]⟩, .slice none 0 0, .slice none 0 0] 27)).alloc (.cells #[.int .i64 0, .int .i64 0] 29) = w1 at *
  have h12 : w.heap.size < w.heap.size + 1 := Nat.lt_succ_self _
  generalize w.heap.size + 1 = b7 at *
  obtain ⟨b6, hb6⟩ : ∃ b6, b6 = w.heap.size := ⟨_, rfl⟩
  have HB6 := Lib.hid hb6
  rw [← hb6] at h12 HK
  rw [← hb6]
  clear hb6
  refine (H.out w1).mono ?_
  rintro e w2 ⟨⟨v, rfl, ht⟩, h21⟩
  obtain ⟨x0, x1, x2, xa, xl, xc, xd, xe, xf, rfl⟩ := tree_open ht
  have HK2 := Lib.hid (⟨HK.out.1.of_eq (h21.block _ HK.out.1.lt), HK.out.2.of_eq (h21.block _ HK.out.2.lt)⟩ : Blk _ _ _ _ ∧ Blk _ _ _ _)
  have HB2 := Lib.hid (HB.out.trans (h21.mono HB.out.size))
  have HT := Lib.hid ht
  obtain ⟨c0, c1, c2, c3, c4⟩ := five_cells HK2.out.1
  obtain ⟨c5, c6⟩ := two_cells HK2.out.2
  have f0 := HK2.out.1.thaw 0
  have f1 := HK2.out.1.thaw 1
  have f2 := HK2.out.1.thaw 2
  have f3 := HK2.out.1.thaw 3
  have f4 := HK2.out.1.thaw 4
  have f5 := HK2.out.2.thaw 0
  have f6 := HK2.out.2.thaw 1
  have n0 : ¬ b6 = b7 := by omega
  have n1 : ¬ b7 = b6 := by omega
  obtain ⟨li, hli⟩ : ∃ li, li = R.line := ⟨_, rfl⟩
  obtain ⟨co, hco⟩ : ∃ co, co = R.col := ⟨_, rfl⟩
  obtain ⟨er, her⟩ : ∃ er, er = R.err := ⟨_, rfl⟩
  rw [← hli, ← hco, ← her]
  have HRR := Lib.hid (⟨hli, hco, her⟩ : li = R.line ∧ co = R.col ∧ er = R.err)
  clear ht h21 hli hco her
  go_wp2_with fail
  obtain ⟨q0, q1, q2, q3⟩ := two_put h12 HK2.out.1 HK2.out.2 (.int .i64 x0) (.int .i64 x1) (.string x2) (.slice xa xl xc) (.slice xd xe xf) (.int .i64 li) (.int .i64 co)
  have HQ3 := Lib.hid ((HT.out.keep (fun b hb => q3 b (by have := hb.1; have := HK.out.1.lt; omega) (by have := hb.1; have := HK.out.2.lt; omega))).mono (Q := Own w.heap.size _) (fun b hb => ⟨by have := HB.out.size; have := hb.1; omega, Nat.lt_of_lt_of_le hb.2 (q2 0 (Nat.zero_le _)).size⟩))
  obtain ⟨W, hW⟩ : ∃ W, W = (((putFive w2 b6 (.int .i64 x0) (.int .i64 x1) (.string x2) (.slice xa xl xc) (.slice xd xe xf)).setCell ⟨b7, 0, none⟩ (.int .i64 li)).setCell ⟨b7, 1, none⟩ (.int .i64 co)) := ⟨_, rfl⟩
  have HQ2 := Lib.hid (q2 w.heap.size (by have := HB6.out; omega))
  have HQ0 := Lib.hid q0
  have HQ1 := Lib.hid q1
  rw [← hW] at HQ0 HQ1 HQ2 HQ3
  unfold putFive at hW
  rw [← hW]
  clear hW q0 q1 q2 q3
  obtain ⟨d0, d1, d2, d3, d4⟩ := five_cells HQ0.out
  obtain ⟨d5, d6⟩ := two_cells HQ1.out
  refine bodyPost_ret (v := .tuple #[.agg #[.int .i64 x0, .int .i64 x1, .string x2, .slice xa xl xc, .slice xd xe xf], .agg #[.int .i64 li, .int .i64 co], .int .i64 er]) (by simp [results, Tryz.results24, go_sem, d0, d1, d2, d3, d4, d5, d6]) rfl ?_
  rw [HRR.out.1, HRR.out.2.1, HRR.out.2.2]
  exact ⟨⟨_, rfl, HQ3.out⟩, HB2.out.trans HQ2.out⟩
def exprP (l : Pl.Bytes) : SRes := sourceP 3 (fun ts => (Pl.full ts numOfText).expr 0) (Pl.tokens l)
set_option maxRecDepth 100000 in
set_option maxHeartbeats 4000000 in
theorem pExpr_any (str : ByteArray) (w : World) (hs : str.size ≤ maxLen) : Calls Tryz.prog 18 #[.string str] w (SourceOut (exprP str.toList) w) := by
  have hmf : ∀ (fn : Fn) (first cap : Array Value) (w : World), (Instr.makeFunc fn first cap).run Tryz.prog w = .ok (.func fn first cap) w := fun _ _ _ _ => rfl
  have H := Lib.hid (fun W => psource_any 38 3 (fun ts => (Pl.full ts numOfText).expr 0) str W hs
    (fun s g V hn hl hV => (reads_all s g 0 hn (by omega) (Nat.zero_le _)).expr V hV) (fun _ _ => rfl)
    (fun ts t j hl h => by
      have h1 := (Pl.full_small ts numOfText).expr 0 _ _ h
      have h2 := (Pl.full_ends ts numOfText).expr 0 _ _ h
      simp only [Pl.mT] at h1
      omega)
    (fun ts => (Pl.full_within ts numOfText).expr 0 (Nat.zero_le _)))
  unfold exprP
  obtain ⟨R, hR⟩ : ∃ R, R = sourceP 3 (fun ts => (Pl.full ts numOfText).expr 0) (Pl.tokens str.toList) := ⟨_, rfl⟩
  rw [← hR] at H ⊢
  clear hR
  obtain ⟨k0, k1, k2⟩ := res_boxes w (.int .i64 0) (.int .i64 0) 27 29 #[.int .i64 0, .int .i64 0, .string ⟨#[]⟩, .slice none 0 0, .slice none 0 0]
  have HK := Lib.hid (⟨k0, k1⟩ : Blk _ _ _ _ ∧ Blk _ _ _ _)
  have HB := Lib.hid k2
  clear k0 k1 k2
  go_enter Tryz.func18, Tryz.ntmps18
  go_wp2_with fail
  generalize (w.alloc (.cells #[.int .i64 0, .int .i64 0, .string ⟨#[]⟩, .slice none 0 0, .slice none 0 0] 27)).alloc (.cells #[.int .i64 0, .int .i64 0] 29) = w1 at *
  have h12 : w.heap.size < w.heap.size + 1 := Nat.lt_succ_self _
  generalize w.heap.size + 1 = b7 at *
  obtain ⟨b6, hb6⟩ : ∃ b6, b6 = w.heap.size := ⟨_, rfl⟩
  have HB6 := Lib.hid hb6
  rw [← hb6] at h12 HK
  rw [← hb6]
  clear hb6
  refine (H.out w1).mono ?_
  rintro e w2 ⟨⟨v, rfl, ht⟩, h21⟩
  obtain ⟨x0, x1, x2, xa, xl, xc, xd, xe, xf, rfl⟩ := tree_open ht
  have HK2 := Lib.hid (⟨HK.out.1.of_eq (h21.block _ HK.out.1.lt), HK.out.2.of_eq (h21.block _ HK.out.2.lt)⟩ : Blk _ _ _ _ ∧ Blk _ _ _ _)
  have HB2 := Lib.hid (HB.out.trans (h21.mono HB.out.size))
  have HT := Lib.hid ht
  obtain ⟨c0, c1, c2, c3, c4⟩ := five_cells HK2.out.1
  obtain ⟨c5, c6⟩ := two_cells HK2.out.2
  have f0 := HK2.out.1.thaw 0
  have f1 := HK2.out.1.thaw 1
  have f2 := HK2.out.1.thaw 2
  have f3 := HK2.out.1.thaw 3
  have f4 := HK2.out.1.thaw 4
  have f5 := HK2.out.2.thaw 0
  have f6 := HK2.out.2.thaw 1
  have n0 : ¬ b6 = b7 := by omega
  have n1 : ¬ b7 = b6 := by omega
  obtain ⟨li, hli⟩ : ∃ li, li = R.line := ⟨_, rfl⟩
  obtain ⟨co, hco⟩ : ∃ co, co = R.col := ⟨_, rfl⟩
  obtain ⟨er, her⟩ : ∃ er, er = R.err := ⟨_, rfl⟩
  rw [← hli, ← hco, ← her]
  have HRR := Lib.hid (⟨hli, hco, her⟩ : li = R.line ∧ co = R.col ∧ er = R.err)
  clear ht h21 hli hco her
  go_wp2_with fail
  obtain ⟨q0, q1, q2, q3⟩ := two_put h12 HK2.out.1 HK2.out.2 (.int .i64 x0) (.int .i64 x1) (.string x2) (.slice xa xl xc) (.slice xd xe xf) (.int .i64 li) (.int .i64 co)
  have HQ3 := Lib.hid ((HT.out.keep (fun b hb => q3 b (by have := hb.1; have := HK.out.1.lt; omega) (by have := hb.1; have := HK.out.2.lt; omega))).mono (Q := Own w.heap.size _) (fun b hb => ⟨by have := HB.out.size; have := hb.1; omega, Nat.lt_of_lt_of_le hb.2 (q2 0 (Nat.zero_le _)).size⟩))
  obtain ⟨W, hW⟩ : ∃ W, W = (((putFive w2 b6 (.int .i64 x0) (.int .i64 x1) (.string x2) (.slice xa xl xc) (.slice xd xe xf)).setCell ⟨b7, 0, none⟩ (.int .i64 li)).setCell ⟨b7, 1, none⟩ (.int .i64 co)) := ⟨_, rfl⟩
  have HQ2 := Lib.hid (q2 w.heap.size (by have := HB6.out; omega))
  have HQ0 := Lib.hid q0
  have HQ1 := Lib.hid q1
  rw [← hW] at HQ0 HQ1 HQ2 HQ3
  unfold putFive at hW
  rw [← hW]
  clear hW q0 q1 q2 q3
  obtain ⟨d0, d1, d2, d3, d4⟩ := five_cells HQ0.out
  obtain ⟨d5, d6⟩ := two_cells HQ1.out
  refine bodyPost_ret (v := .tuple #[.agg #[.int .i64 x0, .int .i64 x1, .string x2, .slice xa xl xc, .slice xd xe xf], .agg #[.int .i64 li, .int .i64 co], .int .i64 er]) (by simp [results, Tryz.results18, go_sem, d0, d1, d2, d3, d4, d5, d6]) rfl ?_
  rw [HRR.out.1, HRR.out.2.1, HRR.out.2.2]
  exact ⟨⟨_, rfl, HQ3.out⟩, HB2.out.trans HQ2.out⟩
end Go.Proofs.YtjedahcpkcgpeaaGreatDoor
