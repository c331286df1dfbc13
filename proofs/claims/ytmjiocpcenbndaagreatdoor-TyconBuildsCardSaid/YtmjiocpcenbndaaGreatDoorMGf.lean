/-
  Several texts in one (Vn Yk).
-/
import Derived.Test.YtmjiocpcenbndaaGreatDoorMGe
import Derived.Test.YtmjiocpcenbndaaGreatDoorMGd
import Derived.Test.YtmjiocpcenbndaaGreatDoorMGa
import Derived.Deep.RegionHeld3
namespace Go.Proofs.YtmjiocpcenbndaaGreatDoor
open Go Go.RowKit
open Pl (K Con)
set_option linter.unusedSimpArgs false
set_option linter.unusedVariables false

/-- what Spine answers -/
def SpineP (t : Con) (w : World) (e : Ending) (w' : World) : Prop :=
  (∃ y z, ((e = .returned (.tuple #[y, z, .int .i64 1]) ∧ Con.validB t = false ∧ ConV w' (· < w'.heap.size) Con.none0 y ∧ ConSl w' (· < w'.heap.size) z []) ∨
    (e = .returned (.tuple #[y, z, .int .i64 0]) ∧ Con.validB t = true ∧ ∃ h l, Spn t h l ∧ ConV w' (· < w'.heap.size) h y ∧ ConSl w' (· < w'.heap.size) z l))) ∧ Below w.heap.size w w'
theorem consSl_nil9 (w : World) (P : Nat → Prop) : ConSl w P (.slice none 0 0) [] := ⟨none, 0, rfl, Nat.le_refl _, Nat.zero_le _, fun _ => rfl, .inl rfl⟩
/-- what a round of the loop finds -/
structure SpB (t : Con) (w : World) (B : Nat) (x : Con) (ys : List Con) (us : List Value) (ka : Option Addr) (kn kc : Nat) (na : Option Addr) (nn nc : Nat) (la : Option Addr) (ln lc : Nat) (lv : Value) (wr : World) : Prop where
  valid : Con.validB x = true
  room : x.size + ys.length ≤ 20001
  con : ConV wr (· < w.heap.size) x (.agg #[.int .i64 x.op, .int .i64 x.n, .string x.s, .slice ka kn kc, .slice na nn nc, .slice la ln lc])
  box : Blk wr w.heap.size 28 #[.int .i64 x.op, .int .i64 x.n, .string x.s, .slice ka kn kc, .slice na nn nc, .slice la ln lc]
  res : Blk wr (w.heap.size + 1) 28 #[.int .i64 0, .int .i64 0, .string ⟨#[]⟩, .slice none 0 0, .slice none 0 0, .slice none 0 0]
  row : CB (fun _ => False) B wr ys us lv
  spn : ∀ h l, Spn x h l → Spn t h (l ++ ys.reverse)
  bel : Below w.heap.size w wr
  low : w.heap.size + 2 ≤ B
  big : B ≤ wr.heap.size
theorem valid_size9 (t : Con) (h : Con.validB t = true) : t.size ≤ 20000 := by
  unfold Con.validB Con.small at h
  rw [Bool.and_eq_true, Bool.and_eq_true, decide_eq_true_eq] at h
  exact h.1.1
theorem outB_valid9 (t : Con) (h : Con.validB t = true) : outB t = (t, 0) := by
  rcases outB_cases t with ⟨_, e⟩ | ⟨h2, _⟩
  · exact e
  · rw [h] at h2; cases h2
set_option maxRecDepth 100000 in
set_option maxHeartbeats 4000000 in
theorem cspine_any (t : Con) (w : World) (v : Value) (ht : ConV w (· < w.heap.size) t v) :
    Calls Tryz.prog 7 #[v] w (SpineP t w) := by
  have HV := Lib.hid (fun W (hW : Below w.heap.size w W) => cvalid_any (· < w.heap.size) t W v (fun q hq => Nat.lt_of_lt_of_le hq hW.size) (ht.keep (Same.of_below hW (fun _ h => h))))
  have HT := Lib.hid (fun W (hW : Below w.heap.size w W) => (ht.keep (Same.of_below hW (fun _ h => h))))
  obtain ⟨ka, kn, kc, na, nn, nc, la, ln, lc, rfl, -, -, -⟩ := ht.shape
  obtain ⟨hbx, hbx2, hb⟩ := twoN_new w 28 28 #[.int .i64 t.op, .int .i64 t.n, .string t.s, .slice ka kn kc, .slice na nn nc, .slice la ln lc] #[.int .i64 0, .int .i64 0, .string ⟨#[]⟩, .slice none 0 0, .slice none 0 0, .slice none 0 0]
  have HBX := Lib.hid hbx
  have HZ := Lib.hid hbx2
  have HB := Lib.hid hb
  clear hbx hbx2 hb ht
  go_enter Tryz.func7, Tryz.ntmps7
  go_upto_region 1 with fail
  generalize (w.alloc (.cells #[.int .i64 t.op, .int .i64 t.n, .string t.s, .slice ka kn kc, .slice na nn nc, .slice la ln lc] 28)).alloc (.cells #[.int .i64 0, .int .i64 0, .string ⟨#[]⟩, .slice none 0 0, .slice none 0 0, .slice none 0 0] 28) = w1 at *
  have c0 := HBX.out.cell 0 (.int .i64 t.op) rfl
  have c1 := HBX.out.cell 1 (.int .i64 t.n) rfl
  have c2 := HBX.out.cell 2 (.string t.s) rfl
  have c3 := HBX.out.cell 3 (.slice ka kn kc) rfl
  have c4 := HBX.out.cell 4 (.slice na nn nc) rfl
  have c5 := HBX.out.cell 5 (.slice la ln lc) rfl
  go_wp2_with fail
  clear c0 c1 c2 c3 c4 c5
  refine (HV.out _ HB.out).mono ?_
  rintro e w2 ⟨rfl, h2⟩
  replace HBX := Lib.hid (HBX.out.of_eq (h2.block _ HBX.out.lt))
  replace HZ := Lib.hid (HZ.out.of_eq (h2.block _ HZ.out.lt))
  replace HB := Lib.hid (belowStep h2 HB.out)
  clear h2
  cases hv : Con.validB t
  · have HVF := Lib.hid hv
    rw [hv] at HV
    clear hv
    have hzz := HZ.out
    have hz := store6_blk hzz 0 (.int .i64 0) (.int .i64 0) (.string ⟨#[]⟩) (.slice none 0 0) (.slice none 0 0) (.slice none 0 0)
    rw [put6_all] at hz
    have HE := Lib.hid (show SpineP t w (.returned (.tuple #[.agg #[.int .i64 0, .int .i64 0, .string ⟨#[]⟩, .slice none 0 0, .slice none 0 0, .slice none 0 0], .slice none 0 0, .int .i64 1])) (store6 w2 (w.heap.size + 1) 0 (.int .i64 0) (.int .i64 0) (.string ⟨#[]⟩) (.slice none 0 0) (.slice none 0 0) (.slice none 0 0)) from ⟨⟨_, _, .inl ⟨rfl, HVF.out, conV_none _ _, consSl_nil9 _ _⟩⟩, store6_below HB.out _ _ _ _ _ _ _ _ (by omega)⟩)
    unfold store6 at hz HE
    simp only [Nat.zero_add] at hz HE
    have z0 := hz.cell 0 (.int .i64 0) rfl
    have z1 := hz.cell 1 (.int .i64 0) rfl
    have z2 := hz.cell 2 (.string ⟨#[]⟩) rfl
    have z3 := hz.cell 3 (.slice none 0 0) rfl
    have z4 := hz.cell 4 (.slice none 0 0) rfl
    have z5 := hz.cell 5 (.slice none 0 0) rfl
    have r0 := hzz.cell 0 (.int .i64 0) rfl
    have r1 := hzz.cell 1 (.int .i64 0) rfl
    have r2 := hzz.cell 2 (.string ⟨#[]⟩) rfl
    have r3 := hzz.cell 3 (.slice none 0 0) rfl
    have r4 := hzz.cell 4 (.slice none 0 0) rfl
    have r5 := hzz.cell 5 (.slice none 0 0) rfl
    have t0 := hzz.thaw 0
    have t1 := hzz.thaw 1
    have t2 := hzz.thaw 2
    have t3 := hzz.thaw 3
    have t4 := hzz.thaw 4
    have t5 := hzz.thaw 5
    clear hz hzz HZ HV HT HBX HVF
    go_wp2
    refine bodyPost_ret (v := .tuple #[.agg #[.int .i64 0, .int .i64 0, .string ⟨#[]⟩, .slice none 0 0, .slice none 0 0, .slice none 0 0], .slice none 0 0, .int .i64 1]) (by simp [results, Tryz.results7, go_sem, z0, z1, z2, z3, z4, z5]) rfl ?_
    exact HE.out
  have HVT := Lib.hid hv
  rw [hv] at HV
  clear hv HV
  have HSP0 := Lib.hid (show SpB t w w2.heap.size t [] [] ka kn kc na nn nc la ln lc (.slice none 0 0) w2 from ⟨HVT.out, by have := valid_size9 t HVT.out; simp; omega, HT.out _ HB.out, HBX.out, HZ.out, CB.nil _ _ _, fun h l p => by simpa using p, HB.out, by have := HZ.out.lt; omega, Nat.le_refl _⟩)
  obtain ⟨iC, ci0, ci1, ci2, ci3⟩ := info_parts infoCon
  clear HBX HZ HB HT
  generalize w2.heap.size = B at *
  go_wp2_with fail
  go_loopg [5] t.size (fun gk lv wr => ∃ (x : Con) (ys : List Con) (us : List Value) (ka : Option Addr) (kn kc : Nat) (na : Option Addr) (nn nc : Nat) (la : Option Addr) (ln lc : Nat), gk = x.size ∧ SpB t w B x ys us ka kn kc na nn nc la ln lc lv wr)
  case atStart => exact ⟨t, [], [], ka, kn, kc, na, nn, nc, la, ln, lc, rfl, HSP0.out⟩
  case round =>
    obtain ⟨x, ys, us, ka, kn, kc, na, nn, nc, la, ln, lc, hgk, hsp⟩ := hrel
    have HSP := Lib.hid hsp
    clear HSP0
    have HBX := Lib.hid hsp.box
    have HCV := Lib.hid hsp.con
    have hgk' := Lib.hid hgk
    clear hgk
    have c0 := HBX.out.cell 0 (.int .i64 x.op) rfl
    have c1 := HBX.out.cell 1 (.int .i64 x.n) rfl
    have c2 := HBX.out.cell 2 (.string x.s) rfl
    have c3 := HBX.out.cell 3 (.slice ka kn kc) rfl
    have c4 := HBX.out.cell 4 (.slice na nn nc) rfl
    have c5 := HBX.out.cell 5 (.slice la ln lc) rfl
    by_cases h12 : x.op = 12
    · have q16 : (x.op == 12) = true := by rw [h12]; rfl
      obtain ⟨f, a, hfa⟩ := app_parts x (by have := valid_all x hsp.valid; rw [allB_eq, Bool.and_eq_true] at this; exact this.1) h12
      have hls := con_list hsp.con
      rw [hfa] at hls
      obtain ⟨b, off, c', aka, akn, akc, ana, ann, anc, ala, aln, alc, e, hbP, g0, g1, g2, g3, g4, g5, hca⟩ := hls.part 1 (by simp)
      obtain ⟨b', off', c2, fka, fkn, fkc, fna, fnn, fnc, fla, fln, flc, e', -, k0, k1, k2, k3, k4, k5, hcf⟩ := hls.part 0 (by simp)
      rw [e] at e'
      injection e' with e1 e2 e3
      injection e1 with e1
      injection e1 with e1 e1'
      subst e1 e1' e3
      injection e with e1 e2 e3
      subst e1 e2 e3
      simp only [List.getElem_cons_succ, List.getElem_cons_zero, Nat.zero_mul, Nat.one_mul, Nat.add_zero] at g0 g1 g2 g3 g4 g5 hca k0 k1 k2 k3 k4 k5 hcf
      have hva : Con.validB a = true := part_valid x a hsp.valid (by rw [hfa]; simp)
      have hvf : Con.validB f = true := part_valid x f hsp.valid (by rw [hfa]; simp)
      have HSZ := Lib.hid (show x.size = 1 + (f.size + a.size) from by rw [Con.size_eq, hfa, Con.sizes_cons, Con.sizes_cons, Con.sizes_nil]; omega)
      have HVF := Lib.hid hvf
      have HSPN := Lib.hid (fun h l (p : Spn f h l) => (show Spn t h (l ++ (ys ++ [a]).reverse) from by
        have := hsp.spn h (l ++ [a]) (Spn.app x f a h l h12 hfa p)
        simpa [List.append_assoc] using this))
      have HCP := Lib.hid (ccopy_any a wr _ (hca.mono (fun q hq => Nat.lt_of_lt_of_le hq hsp.bel.size)) (valid_all a hva))
      rw [outB_valid9 a hva] at HCP
      have HCF := Lib.hid hcf
      have HLX := Lib.hid (show b < w.heap.size from hbP)
      have hpos := Con.size_pos a
      have HAP := Lib.hid (Con.size_pos a)
      clear hva hvf hca hcf hls hsp hfa hbP hpos h12
      generalize x.op = xo at *
      generalize x.n = xn at *
      generalize x.s = xs at *
      go_wp2_with fail
      clear g0 g1 g2 g3 g4 g5
      refine HCP.out.mono ?_
      rintro e w7 ⟨⟨y, rfl, hy⟩, hb7⟩
      obtain ⟨yka, ykn, ykc, yna, ynn, ync, yla, yln, ylc, rfl, -, -, -⟩ := hy.shape
      clear c0 c1 c2 c3 c4 c5 HCP
      obtain ⟨hbx6, hb6⟩ := boxN_new w7 28 #[.int .i64 a.op, .int .i64 a.n, .string a.s, .slice yka ykn ykc, .slice yna ynn ync, .slice yla yln ylc]
      have HN6 := Lib.hid (boxN_new (w7.alloc (.cells #[.int .i64 a.op, .int .i64 a.n, .string a.s, .slice yka ykn ykc, .slice yna ynn ync, .slice yla yln ylc] 28)) 28 #[.int .i64 a.op, .int .i64 a.n, .string a.s, .slice yka ykn ykc, .slice yna ynn ync, .slice yla yln ylc]).1
      have HROW := Lib.hid ((HSP.out.row.below (fun _ h => h.elim) hb7).below (fun _ h => h.elim) hb6)
      obtain ⟨sa, sc, hsv⟩ := row_form6 HROW.out.row
      subst hsv
      have HYB := Lib.hid (hy.keep (Same.of_below hb6 (fun q hq => hq.2)))
      have HBB := Lib.hid (belowStep hb6 hb7)
      have H6B := Lib.hid hbx6
      have HW7 := Lib.hid (show wr.heap.size ≤ w7.heap.size from hb7.size)
      obtain ⟨yl, hyl⟩ : ∃ k, k = ys.length := ⟨_, rfl⟩
      have HYN := Lib.hid hyl
      have hroom : yl ≤ 20000 := by have := HSP.out.room; have := HSZ.out; rw [hyl]; omega
      have hrw := HROW.out.row
      rw [← hyl] at HROW hrw ⊢
      have HRW := Lib.hid hrw
      have HS7 := Lib.hid (size_alloc w7 (.cells #[.int .i64 a.op, .int .i64 a.n, .string a.s, .slice yka ykn ykc, .slice yna ynn ync, .slice yla yln ylc] 28))
      clear hb7 hb6 hbx6 hrw hyl
      have HAE := Lib.hid (rfl : a = a)
      clear HAE
      go_upto_region 6 with fail
      generalize w7.alloc (.cells #[.int .i64 a.op, .int .i64 a.n, .string a.s, .slice yka ykn ykc, .slice yna ynn ync, .slice yla yln ylc] 28) = w8 at *
      have d0 := H6B.out.cell 0 (.int .i64 a.op) rfl
      have d1 := H6B.out.cell 1 (.int .i64 a.n) rfl
      have d2 := H6B.out.cell 2 (.string a.s) rfl
      have d3 := H6B.out.cell 3 (.slice yka ykn ykc) rfl
      have d4 := H6B.out.cell 4 (.slice yna ynn ync) rfl
      have d5 := H6B.out.cell 5 (.slice yla yln ylc) rfl
      have HNEW := Lib.hid (show ∀ j u, [.int .i64 a.op, .int .i64 a.n, .string a.s, .slice yka ykn ykc, .slice yna ynn ync, .slice yla yln ylc][j]? = some u → (w8.alloc (.cells #[.int .i64 a.op, .int .i64 a.n, .string a.s, .slice yka ykn ykc, .slice yna ynn ync, .slice yla yln ylc] 28)).cell? ((⟨w8.heap.size, 0, none⟩ : Addr).add j) = some u from World.news_of_block (cs := #[.int .i64 a.op, .int .i64 a.n, .string a.s, .slice yka ykn ykc, .slice yna ynn ync, .slice yla yln ylc]) (t := 28) (fr := (0, 0)) (boxN_new w8 28 #[.int .i64 a.op, .int .i64 a.n, .string a.s, .slice yka ykn ykc, .slice yna ynn ync, .slice yla yln ylc]).1)
      go_wp2_with (at_builtin; refine wpList_append_lies _ rfl _ _ 26 rfl B 28 iC (.agg #[.int .i64 0, .int .i64 0, .string ByteArray.empty, .slice none 0 0, .slice none 0 0, .slice none 0 0]) 6 104 Tryz.underlying26 ci0 ci1 ci2 ci3 rfl (by decide) _ _ _ rfl (HRW.out.alloc _) ⟨w8.heap.size, 0, none⟩ 1 1 [.int .i64 a.op, .int .i64 a.n, .string a.s, .slice yka ykn ykc, .slice yna ynn ync, .slice yla yln ylc] rfl rfl ?c1 ?c2 (by decide) ?c3 ?c4 ?c5 (w8.heap.size + 1) (by simp) ?_)
      case c1 => exact HNEW.out
      case c2 => simp [Value.oneCell']
      case c3 => unfold maxLen; omega
      case c4 => omega
      case c5 => have h1 := HSP.out.big; have h2 := HBB.out.size; simp; omega
      intro gg cap w9 hown hgrow hat hlt
      have hlow := HROW.out.low
      have HCB2 := Lib.hid (HROW.out.push HYN.out (fun _ h => h.elim) HYB.out (fun q hq => ⟨.inr ⟨by have h1 := hq.1; have h2 := HSP.out.big; omega, by have h1 := hq.2; have h2 := HS7.out; omega⟩, fun e => by
        have h1 := (HSP.out.row.low q (by rw [HYN.out] at e; exact e)).2
        have h2 := hq.1
        omega⟩) hown hgrow hat)
      have hblk := fun (q : Nat) (hq : q < w.heap.size + 2) => (show w9.heap[q]? = wr.heap[q]? from by
        have hqs : q < wr.heap.size := by have h1 := HSP.out.low; have h2 := HSP.out.big; omega
        refine (hgrow.block q (by rw [size_alloc]; have := HBB.out.size; omega) (fun e => by have h1 := (hlow q e.symm).1; have h2 := HSP.out.low; omega)).trans ((Below.heap_alloc w8 _ q (by have := HBB.out.size; omega)).trans (HBB.out.block q hqs)))
      have HBX9 := Lib.hid (HBX.out.of_eq (hblk w.heap.size (by omega)))
      have HZ9 := Lib.hid (HSP.out.res.of_eq (hblk (w.heap.size + 1) (by omega)))
      have HB9 := Lib.hid (((belowStep HBB.out HSP.out.bel).alloc (by have := HBB.out.size; have := HSP.out.bel.size; omega) (.cells #[.int .i64 a.op, .int .i64 a.n, .string a.s, .slice yka ykn ykc, .slice yna ynn ync, .slice yla yln ylc] 28)).grown hgrow (by rw [size_alloc]; have := HBB.out.size; have := HSP.out.bel.size; omega) (fun j hj => by have h1 := (hlow j hj).1; have h2 := HSP.out.low; omega))
      have HSAME := Lib.hid (fun q (hq : q < w.heap.size) => hblk q (by omega))
      have HG9 := Lib.hid (show B ≤ w9.heap.size from by have h1 := HSP.out.big; have h2 := HBB.out.size; have h3 := hgrow.size; rw [size_alloc] at h3; omega)
      clear hown hgrow hat hlt hlow hblk d0 d1 d2 d3 d4 d5 HNEW H6B HN6 HRW
      have hcl := HSAME.out b HLX.out
      replace k0 := (cell_same hcl).trans k0
      replace k1 := (cell_same hcl).trans k1
      replace k2 := (cell_same hcl).trans k2
      replace k3 := (cell_same hcl).trans k3
      replace k4 := (cell_same hcl).trans k4
      replace k5 := (cell_same hcl).trans k5
      clear hcl
      have c0 := HBX9.out.cell 0 (.int .i64 xo) rfl
      have c1 := HBX9.out.cell 1 (.int .i64 xn) rfl
      have c2 := HBX9.out.cell 2 (.string xs) rfl
      have c3 := HBX9.out.cell 3 (.slice ka kn kc) rfl
      have c4 := HBX9.out.cell 4 (.slice na nn nc) rfl
      have c5 := HBX9.out.cell 5 (.slice (some ⟨b, off, none⟩) [f, a].length lc) rfl
      have t0 := HBX9.out.thaw 0
      have t1 := HBX9.out.thaw 1
      have t2 := HBX9.out.thaw 2
      have t3 := HBX9.out.thaw 3
      have t4 := HBX9.out.thaw 4
      have t5 := HBX9.out.thaw 5
      have hz := store6_blk HBX9.out 0 (.int .i64 f.op) (.int .i64 f.n) (.string f.s) (.slice fka fkn fkc) (.slice fna fnn fnc) (.slice fla fln flc)
      rw [put6_all] at hz
      have HE := Lib.hid (show SpB t w B f (ys ++ [a]) (us ++ [.int .i64 a.op, .int .i64 a.n, .string a.s, .slice yka ykn ykc, .slice yna ynn ync, .slice yla yln ylc]) fka fkn fkc fna fnn fnc fla fln flc (.slice (some ⟨gg, 0, none⟩) (yl + 1) cap) (store6 w9 w.heap.size 0 (.int .i64 f.op) (.int .i64 f.n) (.string f.s) (.slice fka fkn fkc) (.slice fna fnn fnc) (.slice fla fln flc)) from by
        have hon := store6_only (Only.refl w.heap.size w9) w.heap.size 0 (.int .i64 f.op) (.int .i64 f.n) (.string f.s) (.slice fka fkn fkc) (.slice fna fnn fnc) (.slice fla fln flc) (.inl rfl)
        have hoth : ∀ q, q ≠ w.heap.size → q < w9.heap.size → _ := fun q h1 h2 => World.grownBy.block hon q h2 (fun e => by injection e with e; exact h1 e)
        refine ⟨HVF.out, by rw [List.length_append]; have h1 := HSP.out.room; have h2 := HSZ.out; have h3 := HAP.out; simp; omega, ?_, hz, HZ9.out.of_eq (hoth _ (by omega) HZ9.out.lt), ?_, HSPN.out, store6_below HB9.out _ _ _ _ _ _ _ _ (Nat.le_refl _), HSP.out.low, by rw [store6_size]; exact HG9.out⟩
        · exact (HCF.out.keep (fun q hq => HSAME.out q hq)).keep (fun q hq => hoth q (by have hq : q < w.heap.size := hq; omega) (by have hq : q < w.heap.size := hq; have := HB9.out.size; omega))
        · have hc := HCB2.out
          refine ⟨hc.row.kept hon (.inr (fun e => ?_)), (hc.kids.keep (fun q hq => hoth q ?_ ?_)).mono (fun q hq => ⟨?_, hq.2⟩)⟩
          · have h1 := (hc.low _ e).1; have h2 := HSP.out.low; omega
          · have := HSP.out.low; rcases hq.1 with h | h; exact h.elim; omega
          · rcases hq.1 with h | h; exact h.elim; exact h.2
          · rcases hq.1 with h | h; exact .inl h; exact .inr ⟨h.1, by rw [store6_size]; exact h.2⟩)
      unfold store6 at hz HE
      simp only [Nat.zero_add] at hz HE
      clear hz
      have hpa := HAP.out
      have hsz := HSZ.out
      have hg2 := hgk'.out
      go_wp2
      go_roundg f.size
      case measure => omega
      case rel => exact ⟨f, ys ++ [a], _, fka, fkn, fkc, fna, fnn, fnc, fla, fln, flc, rfl, HE.out⟩
    have q16 : (x.op == 12) = false := beq_eq_false_iff_ne.2 h12
    have HFIN := Lib.hid (show Spn t x ys.reverse from by have := hsp.spn x [] (Spn.base x h12); simpa using this)
    have HRV := Lib.hid (reverseCB B wr ys us u5 hsp.big hsp.row)
    have HVX := Lib.hid hsp.valid
    have HRES := Lib.hid hsp.res
    have HBL := Lib.hid hsp.bel
    have HLO := Lib.hid hsp.low
    have HBG := Lib.hid hsp.big
    clear hsp HSP h12 hgk'
    go_wp2_with fail
    clear c0 c1 c2 c3 c4 c5
    refine HRV.out.mono ?_
    rintro e w5 ⟨rfl, hsl, hb5⟩
    have hlt2 : ∀ q, q < w.heap.size + 2 → q < B := fun q hq => by have := HLO.out; omega
    have HSL := Lib.hid hsl
    have HCV5 := Lib.hid (HCV.out.keep (fun q (hq : q < w.heap.size) => hb5.block q (hlt2 q (by omega))))
    replace HBX := Lib.hid (HBX.out.of_eq (hb5.block _ (hlt2 _ (by omega))))
    replace HRES := Lib.hid (HRES.out.of_eq (hb5.block _ (hlt2 _ (by omega))))
    have HB5 := Lib.hid (HBL.out.trans (hb5.mono (by have := HLO.out; omega)))
    have HG5 := Lib.hid (show B ≤ w5.heap.size from Nat.le_trans HBG.out hb5.size)
    clear hsl hb5 HRV HCV HBL HBG
    have c0 := HBX.out.cell 0 (.int .i64 x.op) rfl
    have c1 := HBX.out.cell 1 (.int .i64 x.n) rfl
    have c2 := HBX.out.cell 2 (.string x.s) rfl
    have c3 := HBX.out.cell 3 (.slice ka kn kc) rfl
    have c4 := HBX.out.cell 4 (.slice na nn nc) rfl
    have c5 := HBX.out.cell 5 (.slice la ln lc) rfl
    have HCP := Lib.hid (ccopy_any x w5 _ (HCV5.out.mono (fun q hq => Nat.lt_of_lt_of_le hq HB5.out.size)) (valid_all x HVX.out))
    rw [outB_valid9 x HVX.out] at HCP
    go_wp2_with fail
    clear c0 c1 c2 c3 c4 c5
    refine HCP.out.mono ?_
    rintro e w6 ⟨⟨y, rfl, hy⟩, hb6⟩
    obtain ⟨yka, ykn, ykc, yna, ynn, ync, yla, yln, ylc, rfl, -, -, -⟩ := hy.shape
    obtain ⟨hbx7, hb7⟩ := boxN_new w6 28 #[.int .i64 x.op, .int .i64 x.n, .string x.s, .slice yka ykn ykc, .slice yna ynn ync, .slice yla yln ylc]
    have hb67 := belowStep hb7 hb6
    have HY := Lib.hid (hy.keep (Same.of_below hb7 (fun q hq => hq.2)))
    have H7B := Lib.hid hbx7
    have HB7 := Lib.hid (belowStep hb67 HB5.out)
    have HSL7 := Lib.hid (HSL.out.keep (Same.of_below hb67 (fun q hq => hq.2)))
    have HRES7 := Lib.hid (HRES.out.of_eq (hb67.block _ HRES.out.lt))
    have HS67 := Lib.hid (show w5.heap.size ≤ w6.heap.size from hb6.size)
    have HS7 := Lib.hid (size_alloc w6 (.cells #[.int .i64 x.op, .int .i64 x.n, .string x.s, .slice yka ykn ykc, .slice yna ynn ync, .slice yla yln ylc] 28))
    clear hbx7 hb7 hb6 hb67 hy HCP HSL HRES HBX
    go_upto_region 10 with fail
    generalize w6.alloc (.cells #[.int .i64 x.op, .int .i64 x.n, .string x.s, .slice yka ykn ykc, .slice yna ynn ync, .slice yla yln ylc] 28) = w7 at *
    have d0 := H7B.out.cell 0 (.int .i64 x.op) rfl
    have d1 := H7B.out.cell 1 (.int .i64 x.n) rfl
    have d2 := H7B.out.cell 2 (.string x.s) rfl
    have d3 := H7B.out.cell 3 (.slice yka ykn ykc) rfl
    have d4 := H7B.out.cell 4 (.slice yna ynn ync) rfl
    have d5 := H7B.out.cell 5 (.slice yla yln ylc) rfl
    have hzz := HRES7.out
    have hz := store6_blk hzz 0 (.int .i64 x.op) (.int .i64 x.n) (.string x.s) (.slice yka ykn ykc) (.slice yna ynn ync) (.slice yla yln ylc)
    rw [put6_all] at hz
    have HE := Lib.hid (show SpineP t w (.returned (.tuple #[.agg #[.int .i64 x.op, .int .i64 x.n, .string x.s, .slice yka ykn ykc, .slice yna ynn ync, .slice yla yln ylc], u5, .int .i64 0])) (store6 w7 (w.heap.size + 1) 0 (.int .i64 x.op) (.int .i64 x.n) (.string x.s) (.slice yka ykn ykc) (.slice yna ynn ync) (.slice yla yln ylc)) from by
      have hon := store6_only (Only.refl (w.heap.size + 1) w7) (w.heap.size + 1) 0 (.int .i64 x.op) (.int .i64 x.n) (.string x.s) (.slice yka ykn ykc) (.slice yna ynn ync) (.slice yla yln ylc) (.inl rfl)
      have hoth : ∀ q, q ≠ w.heap.size + 1 → q < w7.heap.size → _ := fun q h1 h2 => World.grownBy.block hon q h2 (fun e => by injection e with e; exact h1 e)
      refine ⟨⟨_, _, .inr ⟨rfl, HVT.out, x, ys.reverse, HFIN.out, ?_, ?_⟩⟩, store6_below HB7.out _ _ _ _ _ _ _ _ (by omega)⟩
      · refine (HY.out.keep (fun q hq => hoth q (by have h1 := hq.1; have h2 := HG5.out; have h3 := HLO.out; omega) (by have h1 := hq.2; have h2 := HS7.out; omega))).mono (fun q hq => ?_)
        have h1 := hq.2
        have h2 := HS7.out
        rw [store6_size]
        omega
      · refine (HSL7.out.keep (fun q hq => hoth q (by have h1 := hq.1; have h3 := HLO.out; omega) (by have h1 := hq.2; have h2 := HS7.out; have h3 := HS67.out; omega))).mono (fun q hq => ?_)
        have h1 := hq.2
        have h2 := HS7.out
        have h3 := HS67.out
        rw [store6_size]
        omega)
    unfold store6 at hz HE
    simp only [Nat.zero_add] at hz HE
    have z0 := hz.cell 0 (.int .i64 x.op) rfl
    have z1 := hz.cell 1 (.int .i64 x.n) rfl
    have z2 := hz.cell 2 (.string x.s) rfl
    have z3 := hz.cell 3 (.slice yka ykn ykc) rfl
    have z4 := hz.cell 4 (.slice yna ynn ync) rfl
    have z5 := hz.cell 5 (.slice yla yln ylc) rfl
    have r0 := hzz.cell 0 (.int .i64 0) rfl
    have r1 := hzz.cell 1 (.int .i64 0) rfl
    have r2 := hzz.cell 2 (.string ⟨#[]⟩) rfl
    have r3 := hzz.cell 3 (.slice none 0 0) rfl
    have r4 := hzz.cell 4 (.slice none 0 0) rfl
    have r5 := hzz.cell 5 (.slice none 0 0) rfl
    have t0 := hzz.thaw 0
    have t1 := hzz.thaw 1
    have t2 := hzz.thaw 2
    have t3 := hzz.thaw 3
    have t4 := hzz.thaw 4
    have t5 := hzz.thaw 5
    clear hz hzz
    go_wp2
    refine bodyPost_ret (v := .tuple #[.agg #[.int .i64 x.op, .int .i64 x.n, .string x.s, .slice yka ykn ykc, .slice yna ynn ync, .slice yla yln ylc], u5, .int .i64 0]) (by simp [results, Tryz.results7, go_sem, z0, z1, z2, z3, z4, z5]) rfl ?_
    exact HE.out
end Go.Proofs.YtmjiocpcenbndaaGreatDoor
namespace Go.Proofs.YtmjiocpcenbndaaGreatDoor
open Go Go.RowKit
open Pl (K Con)
set_option linter.unusedSimpArgs false
set_option linter.unusedVariables false

theorem ConSl.grow9T {w w' : World} {v : Value} {l : List Con} (h : ConSl w (· < w.heap.size) v l) (hb : Below w.heap.size w w') : ConSl w' (· < w'.heap.size) v l := (h.keep (Same.of_below hb (fun _ h => h))).mono (fun _ h => Nat.lt_of_lt_of_le h hb.size)
set_option maxRecDepth 100000 in
set_option maxHeartbeats 4000000 in
theorem builds_any (t : Con) (l : List Con) (w : World) (v xv : Value) (ht : ConV w (· < w.heap.size) t v) (hl : ConSl w (· < w.heap.size) xv l) :
    Calls Tryz.prog 3 #[v, xv] w fun e w' => e = .returned (.bool true) ∧ Below w.heap.size w w' := by
  have HA := Lib.hid awake9
  have HT := Lib.hid (fun W (hW : Below w.heap.size w W) => ht.grow hW)
  have HLS := Lib.hid (fun W (hW : Below w.heap.size w W) => hl.grow9T hW)
  have HTP := Lib.hid (fun W (hW : Below w.heap.size w W) => (show (∀ q, q < w.heap.size → q < W.heap.size) ∧ ConV W (· < w.heap.size) t v ∧ ConSl W (· < w.heap.size) xv l from ⟨fun q h => Nat.lt_of_lt_of_le h hW.size, ht.keep (Same.of_below hW (fun _ h => h)), hl.keep (Same.of_below hW (fun _ h => h))⟩))
  have HSM := Lib.hid (fun W x' (hl : ConSl W (· < W.heap.size) x' [t]) => small_any (· < W.heap.size) [t] W x' (fun _ h => h) hl)
  have HSL := Lib.hid (fun W (hW : Below w.heap.size w W) => small_any (· < w.heap.size) l W xv (HTP.out W hW).1 (HTP.out W hW).2.2)
  obtain ⟨⟨u, uc⟩, hao⟩ : ∃ z, z = appsOut t l := ⟨_, rfl⟩
  have HAP := Lib.hid (fun W (hW : Below w.heap.size w W) => (show Calls Tryz.prog 6 #[v, xv] W (fun e w' => (∃ y, e = .returned (.tuple #[y, .int .i64 uc]) ∧ ConV w' (· < w'.heap.size) u y) ∧ Below W.heap.size W w') from by
    have h := capps_new t l W v xv (HT.out W hW) (HLS.out W hW)
    rw [← hao] at h
    refine h.mono ?_
    rintro e w' ⟨⟨y, rfl, hy⟩, hb⟩
    exact ⟨⟨y, rfl, hy.mono (fun q hq => hq.2)⟩, hb⟩))
  obtain ⟨⟨s, scd⟩, hto⟩ : ∃ z, z = tupOut l := ⟨_, rfl⟩
  have HTU := Lib.hid (fun W (hW : Below w.heap.size w W) => (show Calls Tryz.prog 8 #[xv] W (fun e w' => (∃ y, e = .returned (.tuple #[y, .int .i64 scd]) ∧ ConV w' (· < w'.heap.size) s y) ∧ Below W.heap.size W w') from by
    have h := ctuple_any l W xv (HLS.out W hW)
    rw [← hto] at h
    refine h.mono ?_
    rintro e w' ⟨⟨y, rfl, hy⟩, hb⟩
    exact ⟨⟨y, rfl, hy.mono (fun q hq => hq.2)⟩, hb⟩))
  have HSPN := Lib.hid (fun W (hW : Below w.heap.size w W) => (cspine_any t W v (HT.out W hW)))
  have HRV := Lib.hid (fun W (hW : Below w.heap.size w W) => rvalid9_any (· < w.heap.size) t W v (HTP.out W hW).1 (HTP.out W hW).2.1)
  have HVA := Lib.hid (fun W (hW : Below w.heap.size w W) => rvalidAll9_any (· < w.heap.size) l W xv (HTP.out W hW).1 (HTP.out W hW).2.2)
  have HRS := Lib.hid (fun W (hW : Below w.heap.size w W) (hv : Con.validB t = true) => (show Calls Tryz.prog 16 #[v] W (fun e w' => (∃ h l y z, e = .returned (.tuple #[y, z]) ∧ Spn t h l ∧ ConV w' (· < w'.heap.size) h y ∧ ConSl w' (· < w'.heap.size) z l) ∧ Below W.heap.size W w') from by
    refine (rspine_any (· < w.heap.size) t (valid_all t hv) (valid_size9 t hv) W v (HTP.out W hW).1 (HTP.out W hW).2.1).mono ?_
    rintro e w' ⟨⟨h, l, y, z, rfl, h1, h2, h3⟩, hb⟩
    have hup : ∀ q, Ext (· < w.heap.size) W w' q → q < w'.heap.size := fun q hq => by
      rcases hq with hq | hq
      · exact Nat.lt_of_lt_of_le hq (Nat.le_trans hW.size hb.size)
      · exact hq.2
    exact ⟨⟨h, l, y, z, rfl, h1, h2.mono hup, h3.mono hup⟩, hb⟩))
  have HAPP := Lib.hid (fun W (hW : Below w.heap.size w W) => (show Calls Tryz.prog 20 #[v, xv] W (fun e w' => (∃ y, e = .returned y ∧ ConV w' (· < w'.heap.size) (appsC t l) y) ∧ Below W.heap.size W w') from rapps_any t l W v xv (HT.out W hW) (HLS.out W hW)))
  have HRT := Lib.hid (fun W (hW : Below w.heap.size w W) (h9 : l.length ≤ 9) => (show Calls Tryz.prog 21 #[xv] W (fun e w' => (∃ y, e = .returned y ∧ ConV w' (· < w'.heap.size) (tupC l) y) ∧ Below W.heap.size W w') from rtuple_any l W xv (HLS.out W hW) h9))
  have HNO := Lib.hid (fun W c (hc : c = Con.none0) x (hx : ConV W (· < W.heap.size) c x) => (show Calls Tryz.prog 15 #[x] W (fun e w' => e = .returned (.bool true) ∧ Below W.heap.size W w') from by
    have h := none9_any (· < W.heap.size) c W x (fun _ h => h) hx
    rw [hc, sameB_self] at h
    exact h))
  have HSAME := Lib.hid (fun W c a b (ha : ConV W (· < W.heap.size) c a) (hb : ConV W (· < W.heap.size) c b) => (show Calls Tryz.prog 9 #[a, b] W (fun e w' => e = .returned (.bool true) ∧ Below W.heap.size W w') from by
    have h := rsameB_any (· < W.heap.size) (· < W.heap.size) c c W a b (fun _ h => h) (fun _ h => h) ha hb
    rw [sameB_self] at h
    exact h))
  have HSALL := Lib.hid (fun W m a b (ha : ConSl W (· < W.heap.size) a m) (hb : ConSl W (· < W.heap.size) b m) => rsameAll_any m W a b ha hb)
  obtain ⟨xa, xc, rfl, hcn, hcm, -⟩ := hl.each
  obtain ⟨n, hn⟩ : ∃ n, n = l.length := ⟨_, rfl⟩
  have hn63 : n ≤ 9223372036854775807 := by unfold maxLen at hcm; omega
  have HIV := Lib.hid (show (Con.validB t && l.all Con.validB) = false → u = Con.none0 ∧ uc = 1 from fun h => by
    have h2 : (u, uc) = (Con.none0, (1 : Int)) := by rw [hao]; unfold appsOut; rw [h]; rfl
    simp only [Prod.mk.injEq] at h2
    exact h2)
  have HFU := Lib.hid (show Con.validB t = true → l.all Con.validB = true → 1000 < n → u = Con.none0 ∧ uc = 5 from fun h1 h2 h3 => by
    have h2 : (u, uc) = (Con.none0, (5 : Int)) := by rw [hao]; unfold appsOut; rw [h1, h2, show (true && true) = true from rfl, if_pos rfl, if_pos (by rw [← hn]; exact h3)]
    simp only [Prod.mk.injEq] at h2
    exact h2)
  have HOV := Lib.hid (show Con.validB t = true → l.all Con.validB = true → ¬ 1000 < n → answerB u uc (appsC t l) = true from fun h1 h2 h3 => by
    have h4 : (u, uc) = outB (appsC t l) := by rw [hao]; unfold appsOut; rw [h1, h2, show (true && true) = true from rfl, if_pos rfl, if_neg (by rw [← hn]; exact h3)]
    have h7 := answer_out (appsC t l)
    rw [← h4] at h7
    exact h7)
  have HI2 := Lib.hid (show l.all Con.validB = false → s = Con.none0 ∧ scd = 1 from fun h => by
    have h2 : (s, scd) = (Con.none0, (1 : Int)) := by rw [hto]; unfold tupOut; rw [if_neg (by rw [h]; simp)]
    simp only [Prod.mk.injEq] at h2
    exact h2)
  have HR2 := Lib.hid (show l.all Con.validB = true → (n = 1 ∨ 9 < n) → s = Con.none0 ∧ scd = 2 from fun h h3 => by
    have h2 : (s, scd) = (Con.none0, (2 : Int)) := by rw [hto]; unfold tupOut; rw [if_pos h, if_pos (by rw [← hn]; exact h3)]
    simp only [Prod.mk.injEq] at h2
    exact h2)
  have HO2 := Lib.hid (show l.all Con.validB = true → ¬ n = 1 → ¬ 9 < n → answerB s scd (tupC l) = true from fun h1 h2 h3 => by
    have h4 : (s, scd) = outB (tupC l) := by rw [hto]; unfold tupOut; rw [if_pos h1, if_neg (by rw [← hn]; omega)]
    have h7 := answer_out (tupC l)
    rw [← h4] at h7
    exact h7)
  rw [← hn] at HSL HAP HTU HVA HAPP HRT ⊢
  clear hao hto HTP hcn hcm hn hl HLS
  obtain ⟨ka, kn, kc, na, nn, nc, la, ln, lc, rfl, -, -, -⟩ := ht.shape
  obtain ⟨hbx, hb⟩ := boxN_new w 28 #[.int .i64 t.op, .int .i64 t.n, .string t.s, .slice ka kn kc, .slice na nn nc, .slice la ln lc]
  have HB := Lib.hid hb
  have HBX := Lib.hid hbx
  clear hbx hb ht
  go_enter Tryz.func3, Tryz.ntmps3
  go_upto_region 1 with fail
  generalize w.alloc (.cells #[.int .i64 t.op, .int .i64 t.n, .string t.s, .slice ka kn kc, .slice na nn nc, .slice la ln lc] 28) = w2 at *
  go_cut [42] from 15 to 42 (fun s42 W => ∃ r : Bool, s42 = .bool r ∧ Below w2.heap.size w2 W)
  case first =>
    have HK := Lib.hid (Below.refl w2.heap.size w2)
    go_wp2_with fail
    refine (HA.out _).mono ?_
    rintro e w11 ⟨rfl, hb⟩
    replace HK := Lib.hid (belowStep hb HK.out)
    replace HBX := Lib.hid (HBX.out.of_eq (hb.block _ HBX.out.lt))
    replace HB := Lib.hid (belowStep hb HB.out)
    clear hb
    have c0 := HBX.out.cell 0 (.int .i64 t.op) rfl
    have c1 := HBX.out.cell 1 (.int .i64 t.n) rfl
    have c2 := HBX.out.cell 2 (.string t.s) rfl
    have c3 := HBX.out.cell 3 (.slice ka kn kc) rfl
    have c4 := HBX.out.cell 4 (.slice na nn nc) rfl
    have c5 := HBX.out.cell 5 (.slice la ln lc) rfl
    go_wp2_with fail
    clear c0 c1 c2 c3 c4 c5
    obtain ⟨hbx, hb⟩ := boxN_new w11 28 #[.int .i64 t.op, .int .i64 t.n, .string t.s, .slice ka kn kc, .slice na nn nc, .slice la ln lc]
    have HONE := Lib.hid (cons_one (P := (· < (w11.alloc (.cells #[.int .i64 t.op, .int .i64 t.n, .string t.s, .slice ka kn kc, .slice na nn nc, .slice la ln lc] 28)).heap.size)) hbx hbx.lt (HT.out _ (belowStep hb HB.out)))
    replace HK := Lib.hid (belowStep hb HK.out)
    replace HBX := Lib.hid (HBX.out.of_eq (hb.block _ HBX.out.lt))
    replace HB := Lib.hid (belowStep hb HB.out)
    clear hbx hb
    generalize w11.alloc (.cells #[.int .i64 t.op, .int .i64 t.n, .string t.s, .slice ka kn kc, .slice na nn nc, .slice la ln lc] 28) = w11b at *
    refine (HSM.out _ _ HONE.out).mono ?_
    rintro e w12 ⟨⟨r, rfl, -⟩, hb⟩
    replace HK := Lib.hid (belowStep hb HK.out)
    replace HBX := Lib.hid (HBX.out.of_eq (hb.block _ HBX.out.lt))
    replace HB := Lib.hid (belowStep hb HB.out)
    clear hb
    clear HONE HSM
    cases r
    · go_wp2
      go_meet
      exact ⟨true, rfl, HK.out⟩
    by_cases h12 : n ≤ 12
    · have q1 : decide ((12 : Int) < (n : Int)) = false := decide_eq_false (by omega)
      have q2 : decide ((1010 : Int) < (n : Int)) = false := decide_eq_false (by omega)
      go_wp2_with fail
      refine (HSL.out _ HB.out).mono ?_
      rintro e w13 ⟨⟨r, rfl, -⟩, hb⟩
      replace HK := Lib.hid (belowStep hb HK.out)
      replace HBX := Lib.hid (HBX.out.of_eq (hb.block _ HBX.out.lt))
      replace HB := Lib.hid (belowStep hb HB.out)
      clear hb
      cases r
      · go_wp2
        go_meet
        exact ⟨true, rfl, HK.out⟩
      go_wp2
      go_meet
      exact ⟨false, rfl, HK.out⟩
    have q1 : decide ((12 : Int) < (n : Int)) = true := decide_eq_true (by omega)
    by_cases h1000 : n ≤ 1000
    · have q2 : decide ((n : Int) ≤ 1000) = true := decide_eq_true (by omega)
      clear h12 h1000
      go_wp2
      go_meet
      exact ⟨true, rfl, HK.out⟩
    have q2 : decide ((n : Int) ≤ 1000) = false := decide_eq_false (by omega)
    by_cases h1010 : 1010 < n
    · have q3 : decide ((1010 : Int) < (n : Int)) = true := decide_eq_true (by omega)
      clear h12 h1000 h1010
      go_wp2
      go_meet
      exact ⟨true, rfl, HK.out⟩
    have q3 : decide ((1010 : Int) < (n : Int)) = false := decide_eq_false (by omega)
    clear h12 h1000 h1010
    go_wp2_with fail
    refine (HSL.out _ HB.out).mono ?_
    rintro e w13 ⟨⟨r, rfl, -⟩, hb⟩
    replace HK := Lib.hid (belowStep hb HK.out)
    replace HBX := Lib.hid (HBX.out.of_eq (hb.block _ HBX.out.lt))
    replace HB := Lib.hid (belowStep hb HB.out)
    clear hb
    cases r
    · go_wp2
      go_meet
      exact ⟨true, rfl, HK.out⟩
    go_wp2
    go_meet
    exact ⟨false, rfl, HK.out⟩
  case rest =>
    obtain ⟨r, rfl, hb⟩ := hcut
    rename World => w5
    replace HBX := Lib.hid (HBX.out.of_eq (hb.block _ HBX.out.lt))
    replace HB := Lib.hid (belowStep hb HB.out)
    clear hb HSM HSL
    cases r
    rotate_left
    · go_wp2_with fail
      refine (HA.out _).mono ?_
      rintro e wx ⟨rfl, hbx⟩
      have HB6 := Lib.hid (belowStep hbx HB.out)
      clear hbx
      go_wp2
      go_ret
      exact ⟨rfl, HB6.out⟩
    clear HA
    have c0 := HBX.out.cell 0 (.int .i64 t.op) rfl
    have c1 := HBX.out.cell 1 (.int .i64 t.n) rfl
    have c2 := HBX.out.cell 2 (.string t.s) rfl
    have c3 := HBX.out.cell 3 (.slice ka kn kc) rfl
    have c4 := HBX.out.cell 4 (.slice na nn nc) rfl
    have c5 := HBX.out.cell 5 (.slice la ln lc) rfl
    go_wp2_with fail
    clear c0 c1 c2 c3 c4 c5
    refine (HAP.out _ HB.out).mono ?_
    rintro e w11 ⟨⟨z, rfl, hz⟩, hb⟩
    obtain ⟨aka, akn, akc, ana, ann, anc, ala, aln, alc, rfl, -, -, -⟩ := hz.shape
    replace HBX := Lib.hid (HBX.out.of_eq (hb.block _ HBX.out.lt))
    replace HB := Lib.hid (belowStep hb HB.out)
    have HAV := Lib.hid hz
    clear hb hz HAP
    obtain ⟨hbx, hb⟩ := boxN_new w11 28 #[.int .i64 u.op, .int .i64 u.n, .string u.s, .slice aka akn akc, .slice ana ann anc, .slice ala aln alc]
    replace HBX := Lib.hid (HBX.out.of_eq (hb.block _ HBX.out.lt))
    replace HAV := Lib.hid (HAV.out.grow hb)
    replace HB := Lib.hid (belowStep hb HB.out)
    have HBA := Lib.hid hbx
    clear hbx hb
    go_upto_region 4 with fail
    generalize w11.alloc (.cells #[.int .i64 u.op, .int .i64 u.n, .string u.s, .slice aka akn akc, .slice ana ann anc, .slice ala aln alc] 28) = w11b at *
    have c0 := HBX.out.cell 0 (.int .i64 t.op) rfl
    have c1 := HBX.out.cell 1 (.int .i64 t.n) rfl
    have c2 := HBX.out.cell 2 (.string t.s) rfl
    have c3 := HBX.out.cell 3 (.slice ka kn kc) rfl
    have c4 := HBX.out.cell 4 (.slice na nn nc) rfl
    have c5 := HBX.out.cell 5 (.slice la ln lc) rfl
    go_wp2_with fail
    clear c0 c1 c2 c3 c4 c5
    refine (HSPN.out _ HB.out).mono ?_
    rintro e w12 ⟨⟨y, z, hcase⟩, hb⟩
    obtain ⟨hd, args, ec, hee, hy, hz, hinv, hval⟩ : ∃ (hd : Con) (args : List Con) (ec : Int), e = .returned (.tuple #[y, z, .int .i64 ec]) ∧ ConV w12 (· < w12.heap.size) hd y ∧ ConSl w12 (· < w12.heap.size) z args ∧ (Con.validB t = false → hd = Con.none0 ∧ args = [] ∧ ec = 1) ∧ (Con.validB t = true → Spn t hd args ∧ ec = 0) := by
      rcases hcase with ⟨h1, h2, h3, h4⟩ | ⟨h1, h2, hd, args, h3, h4, h5⟩
      · exact ⟨Con.none0, [], 1, h1, h3, h4, fun _ => ⟨rfl, rfl, rfl⟩, fun h => by rw [h2] at h; cases h⟩
      · exact ⟨hd, args, 0, h1, h4, h5, (fun h => by rw [h2] at h; cases h), fun _ => ⟨h3, rfl⟩⟩
    subst hee
    obtain ⟨hka, hkn, hkc, hna, hnn, hnc, hla, hln, hlc, rfl, -, -, -⟩ := hy.shape
    obtain ⟨za, zc, rfl, -⟩ := hz.each
    have HIN := Lib.hid hinv
    have HVL := Lib.hid hval
    replace HBX := Lib.hid (HBX.out.of_eq (hb.block _ HBX.out.lt))
    replace HBA := Lib.hid (HBA.out.of_eq (hb.block _ HBA.out.lt))
    replace HAV := Lib.hid (HAV.out.grow hb)
    replace HB := Lib.hid (belowStep hb HB.out)
    have HHV := Lib.hid hy
    have HARG := Lib.hid hz
    clear hb hy hz hcase hinv hval HSPN
    obtain ⟨hbx, hb⟩ := boxN_new w12 28 #[.int .i64 hd.op, .int .i64 hd.n, .string hd.s, .slice hka hkn hkc, .slice hna hnn hnc, .slice hla hln hlc]
    replace HBX := Lib.hid (HBX.out.of_eq (hb.block _ HBX.out.lt))
    replace HBA := Lib.hid (HBA.out.of_eq (hb.block _ HBA.out.lt))
    replace HAV := Lib.hid (HAV.out.grow hb)
    replace HHV := Lib.hid (HHV.out.grow hb)
    replace HARG := Lib.hid (HARG.out.grow9T hb)
    replace HB := Lib.hid (belowStep hb HB.out)
    have HBH := Lib.hid hbx
    clear hbx hb
    go_upto_region 5 with fail
    generalize w12.alloc (.cells #[.int .i64 hd.op, .int .i64 hd.n, .string hd.s, .slice hka hkn hkc, .slice hna hnn hnc, .slice hla hln hlc] 28) = w12b at *
    obtain ⟨an, han⟩ : ∃ an, an = args.length := ⟨_, rfl⟩
    have HAN9 := Lib.hid han
    rw [← han] at HARG ⊢
    clear han
    go_wp2_with fail
    refine (HTU.out _ HB.out).mono ?_
    rintro e w13 ⟨⟨z, rfl, hz⟩, hb⟩
    obtain ⟨ska, skn, skc, sna, snn, snc, sla, sln, slc, rfl, -, -, -⟩ := hz.shape
    replace HBX := Lib.hid (HBX.out.of_eq (hb.block _ HBX.out.lt))
    replace HBA := Lib.hid (HBA.out.of_eq (hb.block _ HBA.out.lt))
    replace HBH := Lib.hid (HBH.out.of_eq (hb.block _ HBH.out.lt))
    replace HAV := Lib.hid (HAV.out.grow hb)
    replace HHV := Lib.hid (HHV.out.grow hb)
    replace HARG := Lib.hid (HARG.out.grow9T hb)
    replace HB := Lib.hid (belowStep hb HB.out)
    have HSV := Lib.hid hz
    clear hb hz HTU
    obtain ⟨hbx, hb⟩ := boxN_new w13 28 #[.int .i64 s.op, .int .i64 s.n, .string s.s, .slice ska skn skc, .slice sna snn snc, .slice sla sln slc]
    replace HBX := Lib.hid (HBX.out.of_eq (hb.block _ HBX.out.lt))
    replace HBA := Lib.hid (HBA.out.of_eq (hb.block _ HBA.out.lt))
    replace HBH := Lib.hid (HBH.out.of_eq (hb.block _ HBH.out.lt))
    replace HAV := Lib.hid (HAV.out.grow hb)
    replace HHV := Lib.hid (HHV.out.grow hb)
    replace HSV := Lib.hid (HSV.out.grow hb)
    replace HARG := Lib.hid (HARG.out.grow9T hb)
    replace HB := Lib.hid (belowStep hb HB.out)
    have HBS := Lib.hid hbx
    clear hbx hb
    go_upto_region 6 with fail
    generalize w13.alloc (.cells #[.int .i64 s.op, .int .i64 s.n, .string s.s, .slice ska skn skc, .slice sna snn snc, .slice sla sln slc] 28) = w13b at *
    go_wp2_with fail
    refine (cunit_any _).mono ?_
    rintro e w14 ⟨rfl, hb⟩
    replace HBX := Lib.hid (HBX.out.of_eq (hb.block _ HBX.out.lt))
    replace HBA := Lib.hid (HBA.out.of_eq (hb.block _ HBA.out.lt))
    replace HBH := Lib.hid (HBH.out.of_eq (hb.block _ HBH.out.lt))
    replace HBS := Lib.hid (HBS.out.of_eq (hb.block _ HBS.out.lt))
    replace HAV := Lib.hid (HAV.out.grow hb)
    replace HHV := Lib.hid (HHV.out.grow hb)
    replace HSV := Lib.hid (HSV.out.grow hb)
    replace HARG := Lib.hid (HARG.out.grow9T hb)
    replace HB := Lib.hid (belowStep hb HB.out)
    clear hb
    go_wp2_with fail
    refine (runit_any _).mono ?_
    rintro e w15 ⟨rfl, hb⟩
    replace HBX := Lib.hid (HBX.out.of_eq (hb.block _ HBX.out.lt))
    replace HBA := Lib.hid (HBA.out.of_eq (hb.block _ HBA.out.lt))
    replace HBH := Lib.hid (HBH.out.of_eq (hb.block _ HBH.out.lt))
    replace HBS := Lib.hid (HBS.out.of_eq (hb.block _ HBS.out.lt))
    replace HAV := Lib.hid (HAV.out.grow hb)
    replace HHV := Lib.hid (HHV.out.grow hb)
    replace HSV := Lib.hid (HSV.out.grow hb)
    replace HARG := Lib.hid (HARG.out.grow9T hb)
    replace HB := Lib.hid (belowStep hb HB.out)
    clear hb
    go_wp2_with fail
    refine (HSAME.out _ unitC _ _ (conV_leaf 7 0 _ _) (conV_leaf 7 0 _ _)).mono ?_
    rintro e w16 ⟨rfl, hb⟩
    replace HBX := Lib.hid (HBX.out.of_eq (hb.block _ HBX.out.lt))
    replace HBA := Lib.hid (HBA.out.of_eq (hb.block _ HBA.out.lt))
    replace HBH := Lib.hid (HBH.out.of_eq (hb.block _ HBH.out.lt))
    replace HBS := Lib.hid (HBS.out.of_eq (hb.block _ HBS.out.lt))
    replace HAV := Lib.hid (HAV.out.grow hb)
    replace HHV := Lib.hid (HHV.out.grow hb)
    replace HSV := Lib.hid (HSV.out.grow hb)
    replace HARG := Lib.hid (HARG.out.grow9T hb)
    replace HB := Lib.hid (belowStep hb HB.out)
    clear hb
    go_wp2_with fail
    refine (cbool_any _).mono ?_
    rintro e w17 ⟨⟨bg, rfl, hbc⟩, hb⟩
    replace HBX := Lib.hid (HBX.out.of_eq (hb.block _ HBX.out.lt))
    replace HBA := Lib.hid (HBA.out.of_eq (hb.block _ HBA.out.lt))
    replace HBH := Lib.hid (HBH.out.of_eq (hb.block _ HBH.out.lt))
    replace HBS := Lib.hid (HBS.out.of_eq (hb.block _ HBS.out.lt))
    replace HAV := Lib.hid (HAV.out.grow hb)
    replace HHV := Lib.hid (HHV.out.grow hb)
    replace HSV := Lib.hid (HSV.out.grow hb)
    replace HARG := Lib.hid (HARG.out.grow9T hb)
    replace HB := Lib.hid (belowStep hb HB.out)
    have HBC := Lib.hid hbc
    clear hb hbc
    go_wp2_with fail
    refine (rbool_any _).mono ?_
    rintro e w18 ⟨⟨bg2, rfl, hbc⟩, hb⟩
    replace HBX := Lib.hid (HBX.out.of_eq (hb.block _ HBX.out.lt))
    replace HBA := Lib.hid (HBA.out.of_eq (hb.block _ HBA.out.lt))
    replace HBH := Lib.hid (HBH.out.of_eq (hb.block _ HBH.out.lt))
    replace HBS := Lib.hid (HBS.out.of_eq (hb.block _ HBS.out.lt))
    replace HAV := Lib.hid (HAV.out.grow hb)
    replace HHV := Lib.hid (HHV.out.grow hb)
    replace HSV := Lib.hid (HSV.out.grow hb)
    replace HBC := Lib.hid (HBC.out.grow hb)
    replace HARG := Lib.hid (HARG.out.grow9T hb)
    replace HB := Lib.hid (belowStep hb HB.out)
    have HBD := Lib.hid hbc
    clear hb hbc
    go_wp2_with fail
    refine (HSAME.out _ boolC _ _ HBC.out HBD.out).mono ?_
    rintro e w19 ⟨rfl, hb⟩
    replace HBX := Lib.hid (HBX.out.of_eq (hb.block _ HBX.out.lt))
    replace HBA := Lib.hid (HBA.out.of_eq (hb.block _ HBA.out.lt))
    replace HBH := Lib.hid (HBH.out.of_eq (hb.block _ HBH.out.lt))
    replace HBS := Lib.hid (HBS.out.of_eq (hb.block _ HBS.out.lt))
    replace HAV := Lib.hid (HAV.out.grow hb)
    replace HHV := Lib.hid (HHV.out.grow hb)
    replace HSV := Lib.hid (HSV.out.grow hb)
    replace HARG := Lib.hid (HARG.out.grow9T hb)
    replace HB := Lib.hid (belowStep hb HB.out)
    clear hb HBC HBD
    go_upto_region 8 with fail
    have c0 := HBX.out.cell 0 (.int .i64 t.op) rfl
    have c1 := HBX.out.cell 1 (.int .i64 t.n) rfl
    have c2 := HBX.out.cell 2 (.string t.s) rfl
    have c3 := HBX.out.cell 3 (.slice ka kn kc) rfl
    have c4 := HBX.out.cell 4 (.slice na nn nc) rfl
    have c5 := HBX.out.cell 5 (.slice la ln lc) rfl
    go_wp2_with fail
    clear c0 c1 c2 c3 c4 c5
    refine (HRV.out _ HB.out).mono ?_
    rintro e w20 ⟨rfl, hb⟩
    replace HBX := Lib.hid (HBX.out.of_eq (hb.block _ HBX.out.lt))
    replace HBA := Lib.hid (HBA.out.of_eq (hb.block _ HBA.out.lt))
    replace HBH := Lib.hid (HBH.out.of_eq (hb.block _ HBH.out.lt))
    replace HBS := Lib.hid (HBS.out.of_eq (hb.block _ HBS.out.lt))
    replace HAV := Lib.hid (HAV.out.grow hb)
    replace HHV := Lib.hid (HHV.out.grow hb)
    replace HSV := Lib.hid (HSV.out.grow hb)
    replace HARG := Lib.hid (HARG.out.grow9T hb)
    replace HB := Lib.hid (belowStep hb HB.out)
    clear hb
    cases hv : Con.validB t
    · skip
      obtain ⟨i1, i2, i3⟩ := HIN.out hv
      have HSB := Lib.hid i1
      have hn0 : an = 0 := by rw [HAN9.out, i2]; rfl
      subst hn0 i3
      have HVT := Lib.hid hv
      clear i1 i2 hv HIN HVL
      have c0 := HBH.out.cell 0 (.int .i64 hd.op) rfl
      have c1 := HBH.out.cell 1 (.int .i64 hd.n) rfl
      have c2 := HBH.out.cell 2 (.string hd.s) rfl
      have c3 := HBH.out.cell 3 (.slice hka hkn hkc) rfl
      have c4 := HBH.out.cell 4 (.slice hna hnn hnc) rfl
      have c5 := HBH.out.cell 5 (.slice hla hln hlc) rfl
      go_wp2_with fail
      clear c0 c1 c2 c3 c4 c5
      refine (HNO.out _ _ HSB.out _ HHV.out).mono ?_
      rintro e w21 ⟨rfl, hb⟩
      have HBE := Lib.hid (belowStep hb HB.out)
      clear HBE
      replace HBX := Lib.hid (HBX.out.of_eq (hb.block _ HBX.out.lt))
      replace HBA := Lib.hid (HBA.out.of_eq (hb.block _ HBA.out.lt))
      replace HBH := Lib.hid (HBH.out.of_eq (hb.block _ HBH.out.lt))
      replace HBS := Lib.hid (HBS.out.of_eq (hb.block _ HBS.out.lt))
      replace HAV := Lib.hid (HAV.out.grow hb)
      replace HHV := Lib.hid (HHV.out.grow hb)
      replace HSV := Lib.hid (HSV.out.grow hb)
      replace HARG := Lib.hid (HARG.out.grow9T hb)
      replace HB := Lib.hid (belowStep hb HB.out)
      clear hb HSB
      clear HBH HHV HARG
      go_upto_region 14 with fail
      go_wp2_with fail
      refine (HVA.out _ HB.out).mono ?_
      rintro e w22 ⟨rfl, hb⟩
      replace HBX := Lib.hid (HBX.out.of_eq (hb.block _ HBX.out.lt))
      replace HBA := Lib.hid (HBA.out.of_eq (hb.block _ HBA.out.lt))
      replace HBS := Lib.hid (HBS.out.of_eq (hb.block _ HBS.out.lt))
      replace HAV := Lib.hid (HAV.out.grow hb)
      replace HSV := Lib.hid (HSV.out.grow hb)
      replace HB := Lib.hid (belowStep hb HB.out)
      clear hb
      cases hlv : l.all Con.validB
      · skip
        have HLV := Lib.hid hlv
        clear hlv
        go_upto_region 18 with fail
        have HE := Lib.hid (HIV.out (by rw [HLV.out, Bool.and_false]))
        have q9 : (uc != 1) = false := by rw [HE.out.2]; rfl
        have HSB := Lib.hid HE.out.1
        clear HE
        have c0 := HBA.out.cell 0 (.int .i64 u.op) rfl
        have c1 := HBA.out.cell 1 (.int .i64 u.n) rfl
        have c2 := HBA.out.cell 2 (.string u.s) rfl
        have c3 := HBA.out.cell 3 (.slice aka akn akc) rfl
        have c4 := HBA.out.cell 4 (.slice ana ann anc) rfl
        have c5 := HBA.out.cell 5 (.slice ala aln alc) rfl
        go_wp2_with fail
        clear c0 c1 c2 c3 c4 c5
        refine (HNO.out _ _ HSB.out _ HAV.out).mono ?_
        rintro e w23 ⟨rfl, hb⟩
        have HBE := Lib.hid (belowStep hb HB.out)
        clear HBE
        replace HBX := Lib.hid (HBX.out.of_eq (hb.block _ HBX.out.lt))
        replace HBA := Lib.hid (HBA.out.of_eq (hb.block _ HBA.out.lt))
        replace HBS := Lib.hid (HBS.out.of_eq (hb.block _ HBS.out.lt))
        replace HAV := Lib.hid (HAV.out.grow hb)
        replace HSV := Lib.hid (HSV.out.grow hb)
        replace HB := Lib.hid (belowStep hb HB.out)
        clear hb HSB
        go_upto_region 23 with fail
        clear q9
        go_upto_region 24 with fail
        have HE := Lib.hid (HI2.out HLV.out)
        have q9 : (scd == 1) = true := by rw [HE.out.2]; rfl
        have HSB := Lib.hid HE.out.1
        clear HE
        have c0 := HBS.out.cell 0 (.int .i64 s.op) rfl
        have c1 := HBS.out.cell 1 (.int .i64 s.n) rfl
        have c2 := HBS.out.cell 2 (.string s.s) rfl
        have c3 := HBS.out.cell 3 (.slice ska skn skc) rfl
        have c4 := HBS.out.cell 4 (.slice sna snn snc) rfl
        have c5 := HBS.out.cell 5 (.slice sla sln slc) rfl
        go_wp2_with fail
        clear c0 c1 c2 c3 c4 c5
        refine (HNO.out _ _ HSB.out _ HSV.out).mono ?_
        rintro e w24 ⟨rfl, hb⟩
        have HBE := Lib.hid (belowStep hb HB.out)
        clear hb
        go_wp2
        go_ret
        exact ⟨rfl, HBE.out⟩
      have HLV := Lib.hid hlv
      clear hlv
      have c0 := HBX.out.cell 0 (.int .i64 t.op) rfl
      have c1 := HBX.out.cell 1 (.int .i64 t.n) rfl
      have c2 := HBX.out.cell 2 (.string t.s) rfl
      have c3 := HBX.out.cell 3 (.slice ka kn kc) rfl
      have c4 := HBX.out.cell 4 (.slice na nn nc) rfl
      have c5 := HBX.out.cell 5 (.slice la ln lc) rfl
      go_wp2_with fail
      clear c0 c1 c2 c3 c4 c5
      refine (HRV.out _ HB.out).mono ?_
      rintro e w23 ⟨rfl, hb⟩
      replace HBX := Lib.hid (HBX.out.of_eq (hb.block _ HBX.out.lt))
      replace HBA := Lib.hid (HBA.out.of_eq (hb.block _ HBA.out.lt))
      replace HBS := Lib.hid (HBS.out.of_eq (hb.block _ HBS.out.lt))
      replace HAV := Lib.hid (HAV.out.grow hb)
      replace HSV := Lib.hid (HSV.out.grow hb)
      replace HB := Lib.hid (belowStep hb HB.out)
      clear hb
      rw [HVT.out]
      go_upto_region 18 with fail
      have HE := Lib.hid (HIV.out (by rw [HVT.out, Bool.false_and]))
      have q9 : (uc != 1) = false := by rw [HE.out.2]; rfl
      have HSB := Lib.hid HE.out.1
      clear HE
      have c0 := HBA.out.cell 0 (.int .i64 u.op) rfl
      have c1 := HBA.out.cell 1 (.int .i64 u.n) rfl
      have c2 := HBA.out.cell 2 (.string u.s) rfl
      have c3 := HBA.out.cell 3 (.slice aka akn akc) rfl
      have c4 := HBA.out.cell 4 (.slice ana ann anc) rfl
      have c5 := HBA.out.cell 5 (.slice ala aln alc) rfl
      go_wp2_with fail
      clear c0 c1 c2 c3 c4 c5
      refine (HNO.out _ _ HSB.out _ HAV.out).mono ?_
      rintro e w24 ⟨rfl, hb⟩
      have HBE := Lib.hid (belowStep hb HB.out)
      clear HBE
      replace HBX := Lib.hid (HBX.out.of_eq (hb.block _ HBX.out.lt))
      replace HBA := Lib.hid (HBA.out.of_eq (hb.block _ HBA.out.lt))
      replace HBS := Lib.hid (HBS.out.of_eq (hb.block _ HBS.out.lt))
      replace HAV := Lib.hid (HAV.out.grow hb)
      replace HSV := Lib.hid (HSV.out.grow hb)
      replace HB := Lib.hid (belowStep hb HB.out)
      clear hb HSB
      go_upto_region 23 with fail
      clear q9
      clear HBA HAV
      by_cases h1 : n = 1
      · have q3 : ((n : Int) == 1) = true := by simp [h1]
        go_upto_region 26 with fail
        have HE := Lib.hid (HR2.out HLV.out (.inl h1))
        have q9 : (scd == 2) = true := by rw [HE.out.2]; rfl
        have HSB := Lib.hid HE.out.1
        clear HE
        have c0 := HBS.out.cell 0 (.int .i64 s.op) rfl
        have c1 := HBS.out.cell 1 (.int .i64 s.n) rfl
        have c2 := HBS.out.cell 2 (.string s.s) rfl
        have c3 := HBS.out.cell 3 (.slice ska skn skc) rfl
        have c4 := HBS.out.cell 4 (.slice sna snn snc) rfl
        have c5 := HBS.out.cell 5 (.slice sla sln slc) rfl
        go_wp2_with fail
        clear c0 c1 c2 c3 c4 c5
        refine (HNO.out _ _ HSB.out _ HSV.out).mono ?_
        rintro e w25 ⟨rfl, hb⟩
        have HBE := Lib.hid (belowStep hb HB.out)
        clear hb
        go_wp2
        go_ret
        exact ⟨rfl, HBE.out⟩
      have q3 : ((n : Int) == 1) = false := by simp; omega
      by_cases h9 : 9 < n
      · have q4 : decide ((9 : Int) < (n : Int)) = true := decide_eq_true (by omega)
        go_upto_region 26 with fail
        have HE := Lib.hid (HR2.out HLV.out (.inr h9))
        have q9 : (scd == 2) = true := by rw [HE.out.2]; rfl
        have HSB := Lib.hid HE.out.1
        clear HE
        have c0 := HBS.out.cell 0 (.int .i64 s.op) rfl
        have c1 := HBS.out.cell 1 (.int .i64 s.n) rfl
        have c2 := HBS.out.cell 2 (.string s.s) rfl
        have c3 := HBS.out.cell 3 (.slice ska skn skc) rfl
        have c4 := HBS.out.cell 4 (.slice sna snn snc) rfl
        have c5 := HBS.out.cell 5 (.slice sla sln slc) rfl
        go_wp2_with fail
        clear c0 c1 c2 c3 c4 c5
        refine (HNO.out _ _ HSB.out _ HSV.out).mono ?_
        rintro e w25 ⟨rfl, hb⟩
        have HBE := Lib.hid (belowStep hb HB.out)
        clear hb
        go_wp2
        go_ret
        exact ⟨rfl, HBE.out⟩
      have q4 : decide ((9 : Int) < (n : Int)) = false := decide_eq_false (by omega)
      have HN9 := Lib.hid (show n ≤ 9 from by omega)
      have HE := Lib.hid (HO2.out HLV.out h1 h9)
      go_upto_region 27 with fail
      have HRTN := Lib.hid (fun W (hW : Below w.heap.size w W) => HRT.out W hW HN9.out)
      have GSB := Lib.hid (fun W (hW : Below w24.heap.size w24 W) => HRTN.out W (belowStep hW HB.out))
      have GAN := Lib.hid (fun W yv (hW : Below w24.heap.size w24 W) (hy : ConV W (· < W.heap.size) (tupC l) yv) => answer9_any (· < W.heap.size) (· < W.heap.size) s (tupC l) scd W _ yv (fun _ h => h) (fun _ h => h) (HSV.out.grow hW) hy)
      rw [HE.out] at GAN
      have HSS := Lib.hid (fun W (hW : Below w24.heap.size w24 W) => (show Below w24.heap.size w24 W ∧ W.cell? ⟨w13.heap.size, 0, none⟩ = some (.int .i64 s.op) ∧ W.cell? ⟨w13.heap.size, 1, none⟩ = some (.int .i64 s.n) ∧ W.cell? ⟨w13.heap.size, 2, none⟩ = some (.string s.s) ∧ W.cell? ⟨w13.heap.size, 3, none⟩ = some (.slice ska skn skc) ∧ W.cell? ⟨w13.heap.size, 4, none⟩ = some (.slice sna snn snc) ∧ W.cell? ⟨w13.heap.size, 5, none⟩ = some (.slice sla sln slc) from ⟨hW, (HBS.out.of_eq (hW.block _ HBS.out.lt)).cell 0 _ rfl, (HBS.out.of_eq (hW.block _ HBS.out.lt)).cell 1 _ rfl, (HBS.out.of_eq (hW.block _ HBS.out.lt)).cell 2 _ rfl, (HBS.out.of_eq (hW.block _ HBS.out.lt)).cell 3 _ rfl, (HBS.out.of_eq (hW.block _ HBS.out.lt)).cell 4 _ rfl, (HBS.out.of_eq (hW.block _ HBS.out.lt)).cell 5 _ rfl⟩))
      have HD0 := Lib.hid (Below.refl w24.heap.size w24).drew
      obtain ⟨sx, hsx⟩ : ∃ x, x = (tupC l) := ⟨_, rfl⟩
      rw [← hsx] at GSB GAN
      clear hsx HE
      have c0 := HBS.out.cell 0 (.int .i64 s.op) rfl
      have c1 := HBS.out.cell 1 (.int .i64 s.n) rfl
      have c2 := HBS.out.cell 2 (.string s.s) rfl
      have c3 := HBS.out.cell 3 (.slice ska skn skc) rfl
      have c4 := HBS.out.cell 4 (.slice sna snn snc) rfl
      have c5 := HBS.out.cell 5 (.slice sla sln slc) rfl
      go_region_held3 (fun W => Below w24.heap.size w24 W ∧ W.cell? ⟨w13.heap.size, 0, none⟩ = some (.int .i64 s.op) ∧ W.cell? ⟨w13.heap.size, 1, none⟩ = some (.int .i64 s.n) ∧ W.cell? ⟨w13.heap.size, 2, none⟩ = some (.string s.s) ∧ W.cell? ⟨w13.heap.size, 3, none⟩ = some (.slice ska skn skc) ∧ W.cell? ⟨w13.heap.size, 4, none⟩ = some (.slice sna snn snc) ∧ W.cell? ⟨w13.heap.size, 5, none⟩ = some (.slice sla sln slc))
        (exact HSS.out _ (by with_reducible (repeat (first | exact Below.refl _ _ | exact HD0.out | refine Below.drew ?_ | refine below_new ?_ | refine belowStep (by assumption) ?_ | exact Nat.le_refl _))))
        (first
        | (go_at_call 21; (with_reducible refine Calls.mono (GSB.out _ ?_) ?_); (focus (with_reducible (repeat (first | exact Below.refl _ _ | exact HD0.out | refine Below.drew ?_ | refine below_new ?_ | refine belowStep (by assumption) ?_ | exact Nat.le_refl _)))); rintro e k1 ⟨⟨yv, rfl, hy⟩, hbk1⟩; have hbk := belowStep (a := w24) hbk1 (by with_reducible (repeat (first | exact Below.refl _ _ | exact HD0.out | refine Below.drew ?_ | refine below_new ?_ | refine belowStep (by assumption) ?_ | exact Nat.le_refl _))); have hyk := hy; obtain ⟨ua, un, uk, va, vn, vk, xa2, xn2, xk2, hyv, -, -, -⟩ := hy.shape; subst hyv)
        | (go_at_call 19; (with_reducible refine Calls.mono (GAN.out _ _ (by assumption) (by assumption)) ?_); rintro e k2 ⟨rfl, hbk2⟩)
        | fail)
      rename_i hHeld
      have hbh := hHeld.1
      clear c0 c1 c2 c3 c4 c5
      replace HBX := Lib.hid (HBX.out.of_eq (hbh.block _ HBX.out.lt))
      replace HBS := Lib.hid (HBS.out.of_eq (hbh.block _ HBS.out.lt))
      replace HSV := Lib.hid (HSV.out.grow hbh)
      replace HB := Lib.hid (belowStep hbh HB.out)
      clear hHeld hbh GSB GAN HSS HD0
      go_wp2
      go_ret
      exact ⟨rfl, HB.out⟩
    obtain ⟨i1, i2⟩ := HVL.out hv
    subst i2
    have HSP := Lib.hid i1
    have HVT := Lib.hid hv
    clear i1 hv HIN HVL
    have c0 := HBX.out.cell 0 (.int .i64 t.op) rfl
    have c1 := HBX.out.cell 1 (.int .i64 t.n) rfl
    have c2 := HBX.out.cell 2 (.string t.s) rfl
    have c3 := HBX.out.cell 3 (.slice ka kn kc) rfl
    have c4 := HBX.out.cell 4 (.slice na nn nc) rfl
    have c5 := HBX.out.cell 5 (.slice la ln lc) rfl
    go_wp2_with fail
    clear c0 c1 c2 c3 c4 c5
    refine (HRS.out _ HB.out HVT.out).mono ?_
    rintro e w21 ⟨⟨hd2, args2, y, z, rfl, hsp, hy, hz⟩, hb⟩
    obtain ⟨hq1, hq2⟩ := hsp.one HSP.out
    subst hq1 hq2
    obtain ⟨xka, xkn, xkc, xna, xnn, xnc, xla, xln, xlc, rfl, -, -, -⟩ := hy.shape
    obtain ⟨z2a, z2c, rfl, -⟩ := hz.each
    replace HBX := Lib.hid (HBX.out.of_eq (hb.block _ HBX.out.lt))
    replace HBA := Lib.hid (HBA.out.of_eq (hb.block _ HBA.out.lt))
    replace HBH := Lib.hid (HBH.out.of_eq (hb.block _ HBH.out.lt))
    replace HBS := Lib.hid (HBS.out.of_eq (hb.block _ HBS.out.lt))
    replace HAV := Lib.hid (HAV.out.grow hb)
    replace HHV := Lib.hid (HHV.out.grow hb)
    replace HSV := Lib.hid (HSV.out.grow hb)
    replace HARG := Lib.hid (HARG.out.grow9T hb)
    replace HB := Lib.hid (belowStep hb HB.out)
    have HXV := Lib.hid hy
    have HARG2 := Lib.hid hz
    clear hb hy hz hsp HSP HRS
    rw [← HAN9.out] at HARG2 ⊢
    obtain ⟨hbx, hb⟩ := boxN_new w21 28 #[.int .i64 hd2.op, .int .i64 hd2.n, .string hd2.s, .slice xka xkn xkc, .slice xna xnn xnc, .slice xla xln xlc]
    replace HBX := Lib.hid (HBX.out.of_eq (hb.block _ HBX.out.lt))
    replace HBA := Lib.hid (HBA.out.of_eq (hb.block _ HBA.out.lt))
    replace HBH := Lib.hid (HBH.out.of_eq (hb.block _ HBH.out.lt))
    replace HBS := Lib.hid (HBS.out.of_eq (hb.block _ HBS.out.lt))
    replace HAV := Lib.hid (HAV.out.grow hb)
    replace HHV := Lib.hid (HHV.out.grow hb)
    replace HSV := Lib.hid (HSV.out.grow hb)
    replace HXV := Lib.hid (HXV.out.grow hb)
    replace HARG := Lib.hid (HARG.out.grow9T hb)
    replace HARG2 := Lib.hid (HARG2.out.grow9T hb)
    replace HB := Lib.hid (belowStep hb HB.out)
    have HBY := Lib.hid hbx
    clear hbx hb
    go_upto_region 12 with fail
    generalize w21.alloc (.cells #[.int .i64 hd2.op, .int .i64 hd2.n, .string hd2.s, .slice xka xkn xkc, .slice xna xnn xnc, .slice xla xln xlc] 28) = w21b at *
    have c0 := HBH.out.cell 0 (.int .i64 hd2.op) rfl
    have c1 := HBH.out.cell 1 (.int .i64 hd2.n) rfl
    have c2 := HBH.out.cell 2 (.string hd2.s) rfl
    have c3 := HBH.out.cell 3 (.slice hka hkn hkc) rfl
    have c4 := HBH.out.cell 4 (.slice hna hnn hnc) rfl
    have c5 := HBH.out.cell 5 (.slice hla hln hlc) rfl
    have d0 := HBY.out.cell 0 (.int .i64 hd2.op) rfl
    have d1 := HBY.out.cell 1 (.int .i64 hd2.n) rfl
    have d2 := HBY.out.cell 2 (.string hd2.s) rfl
    have d3 := HBY.out.cell 3 (.slice xka xkn xkc) rfl
    have d4 := HBY.out.cell 4 (.slice xna xnn xnc) rfl
    have d5 := HBY.out.cell 5 (.slice xla xln xlc) rfl
    go_wp2_with fail
    clear c0 c1 c2 c3 c4 c5 d0 d1 d2 d3 d4 d5
    refine (HSAME.out _ hd2 _ _ HHV.out HXV.out).mono ?_
    rintro e w22 ⟨rfl, hb⟩
    replace HBX := Lib.hid (HBX.out.of_eq (hb.block _ HBX.out.lt))
    replace HBA := Lib.hid (HBA.out.of_eq (hb.block _ HBA.out.lt))
    replace HBH := Lib.hid (HBH.out.of_eq (hb.block _ HBH.out.lt))
    replace HBS := Lib.hid (HBS.out.of_eq (hb.block _ HBS.out.lt))
    replace HBY := Lib.hid (HBY.out.of_eq (hb.block _ HBY.out.lt))
    replace HAV := Lib.hid (HAV.out.grow hb)
    replace HHV := Lib.hid (HHV.out.grow hb)
    replace HSV := Lib.hid (HSV.out.grow hb)
    replace HXV := Lib.hid (HXV.out.grow hb)
    replace HARG := Lib.hid (HARG.out.grow9T hb)
    replace HARG2 := Lib.hid (HARG2.out.grow9T hb)
    replace HB := Lib.hid (belowStep hb HB.out)
    clear hb
    go_wp2_with fail
    refine (HSALL.out _ args2 _ _ HARG.out HARG2.out).mono ?_
    rintro e w23 ⟨rfl, hb⟩
    replace HBX := Lib.hid (HBX.out.of_eq (hb.block _ HBX.out.lt))
    replace HBA := Lib.hid (HBA.out.of_eq (hb.block _ HBA.out.lt))
    replace HBS := Lib.hid (HBS.out.of_eq (hb.block _ HBS.out.lt))
    replace HAV := Lib.hid (HAV.out.grow hb)
    replace HSV := Lib.hid (HSV.out.grow hb)
    replace HB := Lib.hid (belowStep hb HB.out)
    clear hb HBH HBY HHV HXV HARG HARG2
    go_upto_region 14 with fail
    go_wp2_with fail
    refine (HVA.out _ HB.out).mono ?_
    rintro e w24 ⟨rfl, hb⟩
    replace HBX := Lib.hid (HBX.out.of_eq (hb.block _ HBX.out.lt))
    replace HBA := Lib.hid (HBA.out.of_eq (hb.block _ HBA.out.lt))
    replace HBS := Lib.hid (HBS.out.of_eq (hb.block _ HBS.out.lt))
    replace HAV := Lib.hid (HAV.out.grow hb)
    replace HSV := Lib.hid (HSV.out.grow hb)
    replace HB := Lib.hid (belowStep hb HB.out)
    clear hb
    cases hlv : l.all Con.validB
    · skip
      have HLV := Lib.hid hlv
      clear hlv
      go_upto_region 18 with fail
      have HE := Lib.hid (HIV.out (by rw [HLV.out, Bool.and_false]))
      have q9 : (uc != 1) = false := by rw [HE.out.2]; rfl
      have HSB := Lib.hid HE.out.1
      clear HE
      have c0 := HBA.out.cell 0 (.int .i64 u.op) rfl
      have c1 := HBA.out.cell 1 (.int .i64 u.n) rfl
      have c2 := HBA.out.cell 2 (.string u.s) rfl
      have c3 := HBA.out.cell 3 (.slice aka akn akc) rfl
      have c4 := HBA.out.cell 4 (.slice ana ann anc) rfl
      have c5 := HBA.out.cell 5 (.slice ala aln alc) rfl
      go_wp2_with fail
      clear c0 c1 c2 c3 c4 c5
      refine (HNO.out _ _ HSB.out _ HAV.out).mono ?_
      rintro e w25 ⟨rfl, hb⟩
      have HBE := Lib.hid (belowStep hb HB.out)
      clear HBE
      replace HBX := Lib.hid (HBX.out.of_eq (hb.block _ HBX.out.lt))
      replace HBA := Lib.hid (HBA.out.of_eq (hb.block _ HBA.out.lt))
      replace HBS := Lib.hid (HBS.out.of_eq (hb.block _ HBS.out.lt))
      replace HAV := Lib.hid (HAV.out.grow hb)
      replace HSV := Lib.hid (HSV.out.grow hb)
      replace HB := Lib.hid (belowStep hb HB.out)
      clear hb HSB
      go_upto_region 23 with fail
      clear q9
      go_upto_region 24 with fail
      have HE := Lib.hid (HI2.out HLV.out)
      have q9 : (scd == 1) = true := by rw [HE.out.2]; rfl
      have HSB := Lib.hid HE.out.1
      clear HE
      have c0 := HBS.out.cell 0 (.int .i64 s.op) rfl
      have c1 := HBS.out.cell 1 (.int .i64 s.n) rfl
      have c2 := HBS.out.cell 2 (.string s.s) rfl
      have c3 := HBS.out.cell 3 (.slice ska skn skc) rfl
      have c4 := HBS.out.cell 4 (.slice sna snn snc) rfl
      have c5 := HBS.out.cell 5 (.slice sla sln slc) rfl
      go_wp2_with fail
      clear c0 c1 c2 c3 c4 c5
      refine (HNO.out _ _ HSB.out _ HSV.out).mono ?_
      rintro e w26 ⟨rfl, hb⟩
      have HBE := Lib.hid (belowStep hb HB.out)
      clear hb
      go_wp2
      go_ret
      exact ⟨rfl, HBE.out⟩
    have HLV := Lib.hid hlv
    clear hlv
    have c0 := HBX.out.cell 0 (.int .i64 t.op) rfl
    have c1 := HBX.out.cell 1 (.int .i64 t.n) rfl
    have c2 := HBX.out.cell 2 (.string t.s) rfl
    have c3 := HBX.out.cell 3 (.slice ka kn kc) rfl
    have c4 := HBX.out.cell 4 (.slice na nn nc) rfl
    have c5 := HBX.out.cell 5 (.slice la ln lc) rfl
    go_wp2_with fail
    clear c0 c1 c2 c3 c4 c5
    refine (HRV.out _ HB.out).mono ?_
    rintro e w25 ⟨rfl, hb⟩
    replace HBX := Lib.hid (HBX.out.of_eq (hb.block _ HBX.out.lt))
    replace HBA := Lib.hid (HBA.out.of_eq (hb.block _ HBA.out.lt))
    replace HBS := Lib.hid (HBS.out.of_eq (hb.block _ HBS.out.lt))
    replace HAV := Lib.hid (HAV.out.grow hb)
    replace HSV := Lib.hid (HSV.out.grow hb)
    replace HB := Lib.hid (belowStep hb HB.out)
    clear hb
    rw [HVT.out]
    go_upto_region 20 with fail
    by_cases hn1 : 1000 < n
    · have q1 : decide ((1000 : Int) < (n : Int)) = true := decide_eq_true (by omega)
      go_upto_region 21 with fail
      have HE := Lib.hid (HFU.out HVT.out HLV.out hn1)
      have q9 : (uc != 5) = false := by rw [HE.out.2]; rfl
      have HSB := Lib.hid HE.out.1
      clear HE
      have c0 := HBA.out.cell 0 (.int .i64 u.op) rfl
      have c1 := HBA.out.cell 1 (.int .i64 u.n) rfl
      have c2 := HBA.out.cell 2 (.string u.s) rfl
      have c3 := HBA.out.cell 3 (.slice aka akn akc) rfl
      have c4 := HBA.out.cell 4 (.slice ana ann anc) rfl
      have c5 := HBA.out.cell 5 (.slice ala aln alc) rfl
      go_wp2_with fail
      clear c0 c1 c2 c3 c4 c5
      refine (HNO.out _ _ HSB.out _ HAV.out).mono ?_
      rintro e w26 ⟨rfl, hb⟩
      have HBE := Lib.hid (belowStep hb HB.out)
      clear HBE
      replace HBX := Lib.hid (HBX.out.of_eq (hb.block _ HBX.out.lt))
      replace HBA := Lib.hid (HBA.out.of_eq (hb.block _ HBA.out.lt))
      replace HBS := Lib.hid (HBS.out.of_eq (hb.block _ HBS.out.lt))
      replace HAV := Lib.hid (HAV.out.grow hb)
      replace HSV := Lib.hid (HSV.out.grow hb)
      replace HB := Lib.hid (belowStep hb HB.out)
      clear hb HSB
      go_upto_region 23 with fail
      clear q9
      clear HBA HAV
      by_cases h1 : n = 1
      · have q3 : ((n : Int) == 1) = true := by simp [h1]
        go_upto_region 26 with fail
        have HE := Lib.hid (HR2.out HLV.out (.inl h1))
        have q9 : (scd == 2) = true := by rw [HE.out.2]; rfl
        have HSB := Lib.hid HE.out.1
        clear HE
        have c0 := HBS.out.cell 0 (.int .i64 s.op) rfl
        have c1 := HBS.out.cell 1 (.int .i64 s.n) rfl
        have c2 := HBS.out.cell 2 (.string s.s) rfl
        have c3 := HBS.out.cell 3 (.slice ska skn skc) rfl
        have c4 := HBS.out.cell 4 (.slice sna snn snc) rfl
        have c5 := HBS.out.cell 5 (.slice sla sln slc) rfl
        go_wp2_with fail
        clear c0 c1 c2 c3 c4 c5
        refine (HNO.out _ _ HSB.out _ HSV.out).mono ?_
        rintro e w27 ⟨rfl, hb⟩
        have HBE := Lib.hid (belowStep hb HB.out)
        clear hb
        go_wp2
        go_ret
        exact ⟨rfl, HBE.out⟩
      have q3 : ((n : Int) == 1) = false := by simp; omega
      by_cases h9 : 9 < n
      · have q4 : decide ((9 : Int) < (n : Int)) = true := decide_eq_true (by omega)
        go_upto_region 26 with fail
        have HE := Lib.hid (HR2.out HLV.out (.inr h9))
        have q9 : (scd == 2) = true := by rw [HE.out.2]; rfl
        have HSB := Lib.hid HE.out.1
        clear HE
        have c0 := HBS.out.cell 0 (.int .i64 s.op) rfl
        have c1 := HBS.out.cell 1 (.int .i64 s.n) rfl
        have c2 := HBS.out.cell 2 (.string s.s) rfl
        have c3 := HBS.out.cell 3 (.slice ska skn skc) rfl
        have c4 := HBS.out.cell 4 (.slice sna snn snc) rfl
        have c5 := HBS.out.cell 5 (.slice sla sln slc) rfl
        go_wp2_with fail
        clear c0 c1 c2 c3 c4 c5
        refine (HNO.out _ _ HSB.out _ HSV.out).mono ?_
        rintro e w27 ⟨rfl, hb⟩
        have HBE := Lib.hid (belowStep hb HB.out)
        clear hb
        go_wp2
        go_ret
        exact ⟨rfl, HBE.out⟩
      have q4 : decide ((9 : Int) < (n : Int)) = false := decide_eq_false (by omega)
      have HN9 := Lib.hid (show n ≤ 9 from by omega)
      have HE := Lib.hid (HO2.out HLV.out h1 h9)
      go_upto_region 27 with fail
      have HRTN := Lib.hid (fun W (hW : Below w.heap.size w W) => HRT.out W hW HN9.out)
      have GSB := Lib.hid (fun W (hW : Below w26.heap.size w26 W) => HRTN.out W (belowStep hW HB.out))
      have GAN := Lib.hid (fun W yv (hW : Below w26.heap.size w26 W) (hy : ConV W (· < W.heap.size) (tupC l) yv) => answer9_any (· < W.heap.size) (· < W.heap.size) s (tupC l) scd W _ yv (fun _ h => h) (fun _ h => h) (HSV.out.grow hW) hy)
      rw [HE.out] at GAN
      have HSS := Lib.hid (fun W (hW : Below w26.heap.size w26 W) => (show Below w26.heap.size w26 W ∧ W.cell? ⟨w13.heap.size, 0, none⟩ = some (.int .i64 s.op) ∧ W.cell? ⟨w13.heap.size, 1, none⟩ = some (.int .i64 s.n) ∧ W.cell? ⟨w13.heap.size, 2, none⟩ = some (.string s.s) ∧ W.cell? ⟨w13.heap.size, 3, none⟩ = some (.slice ska skn skc) ∧ W.cell? ⟨w13.heap.size, 4, none⟩ = some (.slice sna snn snc) ∧ W.cell? ⟨w13.heap.size, 5, none⟩ = some (.slice sla sln slc) from ⟨hW, (HBS.out.of_eq (hW.block _ HBS.out.lt)).cell 0 _ rfl, (HBS.out.of_eq (hW.block _ HBS.out.lt)).cell 1 _ rfl, (HBS.out.of_eq (hW.block _ HBS.out.lt)).cell 2 _ rfl, (HBS.out.of_eq (hW.block _ HBS.out.lt)).cell 3 _ rfl, (HBS.out.of_eq (hW.block _ HBS.out.lt)).cell 4 _ rfl, (HBS.out.of_eq (hW.block _ HBS.out.lt)).cell 5 _ rfl⟩))
      have HD0 := Lib.hid (Below.refl w26.heap.size w26).drew
      obtain ⟨sx, hsx⟩ : ∃ x, x = (tupC l) := ⟨_, rfl⟩
      rw [← hsx] at GSB GAN
      clear hsx HE
      have c0 := HBS.out.cell 0 (.int .i64 s.op) rfl
      have c1 := HBS.out.cell 1 (.int .i64 s.n) rfl
      have c2 := HBS.out.cell 2 (.string s.s) rfl
      have c3 := HBS.out.cell 3 (.slice ska skn skc) rfl
      have c4 := HBS.out.cell 4 (.slice sna snn snc) rfl
      have c5 := HBS.out.cell 5 (.slice sla sln slc) rfl
      go_region_held3 (fun W => Below w26.heap.size w26 W ∧ W.cell? ⟨w13.heap.size, 0, none⟩ = some (.int .i64 s.op) ∧ W.cell? ⟨w13.heap.size, 1, none⟩ = some (.int .i64 s.n) ∧ W.cell? ⟨w13.heap.size, 2, none⟩ = some (.string s.s) ∧ W.cell? ⟨w13.heap.size, 3, none⟩ = some (.slice ska skn skc) ∧ W.cell? ⟨w13.heap.size, 4, none⟩ = some (.slice sna snn snc) ∧ W.cell? ⟨w13.heap.size, 5, none⟩ = some (.slice sla sln slc))
        (exact HSS.out _ (by with_reducible (repeat (first | exact Below.refl _ _ | exact HD0.out | refine Below.drew ?_ | refine below_new ?_ | refine belowStep (by assumption) ?_ | exact Nat.le_refl _))))
        (first
        | (go_at_call 21; (with_reducible refine Calls.mono (GSB.out _ ?_) ?_); (focus (with_reducible (repeat (first | exact Below.refl _ _ | exact HD0.out | refine Below.drew ?_ | refine below_new ?_ | refine belowStep (by assumption) ?_ | exact Nat.le_refl _)))); rintro e k1 ⟨⟨yv, rfl, hy⟩, hbk1⟩; have hbk := belowStep (a := w26) hbk1 (by with_reducible (repeat (first | exact Below.refl _ _ | exact HD0.out | refine Below.drew ?_ | refine below_new ?_ | refine belowStep (by assumption) ?_ | exact Nat.le_refl _))); have hyk := hy; obtain ⟨ua, un, uk, va, vn, vk, xa2, xn2, xk2, hyv, -, -, -⟩ := hy.shape; subst hyv)
        | (go_at_call 19; (with_reducible refine Calls.mono (GAN.out _ _ (by assumption) (by assumption)) ?_); rintro e k2 ⟨rfl, hbk2⟩)
        | fail)
      rename_i hHeld
      have hbh := hHeld.1
      clear c0 c1 c2 c3 c4 c5
      replace HBX := Lib.hid (HBX.out.of_eq (hbh.block _ HBX.out.lt))
      replace HBS := Lib.hid (HBS.out.of_eq (hbh.block _ HBS.out.lt))
      replace HSV := Lib.hid (HSV.out.grow hbh)
      replace HB := Lib.hid (belowStep hbh HB.out)
      clear hHeld hbh GSB GAN HSS HD0
      go_wp2
      go_ret
      exact ⟨rfl, HB.out⟩
    have q1 : decide ((1000 : Int) < (n : Int)) = false := decide_eq_false (by omega)
    have HE := Lib.hid (HOV.out HVT.out HLV.out hn1)
    go_upto_region 15 with fail
    have GSB := Lib.hid (fun W (hW : Below w25.heap.size w25 W) => HAPP.out W (belowStep hW HB.out))
    have GAN := Lib.hid (fun W yv (hW : Below w25.heap.size w25 W) (hy : ConV W (· < W.heap.size) (appsC t l) yv) => answer9_any (· < W.heap.size) (· < W.heap.size) u (appsC t l) uc W _ yv (fun _ h => h) (fun _ h => h) (HAV.out.grow hW) hy)
    rw [HE.out] at GAN
    have HSS := Lib.hid (fun W (hW : Below w25.heap.size w25 W) => (show Below w25.heap.size w25 W ∧ W.cell? ⟨w.heap.size, 0, none⟩ = some (.int .i64 t.op) ∧ W.cell? ⟨w.heap.size, 1, none⟩ = some (.int .i64 t.n) ∧ W.cell? ⟨w.heap.size, 2, none⟩ = some (.string t.s) ∧ W.cell? ⟨w.heap.size, 3, none⟩ = some (.slice ka kn kc) ∧ W.cell? ⟨w.heap.size, 4, none⟩ = some (.slice na nn nc) ∧ W.cell? ⟨w.heap.size, 5, none⟩ = some (.slice la ln lc) ∧ W.cell? ⟨w11.heap.size, 0, none⟩ = some (.int .i64 u.op) ∧ W.cell? ⟨w11.heap.size, 1, none⟩ = some (.int .i64 u.n) ∧ W.cell? ⟨w11.heap.size, 2, none⟩ = some (.string u.s) ∧ W.cell? ⟨w11.heap.size, 3, none⟩ = some (.slice aka akn akc) ∧ W.cell? ⟨w11.heap.size, 4, none⟩ = some (.slice ana ann anc) ∧ W.cell? ⟨w11.heap.size, 5, none⟩ = some (.slice ala aln alc) from ⟨hW, (HBX.out.of_eq (hW.block _ HBX.out.lt)).cell 0 _ rfl, (HBX.out.of_eq (hW.block _ HBX.out.lt)).cell 1 _ rfl, (HBX.out.of_eq (hW.block _ HBX.out.lt)).cell 2 _ rfl, (HBX.out.of_eq (hW.block _ HBX.out.lt)).cell 3 _ rfl, (HBX.out.of_eq (hW.block _ HBX.out.lt)).cell 4 _ rfl, (HBX.out.of_eq (hW.block _ HBX.out.lt)).cell 5 _ rfl, (HBA.out.of_eq (hW.block _ HBA.out.lt)).cell 0 _ rfl, (HBA.out.of_eq (hW.block _ HBA.out.lt)).cell 1 _ rfl, (HBA.out.of_eq (hW.block _ HBA.out.lt)).cell 2 _ rfl, (HBA.out.of_eq (hW.block _ HBA.out.lt)).cell 3 _ rfl, (HBA.out.of_eq (hW.block _ HBA.out.lt)).cell 4 _ rfl, (HBA.out.of_eq (hW.block _ HBA.out.lt)).cell 5 _ rfl⟩))
    have HD0 := Lib.hid (Below.refl w25.heap.size w25).drew
    obtain ⟨sx, hsx⟩ : ∃ x, x = (appsC t l) := ⟨_, rfl⟩
    rw [← hsx] at GSB GAN
    clear hsx HE
    have c0 := HBX.out.cell 0 (.int .i64 t.op) rfl
    have c1 := HBX.out.cell 1 (.int .i64 t.n) rfl
    have c2 := HBX.out.cell 2 (.string t.s) rfl
    have c3 := HBX.out.cell 3 (.slice ka kn kc) rfl
    have c4 := HBX.out.cell 4 (.slice na nn nc) rfl
    have c5 := HBX.out.cell 5 (.slice la ln lc) rfl
    have e0 := HBA.out.cell 0 (.int .i64 u.op) rfl
    have e1 := HBA.out.cell 1 (.int .i64 u.n) rfl
    have e2 := HBA.out.cell 2 (.string u.s) rfl
    have e3 := HBA.out.cell 3 (.slice aka akn akc) rfl
    have e4 := HBA.out.cell 4 (.slice ana ann anc) rfl
    have e5 := HBA.out.cell 5 (.slice ala aln alc) rfl
    go_region_held3 (fun W => Below w25.heap.size w25 W ∧ W.cell? ⟨w.heap.size, 0, none⟩ = some (.int .i64 t.op) ∧ W.cell? ⟨w.heap.size, 1, none⟩ = some (.int .i64 t.n) ∧ W.cell? ⟨w.heap.size, 2, none⟩ = some (.string t.s) ∧ W.cell? ⟨w.heap.size, 3, none⟩ = some (.slice ka kn kc) ∧ W.cell? ⟨w.heap.size, 4, none⟩ = some (.slice na nn nc) ∧ W.cell? ⟨w.heap.size, 5, none⟩ = some (.slice la ln lc) ∧ W.cell? ⟨w11.heap.size, 0, none⟩ = some (.int .i64 u.op) ∧ W.cell? ⟨w11.heap.size, 1, none⟩ = some (.int .i64 u.n) ∧ W.cell? ⟨w11.heap.size, 2, none⟩ = some (.string u.s) ∧ W.cell? ⟨w11.heap.size, 3, none⟩ = some (.slice aka akn akc) ∧ W.cell? ⟨w11.heap.size, 4, none⟩ = some (.slice ana ann anc) ∧ W.cell? ⟨w11.heap.size, 5, none⟩ = some (.slice ala aln alc))
      (exact HSS.out _ (by with_reducible (repeat (first | exact Below.refl _ _ | exact HD0.out | refine Below.drew ?_ | refine below_new ?_ | refine belowStep (by assumption) ?_ | exact Nat.le_refl _))))
      (first
      | (go_at_call 20; (with_reducible refine Calls.mono (GSB.out _ ?_) ?_); (focus (with_reducible (repeat (first | exact Below.refl _ _ | exact HD0.out | refine Below.drew ?_ | refine below_new ?_ | refine belowStep (by assumption) ?_ | exact Nat.le_refl _)))); rintro e k1 ⟨⟨yv, rfl, hy⟩, hbk1⟩; have hbk := belowStep (a := w25) hbk1 (by with_reducible (repeat (first | exact Below.refl _ _ | exact HD0.out | refine Below.drew ?_ | refine below_new ?_ | refine belowStep (by assumption) ?_ | exact Nat.le_refl _))); have hyk := hy; obtain ⟨ua, un, uk, va, vn, vk, xa2, xn2, xk2, hyv, -, -, -⟩ := hy.shape; subst hyv)
      | (go_at_call 19; (with_reducible refine Calls.mono (GAN.out _ _ (by assumption) (by assumption)) ?_); rintro e k2 ⟨rfl, hbk2⟩)
      | fail)
    rename_i hHeld
    have hbh := hHeld.1
    clear c0 c1 c2 c3 c4 c5
    clear e0 e1 e2 e3 e4 e5
    replace HBX := Lib.hid (HBX.out.of_eq (hbh.block _ HBX.out.lt))
    replace HBA := Lib.hid (HBA.out.of_eq (hbh.block _ HBA.out.lt))
    replace HBS := Lib.hid (HBS.out.of_eq (hbh.block _ HBS.out.lt))
    replace HAV := Lib.hid (HAV.out.grow hbh)
    replace HSV := Lib.hid (HSV.out.grow hbh)
    replace HB := Lib.hid (belowStep hbh HB.out)
    clear hHeld hbh GSB GAN HSS HD0
    go_upto_region 23 with fail
    clear HBA HAV
    by_cases h1 : n = 1
    · have q3 : ((n : Int) == 1) = true := by simp [h1]
      go_upto_region 26 with fail
      have HE := Lib.hid (HR2.out HLV.out (.inl h1))
      have q9 : (scd == 2) = true := by rw [HE.out.2]; rfl
      have HSB := Lib.hid HE.out.1
      clear HE
      have c0 := HBS.out.cell 0 (.int .i64 s.op) rfl
      have c1 := HBS.out.cell 1 (.int .i64 s.n) rfl
      have c2 := HBS.out.cell 2 (.string s.s) rfl
      have c3 := HBS.out.cell 3 (.slice ska skn skc) rfl
      have c4 := HBS.out.cell 4 (.slice sna snn snc) rfl
      have c5 := HBS.out.cell 5 (.slice sla sln slc) rfl
      go_wp2_with fail
      clear c0 c1 c2 c3 c4 c5
      refine (HNO.out _ _ HSB.out _ HSV.out).mono ?_
      rintro e w27 ⟨rfl, hb⟩
      have HBE := Lib.hid (belowStep hb HB.out)
      clear hb
      go_wp2
      go_ret
      exact ⟨rfl, HBE.out⟩
    have q3 : ((n : Int) == 1) = false := by simp; omega
    by_cases h9 : 9 < n
    · have q4 : decide ((9 : Int) < (n : Int)) = true := decide_eq_true (by omega)
      go_upto_region 26 with fail
      have HE := Lib.hid (HR2.out HLV.out (.inr h9))
      have q9 : (scd == 2) = true := by rw [HE.out.2]; rfl
      have HSB := Lib.hid HE.out.1
      clear HE
      have c0 := HBS.out.cell 0 (.int .i64 s.op) rfl
      have c1 := HBS.out.cell 1 (.int .i64 s.n) rfl
      have c2 := HBS.out.cell 2 (.string s.s) rfl
      have c3 := HBS.out.cell 3 (.slice ska skn skc) rfl
      have c4 := HBS.out.cell 4 (.slice sna snn snc) rfl
      have c5 := HBS.out.cell 5 (.slice sla sln slc) rfl
      go_wp2_with fail
      clear c0 c1 c2 c3 c4 c5
      refine (HNO.out _ _ HSB.out _ HSV.out).mono ?_
      rintro e w27 ⟨rfl, hb⟩
      have HBE := Lib.hid (belowStep hb HB.out)
      clear hb
      go_wp2
      go_ret
      exact ⟨rfl, HBE.out⟩
    have q4 : decide ((9 : Int) < (n : Int)) = false := decide_eq_false (by omega)
    have HN9 := Lib.hid (show n ≤ 9 from by omega)
    have HE := Lib.hid (HO2.out HLV.out h1 h9)
    go_upto_region 27 with fail
    have HRTN := Lib.hid (fun W (hW : Below w.heap.size w W) => HRT.out W hW HN9.out)
    have GSB := Lib.hid (fun W (hW : Below k2.heap.size k2 W) => HRTN.out W (belowStep hW HB.out))
    have GAN := Lib.hid (fun W yv (hW : Below k2.heap.size k2 W) (hy : ConV W (· < W.heap.size) (tupC l) yv) => answer9_any (· < W.heap.size) (· < W.heap.size) s (tupC l) scd W _ yv (fun _ h => h) (fun _ h => h) (HSV.out.grow hW) hy)
    rw [HE.out] at GAN
    have HSS := Lib.hid (fun W (hW : Below k2.heap.size k2 W) => (show Below k2.heap.size k2 W ∧ W.cell? ⟨w13.heap.size, 0, none⟩ = some (.int .i64 s.op) ∧ W.cell? ⟨w13.heap.size, 1, none⟩ = some (.int .i64 s.n) ∧ W.cell? ⟨w13.heap.size, 2, none⟩ = some (.string s.s) ∧ W.cell? ⟨w13.heap.size, 3, none⟩ = some (.slice ska skn skc) ∧ W.cell? ⟨w13.heap.size, 4, none⟩ = some (.slice sna snn snc) ∧ W.cell? ⟨w13.heap.size, 5, none⟩ = some (.slice sla sln slc) from ⟨hW, (HBS.out.of_eq (hW.block _ HBS.out.lt)).cell 0 _ rfl, (HBS.out.of_eq (hW.block _ HBS.out.lt)).cell 1 _ rfl, (HBS.out.of_eq (hW.block _ HBS.out.lt)).cell 2 _ rfl, (HBS.out.of_eq (hW.block _ HBS.out.lt)).cell 3 _ rfl, (HBS.out.of_eq (hW.block _ HBS.out.lt)).cell 4 _ rfl, (HBS.out.of_eq (hW.block _ HBS.out.lt)).cell 5 _ rfl⟩))
    have HD0 := Lib.hid (Below.refl k2.heap.size k2).drew
    obtain ⟨sx, hsx⟩ : ∃ x, x = (tupC l) := ⟨_, rfl⟩
    rw [← hsx] at GSB GAN
    clear hsx HE
    have c0 := HBS.out.cell 0 (.int .i64 s.op) rfl
    have c1 := HBS.out.cell 1 (.int .i64 s.n) rfl
    have c2 := HBS.out.cell 2 (.string s.s) rfl
    have c3 := HBS.out.cell 3 (.slice ska skn skc) rfl
    have c4 := HBS.out.cell 4 (.slice sna snn snc) rfl
    have c5 := HBS.out.cell 5 (.slice sla sln slc) rfl
    go_region_held3 (fun W => Below k2.heap.size k2 W ∧ W.cell? ⟨w13.heap.size, 0, none⟩ = some (.int .i64 s.op) ∧ W.cell? ⟨w13.heap.size, 1, none⟩ = some (.int .i64 s.n) ∧ W.cell? ⟨w13.heap.size, 2, none⟩ = some (.string s.s) ∧ W.cell? ⟨w13.heap.size, 3, none⟩ = some (.slice ska skn skc) ∧ W.cell? ⟨w13.heap.size, 4, none⟩ = some (.slice sna snn snc) ∧ W.cell? ⟨w13.heap.size, 5, none⟩ = some (.slice sla sln slc))
      (exact HSS.out _ (by with_reducible (repeat (first | exact Below.refl _ _ | exact HD0.out | refine Below.drew ?_ | refine below_new ?_ | refine belowStep (by assumption) ?_ | exact Nat.le_refl _))))
      (first
      | (go_at_call 21; (with_reducible refine Calls.mono (GSB.out _ ?_) ?_); (focus (with_reducible (repeat (first | exact Below.refl _ _ | exact HD0.out | refine Below.drew ?_ | refine below_new ?_ | refine belowStep (by assumption) ?_ | exact Nat.le_refl _)))); rintro e k3 ⟨⟨yv, rfl, hy⟩, hbk1⟩; have hbk := belowStep (a := k2) hbk1 (by with_reducible (repeat (first | exact Below.refl _ _ | exact HD0.out | refine Below.drew ?_ | refine below_new ?_ | refine belowStep (by assumption) ?_ | exact Nat.le_refl _))); have hyk := hy; obtain ⟨ua, un, uk, va, vn, vk, xa2, xn2, xk2, hyv, -, -, -⟩ := hy.shape; subst hyv)
      | (go_at_call 19; (with_reducible refine Calls.mono (GAN.out _ _ (by assumption) (by assumption)) ?_); rintro e k4 ⟨rfl, hbk2⟩)
      | fail)
    rename_i hHeld
    have hbh := hHeld.1
    clear c0 c1 c2 c3 c4 c5
    replace HBX := Lib.hid (HBX.out.of_eq (hbh.block _ HBX.out.lt))
    replace HBS := Lib.hid (HBS.out.of_eq (hbh.block _ HBS.out.lt))
    replace HSV := Lib.hid (HSV.out.grow hbh)
    replace HB := Lib.hid (belowStep hbh HB.out)
    clear hHeld hbh GSB GAN HSS HD0
    go_wp2
    go_ret
    exact ⟨rfl, HB.out⟩
end Go.Proofs.YtmjiocpcenbndaaGreatDoor
