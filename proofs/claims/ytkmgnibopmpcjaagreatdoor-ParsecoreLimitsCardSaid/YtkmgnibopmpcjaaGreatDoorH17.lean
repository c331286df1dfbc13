/-
  Walks and plain mathematics, several texts in one (Dj Dk Dl Dm).
-/
import Derived.Test.YtkmgnibopmpcjaaGreatDoorH16
import Derived.Deep.AppendLies
import Derived.Laws.OwnMore
/-
  Walks of layer 4: one or more trees with a key word or a symbol between them.
-/
namespace Go.Proofs.YtkmgnibopmpcjaaGreatDoor
open Go Go.RowKit
set_option linter.unusedSimpArgs false
theorem infoTree : (Tryz.prog.info? 28).map (fun i => (i.zero, i.size, i.bytes)) = some (some (.agg #[.int .i64 0, .int .i64 0, .string ⟨#[]⟩, .slice none 0 0, .slice none 0 0]), 5, 80) := by kernel_rfl
theorem tree_open {w : World} {P : Nat → Prop} {t : Pl.Syn} {v : Value} (h : SynV w P t v) : ∃ x0 x1 x2 na nl nc la ll lc, v = .agg #[.int .i64 x0, .int .i64 x1, .string x2, .slice na nl nc, .slice la ll lc] := by
  obtain ⟨-, nv, lv, rfl, hnv, hlv⟩ := (synV_iff _ _ _ _).1 h
  obtain ⟨na, nc, rfl, -⟩ := hnv
  obtain ⟨la, lc, rfl, -⟩ := hlv
  exact ⟨_, _, _, _, _, _, _, _, _, rfl⟩
def TreesOut (s : Src) (g : Nat) (r : Pl.PR (List Pl.Syn)) (w : World) (e : Ending) (w' : World) : Prop :=
  (match r with
    | .ok ts j => ∃ v, e = .returned v ∧ TreesAt w' w.heap.size v ts ∧ PAt w' g s j
    | .bad j => e = faultAt s j) ∧ Fr (· = g) (· = g) w w'
theorem trees_one {w w1 : World} {y : Pl.Syn} {y0 y1 y2 y3 y4 : Value} (hle : w.heap.size ≤ w1.heap.size) (hy : SynV w1 (fun b => w.heap.size ≤ b ∧ b < w1.heap.size) y (.agg #[y0, y1, y2, y3, y4])) :
    TreesAt (w1.alloc (.cells #[y0, y1, y2, y3, y4] 28)) w.heap.size (.slice (some ⟨w1.heap.size, 0, none⟩) 1 1) [y] := by
  have hb : Below w1.heap.size w1 (w1.alloc (.cells #[y0, y1, y2, y3, y4] 28)) := (Below.refl _ _).alloc (Nat.le_refl _) _
  refine ⟨[y0, y1, y2, y3, y4], fun b => w.heap.size ≤ b ∧ b < w1.heap.size, World.ownsRow_lit (base := w.heap.size) (e := 28) (size := 5) w1 #[y0, y1, y2, y3, y4] 1 hle (by unfold maxLen; omega) rfl, fun b h => ⟨h.1, Nat.lt_of_lt_of_le h.2 hb.size, fun e => ?_⟩, fun j hj => ?_⟩
  · have e : some w1.heap.size = some b := e
    injection e with e
    omega
  · have e : j = 0 := by simp at hj; omega
    subst e
    exact ⟨_, ⟨y0, y1, y2, y3, y4, rfl, rfl, rfl, rfl, rfl, rfl⟩, hy.keep (fun b h => hb.block b h.2)⟩
set_option maxRecDepth 100000 in
set_option maxHeartbeats 8000000 in
theorem pseparated_any (s : Src) (g i k : Nat) (b : Pl.Bytes) (hb : b ≠ []) (read : Nat → Pl.PR Pl.Syn) (hgo : ∀ j t m, read j = .ok t m → j < m) (hread : ∀ W j, i ≤ j → PAt W g s j → Calls Tryz.prog k #[.pointer (some ⟨g, 0, none⟩)] W (TreeOut s g (read j) W)) (hen : ∀ W, Sem.run Tryz.prog (callFunc k #[.pointer (some ⟨g, 0, none⟩)]) W = .ok (.enter k #[.pointer (some ⟨g, 0, none⟩)]) W) (w : World) (h : PAt w g s i) (hbig : s.ts.length ≤ 536870912) :
    Calls Tryz.prog 143 #[.pointer (some ⟨g, 0, none⟩), .string (Pl.mk b), .func (.func k) #[.pointer (some ⟨g, 0, none⟩)] #[]] w (TreesOut s g (Pl.sepd s.ts b read i) w) := by
  obtain ⟨i28, hi0, hz0, hz1, hz2⟩ := info3 infoTree
  have HP := Lib.hid h
  have HGL := Lib.hid h.blk.lt
  have HRD := Lib.hid hread
  have HGO := Lib.hid hgo
  have HPS := Lib.hid (fun W j (hW : PAt W g s j) => ppass_any s g j b hb W hW)
  have HMP := Lib.hid (show Pl.sepd s.ts b read i = (read i).then fun t j => Pl.sepMore s.ts b read (s.ts.length + 1) [t] j from rfl)
  generalize Pl.sepd s.ts b read i = r at *
  have HMM := Lib.hid (fun n ts j => show Pl.sepMore s.ts b read (n + 1) ts j = if Pl.passes s.ts j b then (read (j + 1)).then fun t k => Pl.sepMore s.ts b read n (ts ++ [t]) k else .ok ts j from rfl)
  generalize Pl.mk b = bb at *
  clear hread hgo h
  go_enter Tryz.func143, Tryz.ntmps143
  go_wp2_with fail
  refine (HRD.out _ _ (Nat.le_refl _) HP.out).mono ?_
  rintro e w1 ⟨ht, hf1⟩
  cases hri : read i with
  | bad j =>
    rw [hri] at ht HMP
    have hq : e = faultAt s j := ht
    subst hq
    refine ⟨rfl, ?_⟩
    unfold TreesOut
    rw [HMP.out, Pl.PR.then_bad]
    exact ⟨rfl, hf1⟩
  | ok t j =>
    rw [hri] at ht HMP
    have hij := HGO.out _ _ _ hri
    rw [Pl.PR.then_ok] at HMP
    obtain ⟨v, rfl, hs, hp1⟩ := ht
    obtain ⟨x0, x1, x2, na, nl, nc, la, ll, lc, rfl⟩ := tree_open hs
    have HF1 := Lib.hid hf1
    have HB1 := Lib.hid (show Below w1.heap.size w1 (w1.alloc (.cells #[.int .i64 x0, .int .i64 x1, .string x2, .slice na nl nc, .slice la ll lc] 28)) from (Below.refl _ _).alloc (Nat.le_refl _) _)
    have HN0 := Lib.hid (trees_one hf1.size hs)
    have HP1 := Lib.hid (hp1.below HB1.out)
    clear hf1 hp1 hs hri
    go_wp2_with fail
    go_loopg [7] (s.ts.length + 1) (fun gk v wr => ∃ (j : Nat) (ts : List Pl.Syn), PAt wr g s j ∧ Fr (· = g) (· = g) w wr ∧ TreesAt wr w.heap.size v ts ∧ r = Pl.sepMore s.ts b read gk ts j ∧ s.ts.length + 2 ≤ gk + j ∧ ts.length ≤ j ∧ i ≤ j)
    case atStart => exact ⟨j, [t], HP1.out, HF1.out.trans (fr_below HB1.out), HN0.out, HMP.out, by omega, by simp; omega, by omega⟩
    case round =>
      obtain ⟨j, ts, hp, hf, hn, hr, hj, hnl, hij2⟩ := hrel
      have hjn := hp.inn
      have HP2 := Lib.hid hp
      have HF2 := Lib.hid hf
      have HN2 := Lib.hid hn
      have HRR := Lib.hid hr
      obtain ⟨G, hG⟩ : ∃ G, gk = G + 1 := ⟨gk - 1, by omega⟩
      clear hf hn hr
      go_wp2_with fail
      refine (HPS.out _ _ hp).mono ?_
      rintro e w2 ⟨rfl, hp2, hf2⟩
      have hmm := HMM.out G ts j
      have hrr := HRR.out
      rw [hG, hmm] at hrr
      generalize Pl.passes s.ts j b = pb at *
      clear hp hmm
      cases pb
      · have HR2 := Lib.hid (show r = .ok ts j from hrr)
        have HS := Lib.hid (HN2.out.keep HGL.out hf2)
        have HPE := Lib.hid (show PAt w2 g s j from hp2)
        have HFE := Lib.hid (HF2.out.trans hf2)
        clear hrr hp2 hf2 hG
        go_wp2
        go_ret
        unfold TreesOut
        rw [HR2.out]
        exact ⟨⟨_, rfl, HS.out, HPE.out⟩, HFE.out⟩
      · have HR2 := Lib.hid (show r = (read (j + 1)).then fun t k => Pl.sepMore s.ts b read G (ts ++ [t]) k from hrr)
        have HP3 := Lib.hid (show PAt w2 g s (j + 1) from hp2)
        have HF3 := Lib.hid (HF2.out.trans hf2)
        have HN3 := Lib.hid (HN2.out.keep HGL.out hf2)
        clear hrr hp2 hf2
        go_wp2_with fail
        refine (HRD.out _ _ (by omega) HP3.out).mono ?_
        rintro e w3 ⟨ht, hf3⟩
        have hin3 := HP3.out.inn
        cases hri : read (j + 1) with
        | bad q =>
          rw [hri] at ht HR2
          have hq : e = faultAt s q := ht
          subst hq
          refine ⟨rfl, ?_⟩
          unfold TreesOut
          rw [HR2.out, Pl.PR.then_bad]
          exact ⟨rfl, HF3.out.trans hf3⟩
        | ok y q =>
          rw [hri] at ht HR2
          have hjq := HGO.out _ _ _ hri
          rw [Pl.PR.then_ok] at HR2
          obtain ⟨v, rfl, hs, hp3⟩ := ht
          obtain ⟨x0, x1, x2, na, nl, nc, la, ll, lc, rfl⟩ := tree_open hs
          have HBA := Lib.hid (show Below w3.heap.size w3 (w3.alloc (.cells #[.int .i64 x0, .int .i64 x1, .string x2, .slice na nl nc, .slice la ll lc] 28)) from (Below.refl _ _).alloc (Nat.le_refl _) _)
          have HF4 := Lib.hid ((HF3.out.trans hf3).trans (fr_below HBA.out))
          have HN4 := Lib.hid ((HN3.out.keep HGL.out hf3).keep HGL.out (fr_below HBA.out))
          have HP4 := Lib.hid (hp3.below HBA.out)
          have hqn := hp3.inn
          have HSY := Lib.hid (hs.keep (fun b h => HBA.out.block b h.2))
          have HW2 := Lib.hid (HF3.out.size)
          have HW3 := Lib.hid (show w2.heap.size ≤ w3.heap.size from hf3.size)
          have HWA := Lib.hid (show (w3.alloc (.cells #[.int .i64 x0, .int .i64 x1, .string x2, .slice na nl nc, .slice la ll lc] 28)).heap.size = w3.heap.size + 1 from by simp)
          have HOL := Lib.hid (fun k hk => (show w.heap.size ≤ k ∧ k < w2.heap.size from by obtain ⟨us, R, h1, -, -⟩ := HN3.out; exact h1.lt k hk))
          have HGJ := Lib.hid hG
          clear hf3 hp3 hri hs hG
          obtain ⟨us, R, hown0, hR, hnd⟩ := HN4.out
          have HR := Lib.hid hR
          have HND := Lib.hid hnd
          have HOWN := Lib.hid hown0
          obtain ⟨ln, hln⟩ : ∃ ln, ln = ts.length := ⟨_, rfl⟩
          have HROW := Lib.hid (show (w3.alloc (.cells #[.int .i64 x0, .int .i64 x1, .string x2, .slice na nl nc, .slice la ll lc] 28)).ownsRow w.heap.size 28 5 u7 ln us from by rw [hln]; exact hown0)
          have HNL := Lib.hid hln
          rw [← hln] at hnl
          clear hln hown0 hnd hR
          go_wp2_with (at_builtin; refine wpList_append_lies _ rfl _ _ 26 rfl w.heap.size 28 i28 (.agg #[.int .i64 0, .int .i64 0, .string ⟨#[]⟩, .slice none 0 0, .slice none 0 0]) 5 80 Tryz.underlying26 hi0 hz0 hz1 hz2 rfl (by decide) _ _ _ rfl HROW.out ⟨w3.heap.size, 0, none⟩ 1 1 [.int .i64 x0, .int .i64 x1, .string x2, .slice na nl nc, .slice la ll lc] rfl rfl ?c1 ?c2 (by decide) ?c3 ?c4 ?c5 (w3.heap.size + 1) (by simp) ?_)
          case c1 => exact World.news_of_block (cs := #[.int .i64 x0, .int .i64 x1, .string x2, .slice na nl nc, .slice la ll lc]) (t := 28) (fr := (0, 0)) (heap_alloc_new w3 _)
          case c2 => simp [Value.oneCell']
          case c3 => unfold maxLen; omega
          case c4 => omega
          case c5 => have := HW2.out; have := HW3.out; simp; omega
          intro gg cap w4 hown hgrow hat hlt
          have hob : ∀ k, u7.ownBlock = some k → w.heap.size ≤ k := fun k hk => (HOL.out k hk).1
          have HN5 := Lib.hid (trees_push (y := y) HOWN.out HR.out HND.out HSY.out (fun b hb => ⟨Nat.le_trans HW2.out hb.1, by rw [HWA.out]; omega, fun e => by have := (HOL.out b e).2; omega⟩) (by
            rw [List.length_append, ← HNL.out]
            exact hown) hgrow (fun k hk => by
            have e : some gg = some k := hk
            injection e with e
            subst e
            rcases hat with hat | hat
            · exact .inl hat
            · right; rw [HWA.out, hat]; exact Nat.le_refl _))
          have HP5 := Lib.hid (HP4.out.grown hgrow (fun k hk => Nat.lt_of_lt_of_le HGL.out (hob k hk)))
          have HF5 := Lib.hid (fr_grown HF4.out hgrow hob)
          have HNN := Lib.hid (show (ts ++ [y]).length ≤ q from by rw [List.length_append, ← HNL.out]; simp; omega)
          clear hown hgrow hob hat hlt
          go_wp2
          go_roundg G
          case measure => have := HGJ.out; omega
          case rel => exact ⟨q, ts ++ [y], HP5.out, HF5.out, HN5.out, HR2.out, by have := HGJ.out; omega, HNN.out, by omega⟩
end Go.Proofs.YtkmgnibopmpcjaaGreatDoor

/-
  Walks of layer 4: a product of types.
-/
namespace Go.Proofs.YtkmgnibopmpcjaaGreatDoor
open Go Go.RowKit
set_option linter.unusedSimpArgs false
theorem tree_fin {w w1 : World} {B : Nat} {s : Src} {g j : Nat} {v : Value} {t : Pl.Syn} (hg : g < w.heap.size) (hf : Fr (· = g) (· = g) w w1) (hs : SynV w1 (fun b => B ≤ b ∧ b < w1.heap.size) t v) (h0 : w.heap.size < B) (hp : PAt w1 g s j) (x0 x1 x2 x3 x4 : Value) :
    (∃ u, Ending.returned v = .returned u ∧ SynV (putFive w1 w.heap.size x0 x1 x2 x3 x4) (fun b => w.heap.size ≤ b ∧ b < (putFive w1 w.heap.size x0 x1 x2 x3 x4).heap.size) t u ∧ PAt (putFive w1 w.heap.size x0 x1 x2 x3 x4) g s j) ∧ Fr (· = g) (· = g) w (putFive w1 w.heap.size x0 x1 x2 x3 x4) := by
  have hb := putFive_below (Below.refl w.heap.size w1) (Nat.le_refl _) x0 x1 x2 x3 x4
  refine ⟨⟨_, rfl, (hs.keep ?_).mono ?_, hp.under hb hg⟩, fr_under hf hb (Nat.le_refl _)⟩
  · intro b hb
    exact putFive_other _ _ _ (by omega) _ _ _ _ _
  · intro b hb1
    have := hb.size
    omega
set_option maxRecDepth 100000 in
set_option maxHeartbeats 8000000 in
theorem pproduct_any (s : Src) (g i : Nat) (post : Nat → Pl.PR Pl.Syn) (hgo : ∀ j t m, post j = .ok t m → j < m) (hpost : ∀ W j, i ≤ j → PAt W g s j → Calls Tryz.prog 144 #[.pointer (some ⟨g, 0, none⟩)] W (TreeOut s g (post j) W)) (w : World) (h : PAt w g s i) (hbig : s.ts.length ≤ 536870912) :
    Calls Tryz.prog 76 #[.pointer (some ⟨g, 0, none⟩)] w (TreeOut s g ((Pl.sepd s.ts [42] post i).then fun ts j => .ok (Pl.tupleOf 4 ts) j) w) := by
  have HP := Lib.hid h
  have HG := Lib.hid h.blk.lt
  have HS := Lib.hid (fun W (hW : PAt W g s i) => pseparated_any s g i 144 [42] (by decide) post hgo hpost (fun _ => rfl) W hW hbig)
  have hmk : (Pl.mk [42] : ByteArray) = ⟨#[42]⟩ := rfl
  rw [hmk] at HS
  have HTU := Lib.hid (fun P l v W (hP : ∀ b, P b → b < W.heap.size) (hl : SynSl W P v l) => ptuple_any 4 P l v W hP hl)
  obtain ⟨r, hr⟩ : ∃ r, r = ((Pl.sepd s.ts [42] post i).then fun ts j => (.ok (Pl.tupleOf 4 ts) j : Pl.PR Pl.Syn)) := ⟨_, rfl⟩
  rw [← hr]
  have HE := Lib.hid hr
  clear hr
  generalize Pl.sepd s.ts [42] post i = m at *
  have hmf : ∀ (fn : Fn) (first cap : Array Value) (w : World), (Instr.makeFunc fn first cap).run Tryz.prog w = .ok (.func fn first cap) w := fun _ _ _ _ => rfl
  have HB0 := Lib.hid (show Below w.heap.size w (w.alloc (.cells #[.int .i64 0, .int .i64 0, .string ⟨#[]⟩, .slice none 0 0, .slice none 0 0] 28)) from (Below.refl _ _).alloc (Nat.le_refl _) _)
  have HX0 := Lib.hid (blk_new w #[.int .i64 0, .int .i64 0, .string ⟨#[]⟩, .slice none 0 0, .slice none 0 0] 28)
  have HP0 := Lib.hid (HP.out.below HB0.out)
  clear h hmk hpost hgo
  go_enter Tryz.func76, Tryz.ntmps76
  go_wp2_with fail
  have hmc := HS.out _ HP0.out
  generalize w.alloc (.cells #[.int .i64 0, .int .i64 0, .string ⟨#[]⟩, .slice none 0 0, .slice none 0 0] 28) = w0 at *
  refine hmc.mono ?_
  rintro e w1 ⟨hq, hf⟩
  have HF := Lib.hid ((fr_below (o := (· = g)) HB0.out).trans hf)
  have HX1 := Lib.hid (HX0.out.of_eq (hf.block HX0.out.lt (fun e => by have := HG.out; omega)))
  cases m with
  | bad j =>
    have hq' : e = faultAt s j := hq
    subst hq'
    refine ⟨rfl, ?_⟩
    unfold TreeOut
    rw [HE.out, Pl.PR.then_bad]
    exact ⟨rfl, HF.out⟩
  | ok ts j =>
    obtain ⟨v, rfl, hs, hp⟩ := hq
    have HT := Lib.hid hs.syns
    have HP1 := Lib.hid hp
    have h0lt := HX0.out.lt
    have H0LT := Lib.hid h0lt
    clear hs hp hf hmc h0lt
    go_wp2_with fail
    refine (HTU.out _ _ _ _ (fun b h => h.2) HT.out).mono ?_
    rintro e w2 ⟨⟨u, rfl, hu⟩, hb2⟩
    obtain ⟨x0, x1, x2, na, nl, nc, la, ll, lc, rfl⟩ := tree_open hu
    have HU := Lib.hid (hu.mono (Q := fun b => w0.heap.size ≤ b ∧ b < w2.heap.size) (fun b h => ⟨h.1, Nat.lt_of_lt_of_le h.2 hb2.size⟩))
    have HX2 := Lib.hid (HX1.out.of_eq (hb2.block _ HX1.out.lt))
    have HP2 := Lib.hid (HP1.out.below hb2)
    have HF2 := Lib.hid (HF.out.trans (fr_below hb2))
    obtain ⟨c0, c1, c2, c3, c4⟩ := five_cells HX2.out
    have y0 := HX2.out.thaw 0
    have y1 := HX2.out.thaw 1
    have y2 := HX2.out.thaw 2
    have y3 := HX2.out.thaw 3
    have y4 := HX2.out.thaw 4
    clear hu hb2
    go_wp2_with fail
    have HEN := putFive_blk HX2.out (.int .i64 x0) (.int .i64 x1) (.string x2) (.slice na nl nc) (.slice la ll lc)
    have HFI := tree_fin HG.out HF2.out HU.out H0LT.out HP2.out (.int .i64 x0) (.int .i64 x1) (.string x2) (.slice na nl nc) (.slice la ll lc)
    unfold putFive at HEN HFI
    obtain ⟨k0, k1, k2, k3, k4⟩ := five_cells HEN
    refine bodyPost_ret (v := .agg #[.int .i64 x0, .int .i64 x1, .string x2, .slice na nl nc, .slice la ll lc]) (by simp [results, Tryz.results76, go_sem, k0, k1, k2, k3, k4]) rfl ?_
    unfold TreeOut
    rw [HE.out, Pl.PR.then_ok]
    exact HFI
end Go.Proofs.YtkmgnibopmpcjaaGreatDoor

/-
  Walks of layer 4: a negation.
-/
namespace Go.Proofs.YtkmgnibopmpcjaaGreatDoor
open Go Go.RowKit
set_option linter.unusedSimpArgs false
theorem synV_make {w : World} {P : Nat → Prop} {op n : Int} {tx : ByteArray} {ns : List ByteArray} {l : List Pl.Syn} {nv lv : Value} (ht : tx.size ≤ maxLen) (hn : StrSl w P nv ns) (hl : SynSl w P lv l) : SynV w P ⟨op, n, tx, ns, l⟩ (.agg #[.int .i64 op, .int .i64 n, .string tx, nv, lv]) :=
  (synV_iff _ _ _ _).2 ⟨ht, nv, lv, rfl, hn, hl⟩
theorem strs_none (w : World) (P : Nat → Prop) : StrSl w P (.slice none 0 0) [] := ⟨none, 0, rfl, Nat.le_refl _, Nat.zero_le _, fun _ => rfl, fun z hz => (by cases hz), Or.inl rfl⟩
set_option maxRecDepth 100000 in
set_option maxHeartbeats 8000000 in
theorem pnegation_any (s : Src) (g i : Nat) (neg app : Nat → Pl.PR Pl.Syn) (hneg : ∀ W, PAt W g s (i + 1) → Calls Tryz.prog 147 #[.pointer (some ⟨g, 0, none⟩)] W (TreeOut s g (neg (i + 1)) W)) (happ : ∀ W, PAt W g s i → Calls Tryz.prog 202 #[.pointer (some ⟨g, 0, none⟩)] W (TreeOut s g (app i) W)) (w : World) (h : PAt w g s i) :
    Calls Tryz.prog 147 #[.pointer (some ⟨g, 0, none⟩)] w (TreeOut s g (if Pl.passes s.ts i [126] then (neg (i + 1)).then fun t j => .ok ⟨32, 12, ByteArray.empty, [], [t]⟩ j else app i) w) := by
  have HP := Lib.hid h
  have HG := Lib.hid h.blk.lt
  have HPS := Lib.hid (fun W (hW : PAt W g s i) => ppass_any s g i [126] (by decide) W hW)
  have hmk : (Pl.mk [126] : ByteArray) = ⟨#[126]⟩ := rfl
  rw [hmk] at HPS
  have HNE := Lib.hid hneg
  have HAP := Lib.hid happ
  obtain ⟨r, hr⟩ : ∃ r, r = (if Pl.passes s.ts i [126] then (neg (i + 1)).then fun t j => (.ok ⟨32, 12, ByteArray.empty, [], [t]⟩ j : Pl.PR Pl.Syn) else app i) := ⟨_, rfl⟩
  rw [← hr]
  generalize neg (i + 1) = rn at *
  generalize app i = ra at *
  generalize Pl.passes s.ts i [126] = pb at *
  have HR := Lib.hid hr
  have HB0 := Lib.hid (show Below w.heap.size w (w.alloc (.cells #[.int .i64 0, .int .i64 0, .string ⟨#[]⟩, .slice none 0 0, .slice none 0 0] 28)) from (Below.refl _ _).alloc (Nat.le_refl _) _)
  have HX0 := Lib.hid (blk_new w #[.int .i64 0, .int .i64 0, .string ⟨#[]⟩, .slice none 0 0, .slice none 0 0] 28)
  have HP0 := Lib.hid (HP.out.below HB0.out)
  have H0LT := Lib.hid HX0.out.lt
  clear h hr hmk hneg happ
  go_enter Tryz.func147, Tryz.ntmps147
  go_wp2_with fail
  have hmc := HPS.out _ HP0.out
  generalize w.alloc (.cells #[.int .i64 0, .int .i64 0, .string ⟨#[]⟩, .slice none 0 0, .slice none 0 0] 28) = w0 at *
  refine hmc.mono ?_
  rintro e w1 ⟨rfl, hp1, hf⟩
  have HF := Lib.hid ((fr_below (o := (· = g)) HB0.out).trans hf)
  have HX1 := Lib.hid (HX0.out.of_eq (hf.block HX0.out.lt (fun e => by have := HG.out; omega)))
  have HW1 := Lib.hid hf.size
  clear hmc hf
  cases pb
  · have HP1 := Lib.hid (show PAt w1 g s i from hp1)
    clear hp1
    go_wp2_with fail
    refine (HAP.out _ HP1.out).mono ?_
    rintro e w2 ⟨hq, hf2⟩
    have HF2 := Lib.hid (HF.out.trans hf2)
    have HX2 := Lib.hid (HX1.out.of_eq (hf2.block HX1.out.lt (fun e => by have := HG.out; omega)))
    have HW2 := Lib.hid hf2.size
    cases ra with
    | bad j =>
      have hq' : e = faultAt s j := hq
      subst hq'
      refine ⟨rfl, ?_⟩
      unfold TreeOut
      rw [show r = .bad j from HR.out]
      exact ⟨rfl, HF2.out⟩
    | ok t j =>
      obtain ⟨v, rfl, hu, hp2⟩ := hq
      obtain ⟨x0, x1, x2, na, nl, nc, la, ll, lc, rfl⟩ := tree_open hu
      have HU := Lib.hid (hu.mono (Q := fun b => w0.heap.size ≤ b ∧ b < w2.heap.size) (fun b h => ⟨Nat.le_trans HW1.out h.1, h.2⟩))
      have HP2 := Lib.hid hp2
      have HR2 := Lib.hid (show r = .ok t j from HR.out)
      clear hu hp2 hf2
      obtain ⟨c0, c1, c2, c3, c4⟩ := five_cells HX2.out
      have y0 := HX2.out.thaw 0
      have y1 := HX2.out.thaw 1
      have y2 := HX2.out.thaw 2
      have y3 := HX2.out.thaw 3
      have y4 := HX2.out.thaw 4
      go_wp2_with fail
      have HEN := putFive_blk HX2.out (.int .i64 x0) (.int .i64 x1) (.string x2) (.slice na nl nc) (.slice la ll lc)
      have HFI := tree_fin HG.out HF2.out HU.out H0LT.out HP2.out (.int .i64 x0) (.int .i64 x1) (.string x2) (.slice na nl nc) (.slice la ll lc)
      unfold putFive at HEN HFI
      obtain ⟨k0, k1, k2, k3, k4⟩ := five_cells HEN
      refine bodyPost_ret (v := .agg #[.int .i64 x0, .int .i64 x1, .string x2, .slice na nl nc, .slice la ll lc]) (by simp [results, Tryz.results147, go_sem, k0, k1, k2, k3, k4]) rfl ?_
      unfold TreeOut
      rw [HR2.out]
      exact HFI
  · have HP1 := Lib.hid (show PAt w1 g s (i + 1) from hp1)
    clear hp1
    go_wp2_with fail
    refine (HNE.out _ HP1.out).mono ?_
    rintro e w2 ⟨hq, hf2⟩
    have HF2 := Lib.hid (HF.out.trans hf2)
    have HX2 := Lib.hid (HX1.out.of_eq (hf2.block HX1.out.lt (fun e => by have := HG.out; omega)))
    have HW2 := Lib.hid hf2.size
    cases rn with
    | bad j =>
      have hq' : e = faultAt s j := hq
      subst hq'
      refine ⟨rfl, ?_⟩
      unfold TreeOut
      rw [show r = .bad j from HR.out]
      exact ⟨rfl, HF2.out⟩
    | ok t j =>
      obtain ⟨v, rfl, hu, hp2⟩ := hq
      obtain ⟨x0, x1, x2, na, nl, nc, la, ll, lc, rfl⟩ := tree_open hu
      have HBA := Lib.hid (show Below w2.heap.size w2 (w2.alloc (.cells #[.int .i64 x0, .int .i64 x1, .string x2, .slice na nl nc, .slice la ll lc] 28)) from (Below.refl _ _).alloc (Nat.le_refl _) _)
      have HU := Lib.hid ((synV_make (op := 32) (n := 12) (tx := ByteArray.empty) (Nat.zero_le _) (strs_none _ _) (trees_one HW2.out hu).syns).mono (Q := fun b => w0.heap.size ≤ b ∧ b < (w2.alloc (.cells #[.int .i64 x0, .int .i64 x1, .string x2, .slice na nl nc, .slice la ll lc] 28)).heap.size) (fun b h => ⟨Nat.le_trans HW1.out h.1, h.2⟩))
      have HP3 := Lib.hid (hp2.below HBA.out)
      have HX3 := Lib.hid (HX2.out.of_eq (HBA.out.block _ HX2.out.lt))
      have HF3 := Lib.hid (HF2.out.trans (fr_below HBA.out))
      have HR2 := Lib.hid (show r = .ok ⟨32, 12, ByteArray.empty, [], [t]⟩ j from HR.out)
      clear hu hp2 hf2
      obtain ⟨c0, c1, c2, c3, c4⟩ := five_cells HX3.out
      have y0 := HX3.out.thaw 0
      have y1 := HX3.out.thaw 1
      have y2 := HX3.out.thaw 2
      have y3 := HX3.out.thaw 3
      have y4 := HX3.out.thaw 4
      go_wp2_with fail
      have HEN := putFive_blk HX3.out (.int .i64 32) (.int .i64 12) (.string ⟨#[]⟩) (.slice none 0 0) (.slice (some ⟨w2.heap.size, 0, none⟩) 1 1)
      have HFI := tree_fin HG.out HF3.out HU.out H0LT.out HP3.out (.int .i64 32) (.int .i64 12) (.string ⟨#[]⟩) (.slice none 0 0) (.slice (some ⟨w2.heap.size, 0, none⟩) 1 1)
      unfold putFive at HEN HFI
      obtain ⟨k0, k1, k2, k3, k4⟩ := five_cells HEN
      refine bodyPost_ret (v := .agg #[.int .i64 32, .int .i64 12, .string ⟨#[]⟩, .slice none 0 0, .slice (some ⟨w2.heap.size, 0, none⟩) 1 1]) (by simp [results, Tryz.results147, go_sem, k0, k1, k2, k3, k4]) rfl ?_
      unfold TreeOut
      rw [HR2.out]
      exact HFI
end Go.Proofs.YtkmgnibopmpcjaaGreatDoor

/-
  Walks of layer 4: an atom in parentheses.
-/
namespace Go.Proofs.YtkmgnibopmpcjaaGreatDoor
open Go Go.RowKit
set_option linter.unusedSimpArgs false
theorem syns_none (w : World) (P : Nat → Prop) : SynSl w P (.slice none 0 0) [] := ⟨none, 0, rfl, Nat.le_refl _, Nat.zero_le _, fun _ => rfl, Or.inl rfl⟩
set_option maxRecDepth 100000 in
set_option maxHeartbeats 8000000 in
theorem penclosed_any (s : Src) (g i : Nat) (cont : Nat → Pl.PR Pl.Syn) (hcont : ∀ W, PAt W g s i → Calls Tryz.prog 152 #[.pointer (some ⟨g, 0, none⟩)] W (TreeOut s g (cont i) W)) (w : World) (h : PAt w g s i) :
    Calls Tryz.prog 85 #[.pointer (some ⟨g, 0, none⟩)] w (TreeOut s g (if Pl.passes s.ts i [41] then .ok (Pl.nd 27 []) (i + 1) else (cont i).then fun t j => (Pl.needT s.ts [41] j).then fun _ k => .ok t k) w) := by
  have HP := Lib.hid h
  have HG := Lib.hid h.blk.lt
  have HPS := Lib.hid (fun W (hW : PAt W g s i) => ppass_any s g i [41] (by decide) W hW)
  have HND := Lib.hid (fun W j (hW : PAt W g s j) => pneed_any s g j [41] (by decide) W hW)
  have hmk : (Pl.mk [41] : ByteArray) = ⟨#[41]⟩ := rfl
  rw [hmk] at HPS HND
  have HCO := Lib.hid hcont
  obtain ⟨r, hr⟩ : ∃ r, r = (if Pl.passes s.ts i [41] then .ok (Pl.nd 27 []) (i + 1) else (cont i).then fun t j => (Pl.needT s.ts [41] j).then fun _ k => (.ok t k : Pl.PR Pl.Syn)) := ⟨_, rfl⟩
  rw [← hr]
  generalize cont i = rn at *
  generalize Pl.passes s.ts i [41] = pb at *
  have HR := Lib.hid hr
  have HB0 := Lib.hid (show Below w.heap.size w (w.alloc (.cells #[.int .i64 0, .int .i64 0, .string ⟨#[]⟩, .slice none 0 0, .slice none 0 0] 28)) from (Below.refl _ _).alloc (Nat.le_refl _) _)
  have HX0 := Lib.hid (blk_new w #[.int .i64 0, .int .i64 0, .string ⟨#[]⟩, .slice none 0 0, .slice none 0 0] 28)
  have HP0 := Lib.hid (HP.out.below HB0.out)
  have H0LT := Lib.hid HX0.out.lt
  clear h hr hmk hcont
  go_enter Tryz.func85, Tryz.ntmps85
  go_wp2_with fail
  have hmc := HPS.out _ HP0.out
  generalize w.alloc (.cells #[.int .i64 0, .int .i64 0, .string ⟨#[]⟩, .slice none 0 0, .slice none 0 0] 28) = w0 at *
  refine hmc.mono ?_
  rintro e w1 ⟨rfl, hp1, hf⟩
  have HF := Lib.hid ((fr_below (o := (· = g)) HB0.out).trans hf)
  have HX1 := Lib.hid (HX0.out.of_eq (hf.block HX0.out.lt (fun e => by have := HG.out; omega)))
  have HW1 := Lib.hid hf.size
  clear hmc hf
  cases pb
  · have HP1 := Lib.hid (show PAt w1 g s i from hp1)
    clear hp1
    go_wp2_with fail
    refine (HCO.out _ HP1.out).mono ?_
    rintro e w2 ⟨hq, hf2⟩
    have HF2 := Lib.hid (HF.out.trans hf2)
    have HX2 := Lib.hid (HX1.out.of_eq (hf2.block HX1.out.lt (fun e => by have := HG.out; omega)))
    have HW2 := Lib.hid hf2.size
    cases rn with
    | bad j =>
      have hq' : e = faultAt s j := hq
      subst hq'
      refine ⟨rfl, ?_⟩
      unfold TreeOut
      rw [show r = .bad j from HR.out]
      exact ⟨rfl, HF2.out⟩
    | ok t j =>
      obtain ⟨v, rfl, hu, hp2⟩ := hq
      obtain ⟨x0, x1, x2, na, nl, nc, la, ll, lc, rfl⟩ := tree_open hu
      have HBA := Lib.hid (show Below w2.heap.size w2 (w2.alloc (.cells #[.int .i64 x0, .int .i64 x1, .string x2, .slice na nl nc, .slice la ll lc] 28)) from (Below.refl _ _).alloc (Nat.le_refl _) _)
      have HZ3 := Lib.hid (blk_new w2 #[.int .i64 x0, .int .i64 x1, .string x2, .slice na nl nc, .slice la ll lc] 28)
      have HU3 := Lib.hid (hu.keep (fun b h => HBA.out.block b h.2))
      have HP3 := Lib.hid (hp2.below HBA.out)
      have HX3 := Lib.hid (HX2.out.of_eq (HBA.out.block _ HX2.out.lt))
      have HF3 := Lib.hid (HF2.out.trans (fr_below HBA.out))
      have HR2 := Lib.hid (show r = (Pl.needT s.ts [41] j).then fun _ k => .ok t k from HR.out)
      have H2LT := Lib.hid HX2.out.lt
      clear hu hp2 hf2
      go_wp2_with fail
      have hnc := HND.out _ _ HP3.out
      have hnt := show Pl.needT s.ts [41] j = if Pl.passes s.ts j [41] = true then .ok () (j + 1) else .bad j from rfl
      rw [hnt] at hnc HR2
      generalize Pl.passes s.ts j [41] = qb at *
      generalize w2.alloc (.cells #[.int .i64 x0, .int .i64 x1, .string x2, .slice na nl nc, .slice la ll lc] 28) = w3 at *
      refine hnc.mono ?_
      rintro e w4 ⟨hq, hf4⟩
      have HF4 := Lib.hid (HF3.out.trans hf4)
      cases qb
      · rw [if_neg (by decide)] at hq HR2
        subst hq
        refine ⟨rfl, ?_⟩
        unfold TreeOut
        rw [HR2.out, Pl.PR.then_bad]
        exact ⟨rfl, HF4.out⟩
      · rw [if_pos (by first | rfl | trivial)] at hq HR2
        rw [Pl.PR.then_ok] at HR2
        obtain ⟨⟨nv, rfl⟩, hp4⟩ := hq
        have HP4 := Lib.hid hp4
        have HX4 := Lib.hid (HX3.out.of_eq (hf4.block HX3.out.lt (fun e => by have := HG.out; omega)))
        have HZ4 := Lib.hid (HZ3.out.of_eq (hf4.block HZ3.out.lt (fun e => by have := HG.out; have := HW2.out; have := HW1.out; have := H0LT.out; omega)))
        have HU4 := Lib.hid ((HU3.out.keep (fun b h => hf4.block (Nat.lt_trans h.2 HZ3.out.lt) (fun e => by have := HG.out; have := HW1.out; have := H0LT.out; omega))).mono (Q := fun b => w0.heap.size ≤ b ∧ b < w4.heap.size) (fun b h => ⟨Nat.le_trans HW1.out h.1, Nat.lt_of_lt_of_le (Nat.lt_trans h.2 HZ3.out.lt) hf4.size⟩))
        clear hp4 hf4 hnc hnt
        obtain ⟨z0, z1, z2, z3, z4⟩ := five_cells HZ4.out
        obtain ⟨c0, c1, c2, c3, c4⟩ := five_cells HX4.out
        have y0 := HX4.out.thaw 0
        have y1 := HX4.out.thaw 1
        have y2 := HX4.out.thaw 2
        have y3 := HX4.out.thaw 3
        have y4 := HX4.out.thaw 4
        go_wp2_with fail
        have HEN := putFive_blk HX4.out (.int .i64 x0) (.int .i64 x1) (.string x2) (.slice na nl nc) (.slice la ll lc)
        have HFI := tree_fin HG.out HF4.out HU4.out H0LT.out HP4.out (.int .i64 x0) (.int .i64 x1) (.string x2) (.slice na nl nc) (.slice la ll lc)
        unfold putFive at HEN HFI
        obtain ⟨k0, k1, k2, k3, k4⟩ := five_cells HEN
        refine bodyPost_ret (v := .agg #[.int .i64 x0, .int .i64 x1, .string x2, .slice na nl nc, .slice la ll lc]) (by simp [results, Tryz.results85, go_sem, k0, k1, k2, k3, k4]) rfl ?_
        unfold TreeOut
        rw [HR2.out]
        exact HFI
  · have HP1 := Lib.hid (show PAt w1 g s (i + 1) from hp1)
    have HR2 := Lib.hid (show r = .ok (Pl.nd 27 []) (i + 1) from HR.out)
    have HU := Lib.hid (synV_make (w := w1) (P := fun b => w0.heap.size ≤ b ∧ b < w1.heap.size) (op := 27) (n := 0) (tx := ByteArray.empty) (ns := []) (l := []) (Nat.zero_le _) (strs_none _ _) (syns_none _ _))
    clear hp1
    obtain ⟨c0, c1, c2, c3, c4⟩ := five_cells HX1.out
    have y0 := HX1.out.thaw 0
    have y1 := HX1.out.thaw 1
    have y2 := HX1.out.thaw 2
    have y3 := HX1.out.thaw 3
    have y4 := HX1.out.thaw 4
    go_wp2_with fail
    have HEN := putFive_blk HX1.out (.int .i64 27) (.int .i64 0) (.string ⟨#[]⟩) (.slice none 0 0) (.slice none 0 0)
    have HFI := tree_fin HG.out HF.out HU.out H0LT.out HP1.out (.int .i64 27) (.int .i64 0) (.string ⟨#[]⟩) (.slice none 0 0) (.slice none 0 0)
    unfold putFive at HEN HFI
    obtain ⟨k0, k1, k2, k3, k4⟩ := five_cells HEN
    refine bodyPost_ret (v := .agg #[.int .i64 27, .int .i64 0, .string ⟨#[]⟩, .slice none 0 0, .slice none 0 0]) (by simp [results, Tryz.results85, go_sem, k0, k1, k2, k3, k4]) rfl ?_
    unfold TreeOut
    rw [HR2.out]
    exact HFI
end Go.Proofs.YtkmgnibopmpcjaaGreatDoor
