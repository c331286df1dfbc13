/-
  Walks and plain mathematics, several texts in one (Fa Fb Fc).
-/
import Derived.Test.YtjedahcpkcgpeaaGreatDoorH14
import Derived.Test.YtjedahcpkcgpeaaGreatDoorH15
import Derived.Test.YtjedahcpkcgpeaaGreatDoorH16
import Derived.Test.YtjedahcpkcgpeaaGreatDoorH17
import Derived.Test.YtjedahcpkcgpeaaGreatDoorH18
import Derived.Test.YtjedahcpkcgpeaaGreatDoorH19
import Derived.Test.YtjedahcpkcgpeaaGreatDoorH20
import Derived.Defers
import Derived.Recover
import Derived.Laws.Pointers
import Derived.Test.YtjedahcpkcgpeaaGreatDoorH8
/-
  Walks of layer 4: all readers at once.
-/
namespace Go.Proofs.YtjedahcpkcgpeaaGreatDoor
open Go Go.RowKit
set_option linter.unusedSimpArgs false
theorem Pl.brack_len {l : List Pl.Tok} {num : Pl.Bytes → Int} {i j : Nat} {ts : List Pl.Syn} (h : (Pl.full l num).brack i = .ok ts j) : 1 ≤ ts.length := by
  rw [Pl.full_brack, Pl.brackB] at h
  split at h
  · cases hq : Pl.mpath l (i + 1) with
    | bad q => rw [hq, Pl.PR.then_bad] at h; cases h
    | ok ns q => rw [hq, Pl.PR.then_ok] at h; injection h with h1 h2; subst h1; exact Nat.le_refl _
  · exact (Pl.sepd_len (fun j => (Pl.full_goes l num).typ j) h).1
theorem Pl.simp_len {l : List Pl.Tok} {num : Pl.Bytes → Int} {i j : Nat} {ts : List Pl.Syn} (h : (Pl.full l num).simp i = .ok ts j) : 1 ≤ ts.length ∧ i + 1 ≤ j := by
  refine ⟨?_, (Pl.full_goes l num).simp i _ _ h⟩
  rw [Pl.full_simp, Pl.simpB] at h
  split at h
  · injection h with h1 h2; subst h1; exact Nat.le_refl _
  split at h
  · cases hq : (Pl.full l num).brack (i + 1) with
    | bad q => rw [hq, Pl.PR.then_bad] at h; cases h
    | ok us q =>
      rw [hq, Pl.PR.then_ok] at h
      cases hn : Pl.needT l [41] q with
      | bad q => rw [hn, Pl.PR.then_bad] at h; cases h
      | ok u q => rw [hn, Pl.PR.then_ok] at h; injection h with h1 h2; subst h1; exact Pl.brack_len hq
  · cases hq : Pl.tpath l i with
    | bad q => rw [hq, Pl.PR.then_bad] at h; cases h
    | ok ns q => rw [hq, Pl.PR.then_ok] at h; injection h with h1 h2; subst h1; exact Nat.le_refl _
structure ReadsAt (s : Src) (g i : Nat) : Prop where
  typ : ∀ W, PAt W g s i → Calls Tryz.prog 39 #[.pointer (some ⟨g, 0, none⟩)] W (TreeOut s g ((Pl.full s.ts numOfText).typ i) W)
  prod : ∀ W, PAt W g s i → Calls Tryz.prog 68 #[.pointer (some ⟨g, 0, none⟩)] W (TreeOut s g ((Pl.full s.ts numOfText).prod i) W)
  post : ∀ W, PAt W g s i → Calls Tryz.prog 114 #[.pointer (some ⟨g, 0, none⟩)] W (TreeOut s g ((Pl.full s.ts numOfText).post i) W)
  pat : ∀ W, PAt W g s i → Calls Tryz.prog 40 #[.pointer (some ⟨g, 0, none⟩)] W (TreeOut s g ((Pl.full s.ts numOfText).pat i) W)
  arg : ∀ W, PAt W g s i → Calls Tryz.prog 70 #[.pointer (some ⟨g, 0, none⟩)] W (TreeOut s g ((Pl.full s.ts numOfText).arg i) W)
  comps : ∀ W, PAt W g s i → Calls Tryz.prog 116 #[.pointer (some ⟨g, 0, none⟩)] W (TreeOut s g ((Pl.full s.ts numOfText).comps i) W)
  expr : ∀ W, PAt W g s i → Calls Tryz.prog 38 #[.pointer (some ⟨g, 0, none⟩)] W (TreeOut s g ((Pl.full s.ts numOfText).expr i) W)
  neg : ∀ W, PAt W g s i → Calls Tryz.prog 110 #[.pointer (some ⟨g, 0, none⟩)] W (TreeOut s g ((Pl.full s.ts numOfText).neg i) W)
  app : ∀ W, PAt W g s i → Calls Tryz.prog 137 #[.pointer (some ⟨g, 0, none⟩)] W (TreeOut s g ((Pl.full s.ts numOfText).app i) W)
  atom : ∀ W, PAt W g s i → Calls Tryz.prog 147 #[.pointer (some ⟨g, 0, none⟩)] W (TreeOut s g ((Pl.full s.ts numOfText).atom i) W)
  encl : ∀ W, PAt W g s i → Calls Tryz.prog 153 #[.pointer (some ⟨g, 0, none⟩)] W (TreeOut s g ((Pl.full s.ts numOfText).encl i) W)
  cont : ∀ W, PAt W g s i → Calls Tryz.prog 162 #[.pointer (some ⟨g, 0, none⟩)] W (TreeOut s g ((Pl.full s.ts numOfText).cont i) W)
  letE : ∀ W, PAt W g s i → Calls Tryz.prog 154 #[.pointer (some ⟨g, 0, none⟩)] W (TreeOut s g ((Pl.full s.ts numOfText).letE i) W)
  matchE : ∀ W, PAt W g s i → Calls Tryz.prog 155 #[.pointer (some ⟨g, 0, none⟩)] W (TreeOut s g ((Pl.full s.ts numOfText).matchE i) W)
  rule : ∀ W, PAt W g s i → Calls Tryz.prog 164 #[.pointer (some ⟨g, 0, none⟩)] W (TreeOut s g ((Pl.full s.ts numOfText).rule i) W)
  decl : ∀ W, PAt W g s i → Calls Tryz.prog 163 #[.pointer (some ⟨g, 0, none⟩)] W (TreeOut s g ((Pl.full s.ts numOfText).decl i) W)
  named : ∀ W, PAt W g s i → Calls Tryz.prog 170 #[.pointer (some ⟨g, 0, none⟩)] W (TreeOut s g ((Pl.full s.ts numOfText).named i) W)
  unpk : ∀ W, PAt W g s i → Calls Tryz.prog 171 #[.pointer (some ⟨g, 0, none⟩)] W (TreeOut s g ((Pl.full s.ts numOfText).unpk i) W)
  simp : ∀ W, PAt W g s i → Calls Tryz.prog 138 #[.pointer (some ⟨g, 0, none⟩)] W (TreesOut s g ((Pl.full s.ts numOfText).simp i) W)
  brack : ∀ W, PAt W g s i → Calls Tryz.prog 149 #[.pointer (some ⟨g, 0, none⟩)] W (TreesOut s g ((Pl.full s.ts numOfText).brack i) W)
  oper : ∀ (q : Nat) W, 1 ≤ q → PAt W g s i → Calls Tryz.prog 67 #[.pointer (some ⟨g, 0, none⟩), .int .i64 (q : Int)] W (TreeOut s g ((Pl.full s.ts numOfText).oper q i) W)
theorem reads_at (s : Src) (g : Nat) (hn : NumsOk s) (hbig : s.ts.length ≤ 536870912) : ∀ d i, s.ts.length - i ≤ d → i ≤ s.ts.length → ReadsAt s g i := by
  intro d
  induction d using Nat.strongRecOn with
  | _ d ih =>
    intro i hd hi
    have up : ∀ j, i < j → j ≤ s.ts.length → ReadsAt s g j := fun j h1 h2 => ih (s.ts.length - j) (by omega) j (Nat.le_refl _) h2
    have G := Pl.full_goes s.ts numOfText
    have harg : ∀ W, PAt W g s i → Calls Tryz.prog 70 #[.pointer (some ⟨g, 0, none⟩)] W (TreeOut s g ((Pl.full s.ts numOfText).arg i) W) := fun W hW => by
      rw [Pl.full_arg]
      exact pargument_any s g i _ (fun W j h hW => (up j h hW.inn).comps W hW) hn W hW hbig
    have hpat : ∀ W, PAt W g s i → Calls Tryz.prog 40 #[.pointer (some ⟨g, 0, none⟩)] W (TreeOut s g ((Pl.full s.ts numOfText).pat i) W) := fun W hW => by
      rw [Pl.full_pat]
      exact ppattern_any s g i _ (fun W j h hW => (Nat.eq_or_lt_of_le h).elim (fun e => by subst e; exact harg W hW) (fun h => (up j h hW.inn).arg W hW)) W hW hbig
    have hcomps : ∀ W, PAt W g s i → Calls Tryz.prog 116 #[.pointer (some ⟨g, 0, none⟩)] W (TreeOut s g ((Pl.full s.ts numOfText).comps i) W) := fun W hW => by
      rw [Pl.full_comps]
      exact pcomponents_any s g i _ (fun W j h hW => (Nat.eq_or_lt_of_le h).elim (fun e => by subst e; exact hpat W hW) (fun h => (up j h hW.inn).pat W hW)) G W hW hbig
    have hsimp : ∀ W, PAt W g s i → Calls Tryz.prog 138 #[.pointer (some ⟨g, 0, none⟩)] W (TreesOut s g ((Pl.full s.ts numOfText).simp i) W) := fun W hW => by
      rw [Pl.full_simp]
      exact psimple_any s g i _ (fun W j h hW => (up j h hW.inn).brack W hW) W hW hbig
    have hpost : ∀ W, PAt W g s i → Calls Tryz.prog 114 #[.pointer (some ⟨g, 0, none⟩)] W (TreeOut s g ((Pl.full s.ts numOfText).post i) W) := fun W hW => by
      rw [Pl.full_post]
      exact ppostfix_any s g i _ hsimp (fun ts j h => Pl.simp_len h) W hW hbig
    have hprod : ∀ W, PAt W g s i → Calls Tryz.prog 68 #[.pointer (some ⟨g, 0, none⟩)] W (TreeOut s g ((Pl.full s.ts numOfText).prod i) W) := fun W hW => by
      rw [Pl.full_prod]
      exact pproduct_any s g i _ (fun j t m h => G.post j t m h) (fun W j h hW => (Nat.eq_or_lt_of_le h).elim (fun e => by subst e; exact hpost W hW) (fun h => (up j h hW.inn).post W hW)) W hW hbig
    have htyp : ∀ W, PAt W g s i → Calls Tryz.prog 39 #[.pointer (some ⟨g, 0, none⟩)] W (TreeOut s g ((Pl.full s.ts numOfText).typ i) W) := fun W hW => by
      rw [Pl.full_typ]
      exact ptyp_any s g i _ _ (fun W hW => hprod W hW) (fun t j h => G.prod i t j h) (fun W j h hW => (up j h hW.inn).typ W hW) W hW
    have hbrack : ∀ W, PAt W g s i → Calls Tryz.prog 149 #[.pointer (some ⟨g, 0, none⟩)] W (TreesOut s g ((Pl.full s.ts numOfText).brack i) W) := fun W hW => by
      rw [Pl.full_brack]
      exact pbracketed_any s g i _ (fun W j h hW => (Nat.eq_or_lt_of_le h).elim (fun e => by subst e; exact htyp W hW) (fun h => (up j h hW.inn).typ W hW)) G W hW hbig
    have hatom : ∀ W, PAt W g s i → Calls Tryz.prog 147 #[.pointer (some ⟨g, 0, none⟩)] W (TreeOut s g ((Pl.full s.ts numOfText).atom i) W) := fun W hW => by
      rw [Pl.full_atom]
      exact patom_any s g i _ (fun W j h hW => (up j h hW.inn).encl W hW) (fun W j h hW => (up j h hW.inn).letE W hW) (fun W j h hW => (up j h hW.inn).matchE W hW) hn W hW hbig
    have happ : ∀ W, PAt W g s i → Calls Tryz.prog 137 #[.pointer (some ⟨g, 0, none⟩)] W (TreeOut s g ((Pl.full s.ts numOfText).app i) W) := fun W hW => by
      rw [Pl.full_app]
      exact papplication_any s g i _ (fun W j h hW => (Nat.eq_or_lt_of_le h).elim (fun e => by subst e; exact hatom W hW) (fun h => (up j h hW.inn).atom W hW)) G W hW
    have hneg : ∀ W, PAt W g s i → Calls Tryz.prog 110 #[.pointer (some ⟨g, 0, none⟩)] W (TreeOut s g ((Pl.full s.ts numOfText).neg i) W) := fun W hW => by
      rw [Pl.full_neg]
      exact pnegation_any s g i _ _ (fun W hW => (up (i + 1) (Nat.lt_succ_self i) hW.inn).neg W hW) happ W hW
    have hoper : ∀ (q : Nat) W, 1 ≤ q → PAt W g s i → Calls Tryz.prog 67 #[.pointer (some ⟨g, 0, none⟩), .int .i64 (q : Int)] W (TreeOut s g ((Pl.full s.ts numOfText).oper q i) W) := fun q W hq hW => by
      rw [Pl.full_oper]
      exact poperation_any s g i q _ hneg (fun W p j h hp hW => (up j h hW.inn).oper p W hp hW) G hq W hW
    have hexpr : ∀ W, PAt W g s i → Calls Tryz.prog 38 #[.pointer (some ⟨g, 0, none⟩)] W (TreeOut s g ((Pl.full s.ts numOfText).expr i) W) := fun W hW => by
      rw [Pl.full_expr]
      exact pexpression_any s g i _ (fun W j h hW => pfunction_any s g j _ (fun W k hk hW => (up k (Nat.lt_trans h hk) hW.inn).expr W hW) W hW) (fun W j h hW => pchoice_any s g j _ (fun W k hk hW => (up k (Nat.lt_of_lt_of_le h hk) hW.inn).expr W hW) G W hW) (fun W hW => hoper 1 W (Nat.le_refl _) hW) W hW
    have hcont : ∀ W, PAt W g s i → Calls Tryz.prog 162 #[.pointer (some ⟨g, 0, none⟩)] W (TreeOut s g ((Pl.full s.ts numOfText).cont i) W) := fun W hW => by
      rw [Pl.full_cont]
      exact pcontents_any s g i _ (fun W j h hW => (Nat.eq_or_lt_of_le h).elim (fun e => by subst e; exact hexpr W hW) (fun h => (up j h hW.inn).expr W hW)) (fun W j h hW => (up j h hW.inn).typ W hW) G W hW hbig
    have hencl : ∀ W, PAt W g s i → Calls Tryz.prog 153 #[.pointer (some ⟨g, 0, none⟩)] W (TreeOut s g ((Pl.full s.ts numOfText).encl i) W) := fun W hW => by
      rw [Pl.full_encl]
      exact penclosed_any s g i _ hcont W hW
    have hrule : ∀ W, PAt W g s i → Calls Tryz.prog 164 #[.pointer (some ⟨g, 0, none⟩)] W (TreeOut s g ((Pl.full s.ts numOfText).rule i) W) := fun W hW => by
      rw [Pl.full_rule]
      exact prule_any s g i _ _ (fun W hW => hpat W hW) (fun t j h => G.pat i t j h) (fun W j h hW => (up j h hW.inn).expr W hW) W hW
    have hdecl : ∀ W, PAt W g s i → Calls Tryz.prog 163 #[.pointer (some ⟨g, 0, none⟩)] W (TreeOut s g ((Pl.full s.ts numOfText).decl i) W) := fun W hW => by
      rw [Pl.full_decl]
      exact pdeclaration_any s g i _ (fun W j h hW => (up j h hW.inn).expr W hW) (fun W j h hW => (up j h hW.inn).named W hW) (fun W j h hW => (up j h hW.inn).unpk W hW) W hW
    have hlet : ∀ W, PAt W g s i → Calls Tryz.prog 154 #[.pointer (some ⟨g, 0, none⟩)] W (TreeOut s g ((Pl.full s.ts numOfText).letE i) W) := fun W hW => by
      rw [Pl.full_letE]
      exact plet_any s g i _ (fun W j h hW => (Nat.eq_or_lt_of_le h).elim (fun e => by subst e; exact hdecl W hW) (fun h => (up j h hW.inn).decl W hW)) (fun W j h hW => (Nat.eq_or_lt_of_le h).elim (fun e => by subst e; exact hexpr W hW) (fun h => (up j h hW.inn).expr W hW)) G W hW hbig
    have hmatch : ∀ W, PAt W g s i → Calls Tryz.prog 155 #[.pointer (some ⟨g, 0, none⟩)] W (TreeOut s g ((Pl.full s.ts numOfText).matchE i) W) := fun W hW => by
      rw [Pl.full_matchE]
      exact pmatch_any s g i _ (fun W j h hW => (Nat.eq_or_lt_of_le h).elim (fun e => by subst e; exact hexpr W hW) (fun h => (up j h hW.inn).expr W hW)) (fun W j h hW => (Nat.eq_or_lt_of_le h).elim (fun e => by subst e; exact hrule W hW) (fun h => (up j h hW.inn).rule W hW)) G W hW hbig
    have hnamed : ∀ W, PAt W g s i → Calls Tryz.prog 170 #[.pointer (some ⟨g, 0, none⟩)] W (TreeOut s g ((Pl.full s.ts numOfText).named i) W) := fun W hW => by
      rw [Pl.full_named]
      exact pnamed_any s g i _ (fun W j h hW => (up j h hW.inn).expr W hW) G W hW hbig
    have hunpk : ∀ W, PAt W g s i → Calls Tryz.prog 171 #[.pointer (some ⟨g, 0, none⟩)] W (TreeOut s g ((Pl.full s.ts numOfText).unpk i) W) := fun W hW => by
      rw [Pl.full_unpk]
      exact punpacked_any s g i _ (fun W j h hW => (up j h hW.inn).atom W hW) G W hW hbig
    exact ⟨htyp, hprod, hpost, hpat, harg, hcomps, hexpr, hneg, happ, hatom, hencl, hcont, hlet, hmatch, hrule, hdecl, hnamed, hunpk, hsimp, hbrack, hoper⟩
theorem reads_all (s : Src) (g i : Nat) (hn : NumsOk s) (hbig : s.ts.length ≤ 536870912) (hi : i ≤ s.ts.length) : ReadsAt s g i := reads_at s g hn hbig _ i (Nat.le_refl _) hi
end Go.Proofs.YtjedahcpkcgpeaaGreatDoor

/-
  Walks of layer 4: what recovers a fault.
-/
namespace Go.Proofs.YtjedahcpkcgpeaaGreatDoor
open Go Go.RowKit
set_option linter.unusedSimpArgs false
theorem wp_hide {P : Program} {c : Code} {Q : Exit → Act → World → Prop} {a : Act} {w : World} (h : ∀ Q', Q' = Q → c.wp P Q' a w) : c.wp P Q a w := h Q rfl
set_option maxRecDepth 100000 in
set_option maxHeartbeats 4000000 in
theorem pcatch_idle (p q r : Value) (w : World) : CallsD Tryz.prog 105 #[p, q, r] .returning w fun e u' w' => e = .returned (.tuple #[]) ∧ u' = .returning ∧ w' = w := by
  refine callsD_of_wpS Tryz.func105 rfl fun c₀ cs hu => ?_
  apply wpS_seq
  apply wpS_region
  simp [wpOpsS, go_sem, recoverD, hu, Tryz.ntmps105, Exit.thenS]
  rw [show (#[p, q, r] ++ ((Array.replicate 19 undef).setIfInBounds 3 Value.nilIface).setIfInBounds 0 Value.nilIface : Array Value) = #[p, q, r, .nilIface, undef, undef, .nilIface, undef, undef, undef, undef, undef, undef, undef, undef, undef, undef, undef, undef, undef, undef, undef] from by kernel_rfl]
  refine wpS_of_wp (wp_hide fun Q hQ => ?_)
  have HU := Lib.hid hu
  have HQ := Lib.hid hQ
  clear hu hQ
  go_wp2_with fail
  have hu := HU.out
  rw [HQ.out]
  refine ⟨rfl, .returning, ?_, .tuple #[], by simp [results, Tryz.results105, go_sem], rfl, rfl, rfl⟩
  cases c₀
  simp_all
theorem set_one {w : World} {g : Nat} {T : TypeId} {a : Value} (h : Blk w g T #[a]) (v : Value) : Blk (w.setCell ⟨g, 0, none⟩ v) g T #[v] := by
  have := h.set 0 v
  simpa using this
theorem one_cell {w : World} {g : Nat} {T : TypeId} {a : Value} (h : Blk w g T #[a]) : w.cell? ⟨g, 0, none⟩ = some a := h.cell 0 _ rfl
set_option maxRecDepth 100000 in
set_option maxHeartbeats 4000000 in
theorem pcatch_fault (b0 b1 b2 : Nat) (at' code : Int) (older : List PanicEntry) (w : World) {y0 y1 y2 y3 y4 y5 y6 : Value} (h01 : b0 < b1) (h12 : b1 < b2) (h0 : Blk w b0 27 #[y0, y1, y2, y3, y4]) (h1 : Blk w b1 3 #[y5]) (h2 : Blk w b2 30 #[y6]) :
    CallsD Tryz.prog 105 #[.pointer (some ⟨b0, 0, none⟩), .pointer (some ⟨b1, 0, none⟩), .pointer (some ⟨b2, 0, none⟩)] (.panicking ({ v := .iface 113 (.agg #[.int .i64 at', .int .i64 code]), recovered := false } :: older)) w fun e u' w' =>
      e = .returned (.tuple #[]) ∧ u' = .panicking ({ v := .iface 113 (.agg #[.int .i64 at', .int .i64 code]), recovered := true } :: older) ∧ Blk w' b0 27 #[.int .i64 0, .int .i64 0, .string ⟨#[]⟩, .slice none 0 0, .slice none 0 0] ∧ Blk w' b1 3 #[.int .i64 at'] ∧ Blk w' b2 30 #[.int .i64 code] ∧ Below b0 w w' := by
  have HH := Lib.hid (⟨h0, h1, h2⟩ : Blk w b0 _ _ ∧ Blk w b1 _ _ ∧ Blk w b2 _ _)
  have hnew := fr_new b0 w (.cells #[.int .i64 at', .int .i64 code] 113)
  have hbn := blk_new w #[.int .i64 at', .int .i64 code] 113
  have hlt := h2.lt
  have k0 := blk_fr h0 (show b0 ≠ w.heap.size by omega) (fr_new w.heap.size w (.cells #[.int .i64 at', .int .i64 code] 113))
  have k1 := blk_fr h1 (show b1 ≠ w.heap.size by omega) (fr_new w.heap.size w (.cells #[.int .i64 at', .int .i64 code] 113))
  have k2 := blk_fr h2 (show b2 ≠ w.heap.size by omega) (fr_new w.heap.size w (.cells #[.int .i64 at', .int .i64 code] 113))
  obtain ⟨c0, c1, c2, c3, c4⟩ := five_cells k0
  have c5 := one_cell k1
  have c6 := one_cell k2
  have f0 := k0.thaw 0
  have f1 := k0.thaw 1
  have f2 := k0.thaw 2
  have f3 := k0.thaw 3
  have f4 := k0.thaw 4
  have f5 := k1.thaw 0
  have f6 := k2.thaw 0
  have m0 : World.cell? _ ⟨w.heap.size, 0, none⟩ = some (.int .i64 at') := hbn.cell 0 _ rfl
  have m1 : World.cell? _ ⟨w.heap.size, 1, none⟩ = some (.int .i64 code) := hbn.cell 1 _ rfl
  have n0 : ¬ b0 = b1 := by omega
  have n1 : ¬ b0 = b2 := by omega
  have n2 : ¬ b1 = b2 := by omega
  have n3 : ¬ b1 = b0 := by omega
  have n4 : ¬ b2 = b0 := by omega
  have n5 : ¬ b2 = b1 := by omega
  have n6 : ¬ w.heap.size = b0 := by omega
  have n7 : ¬ w.heap.size = b1 := by omega
  have n8 : ¬ w.heap.size = b2 := by omega
  have hta : ∀ W, Sem.run Tryz.prog (Instr.typeAssert (.iface 113 (.agg #[.int .i64 at', .int .i64 code])) 20 113 true) W = .ok (.tuple #[.agg #[.int .i64 at', .int .i64 code], .bool true]) W := fun _ => rfl
  clear hnew hbn h0 h1 h2
  refine callsD_of_wpS Tryz.func105 rfl fun c₀ cs hu => ?_
  apply wpS_seq
  apply wpS_region
  simp [wpOpsS, go_sem, recoverD, hu, Tryz.ntmps105, Exit.thenS]
  rw [show (#[.pointer (some ⟨b0, 0, none⟩), .pointer (some ⟨b1, 0, none⟩), .pointer (some ⟨b2, 0, none⟩)] ++ ((Array.replicate 19 undef).setIfInBounds 3 (.iface 113 (.agg #[.int .i64 at', .int .i64 code]))).setIfInBounds 0 (.iface 113 (.agg #[.int .i64 at', .int .i64 code])) : Array Value) = #[.pointer (some ⟨b0, 0, none⟩), .pointer (some ⟨b1, 0, none⟩), .pointer (some ⟨b2, 0, none⟩), .iface 113 (.agg #[.int .i64 at', .int .i64 code]), undef, undef, .iface 113 (.agg #[.int .i64 at', .int .i64 code]), undef, undef, undef, undef, undef, undef, undef, undef, undef, undef, undef, undef, undef, undef, undef] from by kernel_rfl]
  refine wpS_of_wp (wp_hide fun Q hQ => ?_)
  have HU := Lib.hid hu
  have HQ := Lib.hid hQ
  clear hu hQ
  go_wp2_with fail
  have HK := Lib.hid (⟨k0, k1, k2⟩ : Blk _ b0 _ _ ∧ Blk _ b1 _ _ ∧ Blk _ b2 _ _)
  have HB := Lib.hid (show Below b0 w (w.alloc (.cells #[.int .i64 at', .int .i64 code] 113)) from (Below.refl _ _).alloc (by omega) _)
  clear k0 k1 k2 HH hta
  generalize w.alloc (.cells #[.int .i64 at', .int .i64 code] 113) = wa at *
  go_region
  all_goals
    go_wp2_with fail
    rw [HQ.out]
    refine ⟨rfl, _, rfl, .tuple #[], by simp [results, Tryz.results105, go_sem], rfl, rfl, ?_⟩
    have q0 := blk_fr (blk_fr (putFive_blk HK.out.1 (.int .i64 0) (.int .i64 0) (.string ⟨#[]⟩) (.slice none 0 0) (.slice none 0 0)) n0 (fr_put _ b1 0 (.int .i64 at'))) n1 (fr_put _ b2 0 (.int .i64 code))
    have q1 := blk_fr (set_one (blk_fr HK.out.2.1 n3 (fr_putFive wa b0 (.int .i64 0) (.int .i64 0) (.string ⟨#[]⟩) (.slice none 0 0) (.slice none 0 0))) (.int .i64 at')) n2 (fr_put _ b2 0 (.int .i64 code))
    have q2 := set_one (blk_fr (blk_fr HK.out.2.2 n4 (fr_putFive wa b0 (.int .i64 0) (.int .i64 0) (.string ⟨#[]⟩) (.slice none 0 0) (.slice none 0 0))) n5 (fr_put _ b1 0 (.int .i64 at'))) (.int .i64 code)
    have q3 := (((putFive_below HB.out (Nat.le_refl b0) (.int .i64 0) (.int .i64 0) (.string ⟨#[]⟩) (.slice none 0 0) (.slice none 0 0)).setCell (p := ⟨b1, 0, none⟩) (show b0 ≤ b1 by omega) (.int .i64 at')).setCell (p := ⟨b2, 0, none⟩) (show b0 ≤ b2 by omega) (.int .i64 code)).drew
    unfold putFive at q0 q1 q2 q3
    exact ⟨q0.drew, q1.drew, q2.drew, q3⟩
end Go.Proofs.YtjedahcpkcgpeaaGreatDoor

/-
  Plain mathematics of layer 4: what is read is no bigger than three times its tokens. No program.
-/
namespace Go.Proofs.YtjedahcpkcgpeaaGreatDoor.Pl
open Go
set_option linter.unusedSimpArgs false
def Sm {α : Type} (r : PR α) (a : Nat) (m : α → Nat) : Prop := ∀ v j, r = .ok v j → m v + 3 * a ≤ 3 * j
section
variable {α β : Type} {r : PR α} {a b : Nat} {m : α → Nat}
theorem Sm.bad (i a : Nat) : Sm (PR.bad i : PR α) a m := fun _ _ h => by cases h
theorem Sm.ok {v : α} {i : Nat} (h : m v + 3 * a ≤ 3 * i) : Sm (PR.ok v i) a m := fun _ _ e => by injection e with e1 e2; subst e1 e2; exact h
theorem Sm.mono (h : Sm r b m) (hab : a ≤ b) : Sm r a m := fun v j e => Nat.le_trans (by omega) (h v j e)
theorem Sm.next {m' : β → Nat} {f : α → Nat → PR β} (h : Sm r b m) (k : ∀ v j, m v + 3 * b ≤ 3 * j → Sm (f v j) a m') : Sm (r.then f) a m' := by
  cases r with
  | bad i => exact Sm.bad i a
  | ok v i => exact k v i (h v i rfl)
theorem Sm.ite {p : Prop} [Decidable p] {s : PR α} (h : Sm r a m) (k : Sm s a m) : Sm (if p then r else s) a m := by split <;> assumption
end
abbrev mT (t : Syn) : Nat := t.big + 1
abbrev mL (ts : List Syn) : Nat := max 2 (bigs ts + ts.length)
abbrev mN (ns : List ByteArray) : Nat := 2 * ns.length + 1
theorem big_nd (op : Int) (l : List Syn) : (nd op l).big = 1 + bigs l := by rw [big_eq]; rfl
theorem big_ndNames (op : Int) (ns : List ByteArray) (l : List Syn) : (ndNames op ns l).big = 1 + ns.length + bigs l := by rw [big_eq]; rfl
theorem big_ndText (op : Int) (s : Bytes) : (ndText op s).big = 1 := by rw [big_eq]; rfl
theorem big_ndNum (op n : Int) : (ndNum op n).big = 1 := by rw [big_eq]; rfl
theorem big_node (op n : Int) (s : ByteArray) (ns : List ByteArray) (l : List Syn) : (⟨op, n, s, ns, l⟩ : Syn).big = 1 + ns.length + bigs l := big_eq _
theorem bigs_two (t u : Syn) : bigs [t, u] = t.big + u.big := by rw [bigs_cons, bigs_cons, bigs_nil]; omega
theorem bigs_one (t : Syn) : bigs [t] = t.big := by rw [bigs_cons, bigs_nil]; omega
theorem bigs_three (t u v : Syn) : bigs [t, u, v] = t.big + u.big + v.big := by rw [bigs_cons, bigs_two]; omega
theorem big_one (t : Syn) : 1 ≤ t.big := by rw [big_eq]; omega
theorem tuple_big (op : Int) (ts : List Syn) : mT (tupleOf op ts) ≤ mL ts := by
  match ts with
  | [] => unfold tupleOf mT mL; rw [big_nd, bigs_nil]; simp
  | [t] => unfold tupleOf mT mL; rw [bigs_one]; simp; omega
  | t :: u :: r => unfold tupleOf mT mL; rw [big_nd]; simp only [List.length_cons]; omega
theorem head_big (ts : List Syn) : mT (ts.headD none0) ≤ mL ts := by
  match ts with
  | [] => unfold mT mL; simp [none0, big_eq, bigs_nil]
  | t :: r => unfold mT mL; rw [List.headD_cons, bigs_cons]; simp only [List.length_cons]; omega
theorem sm_take (l : List Tok) (k : Int) (i : Nat) : Sm (takeK l k i) i (fun _ => 3) := by unfold takeK; exact (Sm.ok (by omega)).ite (Sm.bad _ _)
theorem sm_need (l : List Tok) (b : Bytes) (i : Nat) : Sm (needT l b i) i (fun _ => 3) := by unfold needT; exact (Sm.ok (by omega)).ite (Sm.bad _ _)
theorem sm_mpMore (l : List Tok) : ∀ (n : Nat) (acc : List ByteArray) (i a : Nat), mN acc + 3 * a ≤ 3 * i → Sm (mpMore l n acc i) a mN := by
  intro n
  induction n with
  | zero => intro acc i a h; rw [mpMore]; exact Sm.bad _ _
  | succ n ih =>
    intro acc i a h
    rw [mpMore]
    exact ((sm_take l 2 (i + 1)).next fun _ j hj => ih _ j a (by simp only [mN, List.length_append, List.length_singleton] at h ⊢; omega)).ite (Sm.ok h)
theorem sm_mpath (l : List Tok) (i : Nat) : Sm (mpath l i) i mN := (sm_take l 2 i).next fun _ j hj => sm_mpMore l _ _ j i (by simp only [mN, List.length_singleton]; omega)
theorem sm_tpMore (l : List Tok) : ∀ (n : Nat) (acc : List ByteArray) (i a : Nat), 2 * acc.length + 3 * a ≤ 3 * i → Sm (tpMore l n acc i) a mN := by
  intro n
  induction n with
  | zero => intro acc i a h; rw [tpMore]; exact Sm.bad _ _
  | succ n ih =>
    intro acc i a h
    rw [tpMore]
    exact ((sm_need l _ (i + 1)).next fun _ j hj => ih _ j a (by simp only [List.length_append, List.length_singleton]; omega)).ite ((sm_take l 1 i).next fun _ j hj => Sm.ok (by simp only [mN, List.length_append, List.length_singleton]; omega))
theorem sm_tpath (l : List Tok) (i : Nat) : Sm (tpath l i) i mN := sm_tpMore l _ _ i i (by simp)
theorem sm_vpMore (l : List Tok) : ∀ (n : Nat) (acc : List ByteArray) (i a : Nat), 2 * acc.length + 3 * a ≤ 3 * i → Sm (vpMore l n acc i) a mT := by
  intro n
  induction n with
  | zero => intro acc i a h; rw [vpMore]; exact Sm.bad _ _
  | succ n ih =>
    intro acc i a h
    rw [vpMore]
    refine Sm.ite (Sm.ite (ih _ (i + 2) a (by simp only [List.length_append, List.length_singleton]; omega)) (Sm.ok ?_)) ((sm_take l 1 i).next fun _ j hj => Sm.ok ?_)
    · simp only [mT, big_ndNames, bigs_nil, List.length_append, List.length_singleton]; omega
    · simp only [mT, big_ndNames, bigs_nil, List.length_append, List.length_singleton]; omega
theorem sm_vpath (l : List Tok) (i : Nat) : Sm (vpath l i) i mT := sm_vpMore l _ _ i i (by simp)
theorem sm_sig (l : List Tok) (i : Nat) : Sm (sigOf l i) i mT := (sm_mpath l i).next fun _ j hj => Sm.ok (by simp only [mT, mN, big_ndNames, bigs_nil] at hj ⊢; omega)
theorem sm_namesMore (l : List Tok) : ∀ (n : Nat) (acc : List ByteArray) (i a : Nat), mN acc + 3 * a ≤ 3 * i → Sm (namesMore l n acc i) a (fun ns => mN ns + 3) := by
  intro n
  induction n with
  | zero => intro acc i a h; rw [namesMore]; exact Sm.bad _ _
  | succ n ih =>
    intro acc i a h
    rw [namesMore]
    exact (Sm.ok (by omega)).ite ((sm_take l 1 i).next fun _ j hj => ih _ j a (by simp only [mN, List.length_append, List.length_singleton] at h ⊢; omega))
theorem sm_sepMore (l : List Tok) (b : Bytes) {read : Nat → PR Syn} (hr : ∀ i, Sm (read i) i mT) : ∀ (n : Nat) (acc : List Syn) (i a : Nat), mL acc + 3 * a ≤ 3 * i → Sm (sepMore l b read n acc i) a mL := by
  intro n
  induction n with
  | zero => intro acc i a h; rw [sepMore]; exact Sm.bad _ _
  | succ n ih =>
    intro acc i a h
    rw [sepMore]
    exact ((hr (i + 1)).next fun t j hj => ih _ j a (by simp only [mL, mT, List.length_append, List.length_singleton, bigs_app, bigs_one] at h hj ⊢; omega)).ite (Sm.ok h)
theorem sm_sepd (l : List Tok) (b : Bytes) {read : Nat → PR Syn} (hr : ∀ i, Sm (read i) i mT) (i : Nat) : Sm (sepd l b read i) i mL := (hr i).next fun t j hj => sm_sepMore l b hr _ _ j i (by simp only [mL, mT, List.length_singleton, bigs_one] at hj ⊢; have := big_one t; omega)
structure Smalls (F : Fs) : Prop where
  typ : ∀ i, Sm (F.typ i) i mT
  prod : ∀ i, Sm (F.prod i) i mT
  post : ∀ i, Sm (F.post i) i mT
  simp : ∀ i, Sm (F.simp i) i mL
  brack : ∀ i, Sm (F.brack i) i mL
  pat : ∀ i, Sm (F.pat i) i mT
  arg : ∀ i, Sm (F.arg i) i mT
  comps : ∀ i, Sm (F.comps i) i mT
  expr : ∀ i, Sm (F.expr i) i mT
  neg : ∀ i, Sm (F.neg i) i mT
  app : ∀ i, Sm (F.app i) i mT
  atom : ∀ i, Sm (F.atom i) i mT
  encl : ∀ i, Sm (F.encl i) i mT
  cont : ∀ i, Sm (F.cont i) i mT
  letE : ∀ i, Sm (F.letE i) i mT
  matchE : ∀ i, Sm (F.matchE i) i mT
  rule : ∀ i, Sm (F.rule i) i mT
  decl : ∀ i, Sm (F.decl i) i mT
  named : ∀ i, Sm (F.named i) i mT
  unpk : ∀ i, Sm (F.unpk i) i mT
  oper : ∀ q i, Sm (F.oper q i) i mT
section
variable {l : List Tok} {num : Bytes → Int} {F : Fs}
theorem sm_postMore : ∀ (n : Nat) (ts : List Syn) (i a : Nat), mL ts + 3 * a ≤ 3 * i → Sm (postMore l n ts i) a mT := by
  intro n
  induction n with
  | zero => intro acc i a h; rw [postMore]; exact Sm.bad _ _
  | succ n ih =>
    intro ts i a h
    rw [postMore]
    exact ((sm_tpath l i).next fun ns j hj => ih _ j a (by simp only [mL, mN, bigs_one, big_ndNames, List.length_singleton] at h hj ⊢; omega)).ite (Sm.ok (Nat.le_trans (Nat.add_le_add_right (head_big ts) _) h))
theorem sm_operMore (hF : Smalls F) : ∀ (n lo most : Nat) (t : Syn) (i a : Nat), mT t + 3 * a ≤ 3 * i → Sm (operMore l F n lo most t i) a mT := by
  intro n
  induction n with
  | zero => intro lo most t i a h; rw [operMore]; exact Sm.bad _ _
  | succ n ih =>
    intro lo most t i a h
    rw [operMore]
    exact (Sm.ok h).ite ((hF.oper _ (i + 1)).next fun u j hj => ih _ _ _ j a (by simp only [mT, big_node, bigs_two, List.length_nil] at h hj ⊢; omega))
theorem sm_appMore (hF : Smalls F) : ∀ (n : Nat) (t : Syn) (i a : Nat), mT t + 3 * a ≤ 3 * i → Sm (appMore l F n t i) a mT := by
  intro n
  induction n with
  | zero => intro t i a h; rw [appMore]; exact Sm.bad _ _
  | succ n ih =>
    intro t i a h
    rw [appMore]
    exact ((hF.atom i).next fun u j hj => ih _ j a (by simp only [mT, big_nd, bigs_two] at h hj ⊢; omega)).ite (Sm.ok h)
theorem sm_declMore (hF : Smalls F) : ∀ (n : Nat) (ts : List Syn) (i a : Nat), bigs ts + ts.length + 3 * a ≤ 3 * i → Sm (declMore l F n ts i) a (fun ts => bigs ts + ts.length + 3) := by
  intro n
  induction n with
  | zero => intro t i a h; rw [declMore]; exact Sm.bad _ _
  | succ n ih =>
    intro ts i a h
    rw [declMore]
    exact (Sm.ok (by omega)).ite ((hF.decl i).next fun u j hj => ih _ j a (by simp only [mT, List.length_append, List.length_singleton, bigs_app, bigs_one] at hj ⊢; omega))
theorem sm_fn (hF : Smalls F) (i : Nat) : Sm (fnB l F i) i mT := by
  unfold fnB
  repeat' (first | assumption | exact Sm.bad _ _ | (with_reducible refine Sm.ite ?_ ?_) | exact Sm.mono (sm_mpath _ _) (by omega) | exact Sm.mono (sm_tpath _ _) (by omega) | exact Sm.mono (sm_vpath _ _) (by omega) | exact Sm.mono (sm_sig _ _) (by omega) | exact Sm.mono (sm_sepd _ _ hF.post _) (by omega) | exact Sm.mono (sm_sepd _ _ hF.typ _) (by omega) | exact Sm.mono (sm_sepd _ _ hF.pat _) (by omega) | exact Sm.mono (sm_sepd _ _ hF.expr _) (by omega) | exact Sm.mono (sm_sepd _ _ hF.rule _) (by omega) | exact Sm.mono (hF.typ _) (by omega) | exact Sm.mono (hF.prod _) (by omega) | exact Sm.mono (hF.post _) (by omega) | exact Sm.mono (hF.simp _) (by omega) | exact Sm.mono (hF.brack _) (by omega) | exact Sm.mono (hF.pat _) (by omega) | exact Sm.mono (hF.arg _) (by omega) | exact Sm.mono (hF.comps _) (by omega) | exact Sm.mono (hF.expr _) (by omega) | exact Sm.mono (hF.neg _) (by omega) | exact Sm.mono (hF.app _) (by omega) | exact Sm.mono (hF.atom _) (by omega) | exact Sm.mono (hF.encl _) (by omega) | exact Sm.mono (hF.cont _) (by omega) | exact Sm.mono (hF.letE _) (by omega) | exact Sm.mono (hF.matchE _) (by omega) | exact Sm.mono (hF.rule _) (by omega) | exact Sm.mono (hF.decl _) (by omega) | exact Sm.mono (hF.named _) (by omega) | exact Sm.mono (hF.unpk _) (by omega) | exact Sm.mono (hF.oper _ _) (by omega) | (with_reducible refine Sm.next (sm_take _ _ _) fun v j hj => ?_) | (with_reducible refine Sm.next (sm_need _ _ _) fun v j hj => ?_) | (with_reducible refine Sm.next (sm_mpath _ _) fun v j hj => ?_) | (with_reducible refine Sm.next (sm_tpath _ _) fun v j hj => ?_) | (with_reducible refine Sm.next (sm_vpath _ _) fun v j hj => ?_) | (with_reducible refine Sm.next (sm_sig _ _) fun v j hj => ?_) | (with_reducible refine Sm.next (sm_sepd _ _ hF.post _) fun v j hj => ?_) | (with_reducible refine Sm.next (sm_sepd _ _ hF.typ _) fun v j hj => ?_) | (with_reducible refine Sm.next (sm_sepd _ _ hF.pat _) fun v j hj => ?_) | (with_reducible refine Sm.next (sm_sepd _ _ hF.expr _) fun v j hj => ?_) | (with_reducible refine Sm.next (sm_sepd _ _ hF.rule _) fun v j hj => ?_) | (with_reducible refine Sm.next (hF.typ _) fun v j hj => ?_) | (with_reducible refine Sm.next (hF.prod _) fun v j hj => ?_) | (with_reducible refine Sm.next (hF.post _) fun v j hj => ?_) | (with_reducible refine Sm.next (hF.simp _) fun v j hj => ?_) | (with_reducible refine Sm.next (hF.brack _) fun v j hj => ?_) | (with_reducible refine Sm.next (hF.pat _) fun v j hj => ?_) | (with_reducible refine Sm.next (hF.arg _) fun v j hj => ?_) | (with_reducible refine Sm.next (hF.comps _) fun v j hj => ?_) | (with_reducible refine Sm.next (hF.expr _) fun v j hj => ?_) | (with_reducible refine Sm.next (hF.neg _) fun v j hj => ?_) | (with_reducible refine Sm.next (hF.app _) fun v j hj => ?_) | (with_reducible refine Sm.next (hF.atom _) fun v j hj => ?_) | (with_reducible refine Sm.next (hF.encl _) fun v j hj => ?_) | (with_reducible refine Sm.next (hF.cont _) fun v j hj => ?_) | (with_reducible refine Sm.next (hF.letE _) fun v j hj => ?_) | (with_reducible refine Sm.next (hF.matchE _) fun v j hj => ?_) | (with_reducible refine Sm.next (hF.rule _) fun v j hj => ?_) | (with_reducible refine Sm.next (hF.decl _) fun v j hj => ?_) | (with_reducible refine Sm.next (hF.named _) fun v j hj => ?_) | (with_reducible refine Sm.next (hF.unpk _) fun v j hj => ?_) | (with_reducible refine Sm.next (hF.oper _ _) fun v j hj => ?_) | (with_reducible refine Sm.next (sm_namesMore _ _ _ _ _ (by simp only [mT, mL, mN, big_nd, big_ndNames, big_ndText, big_ndNum, big_node, bigs_nil, bigs_one, bigs_two, bigs_three, bigs_app, bigs_cons, List.length_append, List.length_singleton, List.length_nil, List.length_cons] at *; omega)) fun v j hj => ?_) | exact sm_postMore _ _ _ _ (by simp only [mL, mT, mN] at *; omega) | exact sm_operMore hF _ _ _ _ _ _ (by simp only [mL, mT, mN] at *; omega) | exact sm_appMore hF _ _ _ _ (by simp only [mL, mT, mN] at *; omega) | (with_reducible refine Sm.next (sm_declMore hF _ _ i i (by simp [bigs_nil])) fun v j hj => ?_) | exact Sm.ok (by simp only [mT, mL, mN, big_nd, big_ndNames, big_ndText, big_ndNum, big_node, bigs_nil, bigs_one, bigs_two, bigs_three, bigs_app, bigs_cons, List.length_append, List.length_singleton, List.length_nil, List.length_cons] at *; omega) | exact Sm.ok (Nat.le_trans (Nat.add_le_add_right (tuple_big _ _) _) (by simp only [mL, mT, mN] at *; omega)))
theorem sm_if (hF : Smalls F) (i : Nat) : Sm (ifB l F i) i mT := by
  unfold ifB
  repeat' (first | assumption | exact Sm.bad _ _ | (with_reducible refine Sm.ite ?_ ?_) | exact Sm.mono (sm_mpath _ _) (by omega) | exact Sm.mono (sm_tpath _ _) (by omega) | exact Sm.mono (sm_vpath _ _) (by omega) | exact Sm.mono (sm_sig _ _) (by omega) | exact Sm.mono (sm_sepd _ _ hF.post _) (by omega) | exact Sm.mono (sm_sepd _ _ hF.typ _) (by omega) | exact Sm.mono (sm_sepd _ _ hF.pat _) (by omega) | exact Sm.mono (sm_sepd _ _ hF.expr _) (by omega) | exact Sm.mono (sm_sepd _ _ hF.rule _) (by omega) | exact Sm.mono (hF.typ _) (by omega) | exact Sm.mono (hF.prod _) (by omega) | exact Sm.mono (hF.post _) (by omega) | exact Sm.mono (hF.simp _) (by omega) | exact Sm.mono (hF.brack _) (by omega) | exact Sm.mono (hF.pat _) (by omega) | exact Sm.mono (hF.arg _) (by omega) | exact Sm.mono (hF.comps _) (by omega) | exact Sm.mono (hF.expr _) (by omega) | exact Sm.mono (hF.neg _) (by omega) | exact Sm.mono (hF.app _) (by omega) | exact Sm.mono (hF.atom _) (by omega) | exact Sm.mono (hF.encl _) (by omega) | exact Sm.mono (hF.cont _) (by omega) | exact Sm.mono (hF.letE _) (by omega) | exact Sm.mono (hF.matchE _) (by omega) | exact Sm.mono (hF.rule _) (by omega) | exact Sm.mono (hF.decl _) (by omega) | exact Sm.mono (hF.named _) (by omega) | exact Sm.mono (hF.unpk _) (by omega) | exact Sm.mono (hF.oper _ _) (by omega) | (with_reducible refine Sm.next (sm_take _ _ _) fun v j hj => ?_) | (with_reducible refine Sm.next (sm_need _ _ _) fun v j hj => ?_) | (with_reducible refine Sm.next (sm_mpath _ _) fun v j hj => ?_) | (with_reducible refine Sm.next (sm_tpath _ _) fun v j hj => ?_) | (with_reducible refine Sm.next (sm_vpath _ _) fun v j hj => ?_) | (with_reducible refine Sm.next (sm_sig _ _) fun v j hj => ?_) | (with_reducible refine Sm.next (sm_sepd _ _ hF.post _) fun v j hj => ?_) | (with_reducible refine Sm.next (sm_sepd _ _ hF.typ _) fun v j hj => ?_) | (with_reducible refine Sm.next (sm_sepd _ _ hF.pat _) fun v j hj => ?_) | (with_reducible refine Sm.next (sm_sepd _ _ hF.expr _) fun v j hj => ?_) | (with_reducible refine Sm.next (sm_sepd _ _ hF.rule _) fun v j hj => ?_) | (with_reducible refine Sm.next (hF.typ _) fun v j hj => ?_) | (with_reducible refine Sm.next (hF.prod _) fun v j hj => ?_) | (with_reducible refine Sm.next (hF.post _) fun v j hj => ?_) | (with_reducible refine Sm.next (hF.simp _) fun v j hj => ?_) | (with_reducible refine Sm.next (hF.brack _) fun v j hj => ?_) | (with_reducible refine Sm.next (hF.pat _) fun v j hj => ?_) | (with_reducible refine Sm.next (hF.arg _) fun v j hj => ?_) | (with_reducible refine Sm.next (hF.comps _) fun v j hj => ?_) | (with_reducible refine Sm.next (hF.expr _) fun v j hj => ?_) | (with_reducible refine Sm.next (hF.neg _) fun v j hj => ?_) | (with_reducible refine Sm.next (hF.app _) fun v j hj => ?_) | (with_reducible refine Sm.next (hF.atom _) fun v j hj => ?_) | (with_reducible refine Sm.next (hF.encl _) fun v j hj => ?_) | (with_reducible refine Sm.next (hF.cont _) fun v j hj => ?_) | (with_reducible refine Sm.next (hF.letE _) fun v j hj => ?_) | (with_reducible refine Sm.next (hF.matchE _) fun v j hj => ?_) | (with_reducible refine Sm.next (hF.rule _) fun v j hj => ?_) | (with_reducible refine Sm.next (hF.decl _) fun v j hj => ?_) | (with_reducible refine Sm.next (hF.named _) fun v j hj => ?_) | (with_reducible refine Sm.next (hF.unpk _) fun v j hj => ?_) | (with_reducible refine Sm.next (hF.oper _ _) fun v j hj => ?_) | (with_reducible refine Sm.next (sm_namesMore _ _ _ _ _ (by simp only [mT, mL, mN, big_nd, big_ndNames, big_ndText, big_ndNum, big_node, bigs_nil, bigs_one, bigs_two, bigs_three, bigs_app, bigs_cons, List.length_append, List.length_singleton, List.length_nil, List.length_cons] at *; omega)) fun v j hj => ?_) | exact sm_postMore _ _ _ _ (by simp only [mL, mT, mN] at *; omega) | exact sm_operMore hF _ _ _ _ _ _ (by simp only [mL, mT, mN] at *; omega) | exact sm_appMore hF _ _ _ _ (by simp only [mL, mT, mN] at *; omega) | (with_reducible refine Sm.next (sm_declMore hF _ _ i i (by simp [bigs_nil])) fun v j hj => ?_) | exact Sm.ok (by simp only [mT, mL, mN, big_nd, big_ndNames, big_ndText, big_ndNum, big_node, bigs_nil, bigs_one, bigs_two, bigs_three, bigs_app, bigs_cons, List.length_append, List.length_singleton, List.length_nil, List.length_cons] at *; omega) | exact Sm.ok (Nat.le_trans (Nat.add_le_add_right (tuple_big _ _) _) (by simp only [mL, mT, mN] at *; omega)))
set_option maxHeartbeats 16000000 in
theorem smalls_all (hF : Smalls F) : (∀ i, Sm (typB l F i) i mT) ∧ (∀ i, Sm (prodB l F i) i mT) ∧ (∀ i, Sm (postB l F i) i mT) ∧ (∀ i, Sm (simpB l F i) i mL) ∧ (∀ i, Sm (brackB l F i) i mL) ∧ (∀ i, Sm (patB l F i) i mT) ∧ (∀ i, Sm (argB l num F i) i mT) ∧ (∀ i, Sm (compsB l F i) i mT) ∧ (∀ i, Sm (exprB l F i) i mT) ∧ (∀ i, Sm (negB l F i) i mT) ∧ (∀ i, Sm (appB l F i) i mT) ∧ (∀ i, Sm (atomB l num F i) i mT) ∧ (∀ i, Sm (enclB l F i) i mT) ∧ (∀ i, Sm (contB l F i) i mT) ∧ (∀ i, Sm (letB l F i) i mT) ∧ (∀ i, Sm (matchB l F i) i mT) ∧ (∀ i, Sm (ruleB l F i) i mT) ∧ (∀ i, Sm (declB l F i) i mT) ∧ (∀ i, Sm (namedB l F i) i mT) ∧ (∀ i, Sm (unpkB l F i) i mT) ∧ (∀ q i, Sm (operB l F q i) i mT) := by
  refine ⟨fun i => ?_, fun i => ?_, fun i => ?_, fun i => ?_, fun i => ?_, fun i => ?_, fun i => ?_, fun i => ?_, fun i => ?_, fun i => ?_, fun i => ?_, fun i => ?_, fun i => ?_, fun i => ?_, fun i => ?_, fun i => ?_, fun i => ?_, fun i => ?_, fun i => ?_, fun i => ?_, fun q i => ?_⟩
  all_goals first | unfold typB | unfold prodB | unfold postB | unfold simpB | unfold brackB | unfold patB | unfold argB | unfold compsB | unfold exprB | unfold negB | unfold appB | unfold atomB | unfold enclB | unfold contB | unfold letB | unfold matchB | unfold ruleB | unfold declB | unfold namedB | unfold unpkB | unfold operB
  all_goals repeat' (first | exact Sm.mono (sm_fn hF _) (by omega) | exact Sm.mono (sm_if hF _) (by omega) | assumption | exact Sm.bad _ _ | (with_reducible refine Sm.ite ?_ ?_) | exact Sm.mono (sm_mpath _ _) (by omega) | exact Sm.mono (sm_tpath _ _) (by omega) | exact Sm.mono (sm_vpath _ _) (by omega) | exact Sm.mono (sm_sig _ _) (by omega) | exact Sm.mono (sm_sepd _ _ hF.post _) (by omega) | exact Sm.mono (sm_sepd _ _ hF.typ _) (by omega) | exact Sm.mono (sm_sepd _ _ hF.pat _) (by omega) | exact Sm.mono (sm_sepd _ _ hF.expr _) (by omega) | exact Sm.mono (sm_sepd _ _ hF.rule _) (by omega) | exact Sm.mono (hF.typ _) (by omega) | exact Sm.mono (hF.prod _) (by omega) | exact Sm.mono (hF.post _) (by omega) | exact Sm.mono (hF.simp _) (by omega) | exact Sm.mono (hF.brack _) (by omega) | exact Sm.mono (hF.pat _) (by omega) | exact Sm.mono (hF.arg _) (by omega) | exact Sm.mono (hF.comps _) (by omega) | exact Sm.mono (hF.expr _) (by omega) | exact Sm.mono (hF.neg _) (by omega) | exact Sm.mono (hF.app _) (by omega) | exact Sm.mono (hF.atom _) (by omega) | exact Sm.mono (hF.encl _) (by omega) | exact Sm.mono (hF.cont _) (by omega) | exact Sm.mono (hF.letE _) (by omega) | exact Sm.mono (hF.matchE _) (by omega) | exact Sm.mono (hF.rule _) (by omega) | exact Sm.mono (hF.decl _) (by omega) | exact Sm.mono (hF.named _) (by omega) | exact Sm.mono (hF.unpk _) (by omega) | exact Sm.mono (hF.oper _ _) (by omega) | (with_reducible refine Sm.next (sm_take _ _ _) fun v j hj => ?_) | (with_reducible refine Sm.next (sm_need _ _ _) fun v j hj => ?_) | (with_reducible refine Sm.next (sm_mpath _ _) fun v j hj => ?_) | (with_reducible refine Sm.next (sm_tpath _ _) fun v j hj => ?_) | (with_reducible refine Sm.next (sm_vpath _ _) fun v j hj => ?_) | (with_reducible refine Sm.next (sm_sig _ _) fun v j hj => ?_) | (with_reducible refine Sm.next (sm_sepd _ _ hF.post _) fun v j hj => ?_) | (with_reducible refine Sm.next (sm_sepd _ _ hF.typ _) fun v j hj => ?_) | (with_reducible refine Sm.next (sm_sepd _ _ hF.pat _) fun v j hj => ?_) | (with_reducible refine Sm.next (sm_sepd _ _ hF.expr _) fun v j hj => ?_) | (with_reducible refine Sm.next (sm_sepd _ _ hF.rule _) fun v j hj => ?_) | (with_reducible refine Sm.next (hF.typ _) fun v j hj => ?_) | (with_reducible refine Sm.next (hF.prod _) fun v j hj => ?_) | (with_reducible refine Sm.next (hF.post _) fun v j hj => ?_) | (with_reducible refine Sm.next (hF.simp _) fun v j hj => ?_) | (with_reducible refine Sm.next (hF.brack _) fun v j hj => ?_) | (with_reducible refine Sm.next (hF.pat _) fun v j hj => ?_) | (with_reducible refine Sm.next (hF.arg _) fun v j hj => ?_) | (with_reducible refine Sm.next (hF.comps _) fun v j hj => ?_) | (with_reducible refine Sm.next (hF.expr _) fun v j hj => ?_) | (with_reducible refine Sm.next (hF.neg _) fun v j hj => ?_) | (with_reducible refine Sm.next (hF.app _) fun v j hj => ?_) | (with_reducible refine Sm.next (hF.atom _) fun v j hj => ?_) | (with_reducible refine Sm.next (hF.encl _) fun v j hj => ?_) | (with_reducible refine Sm.next (hF.cont _) fun v j hj => ?_) | (with_reducible refine Sm.next (hF.letE _) fun v j hj => ?_) | (with_reducible refine Sm.next (hF.matchE _) fun v j hj => ?_) | (with_reducible refine Sm.next (hF.rule _) fun v j hj => ?_) | (with_reducible refine Sm.next (hF.decl _) fun v j hj => ?_) | (with_reducible refine Sm.next (hF.named _) fun v j hj => ?_) | (with_reducible refine Sm.next (hF.unpk _) fun v j hj => ?_) | (with_reducible refine Sm.next (hF.oper _ _) fun v j hj => ?_) | (with_reducible refine Sm.next (sm_namesMore _ _ _ _ _ (by simp only [mT, mL, mN, big_nd, big_ndNames, big_ndText, big_ndNum, big_node, bigs_nil, bigs_one, bigs_two, bigs_three, bigs_app, bigs_cons, List.length_append, List.length_singleton, List.length_nil, List.length_cons] at *; omega)) fun v j hj => ?_) | exact sm_postMore _ _ _ _ (by simp only [mL, mT, mN] at *; omega) | exact sm_operMore hF _ _ _ _ _ _ (by simp only [mL, mT, mN] at *; omega) | exact sm_appMore hF _ _ _ _ (by simp only [mL, mT, mN] at *; omega) | (with_reducible refine Sm.next (sm_declMore hF _ _ i i (by simp [bigs_nil])) fun v j hj => ?_) | exact Sm.ok (by simp only [mT, mL, mN, big_nd, big_ndNames, big_ndText, big_ndNum, big_node, bigs_nil, bigs_one, bigs_two, bigs_three, bigs_app, bigs_cons, List.length_append, List.length_singleton, List.length_nil, List.length_cons] at *; omega) | exact Sm.ok (Nat.le_trans (Nat.add_le_add_right (tuple_big _ _) _) (by simp only [mL, mT, mN] at *; omega)))
theorem Smalls.deeper (hF : Smalls F) : Smalls (deeper l num F) := by
  obtain ⟨h0, h1, h2, h3, h4, h5, h6, h7, h8, h9, h10, h11, h12, h13, h14, h15, h16, h17, h18, h19, h20⟩ := smalls_all (num := num) hF
  exact ⟨h0, h1, h2, h3, h4, h5, h6, h7, h8, h9, h10, h11, h12, h13, h14, h15, h16, h17, h18, h19, h20⟩
theorem Smalls.none : Smalls noFs := by
  constructor
  all_goals (intros; exact Sm.bad _ _)
theorem smalls_depth (l : List Tok) (num : Bytes → Int) : ∀ n, Smalls (depthFs l num n) := by
  intro n
  induction n with
  | zero => exact Smalls.none
  | succ n ih => exact ih.deeper
theorem full_small (l : List Tok) (num : Bytes → Int) : Smalls (full l num) := smalls_depth l num _
end
end Go.Proofs.YtjedahcpkcgpeaaGreatDoor.Pl
