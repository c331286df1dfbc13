/-
  Walks and plain mathematics, several texts in one (Fa Fb).
-/
import Derived.Test.YtkmgnibopmpcjaaGreatDoorH20
import Derived.Test.YtkmgnibopmpcjaaGreatDoorH21
import Derived.Test.YtkmgnibopmpcjaaGreatDoorH22
import Derived.Test.YtkmgnibopmpcjaaGreatDoorH23
import Derived.Test.YtkmgnibopmpcjaaGreatDoorH24
import Derived.Test.YtkmgnibopmpcjaaGreatDoorH26
import Derived.Test.YtkmgnibopmpcjaaGreatDoorH27
import Derived.Test.YtkmgnibopmpcjaaGreatDoorH29
import Derived.Test.YtkmgnibopmpcjaaGreatDoorH30
import Derived.Test.YtkmgnibopmpcjaaGreatDoorH31
import Derived.Defers
import Derived.Recover
import Derived.Laws.Pointers
/-
  Walks of layer 4: all readers at once.
-/
namespace Go.Proofs.YtkmgnibopmpcjaaGreatDoor
open Go Go.RowKit
set_option linter.unusedSimpArgs false
theorem Pl.brack_len {l : List Pl.Tok} {num : Pl.Bytes → Int} {i j : Nat} {ts : List Pl.Syn} (h : (Pl.full l num).brack i = .ok ts j) : 1 ≤ ts.length := by
  rw [Pl.full_brack, Pl.brackB] at h
  split at h
  · cases hq : Pl.mpath l (i + 1) with
    | bad q => rw [hq, Pl.PR.then_bad] at h; cases h
    | ok ns q => rw [hq, Pl.PR.then_ok] at h; injection h with h1 h2; subst h1; exact Nat.le_refl _
  · exact (Pl.sepd_len (fun j => (Pl.full_goes l num).typ j) h).1
theorem Pl.simp_len {l : List Pl.Tok} {num : Pl.Bytes → Int} {i j : Nat} {ts : List Pl.Syn} (h : (Pl.full l num).simp i = .ok ts j) : 1 ≤ ts.length ∧ i + 1 ≤ j := by
  refine ⟨?_, (Pl.full_goes l num).simp i _ _ h⟩
  rw [Pl.full_simp, Pl.simpB] at h
  split at h
  · injection h with h1 h2; subst h1; exact Nat.le_refl _
  split at h
  · cases hq : (Pl.full l num).brack (i + 1) with
    | bad q => rw [hq, Pl.PR.then_bad] at h; cases h
    | ok us q =>
      rw [hq, Pl.PR.then_ok] at h
      cases hn : Pl.needT l [41] q with
      | bad q => rw [hn, Pl.PR.then_bad] at h; cases h
      | ok u q => rw [hn, Pl.PR.then_ok] at h; injection h with h1 h2; subst h1; exact Pl.brack_len hq
  · cases hq : Pl.tpath l i with
    | bad q => rw [hq, Pl.PR.then_bad] at h; cases h
    | ok ns q => rw [hq, Pl.PR.then_ok] at h; injection h with h1 h2; subst h1; exact Nat.le_refl _
structure ReadsAt (s : Src) (g i : Nat) : Prop where
  typ : ∀ W, PAt W g s i → Calls Tryz.prog 43 #[.pointer (some ⟨g, 0, none⟩)] W (TreeOut s g ((Pl.full s.ts numOfText).typ i) W)
  prod : ∀ W, PAt W g s i → Calls Tryz.prog 76 #[.pointer (some ⟨g, 0, none⟩)] W (TreeOut s g ((Pl.full s.ts numOfText).prod i) W)
  post : ∀ W, PAt W g s i → Calls Tryz.prog 144 #[.pointer (some ⟨g, 0, none⟩)] W (TreeOut s g ((Pl.full s.ts numOfText).post i) W)
  pat : ∀ W, PAt W g s i → Calls Tryz.prog 65 #[.pointer (some ⟨g, 0, none⟩)] W (TreeOut s g ((Pl.full s.ts numOfText).pat i) W)
  arg : ∀ W, PAt W g s i → Calls Tryz.prog 122 #[.pointer (some ⟨g, 0, none⟩)] W (TreeOut s g ((Pl.full s.ts numOfText).arg i) W)
  comps : ∀ W, PAt W g s i → Calls Tryz.prog 191 #[.pointer (some ⟨g, 0, none⟩)] W (TreeOut s g ((Pl.full s.ts numOfText).comps i) W)
  expr : ∀ W, PAt W g s i → Calls Tryz.prog 44 #[.pointer (some ⟨g, 0, none⟩)] W (TreeOut s g ((Pl.full s.ts numOfText).expr i) W)
  neg : ∀ W, PAt W g s i → Calls Tryz.prog 147 #[.pointer (some ⟨g, 0, none⟩)] W (TreeOut s g ((Pl.full s.ts numOfText).neg i) W)
  app : ∀ W, PAt W g s i → Calls Tryz.prog 202 #[.pointer (some ⟨g, 0, none⟩)] W (TreeOut s g ((Pl.full s.ts numOfText).app i) W)
  atom : ∀ W, PAt W g s i → Calls Tryz.prog 47 #[.pointer (some ⟨g, 0, none⟩)] W (TreeOut s g ((Pl.full s.ts numOfText).atom i) W)
  encl : ∀ W, PAt W g s i → Calls Tryz.prog 85 #[.pointer (some ⟨g, 0, none⟩)] W (TreeOut s g ((Pl.full s.ts numOfText).encl i) W)
  cont : ∀ W, PAt W g s i → Calls Tryz.prog 152 #[.pointer (some ⟨g, 0, none⟩)] W (TreeOut s g ((Pl.full s.ts numOfText).cont i) W)
  letE : ∀ W, PAt W g s i → Calls Tryz.prog 86 #[.pointer (some ⟨g, 0, none⟩)] W (TreeOut s g ((Pl.full s.ts numOfText).letE i) W)
  matchE : ∀ W, PAt W g s i → Calls Tryz.prog 87 #[.pointer (some ⟨g, 0, none⟩)] W (TreeOut s g ((Pl.full s.ts numOfText).matchE i) W)
  rule : ∀ W, PAt W g s i → Calls Tryz.prog 154 #[.pointer (some ⟨g, 0, none⟩)] W (TreeOut s g ((Pl.full s.ts numOfText).rule i) W)
  decl : ∀ W, PAt W g s i → Calls Tryz.prog 153 #[.pointer (some ⟨g, 0, none⟩)] W (TreeOut s g ((Pl.full s.ts numOfText).decl i) W)
  named : ∀ W, PAt W g s i → Calls Tryz.prog 206 #[.pointer (some ⟨g, 0, none⟩)] W (TreeOut s g ((Pl.full s.ts numOfText).named i) W)
  unpk : ∀ W, PAt W g s i → Calls Tryz.prog 207 #[.pointer (some ⟨g, 0, none⟩)] W (TreeOut s g ((Pl.full s.ts numOfText).unpk i) W)
  simp : ∀ W, PAt W g s i → Calls Tryz.prog 199 #[.pointer (some ⟨g, 0, none⟩)] W (TreesOut s g ((Pl.full s.ts numOfText).simp i) W)
  brack : ∀ W, PAt W g s i → Calls Tryz.prog 236 #[.pointer (some ⟨g, 0, none⟩)] W (TreesOut s g ((Pl.full s.ts numOfText).brack i) W)
  oper : ∀ (q : Nat) W, 1 ≤ q → PAt W g s i → Calls Tryz.prog 80 #[.pointer (some ⟨g, 0, none⟩), .int .i64 (q : Int)] W (TreeOut s g ((Pl.full s.ts numOfText).oper q i) W)
theorem reads_at (s : Src) (g : Nat) (hn : NumsOk s) (hbig : s.ts.length ≤ 536870912) : ∀ d i, s.ts.length - i ≤ d → i ≤ s.ts.length → ReadsAt s g i := by
  intro d
  induction d using Nat.strongRecOn with
  | _ d ih =>
    intro i hd hi
    have up : ∀ j, i < j → j ≤ s.ts.length → ReadsAt s g j := fun j h1 h2 => ih (s.ts.length - j) (by omega) j (Nat.le_refl _) h2
    have G := Pl.full_goes s.ts numOfText
    have harg : ∀ W, PAt W g s i → Calls Tryz.prog 122 #[.pointer (some ⟨g, 0, none⟩)] W (TreeOut s g ((Pl.full s.ts numOfText).arg i) W) := fun W hW => by
      rw [Pl.full_arg]
      exact pargument_any s g i _ (fun W j h hW => (up j h hW.inn).comps W hW) hn W hW hbig
    have hpat : ∀ W, PAt W g s i → Calls Tryz.prog 65 #[.pointer (some ⟨g, 0, none⟩)] W (TreeOut s g ((Pl.full s.ts numOfText).pat i) W) := fun W hW => by
      rw [Pl.full_pat]
      exact ppattern_any s g i _ (fun W j h hW => (Nat.eq_or_lt_of_le h).elim (fun e => by subst e; exact harg W hW) (fun h => (up j h hW.inn).arg W hW)) W hW hbig
    have hcomps : ∀ W, PAt W g s i → Calls Tryz.prog 191 #[.pointer (some ⟨g, 0, none⟩)] W (TreeOut s g ((Pl.full s.ts numOfText).comps i) W) := fun W hW => by
      rw [Pl.full_comps]
      exact pcomponents_any s g i _ (fun W j h hW => (Nat.eq_or_lt_of_le h).elim (fun e => by subst e; exact hpat W hW) (fun h => (up j h hW.inn).pat W hW)) G W hW hbig
    have hsimp : ∀ W, PAt W g s i → Calls Tryz.prog 199 #[.pointer (some ⟨g, 0, none⟩)] W (TreesOut s g ((Pl.full s.ts numOfText).simp i) W) := fun W hW => by
      rw [Pl.full_simp]
      exact psimple_any s g i _ (fun W j h hW => (up j h hW.inn).brack W hW) W hW hbig
    have hpost : ∀ W, PAt W g s i → Calls Tryz.prog 144 #[.pointer (some ⟨g, 0, none⟩)] W (TreeOut s g ((Pl.full s.ts numOfText).post i) W) := fun W hW => by
      rw [Pl.full_post]
      exact ppostfix_any s g i _ hsimp (fun ts j h => Pl.simp_len h) W hW hbig
    have hprod : ∀ W, PAt W g s i → Calls Tryz.prog 76 #[.pointer (some ⟨g, 0, none⟩)] W (TreeOut s g ((Pl.full s.ts numOfText).prod i) W) := fun W hW => by
      rw [Pl.full_prod]
      exact pproduct_any s g i _ (fun j t m h => G.post j t m h) (fun W j h hW => (Nat.eq_or_lt_of_le h).elim (fun e => by subst e; exact hpost W hW) (fun h => (up j h hW.inn).post W hW)) W hW hbig
    have htyp : ∀ W, PAt W g s i → Calls Tryz.prog 43 #[.pointer (some ⟨g, 0, none⟩)] W (TreeOut s g ((Pl.full s.ts numOfText).typ i) W) := fun W hW => by
      rw [Pl.full_typ]
      exact ptyp_any s g i _ _ (fun W hW => hprod W hW) (fun t j h => G.prod i t j h) (fun W j h hW => (up j h hW.inn).typ W hW) W hW
    have hbrack : ∀ W, PAt W g s i → Calls Tryz.prog 236 #[.pointer (some ⟨g, 0, none⟩)] W (TreesOut s g ((Pl.full s.ts numOfText).brack i) W) := fun W hW => by
      rw [Pl.full_brack]
      exact pbracketed_any s g i _ (fun W j h hW => (Nat.eq_or_lt_of_le h).elim (fun e => by subst e; exact htyp W hW) (fun h => (up j h hW.inn).typ W hW)) G W hW hbig
    have hatom : ∀ W, PAt W g s i → Calls Tryz.prog 47 #[.pointer (some ⟨g, 0, none⟩)] W (TreeOut s g ((Pl.full s.ts numOfText).atom i) W) := fun W hW => by
      rw [Pl.full_atom]
      exact patom_any s g i _ (fun W j h hW => (up j h hW.inn).encl W hW) (fun W j h hW => (up j h hW.inn).letE W hW) (fun W j h hW => (up j h hW.inn).matchE W hW) hn W hW hbig
    have happ : ∀ W, PAt W g s i → Calls Tryz.prog 202 #[.pointer (some ⟨g, 0, none⟩)] W (TreeOut s g ((Pl.full s.ts numOfText).app i) W) := fun W hW => by
      rw [Pl.full_app]
      exact papplication_any s g i _ (fun W j h hW => (Nat.eq_or_lt_of_le h).elim (fun e => by subst e; exact hatom W hW) (fun h => (up j h hW.inn).atom W hW)) G W hW
    have hneg : ∀ W, PAt W g s i → Calls Tryz.prog 147 #[.pointer (some ⟨g, 0, none⟩)] W (TreeOut s g ((Pl.full s.ts numOfText).neg i) W) := fun W hW => by
      rw [Pl.full_neg]
      exact pnegation_any s g i _ _ (fun W hW => (up (i + 1) (Nat.lt_succ_self i) hW.inn).neg W hW) happ W hW
    have hoper : ∀ (q : Nat) W, 1 ≤ q → PAt W g s i → Calls Tryz.prog 80 #[.pointer (some ⟨g, 0, none⟩), .int .i64 (q : Int)] W (TreeOut s g ((Pl.full s.ts numOfText).oper q i) W) := fun q W hq hW => by
      rw [Pl.full_oper]
      exact poperation_any s g i q _ hneg (fun W p j h hp hW => (up j h hW.inn).oper p W hp hW) G hq W hW
    have hexpr : ∀ W, PAt W g s i → Calls Tryz.prog 44 #[.pointer (some ⟨g, 0, none⟩)] W (TreeOut s g ((Pl.full s.ts numOfText).expr i) W) := fun W hW => by
      rw [Pl.full_expr]
      exact pexpression_any s g i _ (fun W j h hW => pfunction_any s g j _ (fun W k hk hW => (up k (Nat.lt_trans h hk) hW.inn).expr W hW) W hW) (fun W j h hW => pchoice_any s g j _ (fun W k hk hW => (up k (Nat.lt_of_lt_of_le h hk) hW.inn).expr W hW) G W hW) (fun W hW => hoper 1 W (Nat.le_refl _) hW) W hW
    have hcont : ∀ W, PAt W g s i → Calls Tryz.prog 152 #[.pointer (some ⟨g, 0, none⟩)] W (TreeOut s g ((Pl.full s.ts numOfText).cont i) W) := fun W hW => by
      rw [Pl.full_cont]
      exact pcontents_any s g i _ (fun W j h hW => (Nat.eq_or_lt_of_le h).elim (fun e => by subst e; exact hexpr W hW) (fun h => (up j h hW.inn).expr W hW)) (fun W j h hW => (up j h hW.inn).typ W hW) G W hW hbig
    have hencl : ∀ W, PAt W g s i → Calls Tryz.prog 85 #[.pointer (some ⟨g, 0, none⟩)] W (TreeOut s g ((Pl.full s.ts numOfText).encl i) W) := fun W hW => by
      rw [Pl.full_encl]
      exact penclosed_any s g i _ hcont W hW
    have hrule : ∀ W, PAt W g s i → Calls Tryz.prog 154 #[.pointer (some ⟨g, 0, none⟩)] W (TreeOut s g ((Pl.full s.ts numOfText).rule i) W) := fun W hW => by
      rw [Pl.full_rule]
      exact prule_any s g i _ _ (fun W hW => hpat W hW) (fun t j h => G.pat i t j h) (fun W j h hW => (up j h hW.inn).expr W hW) W hW
    have hdecl : ∀ W, PAt W g s i → Calls Tryz.prog 153 #[.pointer (some ⟨g, 0, none⟩)] W (TreeOut s g ((Pl.full s.ts numOfText).decl i) W) := fun W hW => by
      rw [Pl.full_decl]
      exact pdeclaration_any s g i _ (fun W j h hW => (up j h hW.inn).expr W hW) (fun W j h hW => (up j h hW.inn).named W hW) (fun W j h hW => (up j h hW.inn).unpk W hW) W hW
    have hlet : ∀ W, PAt W g s i → Calls Tryz.prog 86 #[.pointer (some ⟨g, 0, none⟩)] W (TreeOut s g ((Pl.full s.ts numOfText).letE i) W) := fun W hW => by
      rw [Pl.full_letE]
      exact plet_any s g i _ (fun W j h hW => (Nat.eq_or_lt_of_le h).elim (fun e => by subst e; exact hdecl W hW) (fun h => (up j h hW.inn).decl W hW)) (fun W j h hW => (Nat.eq_or_lt_of_le h).elim (fun e => by subst e; exact hexpr W hW) (fun h => (up j h hW.inn).expr W hW)) G W hW hbig
    have hmatch : ∀ W, PAt W g s i → Calls Tryz.prog 87 #[.pointer (some ⟨g, 0, none⟩)] W (TreeOut s g ((Pl.full s.ts numOfText).matchE i) W) := fun W hW => by
      rw [Pl.full_matchE]
      exact pmatch_any s g i _ (fun W j h hW => (Nat.eq_or_lt_of_le h).elim (fun e => by subst e; exact hexpr W hW) (fun h => (up j h hW.inn).expr W hW)) (fun W j h hW => (Nat.eq_or_lt_of_le h).elim (fun e => by subst e; exact hrule W hW) (fun h => (up j h hW.inn).rule W hW)) G W hW hbig
    have hnamed : ∀ W, PAt W g s i → Calls Tryz.prog 206 #[.pointer (some ⟨g, 0, none⟩)] W (TreeOut s g ((Pl.full s.ts numOfText).named i) W) := fun W hW => by
      rw [Pl.full_named]
      exact pnamed_any s g i _ (fun W j h hW => (up j h hW.inn).expr W hW) G W hW hbig
    have hunpk : ∀ W, PAt W g s i → Calls Tryz.prog 207 #[.pointer (some ⟨g, 0, none⟩)] W (TreeOut s g ((Pl.full s.ts numOfText).unpk i) W) := fun W hW => by
      rw [Pl.full_unpk]
      exact punpacked_any s g i _ (fun W j h hW => (up j h hW.inn).atom W hW) G W hW hbig
    exact ⟨htyp, hprod, hpost, hpat, harg, hcomps, hexpr, hneg, happ, hatom, hencl, hcont, hlet, hmatch, hrule, hdecl, hnamed, hunpk, hsimp, hbrack, hoper⟩
theorem reads_all (s : Src) (g i : Nat) (hn : NumsOk s) (hbig : s.ts.length ≤ 536870912) (hi : i ≤ s.ts.length) : ReadsAt s g i := reads_at s g hn hbig _ i (Nat.le_refl _) hi
end Go.Proofs.YtkmgnibopmpcjaaGreatDoor

/-
  Walks of layer 4: what recovers a fault.
-/
namespace Go.Proofs.YtkmgnibopmpcjaaGreatDoor
open Go Go.RowKit
set_option linter.unusedSimpArgs false
theorem wp_hide {P : Program} {c : Code} {Q : Exit → Act → World → Prop} {a : Act} {w : World} (h : ∀ Q', Q' = Q → c.wp P Q' a w) : c.wp P Q a w := h Q rfl
set_option maxRecDepth 100000 in
set_option maxHeartbeats 4000000 in
theorem pcatch_idle (p q r : Value) (w : World) : CallsD Tryz.prog 141 #[p, q, r] .returning w fun e u' w' => e = .returned (.tuple #[]) ∧ u' = .returning ∧ w' = w := by
  refine callsD_of_wpS Tryz.func141 rfl fun c₀ cs hu => ?_
  apply wpS_seq
  apply wpS_region
  simp [wpOpsS, go_sem, recoverD, hu, Tryz.ntmps141, Exit.thenS]
  rw [show (#[p, q, r] ++ ((Array.replicate 19 undef).setIfInBounds 3 Value.nilIface).setIfInBounds 0 Value.nilIface : Array Value) = #[p, q, r, .nilIface, undef, undef, .nilIface, undef, undef, undef, undef, undef, undef, undef, undef, undef, undef, undef, undef, undef, undef, undef] from by kernel_rfl]
  refine wpS_of_wp (wp_hide fun Q hQ => ?_)
  have HU := Lib.hid hu
  have HQ := Lib.hid hQ
  clear hu hQ
  go_wp2_with fail
  have hu := HU.out
  rw [HQ.out]
  refine ⟨rfl, .returning, ?_, .tuple #[], by simp [results, Tryz.results141, go_sem], rfl, rfl, rfl⟩
  cases c₀
  simp_all
theorem set_one {w : World} {g : Nat} {T : TypeId} {a : Value} (h : Blk w g T #[a]) (v : Value) : Blk (w.setCell ⟨g, 0, none⟩ v) g T #[v] := by
  have := h.set 0 v
  simpa using this
theorem one_cell {w : World} {g : Nat} {T : TypeId} {a : Value} (h : Blk w g T #[a]) : w.cell? ⟨g, 0, none⟩ = some a := h.cell 0 _ rfl
set_option maxRecDepth 100000 in
set_option maxHeartbeats 4000000 in
theorem pcatch_fault (b0 b1 b2 : Nat) (at' code : Int) (older : List PanicEntry) (w : World) {y0 y1 y2 y3 y4 y5 y6 : Value} (h01 : b0 < b1) (h12 : b1 < b2) (h0 : Blk w b0 28 #[y0, y1, y2, y3, y4]) (h1 : Blk w b1 3 #[y5]) (h2 : Blk w b2 31 #[y6]) :
    CallsD Tryz.prog 141 #[.pointer (some ⟨b0, 0, none⟩), .pointer (some ⟨b1, 0, none⟩), .pointer (some ⟨b2, 0, none⟩)] (.panicking ({ v := .iface 147 (.agg #[.int .i64 at', .int .i64 code]), recovered := false } :: older)) w fun e u' w' =>
      e = .returned (.tuple #[]) ∧ u' = .panicking ({ v := .iface 147 (.agg #[.int .i64 at', .int .i64 code]), recovered := true } :: older) ∧ Blk w' b0 28 #[.int .i64 0, .int .i64 0, .string ⟨#[]⟩, .slice none 0 0, .slice none 0 0] ∧ Blk w' b1 3 #[.int .i64 at'] ∧ Blk w' b2 31 #[.int .i64 code] ∧ Below b0 w w' := by
  have HH := Lib.hid (⟨h0, h1, h2⟩ : Blk w b0 _ _ ∧ Blk w b1 _ _ ∧ Blk w b2 _ _)
  have hnew := fr_new b0 w (.cells #[.int .i64 at', .int .i64 code] 147)
  have hbn := blk_new w #[.int .i64 at', .int .i64 code] 147
  have hlt := h2.lt
  have k0 := blk_fr h0 (show b0 ≠ w.heap.size by omega) (fr_new w.heap.size w (.cells #[.int .i64 at', .int .i64 code] 147))
  have k1 := blk_fr h1 (show b1 ≠ w.heap.size by omega) (fr_new w.heap.size w (.cells #[.int .i64 at', .int .i64 code] 147))
  have k2 := blk_fr h2 (show b2 ≠ w.heap.size by omega) (fr_new w.heap.size w (.cells #[.int .i64 at', .int .i64 code] 147))
  obtain ⟨c0, c1, c2, c3, c4⟩ := five_cells k0
  have c5 := one_cell k1
  have c6 := one_cell k2
  have f0 := k0.thaw 0
  have f1 := k0.thaw 1
  have f2 := k0.thaw 2
  have f3 := k0.thaw 3
  have f4 := k0.thaw 4
  have f5 := k1.thaw 0
  have f6 := k2.thaw 0
  have m0 : World.cell? _ ⟨w.heap.size, 0, none⟩ = some (.int .i64 at') := hbn.cell 0 _ rfl
  have m1 : World.cell? _ ⟨w.heap.size, 1, none⟩ = some (.int .i64 code) := hbn.cell 1 _ rfl
  have n0 : ¬ b0 = b1 := by omega
  have n1 : ¬ b0 = b2 := by omega
  have n2 : ¬ b1 = b2 := by omega
  have n3 : ¬ b1 = b0 := by omega
  have n4 : ¬ b2 = b0 := by omega
  have n5 : ¬ b2 = b1 := by omega
  have n6 : ¬ w.heap.size = b0 := by omega
  have n7 : ¬ w.heap.size = b1 := by omega
  have n8 : ¬ w.heap.size = b2 := by omega
  have hta : ∀ W, Sem.run Tryz.prog (Instr.typeAssert (.iface 147 (.agg #[.int .i64 at', .int .i64 code])) 20 147 true) W = .ok (.tuple #[.agg #[.int .i64 at', .int .i64 code], .bool true]) W := fun _ => rfl
  clear hnew hbn h0 h1 h2
  refine callsD_of_wpS Tryz.func141 rfl fun c₀ cs hu => ?_
  apply wpS_seq
  apply wpS_region
  simp [wpOpsS, go_sem, recoverD, hu, Tryz.ntmps141, Exit.thenS]
  rw [show (#[.pointer (some ⟨b0, 0, none⟩), .pointer (some ⟨b1, 0, none⟩), .pointer (some ⟨b2, 0, none⟩)] ++ ((Array.replicate 19 undef).setIfInBounds 3 (.iface 147 (.agg #[.int .i64 at', .int .i64 code]))).setIfInBounds 0 (.iface 147 (.agg #[.int .i64 at', .int .i64 code])) : Array Value) = #[.pointer (some ⟨b0, 0, none⟩), .pointer (some ⟨b1, 0, none⟩), .pointer (some ⟨b2, 0, none⟩), .iface 147 (.agg #[.int .i64 at', .int .i64 code]), undef, undef, .iface 147 (.agg #[.int .i64 at', .int .i64 code]), undef, undef, undef, undef, undef, undef, undef, undef, undef, undef, undef, undef, undef, undef, undef] from by kernel_rfl]
  refine wpS_of_wp (wp_hide fun Q hQ => ?_)
  have HU := Lib.hid hu
  have HQ := Lib.hid hQ
  clear hu hQ
  go_wp2_with fail
  have HK := Lib.hid (⟨k0, k1, k2⟩ : Blk _ b0 _ _ ∧ Blk _ b1 _ _ ∧ Blk _ b2 _ _)
  have HB := Lib.hid (show Below b0 w (w.alloc (.cells #[.int .i64 at', .int .i64 code] 147)) from (Below.refl _ _).alloc (by omega) _)
  clear k0 k1 k2 HH hta
  generalize w.alloc (.cells #[.int .i64 at', .int .i64 code] 147) = wa at *
  go_region
  all_goals
    go_wp2_with fail
    rw [HQ.out]
    refine ⟨rfl, _, rfl, .tuple #[], by simp [results, Tryz.results141, go_sem], rfl, rfl, ?_⟩
    have q0 := blk_fr (blk_fr (putFive_blk HK.out.1 (.int .i64 0) (.int .i64 0) (.string ⟨#[]⟩) (.slice none 0 0) (.slice none 0 0)) n0 (fr_put _ b1 0 (.int .i64 at'))) n1 (fr_put _ b2 0 (.int .i64 code))
    have q1 := blk_fr (set_one (blk_fr HK.out.2.1 n3 (fr_putFive wa b0 (.int .i64 0) (.int .i64 0) (.string ⟨#[]⟩) (.slice none 0 0) (.slice none 0 0))) (.int .i64 at')) n2 (fr_put _ b2 0 (.int .i64 code))
    have q2 := set_one (blk_fr (blk_fr HK.out.2.2 n4 (fr_putFive wa b0 (.int .i64 0) (.int .i64 0) (.string ⟨#[]⟩) (.slice none 0 0) (.slice none 0 0))) n5 (fr_put _ b1 0 (.int .i64 at'))) (.int .i64 code)
    have q3 := (((putFive_below HB.out (Nat.le_refl b0) (.int .i64 0) (.int .i64 0) (.string ⟨#[]⟩) (.slice none 0 0) (.slice none 0 0)).setCell (p := ⟨b1, 0, none⟩) (show b0 ≤ b1 by omega) (.int .i64 at')).setCell (p := ⟨b2, 0, none⟩) (show b0 ≤ b2 by omega) (.int .i64 code)).drew
    unfold putFive at q0 q1 q2 q3
    exact ⟨q0.drew, q1.drew, q2.drew, q3⟩
end Go.Proofs.YtkmgnibopmpcjaaGreatDoor
