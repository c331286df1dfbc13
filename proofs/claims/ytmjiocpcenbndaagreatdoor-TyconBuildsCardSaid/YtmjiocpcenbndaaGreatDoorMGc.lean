/-
  Several texts in one (Rp Rq Rr Rs Rt Ru).
-/
import Derived.RangeFuncNested
import Derived.RangeFuncBound
import Derived.RangeFuncCalls
import Derived.RangeFuncLeaves
import Derived.Shelf.Abstract
import Derived.Shelf.RegionOpen
import Derived.WalkKit
import Derived.OwnWalkIn
import Derived.TacticsInMore
import Derived.LoopNIn
import Derived.LoopIn
import Derived.Test.YtmjiocpcenbndaaGreatDoorProg
import Derived.Test.YtmjiocpcenbndaaGreatDoorMGb
import Derived.Test.YtmjiocpcenbndaaGreatDoorMGa
import Derived.Deep.RegionHeld3
namespace Go.Proofs.YtmjiocpcenbndaaGreatDoor
open Go Go.RowKit

/-- what an iterator promises whose own steps may turn any block that is no cells and lies beyond the start -/
def SeqO {α : Type} (F : Fence) (n : Nat) (P : Program) (g : Nat) (lb : Array Value) (encs : α → Array Value) (Kp : World → World → Prop) (S Sp : List α → Prop) (N : Nat) (w : World) (B0 : Nat) : Prop :=
  ∀ (l : Nat) (J Jx : List α → World → Prop) (W : World), Below w.heap.size w W → B0 ≤ W.heap.size → OwnFrom W.heap.size J → OwnFrom W.heap.size Jx →
    (∀ pre x W1, J pre W1 → pre.length < N → YieldAt F (n - 1) P l (encs x) W1 fun e W' => (e = .returned (.bool true) ∧ J (pre ++ [x]) W' ∧ Kp W1 W') ∨ (e = .returned (.bool false) ∧ Jx (pre ++ [x]) W' ∧ Kp W1 W')) →
    J [] W → CallsIn F n P g (#[.func (.yield l) #[] #[]] ++ lb) W fun e W' => (∃ v, e = .returned v) ∧ ((∃ xs, S xs ∧ J xs W') ∨ (∃ pre, Sp pre ∧ Jx pre W'))
/-- the ways out of a round's body: it goes on, or the function returns -/
def turnPost {α : Type} (B : Nat) (Kp : World → World → Prop) (I Ix : List α → World → Prop) (xs : List α) (W : World) : Exit → Act → World → Prop
  | .normal, _, W' => KeepsFrom B W W' ∧ Kp W W' ∧ I xs W'
  | .ret, _, W' => KeepsFrom B W W' ∧ Kp W W' ∧ Ix xs W'
  | _, _, _ => False
section
variable {F : Fence} {n : Nat} {P : Program}
theorem ownFrom_le {β : Type} {B C : Nat} {I : β → World → Prop} (h : OwnFrom B I) (hBC : B ≤ C) : OwnFrom C I := fun s A D row hs hg hr => h s A D row hs hg (fun r e => ⟨Nat.le_trans hBC (hr r e).1, (hr r e).2⟩)
/-- a block below stays through a step beyond -/
theorem grown_same {A D : World} {row : Option Nat} {B k : Nat} {o : Obj} (hg : A.grownBy D row) (hr : ∀ r, row = some r → B ≤ r ∧ ∃ o : Obj, A.heap[r]? = some o ∧ o.isCells = false) (hk : k < B) (ho : A.heap[k]? = some o) : D.heap[k]? = some o :=
  (hg.block k (Array.getElem?_eq_some_iff.1 ho).1 (fun e => by have := (hr k e.symm).1; omega)).trans ho
/-- the loop's record, and the block of the rounds' deferred calls -/
structure Books (B : Nat) (fn : Nat) (tmps : Array Value) (ps : Array Tmp) (assign body : Code) (st : LoopState) (pe : Option Code) (W : World) : Prop where
  lp : W.heap[B + 1]? = some (.loop { state := st, pending := pe, fn := fn, tmps := tmps, params := ps, assign := assign, body := body, defers := B })
  dfr : W.heap[B]? = some (.deferred (some []))
theorem Books.step {B fn : Nat} {tmps : Array Value} {ps : Array Tmp} {assign body : Code} {st : LoopState} {pe : Option Code} {A D : World} {row : Option Nat} (h : Books B fn tmps ps assign body st pe A) (hg : A.grownBy D row) (hr : ∀ r, row = some r → B + 2 ≤ r ∧ ∃ o : Obj, A.heap[r]? = some o ∧ o.isCells = false) : Books B fn tmps ps assign body st pe D :=
  ⟨grown_same hg hr (by omega) h.lp, grown_same hg hr (by omega) h.dfr⟩
theorem Books.keep {B fn : Nat} {tmps : Array Value} {ps : Array Tmp} {assign body : Code} {st : LoopState} {pe : Option Code} {A D : World} (h : Books B fn tmps ps assign body st pe A) (hk : KeepsFrom B A D) : Books B fn tmps ps assign body st pe D :=
  ⟨hk.same _ _ (by omega) h.lp rfl, hk.same _ _ (Nat.le_refl _) h.dfr rfl⟩
theorem Books.put {B fn : Nat} {tmps : Array Value} {ps : Array Tmp} {assign body : Code} {st : LoopState} {pe : Option Code} {A : World} (h : Books B fn tmps ps assign body st pe A) (st' : LoopState) (pe' : Option Code) : Books B fn tmps ps assign body st' pe' (A.putObj (B + 1) (.loop { state := st', pending := pe', fn := fn, tmps := tmps, params := ps, assign := assign, body := body, defers := B })) :=
  ⟨World.putObj_heap_same (Array.getElem?_eq_some_iff.1 h.lp).1, (World.putObj_heap_other (by omega)).trans h.dfr⟩
/-- how a round ends -/
theorem Books.ends {α : Type} {B fn : Nat} {tmps : Array Value} {ps : Array Tmp} {assign body : Code} {Kp : World → World → Prop} {I Ix : List α → World → Prop} {xs : List α} {W0 W : World}
    (hKt : ∀ {A B C : World}, Kp A B → Kp B C → Kp A C) (hKb : ∀ (W : World) (o o' : Obj), W.heap[B + 1]? = some o → o.isCells = false → o.isWalk = false → Kp W (W.putObj (B + 1) o')) (hI : OwnFrom B I) (hIx : OwnFrom B Ix)
    (hW0 : Kp W0 W) (hb : Books B fn tmps ps assign body .busy none W) {e : Exit} {a3 : Act} {W3 : World} (hp : turnPost B Kp I Ix xs W e a3 W3) :
    roundPost P (B + 1) (fun e W' => (e = .returned (.bool true) ∧ (I xs W' ∧ Books B fn tmps ps assign body .ready none W') ∧ Kp W0 W') ∨ (e = .returned (.bool false) ∧ (Ix xs W' ∧ Books B fn tmps ps assign body .done (some .ret) W') ∧ Kp W0 W')) e a3 W3 := by
  cases e with
  | normal =>
    obtain ⟨hk, hkp, hi⟩ := hp
    have hb3 := hb.keep hk
    exact ⟨_, _, run_endRound (P := P) none hb3.lp, .inl ⟨rfl, ⟨hI.putObj _ hi (by omega) hb3.lp rfl, hb3.put .ready none⟩, hKt hW0 (hKt hkp (hKb _ _ _ hb3.lp rfl rfl))⟩⟩
  | ret =>
    obtain ⟨hk, hkp, hi⟩ := hp
    have hb3 := hb.keep hk
    exact ⟨_, _, run_endRound (P := P) (some .ret) hb3.lp, .inr ⟨rfl, ⟨hIx.putObj _ hi (by omega) hb3.lp rfl, hb3.put .done (some .ret)⟩, hKt hW0 (hKt hkp (hKb _ _ _ hb3.lp rfl rfl))⟩⟩
  | exit id => exact hp.elim
  | goto t => exact hp.elim
  | panic ch => exact hp.elim
  | outgrown => exact hp.elim
/-- the loop -/
theorem rangeO {α : Type} {g : Operand} {ps : Array Tmp} {assign body : Code} {Q : Exit → Act → World → Prop} {a : Act} {w : World}
    (hro : F.round = none) (h1 : 1 ≤ n) {gf : Nat} {lb : Array Value} (hg : a.eval g = .func (.func gf) #[] lb) (hFg : F.fn gf) (eg : ∀ args w, (callFunc gf args).run P w = .ok (.enter gf args) w)
    {encs : α → Array Value} {Kp : World → World → Prop} {S Sp : List α → Prop} {N : Nat} {w0 : World} {B0 : Nat} (hseq : SeqO F (n - 1) P gf lb encs Kp S Sp N w0 B0) (hB0 : B0 ≤ w.heap.size + 2)
    (hKt : ∀ {A B C : World}, Kp A B → Kp B C → Kp A C) (hKb : ∀ (W : World) (o o' : Obj), W.heap[w.heap.size + 1]? = some o → o.isCells = false → o.isWalk = false → Kp W (W.putObj (w.heap.size + 1) o')) (hb0 : Below w0.heap.size w0 w) (hps : ∀ x, ps.size = (encs x).size)
    (I Ix : List α → World → Prop) (hI : OwnFrom w.heap.size I) (hIx : OwnFrom w.heap.size Ix) (h0 : I [] w) (a₁ : α → Act)
    (hassign : ∀ (l : Nat) (x : α) (W : World) (K : Act → World → Prop), K (a₁ x) W →
      assign.wpIn (F.inRound l) (n - 1 - 1) P (Exit.then K (fun _ _ _ => False)) { tmps := (ps.zip (encs x)).foldl (fun t (p, v) => t.setIfInBounds p v) a.tmps, defers := [] } W)
    (hbody : ∀ (l : Nat) (pre : List α) (x : α) (W : World), I pre W → pre.length < N → body.wpIn (F.inRound l) (n - 1 - 1) P (turnPost w.heap.size Kp I Ix (pre ++ [x]) W) (a₁ x) W)
    (hdone : ∀ (D : Nat) (xs : List α) (W : World), w.heap.size ≤ D → S xs → I xs W → W.heap[D]? = some (.deferred (some [])) → Q .normal { a with defers := { target := .collected D, args := #[] } :: a.defers } W)
    (hstop : ∀ (D : Nat) (pre : List α) (W : World), w.heap.size ≤ D → Sp pre → Ix pre W → W.heap[D]? = some (.deferred (some [])) → Code.ret.wpIn F n P Q { a with defers := { target := .collected D, args := #[] } :: a.defers } W) :
    (Code.rangeFunc g ps assign body).wpIn F n P Q a w := by
  refine wpIn_rangeFunc (fun fn hfn => ?_)
  rw [hro]
  have hsz : ((w.alloc (.deferred (some []))).alloc (.loop { state := .ready, pending := none, fn := fn, tmps := a.tmps, params := ps, assign := assign, body := body, defers := w.heap.size })).heap.size = w.heap.size + 2 := by simp
  have hbk : Books w.heap.size fn a.tmps ps assign body .ready none ((w.alloc (.deferred (some []))).alloc (.loop { state := .ready, pending := none, fn := fn, tmps := a.tmps, params := ps, assign := assign, body := body, defers := w.heap.size })) := by
    constructor
    · have := World.alloc_heap_new (w.alloc (.deferred (some []))) (.loop { state := .ready, pending := none, fn := fn, tmps := a.tmps, params := ps, assign := assign, body := body, defers := w.heap.size })
      rwa [World.size_alloc] at this
    · exact (Below.heap_alloc _ _ _ (by simp)).trans (World.alloc_heap_new w _)
  have hstart : I [] ((w.alloc (.deferred (some []))).alloc (.loop { state := .ready, pending := none, fn := fn, tmps := a.tmps, params := ps, assign := assign, body := body, defers := w.heap.size })) := hI.alloc _ (hI.alloc _ h0)
  have hbel : Below w0.heap.size w0 ((w.alloc (.deferred (some []))).alloc (.loop { state := .ready, pending := none, fn := fn, tmps := a.tmps, params := ps, assign := assign, body := body, defers := w.heap.size })) := hb0.trans ((((Below.refl _ w).alloc (Nat.le_refl _) _).alloc (by simp) _).mono hb0.size)
  obtain ⟨W1, hW1⟩ : ∃ W1, ((w.alloc (.deferred (some []))).alloc (.loop { state := .ready, pending := none, fn := fn, tmps := a.tmps, params := ps, assign := assign, body := body, defers := w.heap.size })) = W1 := ⟨_, rfl⟩
  rw [hW1] at hsz hbk hstart hbel
  refine ⟨w.heap.size + 1, [{ target := .collected w.heap.size, args := #[] }], W1, { target := .fn (.func gf) lb, args := #[.func (.yield (w.heap.size + 1)) #[] #[]] }, W1, gf, #[.func (.yield (w.heap.size + 1)) #[] #[]] ++ lb, W1, by rw [← hW1]; exact run_enterLoop_outer _ _ _ _ _, ?_, ?_, ?_, fun _ => h1, ?_⟩
  · simp only [resolve, hg]
    simp [go_sem]
  · intro f' hf'
    simp [Target.leads] at hf'
    subst hf'
    exact hFg
  · simp [invoke, go_sem, eg]
  have hle : ∀ {A : World} {row : Option Nat}, (∀ r, row = some r → W1.heap.size ≤ r ∧ ∃ o : Obj, A.heap[r]? = some o ∧ o.isCells = false) → ∀ r, row = some r → w.heap.size + 2 ≤ r ∧ ∃ o : Obj, A.heap[r]? = some o ∧ o.isCells = false := fun hr r e => ⟨by have := (hr r e).1; omega, (hr r e).2⟩
  refine (hseq (w.heap.size + 1) (fun pre W => I pre W ∧ Books w.heap.size fn a.tmps ps assign body .ready none W) (fun pre W => Ix pre W ∧ Books w.heap.size fn a.tmps ps assign body .done (some .ret) W) _ hbel (by omega) ?_ ?_ ?_ ⟨hstart, hbk⟩).mono ?_
  · exact fun s A D row hs hg hr => ⟨hI s A D row hs.1 hg (fun r e => ⟨by have := (hle hr r e).1; omega, (hr r e).2⟩), hs.2.step hg (hle hr)⟩
  · exact fun s A D row hs hg hr => ⟨hIx s A D row hs.1 hg (fun r e => ⟨by have := (hle hr r e).1; omega, (hr r e).2⟩), hs.2.step hg (hle hr)⟩
  · rintro pre x W ⟨hi, hb⟩ hlen
    refine ⟨fn, _, assign, body, run_yield (P := P) (args := encs x) hb.lp (hps x).symm, roundIn_of_wpIn hfn (hassign _ x W _ ?_)⟩
    refine ⟨_, run_beginRound hb.lp rfl, ?_⟩
    have hb2 := hb.put .busy none
    exact wpIn_mono (hbody _ pre x _ (hI.putObj _ hi (by omega) hb.lp rfl) hlen) (fun e a3 W3 hp => Books.ends (Kp := Kp) (W0 := W) (I := I) (Ix := Ix) hKt hKb hI hIx (hKb W _ _ hb.lp rfl rfl) hb2 hp)
  · rintro e W2 ⟨⟨v, rfl⟩, ⟨xs, hS, hi, hb⟩ | ⟨pre, hSp, hi, hb⟩⟩
    · exact ⟨none, _, run_endLoop (P := P) hb.lp (by simp), hdone _ xs _ (Nat.le_refl _) hS (hI.putObj _ hi (by omega) hb.lp rfl) ((World.putObj_heap_other (by omega)).trans hb.dfr)⟩
    · exact ⟨some .ret, _, run_endLoop (P := P) hb.lp (by simp), hstop _ pre _ (Nat.le_refl _) hSp (hIx.putObj _ hi (by omega) hb.lp rfl) ((World.putObj_heap_other (by omega)).trans hb.dfr)⟩
end
end Go.Proofs.YtmjiocpcenbndaaGreatDoor
namespace Go.Proofs.YtmjiocpcenbndaaGreatDoor
open Go Go.RowKit
open Pl (K Con)
set_option linter.unusedSimpArgs false
set_option linter.unusedVariables false
attribute [local go_sem] Oper.semAt_some

/-- what a visit hands over: a node, as its cells, and the binders around it -/
structure Leaf where
  op : Int
  n : Int
  s : ByteArray
  ka : Option Addr
  kn : Nat
  kc : Nat
  na : Option Addr
  nn : Nat
  nc : Nat
  la : Option Addr
  ln : Nat
  lc : Nat
  b : Int
  hn : 0 ≤ n ∧ n ≤ 20000
  hb : 0 ≤ b ∧ b ≤ 1000
def Leaf.proj (x : Leaf) : Int × Int × Int := (x.op, x.n, x.b)
def encL (x : Leaf) : Array Value := #[.agg #[.int .i64 x.op, .int .i64 x.n, .string x.s, .slice x.ka x.kn x.kc, .slice x.na x.nn x.nc, .slice x.la x.ln x.lc], .int .i64 x.b]
mutual
/-- the leaves of a constructor, with the binders around them -/
def Con.leavesOf : Con → Int → List (Int × Int × Int)
  | ⟨op, n, _, _, _, l⟩, d => if l.length = 0 then [(op, n, d)] else Con.leavesOfs l (Con.deep op d)
def Con.leavesOfs : List Con → Int → List (Int × Int × Int)
  | [], _ => []
  | t :: r, d => Con.leavesOf t d ++ Con.leavesOfs r d
end
theorem leavesOfs_map (d : Int) (l : List Con) : Con.leavesOfs l d = l.flatMap (fun t => Con.leavesOf t d) := by
  induction l with
  | nil => rw [Con.leavesOfs]; rfl
  | cons t r ih => rw [Con.leavesOfs, ih]; rfl
theorem leavesOf_none (t : Con) (d : Int) (h : t.l.length = 0) : Con.leavesOf t d = [(t.op, t.n, d)] := by
  obtain ⟨op, n, s, k, names, l⟩ := t
  have h : l.length = 0 := h
  rw [Con.leavesOf, if_pos h]
theorem leavesOf_node (t : Con) (d : Int) (h : t.l.length ≠ 0) : Con.leavesOf t d = t.l.flatMap (fun x => Con.leavesOf x (Con.deep t.op d)) := by
  obtain ⟨op, n, s, k, names, l⟩ := t
  have h : l.length ≠ 0 := h
  rw [Con.leavesOf, if_neg h, leavesOfs_map]
theorem leavesOf_size (t : Con) : ∀ d, (Con.leavesOf t d).length ≤ t.size := by
  induction t using Con.ind with
  | h t ih =>
  intro d
  by_cases h : t.l.length = 0
  · rw [leavesOf_none t d h, Con.size_eq]; simp
  · rw [leavesOf_node t d h, Con.size_eq]
    have : ∀ (l : List Con) (d : Int), (∀ x ∈ l, ∀ d, (Con.leavesOf x d).length ≤ x.size) → (l.flatMap (fun x => Con.leavesOf x d)).length ≤ Con.sizes l := by
      intro l d
      induction l with
      | nil => intro _; simp
      | cons x r ihr =>
        intro h
        rw [List.flatMap_cons, List.length_append, Con.sizes_cons]
        have := h x List.mem_cons_self d
        have := ihr (fun y hy => h y (List.mem_cons_of_mem _ hy))
        omega
    have := this t.l (Con.deep t.op d) ih
    omega
theorem leaves_sizes (l : List Con) (d : Int) : (l.flatMap (fun x => Con.leavesOf x d)).length ≤ Con.sizes l := by
  induction l with
  | nil => simp
  | cons x r ihr =>
    rw [List.flatMap_cons, List.length_append, Con.sizes_cons]
    have := leavesOf_size x d
    omega
theorem flatMap_take {α β : Type} (f : α → List β) (l : List α) (k : Nat) (h : k < l.length) : (l.take (k + 1)).flatMap f = (l.take k).flatMap f ++ f l[k] := by
  rw [List.take_succ_eq_append_getElem h, List.flatMap_append]
  simp
theorem flatMap_prefix {α β : Type} (f : α → List β) (l : List α) (k : Nat) : (l.take k).flatMap f <+: l.flatMap f := by
  conv => rhs; rw [← List.take_append_drop k l, List.flatMap_append]
  exact List.prefix_append _ _
/-- the free index of a leaf -/
def freeL (x : Int × Int × Int) : Option Int := if x.1 = 1 ∧ x.2.2 ≤ x.2.1 then some (x.2.1 - x.2.2) else none
theorem frees_leaves (t : Con) : ∀ d, Con.allB t = true → Con.frees t d = (Con.leavesOf t d).filterMap freeL := by
  induction t using Con.ind with
  | h t ih =>
  intro d ha
  rw [allB_eq, Bool.and_eq_true, List.all_eq_true] at ha
  by_cases h1 : t.op = 1
  · have hl : t.l.length = 0 := by rw [leaf_none t ha.1 (.inl h1)]; rfl
    rw [frees_var t d h1, leavesOf_none t d hl, h1]
    by_cases h2 : d ≤ t.n
    · rw [if_pos h2]; simp [freeL, h2]
    · rw [if_neg h2]; simp [freeL, h2]
  · rw [frees_node t d h1]
    by_cases hl : t.l.length = 0
    · rw [leavesOf_none t d hl, List.eq_nil_of_length_eq_zero hl]
      simp [freeL, h1]
    · rw [leavesOf_node t d hl, List.filterMap_flatMap]
      have : ∀ l : List Con, (∀ x ∈ l, Con.frees x (Con.deep t.op d) = (Con.leavesOf x (Con.deep t.op d)).filterMap freeL) → l.flatMap (fun x => Con.frees x (Con.deep t.op d)) = l.flatMap (fun a => (Con.leavesOf a (Con.deep t.op d)).filterMap freeL) := by
        intro l
        induction l with
        | nil => intro _; rfl
        | cons x r ihr =>
          intro h
          rw [List.flatMap_cons, List.flatMap_cons, h x List.mem_cons_self, ihr (fun y hy => h y (List.mem_cons_of_mem _ hy))]
      exact this t.l (fun x hx => ih x hx _ (ha.2 x hx))
theorem depth_part {t x : Con} (h : x ∈ t.l) : x.depth + 1 ≤ t.depth := by
  rw [Con.depth_eq t]
  have := Con.mem_depth h
  omega
theorem room_of_no {F : Fence} (hd : F.depth = none) (m : Nat) : F.room m := fun d h => by rw [hd] at h; cases h
theorem yield_anyDepth {F : Fence} (hd : F.depth = none) {m : Nat} (m' : Nat) {P : Program} {l : Nat} {args : Array Value} {W : World} {R : Ending → World → Prop} (h : YieldAt F m P l args W R) : YieldAt F m' P l args W R := by
  obtain ⟨fn, tmps, assign, body, hy, h1, h2⟩ := h
  exact ⟨fn, tmps, assign, body, hy, h1, fun c cs _ => h2 c cs (room_of_no hd _)⟩
theorem toF {F : Fence} (HF : Hid (F = Fence.wide)) (n : Nat) {P : Program} {f : FuncId} {args : Array Value} {w : World} {R : Ending → World → Prop} (h : Calls P f args w R) : CallsIn F n P f args w R := by
  have := HF.out
  subst this
  exact callsIn_wide.2 h
set_option maxRecDepth 100000 in
set_option maxHeartbeats 2000000 in
theorem visit_in (F : Fence) (HF : Hid (F = Fence.wide)) (l n₀ N B0 : Nat) (J Jx : List Leaf → World → Prop) (hJ : AbidesFrom B0 J)
    (hY : ∀ m pre x W, J pre W → pre.length < N → YieldAt F m Tryz.prog l (encL x) W fun e W' => (e = .returned (.bool true) ∧ J (pre ++ [x]) W' ∧ Below n₀ W W') ∨ (e = .returned (.bool false) ∧ Jx (pre ++ [x]) W')) (t : Con) :
    Con.allB t = true → ∀ (n : Nat) (b : Int) (pre : List Leaf) (W : World) (v : Value), ConV W (· < n₀) t v → n₀ ≤ W.heap.size → 0 ≤ b → b + t.depth ≤ 1000 → J pre W → pre.length + t.size ≤ N →
      CallsIn F n Tryz.prog 76 #[v, .int .i64 b, .func (.yield l) #[] #[]] W fun e W' =>
        (e = .returned (.bool true) ∧ ∃ ls : List Leaf, ls.map Leaf.proj = Con.leavesOf t b ∧ J (pre ++ ls) W' ∧ Below n₀ W W') ∨ (e = .returned (.bool false) ∧ ∃ ls : List Leaf, ls.map Leaf.proj <+: Con.leavesOf t b ∧ Jx (pre ++ ls) W') := by
  have hd : F.depth = none := by rw [HF.out]; rfl
  have hro : F.round = none := by rw [HF.out]; rfl
  have hvf : F.fn 76 := by rw [HF.out]; trivial
  have hbf : F.fn 65 := by rw [HF.out]; trivial
  induction t using Con.ind with
  | h t ih =>
  intro ha n b pre W v ht hn0 hb0 hbd hj hN
  have ha' := ha
  rw [allB_eq, Bool.and_eq_true, List.all_eq_true] at ha'
  have hnn := nodeB_n t ha'.1
  have hdp := Con.depth_pos t
  obtain ⟨ka, kn, kc, na, nn, nc, la, ln, lc, rfl, -, -, hln⟩ := ht.shape
  have HT := Lib.hid (fun W' (hW : Below n₀ W W') => ht.keep (Same.of_below hW (fun q hq => hq)))
  have HSL := Lib.hid (fun W' (hW : Below n₀ W W') => (show ConSl W' (· < n₀) (.slice la ln lc) t.l from by
    obtain ⟨-, kv', nv', lv', e, hk, hn, hl⟩ := (conV_iff _ _ _ _).1 (HT.out W' hW)
    simp only [Value.agg.injEq, Array.mk.injEq, List.cons.injEq, and_true, true_and] at e
    obtain ⟨rfl, rfl, rfl⟩ := e
    exact hl))
  obtain ⟨hbx, hb⟩ := boxN_new W 28 #[.int .i64 t.op, .int .i64 t.n, .string t.s, .slice ka kn kc, .slice na nn nc, .slice la ln lc]
  have hj1 : J pre (W.alloc (.cells #[.int .i64 t.op, .int .i64 t.n, .string t.s, .slice ka kn kc, .slice na nn nc, .slice la ln lc] 28)) := hJ _ _ _ none hj (World.grownBy_alloc W _ none) (fun r e => by cases e)
  have c0 := hbx.cell 0 (.int .i64 t.op) rfl
  have c1 := hbx.cell 1 (.int .i64 t.n) rfl
  have c2 := hbx.cell 2 (.string t.s) rfl
  have c3 := hbx.cell 3 (.slice ka kn kc) rfl
  have c4 := hbx.cell 4 (.slice na nn nc) rfl
  have c5 := hbx.cell 5 (.slice la ln lc) rfl
  have HB := Lib.hid (show Below n₀ W (W.alloc (.cells #[.int .i64 t.op, .int .i64 t.n, .string t.s, .slice ka kn kc, .slice na nn nc, .slice la ln lc] 28)) from hb.mono hn0)
  have hdd : ∀ k : Nat, (F.depth.isSome = true → 1 ≤ k) := fun k h => by rw [hd] at h; cases h
  by_cases h0 : ln = 0
  · subst h0
    have hl0 : t.l.length = 0 := hln.symm
    have hbb : 0 ≤ b ∧ b ≤ 1000 := ⟨hb0, by omega⟩
    obtain ⟨fn, tmps, assign, body, hy, hR⟩ := hY (n - 1) pre ⟨t.op, t.n, t.s, ka, kn, kc, na, nn, nc, la, 0, lc, b, hnn, hbb⟩ _ hj1 (by have := Con.size_pos t; omega)
    have HE := Lib.hid (leavesOf_none t b hl0)
    unfold encL at hy
    dsimp only at hy
    clear hbx hb ht ih hY hJ hj hj1 hln hl0 hN hbd hdp ha ha' HSL HT hn0
    refine callsIn_of_wp Tryz.func76 rfl hvf ?_ hro
    simp only [Tryz.ntmps76, List.size_toArray, List.length_cons, List.length_nil, Nat.reduceAdd, Nat.reduceSub, Array.replicate_succ, Array.replicate_zero, List.push_toArray, List.append_toArray, List.nil_append, List.cons_append]
    gi_wp2
    refine hR.mono ?_
    rintro e W2 (⟨rfl, hJ2, hb2⟩ | ⟨rfl, hx2⟩)
    · have HJ2 := Lib.hid hJ2
      have HB2 := Lib.hid (HB.out.trans hb2)
      clear hJ2 hb2 hR hy
      gi_wp2
      go_ret
      exact .inl ⟨rfl, [⟨t.op, t.n, t.s, ka, kn, kc, na, nn, nc, la, 0, lc, b, hnn, hbb⟩], by rw [HE.out]; rfl, HJ2.out, HB2.out⟩
    · have HX2 := Lib.hid hx2
      clear hx2 hR hy
      gi_wp2
      go_ret
      exact .inr ⟨rfl, _, by rw [HE.out]; exact List.prefix_refl _, HX2.out⟩
  · have hl0 : t.l.length ≠ 0 := by omega
    have hn63 : ln ≤ 9223372036854775807 := by
      have := Con.length_le_sizes t.l
      have := Con.size_eq t
      have h3 := (node_facts t ha'.1).2.2
      omega
    have HLN := Lib.hid hln
    have HE := Lib.hid (leavesOf_node t b hl0)
    have HIH := Lib.hid ih
    have HALL := Lib.hid ha'.2
    have HBN := Lib.hid (cbinder_any t.op)
    have HDP := Lib.hid (fun x (hx : x ∈ t.l) => depth_part hx)
    have HSZ := Lib.hid (Con.size_eq t)
    have hq0 : ((ln : Int) == 0) = false := beq_eq_false_iff_ne.2 (by omega)
    obtain ⟨b2, hb2⟩ : ∃ b2, b2 = Con.deep t.op b := ⟨_, rfl⟩
    have hble := Con.deep_le t.op b
    have HDEEP := Lib.hid (show b2 = if Con.binder t.op = true then b + 1 else b from hb2)
    rw [← hb2] at HE hble
    have hbb : 0 ≤ b2 ∧ b2 ≤ b + 1 := by omega
    have w1 : wrap64 (b + 1) = b + 1 := by rw [wrap64]; omega
    have HJ := Lib.hid hJ
    have HJ1 := Lib.hid hj1
    clear hbx hb ht ih hY hJ hj hj1 hln hl0 hdp ha ha' HT hb2 h0
    refine callsIn_of_wp Tryz.func76 rfl hvf ?_ hro
    simp only [Tryz.ntmps76, List.size_toArray, List.length_cons, List.length_nil, Nat.reduceAdd, Nat.reduceSub, Array.replicate_succ, Array.replicate_zero, List.push_toArray, List.append_toArray, List.nil_append, List.cons_append]
    gi_wp2_with fail
    refine (toF HF _ (HBN.out _)).mono ?_
    rintro e w' ⟨rfl, rfl⟩
    generalize W.alloc (.cells #[.int .i64 t.op, .int .i64 t.n, .string t.s, .slice ka kn kc, .slice na nn nc, .slice la ln lc] 28) = w2 at *
    cases hbn : Con.binder t.op
    · rw [hbn] at HDEEP
      have hb2 : b2 = b := HDEEP.out
      subst hb2
      clear HDEEP hbn w1
      all_goals
        gi_wp2_with fail
        clear c0 c1 c2 c3 c4 c5
        gi_loopw [25] (fun i wr => ∃ (k : Nat) (ls : List Leaf), k ≤ ln ∧ i = .int .i64 k ∧ ls.map Leaf.proj = (t.l.take k).flatMap (fun x => Con.leavesOf x b2) ∧ J (pre ++ ls) wr ∧ Below n₀ W wr) (fun i _ => ln - (intOf i).toNat)
        case atStart => exact ⟨0, [], Nat.zero_le _, rfl, rfl, by rw [List.append_nil]; exact HJ1.out, HB.out⟩
        case round =>
          obtain ⟨k, ls, hk, rfl, hls, hj, hbw⟩ := hrel
          have HLS := Lib.hid hls
          have HJK := Lib.hid hj
          have HBW := Lib.hid hbw
          by_cases hlt : k < ln
          · have q5 : decide ((k : Int) < (ln : Int)) = true := decide_eq_true (by omega)
            have hkl : k < t.l.length := by have := HLN.out; omega
            obtain ⟨bb, off, c', xa, xn, xc, ya, yn, yc, za, zn, zc, e, hPb, f0, f1, f2, f3, f4, f5, hx⟩ := (HSL.out wr hbw).part k hkl
            injection e with e1 e2 e3
            clear e2
            subst e1 e3
            have hbx := (boxN_new wr 28 #[.int .i64 t.l[k].op, .int .i64 t.l[k].n, .string t.l[k].s, .slice xa xn xc, .slice ya yn yc, .slice za zn zc]).1
            have hb1 : Below n₀ wr (wr.alloc (.cells #[.int .i64 t.l[k].op, .int .i64 t.l[k].n, .string t.l[k].s, .slice xa xn xc, .slice ya yn yc, .slice za zn zc] 28)) := (boxN_new wr 28 _).2.mono (Nat.le_trans hn0 hbw.size)
            have hln2 : ls.length ≤ Con.sizes (t.l.take k) := by
              have h1 := congrArg List.length hls
              rw [List.length_map] at h1
              rw [h1]
              exact leaves_sizes _ _
            have hst := Con.sizes_take t.l k hkl
            have hsl := Con.sizes_le t.l (k + 1)
            have hsz := HSZ.out
            have hdp := HDP.out t.l[k] (List.getElem_mem hkl)
            have hc := HIH.out t.l[k] (List.getElem_mem hkl) (HALL.out _ (List.getElem_mem hkl)) (n - 1) _ (pre ++ ls) _ _ (hx.keep (Same.of_below hb1 (fun q hq => hq))) (Nat.le_trans (Nat.le_trans hn0 hbw.size) (by rw [size_alloc]; omega)) hbb.1 (by omega) (HJ.out _ _ _ none hj (World.grownBy_alloc wr _ none) (fun r e => by cases e)) (by rw [List.length_append]; omega)
            have HT := Lib.hid (flatMap_take (fun x => Con.leavesOf x b2) t.l k hkl)
            have HC := Lib.hid hc
            have HB1 := Lib.hid (hbw.trans hb1)
            have d0 := hbx.cell 0 (.int .i64 t.l[k].op) rfl
            have d1 := hbx.cell 1 (.int .i64 t.l[k].n) rfl
            have d2 := hbx.cell 2 (.string t.l[k].s) rfl
            have d3 := hbx.cell 3 (.slice xa xn xc) rfl
            have d4 := hbx.cell 4 (.slice ya yn yc) rfl
            have d5 := hbx.cell 5 (.slice za zn zc) rfl
            generalize t.l[k] = z at *
            clear hbx hb1 hln2 hst hsl hsz hdp hc hls hj hbw hx hPb
            gi_wp2_with fail
            refine HC.out.mono ?_
            rintro e W3 (⟨rfl, ls2, hls2, hj3, hb3⟩ | ⟨rfl, ls2, hpf, hx3⟩)
            · have HLS2 := Lib.hid hls2
              have HJ3 := Lib.hid hj3
              have HB3 := Lib.hid (HB1.out.trans hb3)
              clear hls2 hj3 hb3 f0 f1 f2 f3 f4 f5 d0 d1 d2 d3 d4 d5
              gi_wp2
              go_roundw
              case rel =>
                refine ⟨k + 1, ls ++ ls2, by omega, by go_num, ?_, by rw [← List.append_assoc]; exact HJ3.out, HB3.out⟩
                rw [List.map_append, HLS.out, HLS2.out, HT.out]
              case measure => first | (simp [intOf]; done) | (simp [intOf]; omega)
            · have HPF := Lib.hid (show (ls ++ ls2).map Leaf.proj <+: Con.leavesOf t b2 from by
                rw [List.map_append, HLS.out, HE.out]
                refine ((List.prefix_append_right_inj _).2 hpf).trans ?_
                rw [← HT.out]
                exact flatMap_prefix _ _ _)
              clear hpf
              have HX3 := Lib.hid hx3
              clear hx3 f0 f1 f2 f3 f4 f5 d0 d1 d2 d3 d4 d5
              gi_wp2
              go_ret
              exact .inr ⟨rfl, ls ++ ls2, HPF.out, by rw [← List.append_assoc]; exact HX3.out⟩
          · have q5 : decide ((k : Int) < (ln : Int)) = false := decide_eq_false (by omega)
            have HF := Lib.hid (show ls.map Leaf.proj = Con.leavesOf t b2 from by
              rw [HE.out, ← List.take_of_length_le (l := t.l) (i := k) (by have := HLN.out; omega)]
              exact HLS.out)
            clear hls hj hbw
            gi_wp2
            go_ret
            exact .inl ⟨rfl, ls, HF.out, HJK.out, HBW.out⟩
    · rw [hbn] at HDEEP
      have hb2 : b2 = b + 1 := HDEEP.out
      subst hb2
      clear HDEEP hbn
      all_goals
        gi_wp2_with fail
        clear c0 c1 c2 c3 c4 c5
        gi_loopw [25] (fun i wr => ∃ (k : Nat) (ls : List Leaf), k ≤ ln ∧ i = .int .i64 k ∧ ls.map Leaf.proj = (t.l.take k).flatMap (fun x => Con.leavesOf x (b + 1)) ∧ J (pre ++ ls) wr ∧ Below n₀ W wr) (fun i _ => ln - (intOf i).toNat)
        case atStart => exact ⟨0, [], Nat.zero_le _, rfl, rfl, by rw [List.append_nil]; exact HJ1.out, HB.out⟩
        case round =>
          obtain ⟨k, ls, hk, rfl, hls, hj, hbw⟩ := hrel
          have HLS := Lib.hid hls
          have HJK := Lib.hid hj
          have HBW := Lib.hid hbw
          by_cases hlt : k < ln
          · have q5 : decide ((k : Int) < (ln : Int)) = true := decide_eq_true (by omega)
            have hkl : k < t.l.length := by have := HLN.out; omega
            obtain ⟨bb, off, c', xa, xn, xc, ya, yn, yc, za, zn, zc, e, hPb, f0, f1, f2, f3, f4, f5, hx⟩ := (HSL.out wr hbw).part k hkl
            injection e with e1 e2 e3
            clear e2
            subst e1 e3
            have hbx := (boxN_new wr 28 #[.int .i64 t.l[k].op, .int .i64 t.l[k].n, .string t.l[k].s, .slice xa xn xc, .slice ya yn yc, .slice za zn zc]).1
            have hb1 : Below n₀ wr (wr.alloc (.cells #[.int .i64 t.l[k].op, .int .i64 t.l[k].n, .string t.l[k].s, .slice xa xn xc, .slice ya yn yc, .slice za zn zc] 28)) := (boxN_new wr 28 _).2.mono (Nat.le_trans hn0 hbw.size)
            have hln2 : ls.length ≤ Con.sizes (t.l.take k) := by
              have h1 := congrArg List.length hls
              rw [List.length_map] at h1
              rw [h1]
              exact leaves_sizes _ _
            have hst := Con.sizes_take t.l k hkl
            have hsl := Con.sizes_le t.l (k + 1)
            have hsz := HSZ.out
            have hdp := HDP.out t.l[k] (List.getElem_mem hkl)
            have hc := HIH.out t.l[k] (List.getElem_mem hkl) (HALL.out _ (List.getElem_mem hkl)) (n - 1) _ (pre ++ ls) _ _ (hx.keep (Same.of_below hb1 (fun q hq => hq))) (Nat.le_trans (Nat.le_trans hn0 hbw.size) (by rw [size_alloc]; omega)) hbb.1 (by omega) (HJ.out _ _ _ none hj (World.grownBy_alloc wr _ none) (fun r e => by cases e)) (by rw [List.length_append]; omega)
            have HT := Lib.hid (flatMap_take (fun x => Con.leavesOf x (b + 1)) t.l k hkl)
            have HC := Lib.hid hc
            have HB1 := Lib.hid (hbw.trans hb1)
            have d0 := hbx.cell 0 (.int .i64 t.l[k].op) rfl
            have d1 := hbx.cell 1 (.int .i64 t.l[k].n) rfl
            have d2 := hbx.cell 2 (.string t.l[k].s) rfl
            have d3 := hbx.cell 3 (.slice xa xn xc) rfl
            have d4 := hbx.cell 4 (.slice ya yn yc) rfl
            have d5 := hbx.cell 5 (.slice za zn zc) rfl
            generalize t.l[k] = z at *
            clear hbx hb1 hln2 hst hsl hsz hdp hc hls hj hbw hx hPb
            gi_wp2_with fail
            refine HC.out.mono ?_
            rintro e W3 (⟨rfl, ls2, hls2, hj3, hb3⟩ | ⟨rfl, ls2, hpf, hx3⟩)
            · have HLS2 := Lib.hid hls2
              have HJ3 := Lib.hid hj3
              have HB3 := Lib.hid (HB1.out.trans hb3)
              clear hls2 hj3 hb3 f0 f1 f2 f3 f4 f5 d0 d1 d2 d3 d4 d5
              gi_wp2
              go_roundw
              case rel =>
                refine ⟨k + 1, ls ++ ls2, by omega, by go_num, ?_, by rw [← List.append_assoc]; exact HJ3.out, HB3.out⟩
                rw [List.map_append, HLS.out, HLS2.out, HT.out]
              case measure => first | (simp [intOf]; done) | (simp [intOf]; omega)
            · have HPF := Lib.hid (show (ls ++ ls2).map Leaf.proj <+: Con.leavesOf t b from by
                rw [List.map_append, HLS.out, HE.out]
                refine ((List.prefix_append_right_inj _).2 hpf).trans ?_
                rw [← HT.out]
                exact flatMap_prefix _ _ _)
              clear hpf
              have HX3 := Lib.hid hx3
              clear hx3 f0 f1 f2 f3 f4 f5 d0 d1 d2 d3 d4 d5
              gi_wp2
              go_ret
              exact .inr ⟨rfl, ls ++ ls2, HPF.out, by rw [← List.append_assoc]; exact HX3.out⟩
          · have q5 : decide ((k : Int) < (ln : Int)) = false := decide_eq_false (by omega)
            have HF := Lib.hid (show ls.map Leaf.proj = Con.leavesOf t b from by
              rw [HE.out, ← List.take_of_length_le (l := t.l) (i := k) (by have := HLN.out; omega)]
              exact HLS.out)
            clear hls hj hbw
            gi_wp2
            go_ret
            exact .inl ⟨rfl, ls, HF.out, HJK.out, HBW.out⟩
end Go.Proofs.YtmjiocpcenbndaaGreatDoor
namespace Go.Proofs.YtmjiocpcenbndaaGreatDoor
open Go Go.RowKit
open Pl (K Con)
set_option linter.unusedSimpArgs false
set_option linter.unusedVariables false
attribute [local go_sem] Oper.semAt_some

theorem leaves_any (w : World) (op n : Int) (s : ByteArray) (ka na la : Option Addr) (kn kc nn nc ln lc : Nat) :
    Calls Tryz.prog 61 #[.agg #[.int .i64 op, .int .i64 n, .string s, .slice ka kn kc, .slice na nn nc, .slice la ln lc]] w fun e w' => e = .returned (.func (.func 75) #[] #[.pointer (some ⟨w.heap.size, 0, none⟩)]) ∧ w' = w.alloc (.cells #[.int .i64 op, .int .i64 n, .string s, .slice ka kn kc, .slice na nn nc, .slice la ln lc] 28) := by
  go_enter Tryz.func61, Tryz.ntmps61
  go_wp2
  go_ret
  exact ⟨rfl, rfl⟩
theorem freeIndices_any (w : World) (op n : Int) (s : ByteArray) (ka na la : Option Addr) (kn kc nn nc ln lc : Nat) :
    Calls Tryz.prog 42 #[.agg #[.int .i64 op, .int .i64 n, .string s, .slice ka kn kc, .slice na nn nc, .slice la ln lc]] w fun e w' => e = .returned (.func (.func 60) #[] #[.pointer (some ⟨w.heap.size, 0, none⟩)]) ∧ w' = w.alloc (.cells #[.int .i64 op, .int .i64 n, .string s, .slice ka kn kc, .slice na nn nc, .slice la ln lc] 28) := by
  go_enter Tryz.func42, Tryz.ntmps42
  go_wp2
  go_ret
  exact ⟨rfl, rfl⟩
set_option maxRecDepth 100000 in
set_option maxHeartbeats 2000000 in
theorem leaves_stops (F : Fence) (HF : Hid (F = Fence.wide)) (n Bs n₀ : Nat) (t : Con) (ka na la : Option Addr) (kn kc nn nc ln lc : Nat) (w : World) (hn0 : n₀ ≤ w.heap.size) (hB : Bs < w.heap.size) (ha : Con.allB t = true) (hd9 : t.depth ≤ 1000)
    (hbx : ∀ W, Below w.heap.size w W → Blk W Bs 28 #[.int .i64 t.op, .int .i64 t.n, .string t.s, .slice ka kn kc, .slice na nn nc, .slice la ln lc]) (ht : ConV w (· < n₀) t (.agg #[.int .i64 t.op, .int .i64 t.n, .string t.s, .slice ka kn kc, .slice na nn nc, .slice la ln lc])) :
    SeqStopsK F n Tryz.prog 75 #[.pointer (some ⟨Bs, 0, none⟩)] encL (Below n₀) (fun ys => ys.map Leaf.proj = Con.leavesOf t 0) (fun ys => ys.map Leaf.proj <+: Con.leavesOf t 0) t.size w := by
  intro l J Jx W hW hJ hJx hY h0
  have hd : F.depth = none := by rw [HF.out]; rfl
  have hro : F.round = none := by rw [HF.out]; rfl
  have hlf : F.fn 75 := by rw [HF.out]; trivial
  have hvf : F.fn 76 := by rw [HF.out]; trivial
  have hdd : ∀ k : Nat, (F.depth.isSome = true → 1 ≤ k) := fun k h => by rw [hd] at h; cases h
  have HV := Lib.hid (visit_in F HF l n₀ t.size W.heap.size J Jx hJ (fun m pre x W1 hj hl => yield_anyDepth hd m (hY pre x W1 hj hl)) t ha (n - 1) 0 [] W _ (ht.keep (Same.of_below (hW.mono hn0) (fun q hq => hq))) (Nat.le_trans hn0 hW.size) (Int.le_refl _) (by omega) h0 (by simp))
  have hb := hbx W hW
  have c0 := hb.cell 0 (.int .i64 t.op) rfl
  have c1 := hb.cell 1 (.int .i64 t.n) rfl
  have c2 := hb.cell 2 (.string t.s) rfl
  have c3 := hb.cell 3 (.slice ka kn kc) rfl
  have c4 := hb.cell 4 (.slice na nn nc) rfl
  have c5 := hb.cell 5 (.slice la ln lc) rfl
  clear hY hb ht hbx
  refine callsIn_of_wp Tryz.func75 rfl hlf ?_ hro
  simp only [Tryz.ntmps75, List.size_toArray, List.length_cons, List.length_nil, Nat.reduceAdd, Nat.reduceSub, Array.replicate_succ, Array.replicate_zero, List.push_toArray, List.append_toArray, List.nil_append, List.cons_append]
  gi_wp2_with fail
  refine HV.out.mono ?_
  rintro e W1 (⟨rfl, ls, hls, hj, -⟩ | ⟨rfl, ls, hpf, hx⟩)
  · gi_wp2
    go_end0
    exact ⟨⟨_, rfl⟩, .inl ⟨ls, hls, by simpa using hj⟩⟩
  · gi_wp2
    go_end0
    exact ⟨⟨_, rfl⟩, .inr ⟨ls, hpf, by simpa using hx⟩⟩
/-- a free index -/
abbrev Idx := { i : Int // 0 ≤ i ∧ i ≤ 20000 }
def encI (i : Idx) : Array Value := #[.int .i64 i.1]
/-- what a round over free indices keeps: what lay ahead of the loop, and beyond its own books what is no cells, and the boxes of functions -/
structure KpF (n₀ B : Nat) (W W' : World) : Prop where
  below : Below n₀ W W'
  same : ∀ k o, B + 2 ≤ k → W.heap[k]? = some o → (o.isCells = false ∨ ∃ cs, o = .cells cs 86 (0, 0)) → W'.heap[k]? = some o
theorem KpF.trans {n₀ B : Nat} {X Y Z : World} (h : KpF n₀ B X Y) (k : KpF n₀ B Y Z) : KpF n₀ B X Z := ⟨h.below.trans k.below, fun i o hi ho hc => k.same i o hi (h.same i o hi ho hc) hc⟩
theorem KpF.refl (n₀ B : Nat) (W : World) : KpF n₀ B W W := ⟨Below.refl _ _, fun _ _ _ h _ => h⟩
theorem KpF.keepsFrom {n₀ B C : Nat} {W W' : World} (h : KpF n₀ B W W') (hC : B + 2 ≤ C) : KeepsFrom C W W' := ⟨h.below.size, fun k o hk ho hc => h.same k o (by omega) ho (.inl hc)⟩
theorem KpF.put {n₀ B : Nat} (hn : n₀ ≤ B) (W : World) (o o' : Obj) (h : W.heap[B + 1]? = some o) (h1 : o.isCells = false) (h2 : o.isWalk = false) : KpF n₀ B W (W.putObj (B + 1) o') :=
  ⟨⟨rfl, rfl, rfl, by simp, fun k hk => World.putObj_heap_other (by omega)⟩, fun k o hk ho _ => (World.putObj_heap_other (by omega)).trans ho⟩
/-- the free indices among leaves -/
def frs (ls : List Leaf) : List Idx := ls.filterMap (fun x => if h : x.op = 1 ∧ x.b ≤ x.n then some ⟨x.n - x.b, by have := x.hn; have := x.hb; omega, by have := x.hn; have := x.hb; omega⟩ else none)
theorem frs_proj (ls : List Leaf) : (frs ls).map Subtype.val = (ls.map Leaf.proj).filterMap freeL := by
  induction ls with
  | nil => rfl
  | cons x r ih =>
    unfold frs at ih ⊢
    rw [List.map_cons, List.filterMap_cons, List.filterMap_cons]
    by_cases h : x.op = 1 ∧ x.b ≤ x.n
    · have e : freeL x.proj = some (x.n - x.b) := by unfold freeL Leaf.proj; rw [if_pos h]
      rw [dif_pos h, e]
      simp only [List.map_cons]
      rw [ih]
    · have e : freeL x.proj = none := by unfold freeL Leaf.proj; rw [if_neg h]
      rw [dif_neg h, e]
      simp only
      rw [ih]
theorem frs_app (a b : List Leaf) : frs (a ++ b) = frs a ++ frs b := by unfold frs; rw [List.filterMap_append]
theorem blk_own {β : Type} {B g : Nat} {T : TypeId} {cs : Array Value} : OwnFrom B (fun (_ : β) W => Blk W g T cs) := fun s A D row h hg hr =>
  (hg.block g (Blk.lt h) (fun e => by
    obtain ⟨-, o, ho, hc⟩ := hr g e.symm
    have h' : A.heap[g]? = some (.cells cs T (0, 0)) := h
    rw [h'] at ho
    injection ho with ho
    rw [← ho] at hc
    cases hc)).trans h
theorem round_in {F : Fence} (hd : F.depth = none) (lp : Nat) {m m' : Nat} {P : Program} {l : Nat} {f : FuncId} {tmps : Array Value} {assign body : Code} {w : World} {R : Ending → World → Prop} (h : RoundIn F m P l f tmps assign body w R) : RoundIn (F.inRound lp) m' P l f tmps assign body w R :=
  ⟨h.1, fun c cs _ => h.2 c cs (room_of_no hd _)⟩
set_option maxRecDepth 100000 in
set_option maxHeartbeats 2000000 in
theorem freeIdx_seq (F : Fence) (HF : Hid (F = Fence.wide)) (n Bc n₀ B : Nat) (t : Con) (ka na la : Option Addr) (kn kc nn nc ln lc : Nat) (w : World) (hn : 6 ≤ n) (hn0 : n₀ ≤ w.heap.size) (hnB : n₀ ≤ B) (hB : Bc < w.heap.size) (ha : Con.allB t = true) (hd9 : t.depth ≤ 1000)
    (hbx : Blk w Bc 28 #[.int .i64 t.op, .int .i64 t.n, .string t.s, .slice ka kn kc, .slice na nn nc, .slice la ln lc]) (ht : ConV w (· < n₀) t (.agg #[.int .i64 t.op, .int .i64 t.n, .string t.s, .slice ka kn kc, .slice na nn nc, .slice la ln lc])) :
    SeqO F n Tryz.prog 60 #[.pointer (some ⟨Bc, 0, none⟩)] encI (KpF n₀ B) (fun ys => ys.map Subtype.val = Con.frees t 0) (fun ys => ys.map Subtype.val <+: Con.frees t 0) t.size w (B + 2) := by
  intro l J Jx W hW hBW hJ hJx hY h0
  have hd : F.depth = none := by rw [HF.out]; rfl
  have hro : F.round = none := by rw [HF.out]; rfl
  have hff : F.fn 60 := by rw [HF.out]; trivial
  have hlf : F.fn 75 := by rw [HF.out]; trivial
  have hl2 : F.fn 61 := by rw [HF.out]; trivial
  have hdd : ∀ k : Nat, (F.depth.isSome = true → 1 ≤ k) := fun k h => by rw [hd] at h; cases h
  have HLV := Lib.hid (fun W => leaves_any W t.op t.n t.s ka na la kn kc nn nc ln lc)
  obtain ⟨hby, hb1⟩ := boxN_new W 86 #[.func (.yield l) #[] #[]]
  have hbc := (hbx.of_eq (hW.block _ hB)).alloc (.cells #[.func (.yield l) #[] #[]] 86)
  have c0 := hbc.cell 0 (.int .i64 t.op) rfl
  have c1 := hbc.cell 1 (.int .i64 t.n) rfl
  have c2 := hbc.cell 2 (.string t.s) rfl
  have c3 := hbc.cell 3 (.slice ka kn kc) rfl
  have c4 := hbc.cell 4 (.slice na nn nc) rfl
  have c5 := hbc.cell 5 (.slice la ln lc) rfl
  have hj1 : J [] (W.alloc (.cells #[.func (.yield l) #[] #[]] 86)) := hJ.alloc _ h0
  have hsz1 : (W.alloc (.cells #[.func (.yield l) #[] #[]] 86)).heap.size = W.heap.size + 1 := size_alloc _ _
  refine callsIn_of_wp_marks Tryz.func60 rfl hff ?_ hro
  simp only [Tryz.ntmps60, List.size_toArray, List.length_cons, List.length_nil, Nat.reduceAdd, Nat.reduceSub, Array.replicate_succ, Array.replicate_zero, List.push_toArray, List.append_toArray, List.nil_append, List.cons_append]
  gi_wp2_with fail
  clear c0 c1 c2 c3 c4 c5
  generalize W.alloc (.cells #[.func (.yield l) #[] #[]] 86) = w1 at *
  have HSZ1 := Lib.hid hsz1
  clear hsz1
  refine (toF HF _ (HLV.out _)).mono ?_
  rintro e w2 ⟨rfl, rfl⟩
  obtain ⟨hbs, hb2⟩ := boxN_new w1 28 #[.int .i64 t.op, .int .i64 t.n, .string t.s, .slice ka kn kc, .slice na nn nc, .slice la ln lc]
  have hby2 := hby.alloc (.cells #[.int .i64 t.op, .int .i64 t.n, .string t.s, .slice ka kn kc, .slice na nn nc, .slice la ln lc] 28)
  have hsz2 : (w1.alloc (.cells #[.int .i64 t.op, .int .i64 t.n, .string t.s, .slice ka kn kc, .slice na nn nc, .slice la ln lc] 28)).heap.size = w1.heap.size + 1 := size_alloc _ _
  have hj2 : J [] (w1.alloc (.cells #[.int .i64 t.op, .int .i64 t.n, .string t.s, .slice ka kn kc, .slice na nn nc, .slice la ln lc] 28)) := hJ.alloc _ hj1
  have htw : ConV (w1.alloc (.cells #[.int .i64 t.op, .int .i64 t.n, .string t.s, .slice ka kn kc, .slice na nn nc, .slice la ln lc] 28)) (· < n₀) t (.agg #[.int .i64 t.op, .int .i64 t.n, .string t.s, .slice ka kn kc, .slice na nn nc, .slice la ln lc]) := by
    have hws := hW.size
    refine ((ht.keep (Same.of_below (hW.mono hn0) (fun q hq => hq))).keep (Same.of_below hb1 (fun q (hq : q < n₀) => by omega))).keep (Same.of_below hb2 (fun q (hq : q < n₀) => by have := hb1.size; omega))
  generalize w1.alloc (.cells #[.int .i64 t.op, .int .i64 t.n, .string t.s, .slice ka kn kc, .slice na nn nc, .slice la ln lc] 28) = w3 at *
  have hwz := hW.size
  have hsz1 := HSZ1.out
  have hz3 : W.heap.size + 2 ≤ w3.heap.size := by omega
  have hz4 : W.heap.size + 1 ≤ w1.heap.size := by omega
  have hz5 : w1.heap.size < w3.heap.size := by omega
  clear hsz1 hsz2
  have hfl : ∀ ls : List Leaf, (frs ls).length ≤ ls.length := fun ls => List.length_filterMap_le _ _
  gi_wp2_with fail
  refine wpIn_rangeFunc_ownH hro (by omega) (gf := 75) (lb := #[.pointer (some ⟨w1.heap.size, 0, none⟩)]) rfl hlf (enters_of Tryz.func75 (by kernel_rfl) rfl)
    (leaves_stops F HF (n - 1) w1.heap.size n₀ t ka na la kn kc nn nc ln lc w3 (by omega) (by omega) ha hd9 (fun W' hW' => hbs.of_eq (hW'.block _ hbs.lt)) htw) belowK_t (belowK_b (by omega)) (Below.refl _ _) (fun _ => rfl)
    (fun pre W' => J (frs pre) W' ∧ Blk W' W.heap.size 86 #[.func (.yield l) #[] #[]])
    (fun c pre W' => c = .ret ∧ Jx (frs pre) W')
    (fun s A D row hs hg hr => ⟨ownFrom_le hJ (by omega) (frs s) A D row hs.1 hg hr, blk_own (β := List Leaf) s A D row hs.2 hg hr⟩)
    (fun c s A D row hs hg hr => ⟨hs.1, ownFrom_le hJx (by omega) (frs s) A D row hs.2 hg hr⟩)
    ⟨hj2, hby2⟩
    (fun x a' W' => ∃ Bx, Blk W' Bx 28 #[.int .i64 x.op, .int .i64 x.n, .string x.s, .slice x.ka x.kn x.kc, .slice x.na x.nn x.nc, .slice x.la x.ln x.lc] ∧ a' = { tmps := #[.func (.yield l) #[] #[], .pointer (some ⟨Bc, 0, none⟩), .pointer (some ⟨W.heap.size, 0, none⟩), .pointer (some ⟨Bx, 0, none⟩), .int .i64 x.b, undef, .agg #[.int .i64 t.op, .int .i64 t.n, .string t.s, .slice ka kn kc, .slice na nn nc, .slice la ln lc], .func (.func 75) #[] #[.pointer (some ⟨w1.heap.size, 0, none⟩)], .agg #[.int .i64 x.op, .int .i64 x.n, .string x.s, .slice x.ka x.kn x.kc, .slice x.na x.nn x.nc, .slice x.la x.ln x.lc], .int .i64 x.b, undef, undef, undef, undef, undef, undef, undef, undef, undef, undef, undef, undef, undef, undef, undef, undef, undef], defers := [] })
    (fun x a' _ A D row hs hg hr => by obtain ⟨Bx, h1, h2⟩ := hs; exact ⟨Bx, blk_own (β := Unit) () A D row h1 hg hr, h2⟩)
    ?assign ?body ?done ?stop
  case assign =>
    rintro lp pre x W' K ⟨h1, h2⟩ hK
    have hlt2 := h2.lt
    unfold encL
    gi_wp2
    exact hK _ _ ((KeepsOthers.alloc _ _).from _) ((Below.refl n₀ W').alloc (by omega) _) ⟨hJ.alloc _ h1, h2.alloc _⟩ ⟨W'.heap.size, blk_new W' _ _, rfl⟩
  case body =>
    rintro lp pre x a' W' hlp ⟨r, hr⟩ ⟨h1, h2⟩ ⟨Bx, hBx, rfl⟩ hlt
    have e0 := hBx.cell 0 (.int .i64 x.op) rfl
    have e1 := hBx.cell 1 (.int .i64 x.n) rfl
    have y0 := h2.cell 0 (.func (.yield l) #[] #[]) rfl
    have hxn := x.hn
    have hxb := x.hb
    have wx : wrap64 (x.n - x.b) = x.n - x.b := by rw [wrap64]; omega
    have hfp := hfl pre
    have H1 := Lib.hid h1
    have H2 := Lib.hid h2
    by_cases hop : x.op = 1 ∧ x.b ≤ x.n
    · have q1 : (x.op == 1) = true := by rw [hop.1]; rfl
      have q2 : decide (x.b ≤ x.n) = true := decide_eq_true hop.2
      have q2' : decide (0 ≤ x.n - x.b) = true := decide_eq_true (by omega)
      obtain ⟨ix, hix⟩ : ∃ ix : Idx, ix.1 = x.n - x.b := ⟨⟨x.n - x.b, by omega, by omega⟩, rfl⟩
      have HFR := Lib.hid (show frs (pre ++ [x]) = frs pre ++ [ix] from by
        have e : frs [x] = [ix] := by
          unfold frs
          rw [List.filterMap_cons, dif_pos hop, List.filterMap_nil]
          exact congrArg (fun z => [z]) (Subtype.ext hix.symm)
        rw [frs_app, e])
      obtain ⟨fn, tmps, assign, bdy, hy, hR⟩ := hY (frs pre) ix W' h1 (by omega)
      unfold encI at hy
      rw [hix] at hy
      clear hop h1 h2 hix
      gi_wp2_with fail
      refine (round_in hd lp hR).mono ?_
      rintro e W3 (⟨rfl, hj3, hk3⟩ | ⟨rfl, hx3, hk3⟩)
      · have HE := Lib.hid (show KeepsFrom w3.heap.size W' W3 ∧ Below n₀ W' W3 ∧ J (frs (pre ++ [x])) W3 ∧ Blk W3 W.heap.size 86 #[.func (.yield l) #[] #[]] from ⟨hk3.keepsFrom (by omega), hk3.below, by rw [HFR.out]; exact hj3, hk3.same W.heap.size _ hBW H2.out (.inr ⟨_, rfl⟩)⟩)
        clear hj3 hk3 hR hy
        gi_wp2
        exact HE.out
      · have HX3 := Lib.hid hx3
        have HKF := Lib.hid (hk3.keepsFrom (C := w3.heap.size) (by omega))
        clear hx3 hk3 hR hy
        gi_wp2
        exact ⟨HKF.out, rfl, by rw [HFR.out]; exact HX3.out⟩
    · have HFR := Lib.hid (show frs (pre ++ [x]) = frs pre from by
        have e : frs [x] = [] := by
          unfold frs
          rw [List.filterMap_cons, dif_neg hop, List.filterMap_nil]
        rw [frs_app, e, List.append_nil])
      have HE := Lib.hid (show KeepsFrom w3.heap.size W' W' ∧ Below n₀ W' W' ∧ J (frs (pre ++ [x])) W' ∧ Blk W' W.heap.size 86 #[.func (.yield l) #[] #[]] from ⟨KeepsFrom.refl _ _, Below.refl _ _, by rw [HFR.out]; exact h1, h2⟩)
      cases q1 : (x.op == 1)
      · clear hop h1 h2
        gi_wp2
        refine ⟨fun _ h => (by cases h), ?_⟩
        gi_wp2
        exact HE.out
      · have hop1 : x.op = 1 := by simpa using q1
        have q2 : decide (x.b ≤ x.n) = false := decide_eq_false (fun h => hop ⟨hop1, h⟩)
        have q2' : decide (0 ≤ x.n - x.b) = false := decide_eq_false (fun h => hop ⟨hop1, by omega⟩)
        clear hop h1 h2 hop1
        gi_wp2
        refine ⟨fun _ h => (by cases h), ?_⟩
        gi_wp2
        exact HE.out
  case done =>
    rintro D ys W' hD hS ⟨h1, h2⟩ hK
    have HE := Lib.hid (show (frs ys).map Subtype.val = Con.frees t 0 ∧ J (frs ys) (W'.putObj D (.deferred none)) from ⟨by rw [frs_proj, hS, frees_leaves t 0 ha], (ownFrom_le hJ (by omega)).putObj _ h1 hD hK rfl⟩)
    gi_wp2
    refine ⟨by simp, .inl ⟨_, _, rfl, run_takeDeferred hK, ?_⟩⟩
    exact ⟨_, results_none rfl _ _ _, ⟨_, rfl⟩, .inl ⟨_, HE.out.1, HE.out.2⟩⟩
  case stop =>
    rintro D c pre W' hD hpf ⟨rfl, hq⟩ hK
    have HE := Lib.hid (show (frs pre).map Subtype.val <+: Con.frees t 0 ∧ Jx (frs pre) (W'.putObj D (.deferred none)) from ⟨by rw [frs_proj, frees_leaves t 0 ha]; exact hpf.filterMap _, (ownFrom_le hJx (by omega)).putObj _ hq hD hK rfl⟩)
    gi_wp2
    refine ⟨by simp, .inl ⟨_, _, rfl, run_takeDeferred hK, ?_⟩⟩
    exact ⟨_, results_none rfl _ _ _, ⟨_, rfl⟩, .inr ⟨_, HE.out.1, HE.out.2⟩⟩
end Go.Proofs.YtmjiocpcenbndaaGreatDoor
namespace Go.Proofs.YtmjiocpcenbndaaGreatDoor
open Go Go.RowKit
open Pl (K Con)
set_option linter.unusedSimpArgs false
set_option linter.unusedVariables false
attribute [local go_sem] Oper.semAt_some

theorem wide_of {n : Nat} {P : Program} {f : FuncId} {args : Array Value} {w : World} {R : Ending → World → Prop} (h : ∀ F : Fence, Hid (F = Fence.wide) → CallsIn F n P f args w R) : Calls P f args w R := callsIn_wide.1 (h Fence.wide rfl)
/-- an index that a shift makes fall -/
def badI (b f : Int) (i : Int) : Bool := decide (f ≤ i) && decide (i + b < f)
theorem falls_any (t : Con) (b f : Int) : fallsB t b f = (Con.frees t 0).any (badI b f) := rfl
theorem below_own {β : Type} {B : Nat} {w : World} (h : w.heap.size ≤ B) : OwnFrom B (fun (_ : β) W => Below w.heap.size w W) := fun s A D row hs hg hr => hs.grown hg hs.size (fun k e => Nat.le_trans h (hr k e).1)
set_option maxRecDepth 100000 in
set_option maxHeartbeats 2000000 in
theorem cfalls_any (P : Nat → Prop) (t : Con) (b f : Int) (w : World) (v : Value) (hP : ∀ q, P q → q < w.heap.size) (ht : ConV w P t v) (ha : Con.allB t = true) (hd9 : t.depth ≤ 1000) (hb : -1000000 ≤ b ∧ b ≤ 1000000) (hf : -9223372036854775808 ≤ f ∧ f ≤ 9223372036854775807) :
    Calls Tryz.prog 45 #[v, .int .i64 b, .int .i64 f] w fun e w' => e = .returned (.bool (fallsB t b f)) ∧ Below w.heap.size w w' := by
  refine wide_of (n := 12) (fun F HF => ?_)
  have hd : F.depth = none := by rw [HF.out]; rfl
  have hro : F.round = none := by rw [HF.out]; rfl
  have hf1 : F.fn 45 := by rw [HF.out]; trivial
  have hf2 : F.fn 42 := by rw [HF.out]; trivial
  have hf3 : F.fn 60 := by rw [HF.out]; trivial
  have hdd : ∀ k : Nat, (F.depth.isSome = true → 1 ≤ k) := fun k h => by rw [hd] at h; cases h
  have HT := Lib.hid (fun W (hW : Below w.heap.size w W) => (ht.keep (Same.of_below hW hP)).mono (Q := fun q => q < w.heap.size) hP)
  obtain ⟨ka, kn, kc, na, nn, nc, la, ln, lc, rfl, -, -, -⟩ := ht.shape
  have HFI := Lib.hid (fun W => freeIndices_any W t.op t.n t.s ka na la kn kc nn nc ln lc)
  -- the boxes
  have hb1 := (boxN_new w 28 #[.int .i64 t.op, .int .i64 t.n, .string t.s, .slice ka kn kc, .slice na nn nc, .slice la ln lc])
  have hb2 := (boxN_new (w.alloc (.cells #[.int .i64 t.op, .int .i64 t.n, .string t.s, .slice ka kn kc, .slice na nn nc, .slice la ln lc] 28)) 3 #[.int .i64 b])
  have hb3 := (boxN_new ((w.alloc (.cells #[.int .i64 t.op, .int .i64 t.n, .string t.s, .slice ka kn kc, .slice na nn nc, .slice la ln lc] 28)).alloc (.cells #[.int .i64 b] 3)) 3 #[.int .i64 f])
  have hb4 := (boxN_new (((w.alloc (.cells #[.int .i64 t.op, .int .i64 t.n, .string t.s, .slice ka kn kc, .slice na nn nc, .slice la ln lc] 28)).alloc (.cells #[.int .i64 b] 3)).alloc (.cells #[.int .i64 f] 3)) 4 #[.bool false])
  have k1 := ((hb1.1.alloc (.cells #[.int .i64 b] 3)).alloc (.cells #[.int .i64 f] 3)).alloc (.cells #[.bool false] 4)
  have k2 := (hb2.1.alloc (.cells #[.int .i64 f] 3)).alloc (.cells #[.bool false] 4)
  have k3 := hb3.1.alloc (.cells #[.bool false] 4)
  have k4 := hb4.1
  have hbb := belowStep hb4.2 (belowStep hb3.2 (belowStep hb2.2 hb1.2))
  rw [size_alloc] at k2
  rw [size_alloc, size_alloc] at k3
  rw [size_alloc, size_alloc, size_alloc] at k4
  have c0 := k1.cell 0 (.int .i64 t.op) rfl
  have c1 := k1.cell 1 (.int .i64 t.n) rfl
  have c2 := k1.cell 2 (.string t.s) rfl
  have c3 := k1.cell 3 (.slice ka kn kc) rfl
  have c4 := k1.cell 4 (.slice na nn nc) rfl
  have c5 := k1.cell 5 (.slice la ln lc) rfl
  have hsz : ((((w.alloc (.cells #[.int .i64 t.op, .int .i64 t.n, .string t.s, .slice ka kn kc, .slice na nn nc, .slice la ln lc] 28)).alloc (.cells #[.int .i64 b] 3)).alloc (.cells #[.int .i64 f] 3)).alloc (.cells #[.bool false] 4)).heap.size = w.heap.size + 4 := by simp
  have HK1 := Lib.hid k1
  have HK2 := Lib.hid k2
  have HK3 := Lib.hid k3
  have HK4 := Lib.hid k4
  have HBB := Lib.hid hbb
  have HSZ := Lib.hid hsz
  clear hb1 hb2 hb3 hb4 k1 k2 k3 k4 hbb hsz ht hP
  refine callsIn_of_wp_marks Tryz.func45 rfl hf1 ?_ hro
  simp only [Tryz.ntmps45, List.size_toArray, List.length_cons, List.length_nil, Nat.reduceAdd, Nat.reduceSub, Array.replicate_succ, Array.replicate_zero, List.push_toArray, List.append_toArray, List.nil_append, List.cons_append]
  gi_wp2_with fail
  clear c0 c1 c2 c3 c4 c5
  generalize ((((w.alloc (.cells #[.int .i64 t.op, .int .i64 t.n, .string t.s, .slice ka kn kc, .slice na nn nc, .slice la ln lc] 28)).alloc (.cells #[.int .i64 b] 3)).alloc (.cells #[.int .i64 f] 3)).alloc (.cells #[.bool false] 4)) = w4 at *
  refine (toF HF _ (HFI.out _)).mono ?_
  rintro e w5 ⟨rfl, rfl⟩
  obtain ⟨hbc, hb5⟩ := boxN_new w4 28 #[.int .i64 t.op, .int .i64 t.n, .string t.s, .slice ka kn kc, .slice na nn nc, .slice la ln lc]
  have hsz5 := size_alloc w4 (.cells #[.int .i64 t.op, .int .i64 t.n, .string t.s, .slice ka kn kc, .slice na nn nc, .slice la ln lc] 28)
  have h2 := HK2.out.of_eq (hb5.block _ HK2.out.lt)
  have h3 := HK3.out.of_eq (hb5.block _ HK3.out.lt)
  have h4 := HK4.out.of_eq (hb5.block _ HK4.out.lt)
  have hb6 := belowStep hb5 HBB.out
  have hht := HT.out _ hb6
  have hsz4 := HSZ.out
  have HGT := Lib.hid (show w.heap.size + 4 ≤ w4.heap.size from by omega)
  generalize w4.alloc (.cells #[.int .i64 t.op, .int .i64 t.n, .string t.s, .slice ka kn kc, .slice na nn nc, .slice la ln lc] 28) = w6 at *
  have hlt6 : w4.heap.size < w6.heap.size := by omega
  have hlt7 : w.heap.size ≤ w6.heap.size := by omega
  have hlt8 : w.heap.size + 5 ≤ w6.heap.size := by omega
  clear hsz4 hsz5
  gi_wp2_with fail
  refine rangeO (a := _) hro (by omega) (gf := 60) (lb := #[.pointer (some ⟨w4.heap.size, 0, none⟩)]) rfl hf3 (enters_of Tryz.func60 (by kernel_rfl) rfl)
    (freeIdx_seq F HF (12 - 1) w4.heap.size w.heap.size w6.heap.size t ka na la kn kc nn nc ln lc w6 (by omega) hlt7 hlt7 hlt6 ha hd9 hbc hht) (Nat.le_refl _) (fun h k => KpF.trans h k) (fun W o o' h1 h2 h3 => KpF.put hlt7 W o o' h1 h2 h3) (Below.refl _ _) (fun _ => rfl)
    (fun pre W => (∀ x ∈ pre, badI b f x.1 = false) ∧ Blk W (w.heap.size + 1) 3 #[.int .i64 b] ∧ Blk W (w.heap.size + 1 + 1) 3 #[.int .i64 f] ∧ Blk W (w.heap.size + 1 + 1 + 1) 4 #[.bool false] ∧ Below w.heap.size w W)
    (fun pre W => (∃ x ∈ pre, badI b f x.1 = true) ∧ Blk W (w.heap.size + 1 + 1 + 1) 4 #[.bool true] ∧ Below w.heap.size w W)
    (fun s A D row hs hg hr => ⟨hs.1, blk_own (β := Unit) () A D row hs.2.1 hg hr, blk_own (β := Unit) () A D row hs.2.2.1 hg hr, blk_own (β := Unit) () A D row hs.2.2.2.1 hg hr, below_own (β := Unit) hlt7 () A D row hs.2.2.2.2 hg hr⟩)
    (fun s A D row hs hg hr => ⟨hs.1, blk_own (β := Unit) () A D row hs.2.1 hg hr, below_own (β := Unit) hlt7 () A D row hs.2.2 hg hr⟩)
    ⟨fun x hx => (by cases hx), h2, h3, h4, hb6⟩ (fun x => { tmps := #[.agg #[.int .i64 t.op, .int .i64 t.n, .string t.s, .slice ka kn kc, .slice na nn nc, .slice la ln lc], .int .i64 b, .int .i64 f, .pointer (some ⟨w.heap.size, 0, none⟩), .pointer (some ⟨w.heap.size + 1, 0, none⟩), .pointer (some ⟨w.heap.size + 1 + 1, 0, none⟩), .pointer (some ⟨w.heap.size + 1 + 1 + 1, 0, none⟩), .int .i64 x.1, .agg #[.int .i64 t.op, .int .i64 t.n, .string t.s, .slice ka kn kc, .slice na nn nc, .slice la ln lc], .func (.func 60) #[] #[.pointer (some ⟨w4.heap.size, 0, none⟩)], .int .i64 x.1, undef, undef, undef, undef, undef, undef, undef, undef, undef, undef], defers := [] }) ?assign ?body ?done ?stop
  case assign =>
    intro lp x W K hK
    unfold encI
    gi_wp2
    exact hK
  case body =>
    rintro lp pre x W ⟨h1, h2, h3, h4, h5⟩ hlen
    have x2 := h2.cell 0 (.int .i64 b) rfl
    have x3 := h3.cell 0 (.int .i64 f) rfl
    have x4 := h4.cell 0 (.bool false) rfl
    have f4 := h4.thaw 0
    have hxx := x.2
    have wx : wrap64 (x.1 + b) = x.1 + b := by rw [wrap64]; omega
    have HN := Lib.hid (fun (hbad : badI b f x.1 = false) => (show KeepsFrom w6.heap.size W W ∧ KpF w.heap.size w6.heap.size W W ∧ (∀ y ∈ pre ++ [x], badI b f y.1 = false) ∧ Blk W (w.heap.size + 1) 3 #[.int .i64 b] ∧ Blk W (w.heap.size + 1 + 1) 3 #[.int .i64 f] ∧ Blk W (w.heap.size + 1 + 1 + 1) 4 #[.bool false] ∧ Below w.heap.size w W from
      ⟨KeepsFrom.refl _ _, KpF.refl _ _ _, fun y hy => by
        rcases List.mem_append.1 hy with hy | hy
        · exact h1 y hy
        · rw [List.mem_singleton.1 hy]; exact hbad, h2, h3, h4, h5⟩))
    have HY := Lib.hid (fun (hbad : badI b f x.1 = true) => (show KeepsFrom w6.heap.size W (W.setCell ⟨w.heap.size + 1 + 1 + 1, 0, none⟩ (.bool true)) ∧ KpF w.heap.size w6.heap.size W (W.setCell ⟨w.heap.size + 1 + 1 + 1, 0, none⟩ (.bool true)) ∧ (∃ y ∈ pre ++ [x], badI b f y.1 = true) ∧ Blk (W.setCell ⟨w.heap.size + 1 + 1 + 1, 0, none⟩ (.bool true)) (w.heap.size + 1 + 1 + 1) 4 #[.bool true] ∧ Below w.heap.size w (W.setCell ⟨w.heap.size + 1 + 1 + 1, 0, none⟩ (.bool true)) from
      ⟨(KeepsOthers.setCell _ _ _).from _, ⟨(Below.refl _ W).setCell (p := ⟨w.heap.size + 1 + 1 + 1, 0, none⟩) (show w.heap.size ≤ w.heap.size + 1 + 1 + 1 from by omega) _, fun k o hk ho _ => (Below.heap_setCell W _ _ k (show k ≠ w.heap.size + 1 + 1 + 1 from by omega)).trans ho⟩, ⟨x, by simp, hbad⟩, by simpa using h4.set 0 (.bool true), h5.setCell (p := ⟨w.heap.size + 1 + 1 + 1, 0, none⟩) (show w.heap.size ≤ w.heap.size + 1 + 1 + 1 from by omega) _⟩))
    clear h1 h2 h3 h4 h5
    have HBD := Lib.hid (show badI b f x.1 = (decide (f ≤ x.1) && decide (x.1 + b < f)) from rfl)
    cases q1 : decide (f ≤ x.1)
    · have HE := Lib.hid (HN.out (by rw [HBD.out, q1]; rfl))
      clear HN HY
      gi_wp2
      exact HE.out
    cases q2 : decide (x.1 + b < f)
    · have HE := Lib.hid (HN.out (by rw [HBD.out, q1, q2]; rfl))
      clear HN HY
      gi_wp2
      exact HE.out
    · have HE := Lib.hid (HY.out (by rw [HBD.out, q1, q2]; rfl))
      clear HN HY
      gi_wp2
      exact HE.out
  case done =>
    rintro D ys W hD hS ⟨h1, h2, h3, h4, h5⟩ hK
    have x4 := h4.cell 0 (.bool false) rfl
    have f4 := h4.thaw 0
    have HV := Lib.hid (show fallsB t b f = false from by
      rw [falls_any, ← hS, List.any_map, List.any_eq_false]
      intro y hy
      have := h1 y hy
      simp only [Function.comp]
      rw [this]
      simp)
    have hk2 := (KeepsOthers.setCell W ⟨w.heap.size + 1 + 1 + 1, 0, none⟩ (.bool false)).same D _ hK rfl
    have h42 : Blk (W.setCell ⟨w.heap.size + 1 + 1 + 1, 0, none⟩ (.bool false)) (w.heap.size + 1 + 1 + 1) 4 #[.bool false] := by simpa using h4.set 0 (.bool false)
    have h52 := h5.setCell (p := ⟨w.heap.size + 1 + 1 + 1, 0, none⟩) (show w.heap.size ≤ w.heap.size + 1 + 1 + 1 from by omega) (.bool false)
    have d0 := cell_kept (h42.cell 0 (.bool false) rfl) (grownBy_putObj' _ D (.deferred none)) (fun r e => by cases e; exact ⟨_, hk2, rfl⟩)
    have HB := Lib.hid (h52.trans (belowK_b (w := w) (Nat.le_refl _) _ D _ (.deferred none) (Nat.le_trans hlt7 hD) hk2 rfl rfl))
    clear h1 h2 h3 h4 h5 h42 h52 hS
    gi_wp2
    refine ⟨by simp, .inl ⟨_, _, rfl, run_takeDeferred hk2, ?_⟩⟩
    refine ⟨.bool false, by simp [results, Tryz.f45, go_sem, d0], ?_⟩
    exact ⟨by rw [HV.out], HB.out⟩
  case stop =>
    rintro D pre W hD hpf ⟨⟨y, hy, hbad⟩, h4, h5⟩ hK
    have HV := Lib.hid (show fallsB t b f = true from by
      rw [falls_any, List.any_eq_true]
      exact ⟨y.1, hpf.subset (List.mem_map_of_mem hy), hbad⟩)
    have d0 := cell_kept (h4.cell 0 (.bool true) rfl) (grownBy_putObj' _ D (.deferred none)) (fun r e => by cases e; exact ⟨_, hK, rfl⟩)
    have HB := Lib.hid (h5.trans (belowK_b (w := w) (Nat.le_refl _) _ D _ (.deferred none) (Nat.le_trans hlt7 hD) hK rfl rfl))
    clear h4 h5 hy hbad hpf
    gi_wp2
    refine ⟨by simp, .inl ⟨_, _, rfl, run_takeDeferred hK, ?_⟩⟩
    refine ⟨.bool true, by simp [results, Tryz.f45, go_sem, d0], ?_⟩
    exact ⟨by rw [HV.out], HB.out⟩
end Go.Proofs.YtmjiocpcenbndaaGreatDoor
namespace Go.Proofs.YtmjiocpcenbndaaGreatDoor
open Go Go.RowKit
open Pl (K Con)
set_option linter.unusedSimpArgs false
set_option linter.unusedVariables false

theorem valid_depth (t : Con) (h : Con.validB t = true) : t.depth ≤ 1000 := by
  unfold Con.validB Con.small at h
  simp only [Bool.and_eq_true, decide_eq_true_eq] at h
  omega
/-- a constructor, or nothing, with a code -/
def OutP (x : Con × Int) (w : World) (e : Ending) (w' : World) : Prop := (∃ y, e = .returned (.tuple #[y, .int .i64 x.2]) ∧ ConV w' (· < w'.heap.size) x.1 y) ∧ Below w.heap.size w w'
/-- the same, in new blocks -/
def OutF (x : Con × Int) (w : World) (e : Ending) (w' : World) : Prop := (∃ y, e = .returned (.tuple #[y, .int .i64 x.2]) ∧ ConV w' (fun q => w.heap.size ≤ q ∧ q < w'.heap.size) x.1 y) ∧ Below w.heap.size w w'
/-- the same, each block serving one node -/
def OutO (x : Con × Int) (w : World) (e : Ending) (w' : World) : Prop := (∃ y, e = .returned (.tuple #[y, .int .i64 x.2]) ∧ OwnC w' x.1 (fun q => w.heap.size ≤ q ∧ q < w'.heap.size) y) ∧ Below w.heap.size w w'
theorem OutO.fresh {x : Con × Int} {w : World} {e : Ending} {w' : World} (h : OutO x w e w') : OutF x w e w' := by
  obtain ⟨⟨y, h1, h2⟩, hb⟩ := h
  exact ⟨⟨y, h1, h2.con⟩, hb⟩
theorem OutF.out {x : Con × Int} {w : World} {e : Ending} {w' : World} (h : OutF x w e w') : OutP x w e w' := by
  obtain ⟨⟨y, h1, h2⟩, hb⟩ := h
  exact ⟨⟨y, h1, h2.mono (fun q hq => hq.2)⟩, hb⟩
set_option maxRecDepth 100000 in
set_option maxHeartbeats 4000000 in
theorem cshift_own (t : Con) (b f : Int) (w : World) (v : Value) (ht : ConV w (· < w.heap.size) t v) (hb0 : -9223372036854775808 ≤ b) (hb1 : b ≤ 9223372036854775807) (hf0 : -9223372036854775808 ≤ f) (hf1 : f ≤ 9223372036854775807) :
    Calls Tryz.prog 26 #[v, .int .i64 b, .int .i64 f] w (OutO (shiftOut t b f) w) := by
  have HV := Lib.hid (fun W (hW : Below w.heap.size w W) => cvalid_any (· < w.heap.size) t W v (fun q hq => Nat.lt_of_lt_of_le hq hW.size) (ht.keep (Same.of_below hW (fun _ h => h))))
  have HF := Lib.hid (fun W (hW : Below w.heap.size w W) (hv : Con.validB t = true) (h : -1000000 ≤ b ∧ b ≤ 1000000) => cfalls_any (· < w.heap.size) t b f W v (fun q hq => Nat.lt_of_lt_of_le hq hW.size) (ht.keep (Same.of_below hW (fun _ h => h))) (valid_all t hv) (valid_depth t hv) h ⟨hf0, hf1⟩)
  have HO := Lib.hid (shiftOut_eq t b f)
  have HR := Lib.hid (fun (G : Nat) (hG : w.heap.size ≤ G) (wb W : World) (hv : Con.validB t = true) (hb : -1000000 ≤ b ∧ b ≤ 1000000) (hw : Below w.heap.size w wb) (hgl : G < wb.heap.size) (hbl : Blk wb G 94 #[.int .i64 20000]) (g1 g2 g3 : Nat) (hW : Below wb.heap.size wb W) (hs : ShiftBoxes W g1 g2 g3 G b f) (h1 : wb.heap.size ≤ g1) (h2 : wb.heap.size ≤ g2) (h3 : wb.heap.size ≤ g3) =>
    result_any w.heap.size G _ _ (shF b f) W (shift_change w.heap.size G g1 g2 g3 b f W hG hs (by omega) (by omega) (by omega) hb ⟨hf0, hf1⟩) hG t v (valid_all t hv) (hbl.of_eq (hW.block _ hgl)) ((ht.keep (Same.of_below (belowStep hW hw) (fun _ h => h)))))
  obtain ⟨ka, kn, kc, na, nn, nc, la, ln, lc, rfl, -, -, -⟩ := ht.shape
  obtain ⟨hbx, hbx2, hb⟩ := twoN_new w 28 28 #[.int .i64 t.op, .int .i64 t.n, .string t.s, .slice ka kn kc, .slice na nn nc, .slice la ln lc] #[.int .i64 0, .int .i64 0, .string ⟨#[]⟩, .slice none 0 0, .slice none 0 0, .slice none 0 0]
  have HBX := Lib.hid hbx
  have HZ := Lib.hid hbx2
  have HB := Lib.hid hb
  have c0 := hbx.cell 0 (.int .i64 t.op) rfl
  have c1 := hbx.cell 1 (.int .i64 t.n) rfl
  have c2 := hbx.cell 2 (.string t.s) rfl
  have c3 := hbx.cell 3 (.slice ka kn kc) rfl
  have c4 := hbx.cell 4 (.slice na nn nc) rfl
  have c5 := hbx.cell 5 (.slice la ln lc) rfl
  clear hbx hbx2 hb ht hb0 hb1 hf0 hf1
  go_enter Tryz.func26, Tryz.ntmps26
  go_wp2_with fail
  clear c0 c1 c2 c3 c4 c5
  generalize ((w.alloc (.cells #[.int .i64 t.op, .int .i64 t.n, .string t.s, .slice ka kn kc, .slice na nn nc, .slice la ln lc] 28)).alloc (.cells #[.int .i64 0, .int .i64 0, .string ⟨#[]⟩, .slice none 0 0, .slice none 0 0, .slice none 0 0] 28)) = w1 at *
  refine (HV.out _ HB.out).mono ?_
  rintro e w2 ⟨rfl, h2⟩
  replace HB := Lib.hid (belowStep h2 HB.out)
  replace HBX := Lib.hid (HBX.out.of_eq (h2.block _ HBX.out.lt))
  replace HZ := Lib.hid (HZ.out.of_eq (h2.block _ HZ.out.lt))
  clear h2
  cases hv : Con.validB t
  · clear HR
    have HO2 := Lib.hid (show shiftOut t b f = (Con.none0, 1) from by rw [HO.out, if_neg (by rw [hv]; simp)])
    have hzz := HZ.out
    have hz := store6_blk hzz 0 (.int .i64 0) (.int .i64 0) (.string ⟨#[]⟩) (.slice none 0 0) (.slice none 0 0) (.slice none 0 0)
    rw [put6_all] at hz
    have HE := Lib.hid (show OutO (shiftOut t b f) w (.returned (.tuple #[.agg #[.int .i64 0, .int .i64 0, .string ⟨#[]⟩, .slice none 0 0, .slice none 0 0, .slice none 0 0], .int .i64 1])) (store6 w2 (w.heap.size + 1) 0 (.int .i64 0) (.int .i64 0) (.string ⟨#[]⟩) (.slice none 0 0) (.slice none 0 0) (.slice none 0 0)) from ⟨⟨_, by rw [HO2.out], by rw [HO2.out]; exact ownC_none _ _⟩, store6_below HB.out _ _ _ _ _ _ _ _ (Nat.le_succ _)⟩)
    unfold store6 at hz HE
    simp only [Nat.zero_add] at hz HE
    have z0 := hz.cell 0 (.int .i64 0) rfl
    have z1 := hz.cell 1 (.int .i64 0) rfl
    have z2 := hz.cell 2 (.string ⟨#[]⟩) rfl
    have z3 := hz.cell 3 (.slice none 0 0) rfl
    have z4 := hz.cell 4 (.slice none 0 0) rfl
    have z5 := hz.cell 5 (.slice none 0 0) rfl
    have r0 := hzz.cell 0 (.int .i64 0) rfl
    have r1 := hzz.cell 1 (.int .i64 0) rfl
    have r2 := hzz.cell 2 (.string ⟨#[]⟩) rfl
    have r3 := hzz.cell 3 (.slice none 0 0) rfl
    have r4 := hzz.cell 4 (.slice none 0 0) rfl
    have r5 := hzz.cell 5 (.slice none 0 0) rfl
    have t0 := hzz.thaw 0
    have t1 := hzz.thaw 1
    have t2 := hzz.thaw 2
    have t3 := hzz.thaw 3
    have t4 := hzz.thaw 4
    have t5 := hzz.thaw 5
    clear hz hzz HV HF HO HBX HZ HO2
    go_wp2
    refine bodyPost_ret (v := .tuple #[.agg #[.int .i64 0, .int .i64 0, .string ⟨#[]⟩, .slice none 0 0, .slice none 0 0, .slice none 0 0], .int .i64 1]) (by simp [results, Tryz.results26, go_sem, z0, z1, z2, z3, z4, z5]) rfl ?_
    exact HE.out
  have HVT := Lib.hid hv
  rw [hv] at HV
  clear hv
  cases q1 : decide (f < 0)
  rotate_left
  · clear HR
    have HO2 := Lib.hid (show shiftOut t b f = (Con.none0, 2) from by rw [HO.out, if_pos HVT.out, if_pos (.inl (of_decide_eq_true q1))])
    have hzz := HZ.out
    have hz := store6_blk hzz 0 (.int .i64 0) (.int .i64 0) (.string ⟨#[]⟩) (.slice none 0 0) (.slice none 0 0) (.slice none 0 0)
    rw [put6_all] at hz
    have HE := Lib.hid (show OutO (shiftOut t b f) w (.returned (.tuple #[.agg #[.int .i64 0, .int .i64 0, .string ⟨#[]⟩, .slice none 0 0, .slice none 0 0, .slice none 0 0], .int .i64 2])) (store6 w2 (w.heap.size + 1) 0 (.int .i64 0) (.int .i64 0) (.string ⟨#[]⟩) (.slice none 0 0) (.slice none 0 0) (.slice none 0 0)) from ⟨⟨_, by rw [HO2.out], by rw [HO2.out]; exact ownC_none _ _⟩, store6_below HB.out _ _ _ _ _ _ _ _ (Nat.le_succ _)⟩)
    unfold store6 at hz HE
    simp only [Nat.zero_add] at hz HE
    have z0 := hz.cell 0 (.int .i64 0) rfl
    have z1 := hz.cell 1 (.int .i64 0) rfl
    have z2 := hz.cell 2 (.string ⟨#[]⟩) rfl
    have z3 := hz.cell 3 (.slice none 0 0) rfl
    have z4 := hz.cell 4 (.slice none 0 0) rfl
    have z5 := hz.cell 5 (.slice none 0 0) rfl
    have r0 := hzz.cell 0 (.int .i64 0) rfl
    have r1 := hzz.cell 1 (.int .i64 0) rfl
    have r2 := hzz.cell 2 (.string ⟨#[]⟩) rfl
    have r3 := hzz.cell 3 (.slice none 0 0) rfl
    have r4 := hzz.cell 4 (.slice none 0 0) rfl
    have r5 := hzz.cell 5 (.slice none 0 0) rfl
    have t0 := hzz.thaw 0
    have t1 := hzz.thaw 1
    have t2 := hzz.thaw 2
    have t3 := hzz.thaw 3
    have t4 := hzz.thaw 4
    have t5 := hzz.thaw 5
    clear hz hzz HV HF HO HBX HZ HO2
    go_wp2
    refine bodyPost_ret (v := .tuple #[.agg #[.int .i64 0, .int .i64 0, .string ⟨#[]⟩, .slice none 0 0, .slice none 0 0, .slice none 0 0], .int .i64 2]) (by simp [results, Tryz.results26, go_sem, z0, z1, z2, z3, z4, z5]) rfl ?_
    exact HE.out
  cases q2 : decide (b < -20000)
  rotate_left
  · clear HR
    have HO2 := Lib.hid (show shiftOut t b f = (Con.none0, 2) from by rw [HO.out, if_pos HVT.out, if_pos (.inr (.inl (of_decide_eq_true q2)))])
    have hzz := HZ.out
    have hz := store6_blk hzz 0 (.int .i64 0) (.int .i64 0) (.string ⟨#[]⟩) (.slice none 0 0) (.slice none 0 0) (.slice none 0 0)
    rw [put6_all] at hz
    have HE := Lib.hid (show OutO (shiftOut t b f) w (.returned (.tuple #[.agg #[.int .i64 0, .int .i64 0, .string ⟨#[]⟩, .slice none 0 0, .slice none 0 0, .slice none 0 0], .int .i64 2])) (store6 w2 (w.heap.size + 1) 0 (.int .i64 0) (.int .i64 0) (.string ⟨#[]⟩) (.slice none 0 0) (.slice none 0 0) (.slice none 0 0)) from ⟨⟨_, by rw [HO2.out], by rw [HO2.out]; exact ownC_none _ _⟩, store6_below HB.out _ _ _ _ _ _ _ _ (Nat.le_succ _)⟩)
    unfold store6 at hz HE
    simp only [Nat.zero_add] at hz HE
    have z0 := hz.cell 0 (.int .i64 0) rfl
    have z1 := hz.cell 1 (.int .i64 0) rfl
    have z2 := hz.cell 2 (.string ⟨#[]⟩) rfl
    have z3 := hz.cell 3 (.slice none 0 0) rfl
    have z4 := hz.cell 4 (.slice none 0 0) rfl
    have z5 := hz.cell 5 (.slice none 0 0) rfl
    have r0 := hzz.cell 0 (.int .i64 0) rfl
    have r1 := hzz.cell 1 (.int .i64 0) rfl
    have r2 := hzz.cell 2 (.string ⟨#[]⟩) rfl
    have r3 := hzz.cell 3 (.slice none 0 0) rfl
    have r4 := hzz.cell 4 (.slice none 0 0) rfl
    have r5 := hzz.cell 5 (.slice none 0 0) rfl
    have t0 := hzz.thaw 0
    have t1 := hzz.thaw 1
    have t2 := hzz.thaw 2
    have t3 := hzz.thaw 3
    have t4 := hzz.thaw 4
    have t5 := hzz.thaw 5
    clear hz hzz HV HF HO HBX HZ HO2
    go_wp2
    refine bodyPost_ret (v := .tuple #[.agg #[.int .i64 0, .int .i64 0, .string ⟨#[]⟩, .slice none 0 0, .slice none 0 0, .slice none 0 0], .int .i64 2]) (by simp [results, Tryz.results26, go_sem, z0, z1, z2, z3, z4, z5]) rfl ?_
    exact HE.out
  cases q3 : decide (20000 < b)
  rotate_left
  · clear HR
    have HO2 := Lib.hid (show shiftOut t b f = (Con.none0, 2) from by rw [HO.out, if_pos HVT.out, if_pos (.inr (.inr (.inl (of_decide_eq_true q3))))])
    have hzz := HZ.out
    have hz := store6_blk hzz 0 (.int .i64 0) (.int .i64 0) (.string ⟨#[]⟩) (.slice none 0 0) (.slice none 0 0) (.slice none 0 0)
    rw [put6_all] at hz
    have HE := Lib.hid (show OutO (shiftOut t b f) w (.returned (.tuple #[.agg #[.int .i64 0, .int .i64 0, .string ⟨#[]⟩, .slice none 0 0, .slice none 0 0, .slice none 0 0], .int .i64 2])) (store6 w2 (w.heap.size + 1) 0 (.int .i64 0) (.int .i64 0) (.string ⟨#[]⟩) (.slice none 0 0) (.slice none 0 0) (.slice none 0 0)) from ⟨⟨_, by rw [HO2.out], by rw [HO2.out]; exact ownC_none _ _⟩, store6_below HB.out _ _ _ _ _ _ _ _ (Nat.le_succ _)⟩)
    unfold store6 at hz HE
    simp only [Nat.zero_add] at hz HE
    have z0 := hz.cell 0 (.int .i64 0) rfl
    have z1 := hz.cell 1 (.int .i64 0) rfl
    have z2 := hz.cell 2 (.string ⟨#[]⟩) rfl
    have z3 := hz.cell 3 (.slice none 0 0) rfl
    have z4 := hz.cell 4 (.slice none 0 0) rfl
    have z5 := hz.cell 5 (.slice none 0 0) rfl
    have r0 := hzz.cell 0 (.int .i64 0) rfl
    have r1 := hzz.cell 1 (.int .i64 0) rfl
    have r2 := hzz.cell 2 (.string ⟨#[]⟩) rfl
    have r3 := hzz.cell 3 (.slice none 0 0) rfl
    have r4 := hzz.cell 4 (.slice none 0 0) rfl
    have r5 := hzz.cell 5 (.slice none 0 0) rfl
    have t0 := hzz.thaw 0
    have t1 := hzz.thaw 1
    have t2 := hzz.thaw 2
    have t3 := hzz.thaw 3
    have t4 := hzz.thaw 4
    have t5 := hzz.thaw 5
    clear hz hzz HV HF HO HBX HZ HO2
    go_wp2
    refine bodyPost_ret (v := .tuple #[.agg #[.int .i64 0, .int .i64 0, .string ⟨#[]⟩, .slice none 0 0, .slice none 0 0, .slice none 0 0], .int .i64 2]) (by simp [results, Tryz.results26, go_sem, z0, z1, z2, z3, z4, z5]) rfl ?_
    exact HE.out
  have c0 := HBX.out.cell 0 (.int .i64 t.op) rfl
  have c1 := HBX.out.cell 1 (.int .i64 t.n) rfl
  have c2 := HBX.out.cell 2 (.string t.s) rfl
  have c3 := HBX.out.cell 3 (.slice ka kn kc) rfl
  have c4 := HBX.out.cell 4 (.slice na nn nc) rfl
  have c5 := HBX.out.cell 5 (.slice la ln lc) rfl
  have HQ := Lib.hid (show ¬ f < 0 ∧ ¬ b < -20000 ∧ ¬ 20000 < b from ⟨of_decide_eq_false q1, of_decide_eq_false q2, of_decide_eq_false q3⟩)
  go_wp2_with fail
  clear c0 c1 c2 c3 c4 c5 q1 q2 q3
  refine (HF.out _ HB.out HVT.out (by have := HQ.out; omega)).mono ?_
  rintro e w3 ⟨rfl, h3⟩
  replace HB := Lib.hid (belowStep h3 HB.out)
  replace HBX := Lib.hid (HBX.out.of_eq (h3.block _ HBX.out.lt))
  replace HZ := Lib.hid (HZ.out.of_eq (h3.block _ HZ.out.lt))
  clear h3
  cases hfb : fallsB t b f
  rotate_left
  · clear HR
    have HO2 := Lib.hid (show shiftOut t b f = (Con.none0, 2) from by rw [HO.out, if_pos HVT.out, if_pos (.inr (.inr (.inr hfb)))])
    have hzz := HZ.out
    have hz := store6_blk hzz 0 (.int .i64 0) (.int .i64 0) (.string ⟨#[]⟩) (.slice none 0 0) (.slice none 0 0) (.slice none 0 0)
    rw [put6_all] at hz
    have HE := Lib.hid (show OutO (shiftOut t b f) w (.returned (.tuple #[.agg #[.int .i64 0, .int .i64 0, .string ⟨#[]⟩, .slice none 0 0, .slice none 0 0, .slice none 0 0], .int .i64 2])) (store6 w3 (w.heap.size + 1) 0 (.int .i64 0) (.int .i64 0) (.string ⟨#[]⟩) (.slice none 0 0) (.slice none 0 0) (.slice none 0 0)) from ⟨⟨_, by rw [HO2.out], by rw [HO2.out]; exact ownC_none _ _⟩, store6_below HB.out _ _ _ _ _ _ _ _ (Nat.le_succ _)⟩)
    unfold store6 at hz HE
    simp only [Nat.zero_add] at hz HE
    have z0 := hz.cell 0 (.int .i64 0) rfl
    have z1 := hz.cell 1 (.int .i64 0) rfl
    have z2 := hz.cell 2 (.string ⟨#[]⟩) rfl
    have z3 := hz.cell 3 (.slice none 0 0) rfl
    have z4 := hz.cell 4 (.slice none 0 0) rfl
    have z5 := hz.cell 5 (.slice none 0 0) rfl
    have r0 := hzz.cell 0 (.int .i64 0) rfl
    have r1 := hzz.cell 1 (.int .i64 0) rfl
    have r2 := hzz.cell 2 (.string ⟨#[]⟩) rfl
    have r3 := hzz.cell 3 (.slice none 0 0) rfl
    have r4 := hzz.cell 4 (.slice none 0 0) rfl
    have r5 := hzz.cell 5 (.slice none 0 0) rfl
    have t0 := hzz.thaw 0
    have t1 := hzz.thaw 1
    have t2 := hzz.thaw 2
    have t3 := hzz.thaw 3
    have t4 := hzz.thaw 4
    have t5 := hzz.thaw 5
    clear hz hzz HV HF HO HBX HZ HO2
    go_wp2
    refine bodyPost_ret (v := .tuple #[.agg #[.int .i64 0, .int .i64 0, .string ⟨#[]⟩, .slice none 0 0, .slice none 0 0, .slice none 0 0], .int .i64 2]) (by simp [results, Tryz.results26, go_sem, z0, z1, z2, z3, z4, z5]) rfl ?_
    exact HE.out
  have HOUT := Lib.hid (show shiftOut t b f = fitOut (Con.reb (shF b f) t 0) from by
    rw [HO.out, if_pos HVT.out, if_neg (by rw [hfb]; have := HQ.out; simp; omega)]
    rfl)
  rw [hfb] at HF
  clear hfb HF HV HO
  go_wp2_with fail
  refine (newBuilder_any _).mono ?_
  rintro e wb ⟨rfl, hwb⟩
  have hnb := boxN_new w3 94 #[.int .i64 20000]
  rw [← hwb] at hnb
  have HGB := Lib.hid hnb.1
  have HGL := Lib.hid hnb.1.lt
  have HGS := Lib.hid (show w.heap.size + 1 < w3.heap.size from HZ.out.lt)
  have h4 := hnb.2
  replace HB := Lib.hid (belowStep h4 HB.out)
  replace HBX := Lib.hid (HBX.out.of_eq (h4.block _ HBX.out.lt))
  replace HZ := Lib.hid (HZ.out.of_eq (h4.block _ HZ.out.lt))
  clear hnb h4 hwb
  generalize w3.heap.size = G at *
  replace HR := Lib.hid (fun (W : World) => HR.out G (by have := HGS.out; omega) wb W HVT.out (by have := HQ.out; omega) HB.out HGL.out HGB.out)
  obtain ⟨u, c, hfo⟩ : ∃ u c, fitOut (Con.reb (shF b f) t 0) = (u, c) := ⟨_, _, rfl⟩
  have HFO := Lib.hid (show shiftOut t b f = (u, c) from HOUT.out.trans hfo)
  replace HR := Lib.hid (fun (W : World) g1 g2 g3 (hW : Below wb.heap.size wb W) (hs : ShiftBoxes W g1 g2 g3 G b f) (h1 : wb.heap.size ≤ g1) (h2 : wb.heap.size ≤ g2) (h3 : wb.heap.size ≤ g3) => (HR.out W g1 g2 g3 hW hs h1 h2 h3).mono (R' := fun e w' => Only G W w' ∧ ∃ y, e = .returned (.tuple #[y, .int .i64 c]) ∧ OwnC w' u (fun q => W.heap.size ≤ q ∧ q < w'.heap.size) y) (by
    rintro e w' ⟨h1, y, h2, h3⟩
    rw [hfo] at h2 h3
    exact ⟨h1, y, h2, h3⟩))
  clear hfo HOUT
  have HSS := Lib.hid (fun W (hW : Only G wb W) => (show Below w.heap.size w W ∧ W.cell? ⟨w.heap.size, 0, none⟩ = some (.int .i64 t.op) ∧ W.cell? ⟨w.heap.size, 1, none⟩ = some (.int .i64 t.n) ∧ W.cell? ⟨w.heap.size, 2, none⟩ = some (.string t.s) ∧ W.cell? ⟨w.heap.size, 3, none⟩ = some (.slice ka kn kc) ∧ W.cell? ⟨w.heap.size, 4, none⟩ = some (.slice na nn nc) ∧ W.cell? ⟨w.heap.size, 5, none⟩ = some (.slice la ln lc) from by
    have h := hW.blk HBX.out (by have := HGS.out; omega)
    exact ⟨HB.out.trans (hW.to (by have := HGS.out; omega) HB.out.size), h.cell 0 _ rfl, h.cell 1 _ rfl, h.cell 2 _ rfl, h.cell 3 _ rfl, h.cell 4 _ rfl, h.cell 5 _ rfl⟩))
  have HST := Lib.hid (fun W (hW : Only G wb W) (x0 x1 x2 x3 x4 x5 : Value) => (show (fun W => Below w.heap.size w W ∧ W.cell? ⟨w.heap.size, 0, none⟩ = some (.int .i64 t.op) ∧ W.cell? ⟨w.heap.size, 1, none⟩ = some (.int .i64 t.n) ∧ W.cell? ⟨w.heap.size, 2, none⟩ = some (.string t.s) ∧ W.cell? ⟨w.heap.size, 3, none⟩ = some (.slice ka kn kc) ∧ W.cell? ⟨w.heap.size, 4, none⟩ = some (.slice na nn nc) ∧ W.cell? ⟨w.heap.size, 5, none⟩ = some (.slice la ln lc)) (((((((W).setCell ⟨w.heap.size + 1, 0, none⟩ x0).setCell ⟨w.heap.size + 1, 1, none⟩ x1).setCell ⟨w.heap.size + 1, 2, none⟩ x2).setCell ⟨w.heap.size + 1, 3, none⟩ x3).setCell ⟨w.heap.size + 1, 4, none⟩ x4).setCell ⟨w.heap.size + 1, 5, none⟩ x5) from by
    have h := (hW.blk HBX.out (by have := HGS.out; omega)).of_eq (store6_other W (w.heap.size + 1) 0 x0 x1 x2 x3 x4 x5 w.heap.size (by omega))
    have h2 := store6_below (HB.out.trans (hW.to (by have := HGS.out; omega) HB.out.size)) (w.heap.size + 1) 0 x0 x1 x2 x3 x4 x5 (Nat.le_succ _)
    unfold store6 at h h2
    simp only [Nat.zero_add] at h h2
    exact ⟨h2, h.cell 0 _ rfl, h.cell 1 _ rfl, h.cell 2 _ rfl, h.cell 3 _ rfl, h.cell 4 _ rfl, h.cell 5 _ rfl⟩))
  simp only at HST
  have HD0 := Lib.hid (Only.refl G wb).drew
  have HD1 := Lib.hid (Below.refl wb.heap.size wb).drew
  have HTH := Lib.hid (fun W (hW : Only G wb W) => hW.blk HZ.out (by have := HGS.out; omega))
  go_wp2_with fail
  go_region_held3 (fun W => Below w.heap.size w W ∧ W.cell? ⟨w.heap.size, 0, none⟩ = some (.int .i64 t.op) ∧ W.cell? ⟨w.heap.size, 1, none⟩ = some (.int .i64 t.n) ∧ W.cell? ⟨w.heap.size, 2, none⟩ = some (.string t.s) ∧ W.cell? ⟨w.heap.size, 3, none⟩ = some (.slice ka kn kc) ∧ W.cell? ⟨w.heap.size, 4, none⟩ = some (.slice na nn nc) ∧ W.cell? ⟨w.heap.size, 5, none⟩ = some (.slice la ln lc))
    (first | (with_reducible exact HSS.out _ HD0.out) | (with_reducible exact HSS.out _ (by assumption)) | (with_reducible exact HST.out _ (by assumption) _ _ _ _ _ _))
    (first
    | (go_at_call 48; (with_reducible refine (shifting_any G b f _).mono ?_); rintro e wn ⟨⟨g1, g2, g3, rfl, hsb, l1, l2, l3⟩, hbn⟩; have hbn2 := belowStep (a := wb) hbn (by first | assumption | exact HD1.out); have hon := only_below (N := G) hbn2; have k1 := Nat.le_trans HD1.out.size l1; have k2 := Nat.le_trans HD1.out.size l2; have k3 := Nat.le_trans HD1.out.size l3)
    | (go_at_call 47; (with_reducible refine (HR.out _ _ _ _ (by assumption) (by assumption) (by assumption) (by assumption) (by assumption)).mono ?_); rintro e wr ⟨hor, y, rfl, hy⟩; have hor2 := Only.trans hon hor; obtain ⟨ua, un, uc, va, vn, vc, xa, xn, xc, rfl, -, -, -⟩ := hy.shape; have hzr := HTH.out _ hor2; have t0 := hzr.thaw 0; have t1 := hzr.thaw 1; have t2 := hzr.thaw 2; have t3 := hzr.thaw 3; have t4 := hzr.thaw 4; have t5 := hzr.thaw 5; have r0 := hzr.cell 0 (.int .i64 0) rfl; have r1 := hzr.cell 1 (.int .i64 0) rfl; have r2 := hzr.cell 2 (.string ⟨#[]⟩) rfl; have r3 := hzr.cell 3 (.slice none 0 0) rfl; have r4 := hzr.cell 4 (.slice none 0 0) rfl; have r5 := hzr.cell 5 (.slice none 0 0) rfl))
  have hz := store6_blk hzr 0 (.int .i64 u.op) (.int .i64 u.n) (.string u.s) (.slice ua un uc) (.slice va vn vc) (.slice xa xn xc)
  rw [put6_all] at hz
  have HE := Lib.hid (show OutO (shiftOut t b f) w (.returned (.tuple #[.agg #[.int .i64 u.op, .int .i64 u.n, .string u.s, .slice ua un uc, .slice va vn vc, .slice xa xn xc], .int .i64 c])) (store6 wr (w.heap.size + 1) 0 (.int .i64 u.op) (.int .i64 u.n) (.string u.s) (.slice ua un uc) (.slice va vn vc) (.slice xa xn xc)) from by
    rw [HFO.out]
    refine ⟨⟨_, rfl, (hy.keep (fun q hq => store6_other _ _ _ _ _ _ _ _ _ q (by
      have := HGS.out
      have := hon.size
      have := HGL.out
      have := hq.1
      omega))).mono (fun q hq => ?_)⟩, store6_below (HB.out.trans (hor2.to (by have := HGS.out; omega) HB.out.size)) _ _ _ _ _ _ _ _ (Nat.le_succ _)⟩
    rw [store6_size]
    have := HGS.out
    have := hon.size
    have := HGL.out
    exact ⟨by have := hq.1; omega, hq.2⟩)
  unfold store6 at hz HE
  simp only [Nat.zero_add] at hz HE
  have z0 := hz.cell 0 (.int .i64 u.op) rfl
  have z1 := hz.cell 1 (.int .i64 u.n) rfl
  have z2 := hz.cell 2 (.string u.s) rfl
  have z3 := hz.cell 3 (.slice ua un uc) rfl
  have z4 := hz.cell 4 (.slice va vn vc) rfl
  have z5 := hz.cell 5 (.slice xa xn xc) rfl
  clear hy hzr hz HR HSS HST HTH HBX HZ HB hsb
  go_wp2
  refine bodyPost_ret (v := .tuple #[.agg #[.int .i64 u.op, .int .i64 u.n, .string u.s, .slice ua un uc, .slice va vn vc, .slice xa xn xc], .int .i64 c]) (by simp [results, Tryz.results26, go_sem, z0, z1, z2, z3, z4, z5]) rfl ?_
  exact HE.out
theorem cshift_new (t : Con) (b f : Int) (w : World) (v : Value) (ht : ConV w (· < w.heap.size) t v) (hb0 : -9223372036854775808 ≤ b) (hb1 : b ≤ 9223372036854775807) (hf0 : -9223372036854775808 ≤ f) (hf1 : f ≤ 9223372036854775807) :
    Calls Tryz.prog 26 #[v, .int .i64 b, .int .i64 f] w (OutF (shiftOut t b f) w) := (cshift_own t b f w v ht hb0 hb1 hf0 hf1).mono fun _ _ h => h.fresh
theorem cshift_any (t : Con) (b f : Int) (w : World) (v : Value) (ht : ConV w (· < w.heap.size) t v) (hb0 : -9223372036854775808 ≤ b) (hb1 : b ≤ 9223372036854775807) (hf0 : -9223372036854775808 ≤ f) (hf1 : f ≤ 9223372036854775807) :
    Calls Tryz.prog 26 #[v, .int .i64 b, .int .i64 f] w (OutP (shiftOut t b f) w) := (cshift_new t b f w v ht hb0 hb1 hf0 hf1).mono fun _ _ h => h.out
end Go.Proofs.YtmjiocpcenbndaaGreatDoor
namespace Go.Proofs.YtmjiocpcenbndaaGreatDoor
open Go Go.RowKit
open Pl (K Con)
set_option linter.unusedSimpArgs false
set_option linter.unusedVariables false

theorem cell_same {w w' : World} {g o : Nat} (h : w'.heap[g]? = w.heap[g]?) : w'.cell? ⟨g, o, none⟩ = w.cell? ⟨g, o, none⟩ := by
  simp only [World.cell?, h]
/-- the boxes of a substitution -/
structure SubBoxes (w : World) (g1 g2 G : Nat) (x : Value) : Prop where
  lst : Blk w g1 26 #[x]
  bld : Blk w g2 69 #[.pointer (some ⟨G, 0, none⟩)]
set_option maxRecDepth 100000 in
set_option maxHeartbeats 4000000 in
theorem subF_any (N G g1 g2 : Nat) (l : List Con) (xv : Value) (t : Con) (b d L : Int) (w : World) (v : Value) (hN : N ≤ G) (hs : SubBoxes w g1 g2 G xv) (hgn1 : g1 ≠ G) (hgn2 : g2 ≠ G) (hl : ConSl w (· < N) xv l) (hla : ∀ y ∈ l, Con.allB y = true) (hln : l.length ≤ 1000) (hG : Blk w G 94 #[.int .i64 L]) (ht : ConV w (· < N) t v) (ha : Con.nodeB t = true) (hlf : Con.leafy t b) (h0 : 0 ≤ L) (h1 : L ≤ 20000) (hb0 : 0 ≤ b) (hbd : b ≤ d) (hd0 : 1 ≤ d) (hd : d ≤ 401) :
    Calls Tryz.prog 49 #[v, .int .i64 b, .int .i64 d, .pointer (some ⟨g1, 0, none⟩), .pointer (some ⟨g2, 0, none⟩)] w (RebP N G (suF l t b) L d w) := by
  obtain ⟨hkv, hnl, hll⟩ := node_facts t ha
  have hnn := nodeB_n t ha
  have hgl := hG.lt
  have hl0 : t.l = [] := leaf_none t ha (by rcases hlf with h | h; exact .inr h; exact .inl h.1)
  have htt := (conV_iff _ _ _ _).1 ht
  obtain ⟨ka, kn, kc, na, nn, nc, la, ln, lc, rfl, -, -, -⟩ := ht.shape
  have HPRT := Lib.hid (show t.s.size ≤ maxLen ∧ KidV w (· < N) t.kind (.slice ka kn kc) ∧ StrSl w (· < N) (.slice na nn nc) t.names ∧ ConSl w (· < N) (.slice la ln lc) t.l from by
    obtain ⟨hs, kv', nv', lv', e, hk, hn, hl⟩ := htt
    simp only [Value.agg.injEq, Array.mk.injEq, List.cons.injEq, and_true, true_and] at e
    obtain ⟨rfl, rfl, rfl⟩ := e
    exact ⟨hs, hk, hn, hl⟩)
  clear htt
  obtain ⟨sa, lc9, rfl, -, -, -⟩ := hl.each
  obtain ⟨n, hn⟩ : ∃ n, n = l.length := ⟨_, rfl⟩
  have HN := Lib.hid hn
  have HL := Lib.hid hl
  rw [← hn] at hs hln HL
  obtain ⟨hbx, hbx2, hb⟩ := twoN_new w 28 28 #[.int .i64 t.op, .int .i64 t.n, .string t.s, .slice ka kn kc, .slice na nn nc, .slice la ln lc] #[.int .i64 0, .int .i64 0, .string ⟨#[]⟩, .slice none 0 0, .slice none 0 0, .slice none 0 0]
  have HGL := Lib.hid hgl
  have HBY0 := Lib.hid hbx2
  have HB := Lib.hid hb
  have HSB := Lib.hid (⟨hs.lst.of_eq (hb.block _ hs.lst.lt), hs.bld.of_eq (hb.block _ hs.bld.lt)⟩ : SubBoxes _ g1 g2 G _)
  have x1 := HSB.out.lst.cell 0 (.slice sa n lc9) rfl
  have x2 := HSB.out.bld.cell 0 (.pointer (some ⟨G, 0, none⟩)) rfl
  have c0 := hbx.cell 0 (.int .i64 t.op) rfl
  have c1 := hbx.cell 1 (.int .i64 t.n) rfl
  have c2 := hbx.cell 2 (.string t.s) rfl
  have c3 := hbx.cell 3 (.slice ka kn kc) rfl
  have c4 := hbx.cell 4 (.slice na nn nc) rfl
  have c5 := hbx.cell 5 (.slice la ln lc) rfl
  have fz := hbx.thaw 1
  have w2 : wrap64 (t.n - (n : Int)) = t.n - (n : Int) := by rw [wrap64]; omega
  by_cases h2 : t.op = 1
  rotate_left
  · have q1 : (t.op == 1) = false := by simpa using h2
    have HW := Lib.hid (show suF l t b = t from if_neg h2)
    rw [HW.out]
    obtain ⟨hbx9, hby9, hb9⟩ := twoN_new w 28 28 #[.int .i64 t.op, .int .i64 (t.n), .string t.s, .slice ka kn kc, .slice na nn nc, .slice la ln lc] #[.int .i64 0, .int .i64 0, .string ⟨#[]⟩, .slice none 0 0, .slice none 0 0, .slice none 0 0]
    have HSZ := Lib.hid (show ((w.alloc (.cells #[.int .i64 t.op, .int .i64 (t.n), .string t.s, .slice ka kn kc, .slice na nn nc, .slice la ln lc] 28)).alloc (.cells #[.int .i64 0, .int .i64 0, .string ⟨#[]⟩, .slice none 0 0, .slice none 0 0, .slice none 0 0] 28)).heap.size = w.heap.size + 2 by simp)
    have hgg := hG.of_eq (hb9.block _ hG.lt)
    have HBY := Lib.hid hby9
    have HOW := Lib.hid (only_below (N := G) hb9)
    have HNODE := Lib.hid (node_leaf N G t L d ((w.alloc (.cells #[.int .i64 t.op, .int .i64 (t.n), .string t.s, .slice ka kn kc, .slice na nn nc, .slice la ln lc] 28)).alloc (.cells #[.int .i64 0, .int .i64 0, .string ⟨#[]⟩, .slice none 0 0, .slice none 0 0, .slice none 0 0] 28)) (.agg #[.int .i64 t.op, .int .i64 (t.n), .string t.s, .slice ka kn kc, .slice na nn nc, .slice la ln lc]) hN hgg ((conV_iff _ _ _ _).2 (show t.s.size ≤ maxLen ∧ ∃ kv nv lv, (.agg #[.int .i64 t.op, .int .i64 (t.n), .string t.s, .slice ka kn kc, .slice na nn nc, .slice la ln lc] : Value) = .agg #[.int .i64 t.op, .int .i64 (t.n), .string t.s, kv, nv, lv] ∧ KidV _ _ t.kind kv ∧ StrSl _ _ nv t.names ∧ ConSl _ _ lv t.l from ⟨HPRT.out.1, _, _, _, rfl, HPRT.out.2.1.keep (Same.of_below hb9 (fun q (hq : q < N) => by omega)), HPRT.out.2.2.1.keep (Same.of_below hb9 (fun q (hq : q < N) => by omega)), HPRT.out.2.2.2.keep (Same.of_below hb9 (fun q (hq : q < N) => by omega))⟩)) hkv hl0 hnl h0 h1)
    have d0 := hbx9.cell 0 (.int .i64 t.op) rfl
    have d1 := hbx9.cell 1 (.int .i64 (t.n)) rfl
    have d2 := hbx9.cell 2 (.string t.s) rfl
    have d3 := hbx9.cell 3 (.slice ka kn kc) rfl
    have d4 := hbx9.cell 4 (.slice na nn nc) rfl
    have d5 := hbx9.cell 5 (.slice la ln lc) rfl
    clear hG ht ha hs hgl hlf h2 HPRT hbx9 hby9 hb9 hgg HW hl HL HSB HB HBY0 hbx hbx2 hb hla hn HN
    go_enter Tryz.func49, Tryz.ntmps49
    go_wp2_with fail
    clear c0 c1 c2 c3 c4 c5 d0 d1 d2 d3 d4 d5 x1 x2 q1 fz
    generalize ((w.alloc (.cells #[.int .i64 t.op, .int .i64 t.n, .string t.s, .slice ka kn kc, .slice na nn nc, .slice la ln lc] 28)).alloc (.cells #[.int .i64 0, .int .i64 0, .string ⟨#[]⟩, .slice none 0 0, .slice none 0 0, .slice none 0 0] 28)) = wa at *
    refine HNODE.out.mono ?_
    rintro e w3 ⟨ho3, y, u, c, rfl, hy, hg3, hc0, hc1, hfit⟩
    have hsz := HSZ.out
    have hss := ho3.size
    have hgl2 := HGL.out
    obtain ⟨ua, un, uc, va, vn, vc, xa, xn, xc, rfl, -, -, -⟩ := hy.shape
    have hby := ho3.blk HBY.out (show w.heap.size + 1 ≠ G from by have := HGL.out; omega)
    have t0 := hby.thaw 0
    have t1 := hby.thaw 1
    have t2 := hby.thaw 2
    have t3 := hby.thaw 3
    have t4 := hby.thaw 4
    have t5 := hby.thaw 5
    have r0 := hby.cell 0 (.int .i64 0) rfl
    have r1 := hby.cell 1 (.int .i64 0) rfl
    have r2 := hby.cell 2 (.string ⟨#[]⟩) rfl
    have r3 := hby.cell 3 (.slice none 0 0) rfl
    have r4 := hby.cell 4 (.slice none 0 0) rfl
    have r5 := hby.cell 5 (.slice none 0 0) rfl
    have hz := store6_blk hby 0 (.int .i64 u.op) (.int .i64 u.n) (.string u.s) (.slice ua un uc) (.slice va vn vc) (.slice xa xn xc)
    rw [put6_all] at hz
    have HE := Lib.hid (show RebP N G t L d w (.returned (.tuple #[.agg #[.int .i64 u.op, .int .i64 u.n, .string u.s, .slice ua un uc, .slice va vn vc, .slice xa xn xc], .bool (fitB t L d)])) (store6 w3 (w.heap.size + 1) 0 (.int .i64 u.op) (.int .i64 u.n) (.string u.s) (.slice ua un uc) (.slice va vn vc) (.slice xa xn xc)) from by
      refine ⟨store6_only (HOW.out.trans ho3) _ _ _ _ _ _ _ _ (.inr (Nat.le_succ _)), _, u, c, rfl, ?_, hg3.of_eq (store6_other _ _ _ _ _ _ _ _ _ G (by have := HGL.out; omega)), hc0, hc1, fun h => ⟨(hfit h).1, (hfit h).2.1, own_store (hfit h).2.2 (by omega) (by omega) _ _ _ _ _ _ _⟩⟩
      refine (hy.keep (fun q hq => store6_other _ _ _ _ _ _ _ _ _ q (by rcases hq with hq | hq <;> omega))).mono (fun q hq => ?_)
      rcases hq with hq | hq
      · exact .inl hq
      · exact .inr ⟨by omega, by rw [store6_size]; exact hq.2⟩)
    unfold store6 at hz HE
    simp only [Nat.zero_add] at hz HE
    have z0 := hz.cell 0 (.int .i64 u.op) rfl
    have z1 := hz.cell 1 (.int .i64 u.n) rfl
    have z2 := hz.cell 2 (.string u.s) rfl
    have z3 := hz.cell 3 (.slice ua un uc) rfl
    have z4 := hz.cell 4 (.slice va vn vc) rfl
    have z5 := hz.cell 5 (.slice xa xn xc) rfl
    clear hy hg3 hfit hby hz ho3 hsz hss hgl2 HNODE HOW HBY HSZ
    generalize fitB t L d = r at *
    go_wp2
    refine bodyPost_ret (v := .tuple #[.agg #[.int .i64 u.op, .int .i64 u.n, .string u.s, .slice ua un uc, .slice va vn vc, .slice xa xn xc], .bool r]) (by simp [results, Tryz.results49, go_sem, z0, z1, z2, z3, z4, z5]) rfl ?_
    exact HE.out
  have q1 : (t.op == 1) = true := by rw [h2]; rfl
  have hbn : b ≤ t.n := by
    rcases hlf with h | h
    · rw [h2] at h; cases h
    · exact h.2
  by_cases h3 : t.n - b < (n : Int)
  rotate_left
  · have w1 : wrap64 (t.n - b) = t.n - b := by rw [wrap64]; omega
    have q2 : decide (t.n - b < (n : Int)) = false := decide_eq_false h3
    have HW := Lib.hid (show suF l t b = (⟨t.op, t.n - (n : Int), t.s, t.kind, t.names, t.l⟩ : Con) from (by
      unfold suF
      rw [if_pos h2, if_neg (by rw [← HN.out]; exact h3), ← HN.out]))
    rw [HW.out]
    obtain ⟨hbx9, hby9, hb9⟩ := twoN_new w 28 28 #[.int .i64 t.op, .int .i64 (t.n - (n : Int)), .string t.s, .slice ka kn kc, .slice na nn nc, .slice la ln lc] #[.int .i64 0, .int .i64 0, .string ⟨#[]⟩, .slice none 0 0, .slice none 0 0, .slice none 0 0]
    have HSZ := Lib.hid (show ((w.alloc (.cells #[.int .i64 t.op, .int .i64 (t.n - (n : Int)), .string t.s, .slice ka kn kc, .slice na nn nc, .slice la ln lc] 28)).alloc (.cells #[.int .i64 0, .int .i64 0, .string ⟨#[]⟩, .slice none 0 0, .slice none 0 0, .slice none 0 0] 28)).heap.size = w.heap.size + 2 by simp)
    have hgg := hG.of_eq (hb9.block _ hG.lt)
    have HBY := Lib.hid hby9
    have HOW := Lib.hid (only_below (N := G) hb9)
    have HNODE := Lib.hid (node_leaf N G (⟨t.op, t.n - (n : Int), t.s, t.kind, t.names, t.l⟩ : Con) L d ((w.alloc (.cells #[.int .i64 t.op, .int .i64 (t.n - (n : Int)), .string t.s, .slice ka kn kc, .slice na nn nc, .slice la ln lc] 28)).alloc (.cells #[.int .i64 0, .int .i64 0, .string ⟨#[]⟩, .slice none 0 0, .slice none 0 0, .slice none 0 0] 28)) (.agg #[.int .i64 t.op, .int .i64 (t.n - (n : Int)), .string t.s, .slice ka kn kc, .slice na nn nc, .slice la ln lc]) hN hgg ((conV_iff _ _ _ _).2 (show t.s.size ≤ maxLen ∧ ∃ kv nv lv, (.agg #[.int .i64 t.op, .int .i64 (t.n - (n : Int)), .string t.s, .slice ka kn kc, .slice na nn nc, .slice la ln lc] : Value) = .agg #[.int .i64 t.op, .int .i64 (t.n - (n : Int)), .string t.s, kv, nv, lv] ∧ KidV _ _ t.kind kv ∧ StrSl _ _ nv t.names ∧ ConSl _ _ lv t.l from ⟨HPRT.out.1, _, _, _, rfl, HPRT.out.2.1.keep (Same.of_below hb9 (fun q (hq : q < N) => by omega)), HPRT.out.2.2.1.keep (Same.of_below hb9 (fun q (hq : q < N) => by omega)), HPRT.out.2.2.2.keep (Same.of_below hb9 (fun q (hq : q < N) => by omega))⟩)) hkv hl0 hnl h0 h1)
    have d0 := hbx9.cell 0 (.int .i64 t.op) rfl
    have d1 := hbx9.cell 1 (.int .i64 (t.n - (n : Int))) rfl
    have d2 := hbx9.cell 2 (.string t.s) rfl
    have d3 := hbx9.cell 3 (.slice ka kn kc) rfl
    have d4 := hbx9.cell 4 (.slice na nn nc) rfl
    have d5 := hbx9.cell 5 (.slice la ln lc) rfl
    obtain ⟨y1, y2⟩ : ((w.alloc (.cells #[.int .i64 t.op, .int .i64 (t.n - (n : Int)), .string t.s, .slice ka kn kc, .slice na nn nc, .slice la ln lc] 28)).alloc (.cells #[.int .i64 0, .int .i64 0, .string ⟨#[]⟩, .slice none 0 0, .slice none 0 0, .slice none 0 0] 28)).cell? ⟨g1, 0, none⟩ = some (.slice sa n lc9) ∧ ((w.alloc (.cells #[.int .i64 t.op, .int .i64 (t.n - (n : Int)), .string t.s, .slice ka kn kc, .slice na nn nc, .slice la ln lc] 28)).alloc (.cells #[.int .i64 0, .int .i64 0, .string ⟨#[]⟩, .slice none 0 0, .slice none 0 0, .slice none 0 0] 28)).cell? ⟨g2, 0, none⟩ = some (.pointer (some ⟨G, 0, none⟩)) := ⟨(hs.lst.of_eq (hb9.block _ hs.lst.lt)).cell 0 _ rfl, (hs.bld.of_eq (hb9.block _ hs.bld.lt)).cell 0 _ rfl⟩
    clear hG ht ha hs hgl hlf h2 HPRT hbx9 hby9 hb9 hgg HW hl HL HSB HB HBY0 hbx hbx2 hb hla hn HN h3
    go_enter Tryz.func49, Tryz.ntmps49
    go_wp2_with fail
    clear c0 c1 c2 c3 c4 c5 d0 d1 d2 d3 d4 d5 x1 x2 y1 y2 q1 q2 w1 w2 fz
    generalize ((w.alloc (.cells #[.int .i64 t.op, .int .i64 (t.n - (n : Int)), .string t.s, .slice ka kn kc, .slice na nn nc, .slice la ln lc] 28)).alloc (.cells #[.int .i64 0, .int .i64 0, .string ⟨#[]⟩, .slice none 0 0, .slice none 0 0, .slice none 0 0] 28)) = wa at *
    refine HNODE.out.mono ?_
    rintro e w3 ⟨ho3, y, u, c, rfl, hy, hg3, hc0, hc1, hfit⟩
    have hsz := HSZ.out
    have hss := ho3.size
    have hgl2 := HGL.out
    obtain ⟨ua, un, uc, va, vn, vc, xa, xn, xc, rfl, -, -, -⟩ := hy.shape
    have hby := ho3.blk HBY.out (show w.heap.size + 1 ≠ G from by have := HGL.out; omega)
    have t0 := hby.thaw 0
    have t1 := hby.thaw 1
    have t2 := hby.thaw 2
    have t3 := hby.thaw 3
    have t4 := hby.thaw 4
    have t5 := hby.thaw 5
    have r0 := hby.cell 0 (.int .i64 0) rfl
    have r1 := hby.cell 1 (.int .i64 0) rfl
    have r2 := hby.cell 2 (.string ⟨#[]⟩) rfl
    have r3 := hby.cell 3 (.slice none 0 0) rfl
    have r4 := hby.cell 4 (.slice none 0 0) rfl
    have r5 := hby.cell 5 (.slice none 0 0) rfl
    have hz := store6_blk hby 0 (.int .i64 u.op) (.int .i64 u.n) (.string u.s) (.slice ua un uc) (.slice va vn vc) (.slice xa xn xc)
    rw [put6_all] at hz
    have HE := Lib.hid (show RebP N G (⟨t.op, t.n - (n : Int), t.s, t.kind, t.names, t.l⟩ : Con) L d w (.returned (.tuple #[.agg #[.int .i64 u.op, .int .i64 u.n, .string u.s, .slice ua un uc, .slice va vn vc, .slice xa xn xc], .bool (fitB (⟨t.op, t.n - (n : Int), t.s, t.kind, t.names, t.l⟩ : Con) L d)])) (store6 w3 (w.heap.size + 1) 0 (.int .i64 u.op) (.int .i64 u.n) (.string u.s) (.slice ua un uc) (.slice va vn vc) (.slice xa xn xc)) from by
      refine ⟨store6_only (HOW.out.trans ho3) _ _ _ _ _ _ _ _ (.inr (Nat.le_succ _)), _, u, c, rfl, ?_, hg3.of_eq (store6_other _ _ _ _ _ _ _ _ _ G (by have := HGL.out; omega)), hc0, hc1, fun h => ⟨(hfit h).1, (hfit h).2.1, own_store (hfit h).2.2 (by omega) (by omega) _ _ _ _ _ _ _⟩⟩
      refine (hy.keep (fun q hq => store6_other _ _ _ _ _ _ _ _ _ q (by rcases hq with hq | hq <;> omega))).mono (fun q hq => ?_)
      rcases hq with hq | hq
      · exact .inl hq
      · exact .inr ⟨by omega, by rw [store6_size]; exact hq.2⟩)
    unfold store6 at hz HE
    simp only [Nat.zero_add] at hz HE
    have z0 := hz.cell 0 (.int .i64 u.op) rfl
    have z1 := hz.cell 1 (.int .i64 u.n) rfl
    have z2 := hz.cell 2 (.string u.s) rfl
    have z3 := hz.cell 3 (.slice ua un uc) rfl
    have z4 := hz.cell 4 (.slice va vn vc) rfl
    have z5 := hz.cell 5 (.slice xa xn xc) rfl
    clear hy hg3 hfit hby hz ho3 hsz hss hgl2 HNODE HOW HBY HSZ
    generalize fitB (⟨t.op, t.n - (n : Int), t.s, t.kind, t.names, t.l⟩ : Con) L d = r at *
    go_wp2
    refine bodyPost_ret (v := .tuple #[.agg #[.int .i64 u.op, .int .i64 u.n, .string u.s, .slice ua un uc, .slice va vn vc, .slice xa xn xc], .bool r]) (by simp [results, Tryz.results49, go_sem, z0, z1, z2, z3, z4, z5]) rfl ?_
    exact HE.out
  obtain ⟨k, hk⟩ : ∃ k : Nat, t.n - b = (k : Int) := ⟨(t.n - b).toNat, by omega⟩
  have hkn : k < n := by omega
  have hkl : k < l.length := by omega
  have w1 : wrap64 (t.n - b) = (k : Int) := by rw [wrap64]; omega
  have q2 : decide ((k : Int) < (n : Int)) = true := decide_eq_true (by omega)
  obtain ⟨bl, o, c', ya, yn, yc, ma, mn, mc, qa, qn, qc, e, hbl, f0, f1, f2, f3, f4, f5, hy0⟩ := hl.part k hkl
  injection e with e1 e2 e3
  subst e1 e3
  clear e2
  have HYA := Lib.hid (hla l[k] (List.getElem_mem hkl))
  have HW := Lib.hid (show suF l t b = Con.reb (shF b 0) l[k] 0 from (by
    unfold suF
    rw [if_pos h2, if_pos (by rw [← HN.out]; exact h3), hk, Int.toNat_natCast]
    simp [List.getD, List.getElem?_eq_getElem hkl]))
  rw [HW.out]
  generalize l[k] = y at *
  have HR0 := Lib.hid (fun (wx W : World) (g3 g4 g5 : Nat) (hx : Below w.heap.size w wx) (hW : Below wx.heap.size wx W) (hs : ShiftBoxes W g3 g4 g5 G b 0) (k1 : wx.heap.size ≤ g3) (k2 : wx.heap.size ≤ g4) (k3 : wx.heap.size ≤ g5) =>
    rebuilt_any N G _ _ (shF b 0) W (shift_change N G g3 g4 g5 b 0 W hN hs (by have := hx.size; omega) (by have := hx.size; omega) (by have := hx.size; omega) (by omega) (by omega)) hN y HYA.out L d 0 W _ (Only.refl G W) (hG.of_eq ((belowStep hW hx).block _ hgl)) (hy0.keep (Same.of_below (belowStep hW hx) (fun q (hq : q < N) => by omega))) h0 h1 (Int.le_refl _) (by omega) hd0 hd)
  have hbl2 : bl < w.heap.size ∧ bl ≠ G := ⟨by have : bl < N := hbl; omega, by have : bl < N := hbl; omega⟩
  have HYC := Lib.hid (fun (W : World) (hW : Only G w W) => (show W.cell? ⟨bl, o + k * 6, none⟩ = some (.int .i64 y.op) ∧ W.cell? ⟨bl, o + k * 6 + 1, none⟩ = some (.int .i64 y.n) ∧ W.cell? ⟨bl, o + k * 6 + 2, none⟩ = some (.string y.s) ∧ W.cell? ⟨bl, o + k * 6 + 3, none⟩ = some (.slice ya yn yc) ∧ W.cell? ⟨bl, o + k * 6 + 4, none⟩ = some (.slice ma mn mc) ∧ W.cell? ⟨bl, o + k * 6 + 5, none⟩ = some (.slice qa qn qc) from
    ⟨(cell_same (hW.heap hbl2.1 hbl2.2)).trans f0, (cell_same (hW.heap hbl2.1 hbl2.2)).trans f1, (cell_same (hW.heap hbl2.1 hbl2.2)).trans f2, (cell_same (hW.heap hbl2.1 hbl2.2)).trans f3, (cell_same (hW.heap hbl2.1 hbl2.2)).trans f4, (cell_same (hW.heap hbl2.1 hbl2.2)).trans f5⟩))
  have hgq1 : g1 ≠ w.heap.size + 1 := by have := hs.lst.lt; omega
  have hgq2 : g2 ≠ w.heap.size + 1 := by have := hs.bld.lt; omega
  clear hy0 HYA HW hl HL ht hla hlf HPRT hkv hnl hll hl0 hnn f0 f1 f2 f3 f4 f5 hbl hbl2 hn HN hkl
  have hGG := hG
  have hsz := (show ((w.alloc (.cells #[.int .i64 t.op, .int .i64 t.n, .string t.s, .slice ka kn kc, .slice na nn nc, .slice la ln lc] 28)).alloc (.cells #[.int .i64 0, .int .i64 0, .string ⟨#[]⟩, .slice none 0 0, .slice none 0 0, .slice none 0 0] 28)).heap.size = w.heap.size + 2 by simp)
  have HSZ := Lib.hid hsz
  clear hG hs hbx hbx2 hb hsz hGG h2 h3 hbn hgl
  have hwx : ((w.alloc (.cells #[.int .i64 t.op, .int .i64 t.n, .string t.s, .slice ka kn kc, .slice na nn nc, .slice la ln lc] 28)).alloc (.cells #[.int .i64 0, .int .i64 0, .string ⟨#[]⟩, .slice none 0 0, .slice none 0 0, .slice none 0 0] 28)) = ((w.alloc (.cells #[.int .i64 t.op, .int .i64 t.n, .string t.s, .slice ka kn kc, .slice na nn nc, .slice la ln lc] 28)).alloc (.cells #[.int .i64 0, .int .i64 0, .string ⟨#[]⟩, .slice none 0 0, .slice none 0 0, .slice none 0 0] 28)) := rfl
  go_enter Tryz.func49, Tryz.ntmps49
  go_wp2_with fail
  clear c0 c1 c2 c3 c4 c5 fz x1 x2 q1 q2 w1 w2 hwx
  generalize ((w.alloc (.cells #[.int .i64 t.op, .int .i64 t.n, .string t.s, .slice ka kn kc, .slice na nn nc, .slice la ln lc] 28)).alloc (.cells #[.int .i64 0, .int .i64 0, .string ⟨#[]⟩, .slice none 0 0, .slice none 0 0, .slice none 0 0] 28)) = wx at *
  have HR := Lib.hid (fun (W : World) g3 g4 g5 => HR0.out wx W g3 g4 g5 HB.out)
  have HOW := Lib.hid (only_below (N := G) HB.out)
  have HSS := Lib.hid (fun W (hW : Only G wx W) => (show Only G w W ∧ W.cell? ⟨g1, 0, none⟩ = some (.slice (some ⟨bl, o, none⟩) n lc9) ∧ W.cell? ⟨g2, 0, none⟩ = some (.pointer (some ⟨G, 0, none⟩)) ∧ W.cell? ⟨bl, o + k * 6, none⟩ = some (.int .i64 y.op) ∧ W.cell? ⟨bl, o + k * 6 + 1, none⟩ = some (.int .i64 y.n) ∧ W.cell? ⟨bl, o + k * 6 + 2, none⟩ = some (.string y.s) ∧ W.cell? ⟨bl, o + k * 6 + 3, none⟩ = some (.slice ya yn yc) ∧ W.cell? ⟨bl, o + k * 6 + 4, none⟩ = some (.slice ma mn mc) ∧ W.cell? ⟨bl, o + k * 6 + 5, none⟩ = some (.slice qa qn qc) from by
    have h := HOW.out.trans hW
    exact ⟨h, (hW.blk HSB.out.lst hgn1).cell 0 _ rfl, (hW.blk HSB.out.bld hgn2).cell 0 _ rfl, HYC.out W h⟩))
  have HST := Lib.hid (fun W (hW : Only G wx W) (x0 x1 x2 x3 x4 x5 : Value) => (show (fun W => Only G w W ∧ W.cell? ⟨g1, 0, none⟩ = some (.slice (some ⟨bl, o, none⟩) n lc9) ∧ W.cell? ⟨g2, 0, none⟩ = some (.pointer (some ⟨G, 0, none⟩)) ∧ W.cell? ⟨bl, o + k * 6, none⟩ = some (.int .i64 y.op) ∧ W.cell? ⟨bl, o + k * 6 + 1, none⟩ = some (.int .i64 y.n) ∧ W.cell? ⟨bl, o + k * 6 + 2, none⟩ = some (.string y.s) ∧ W.cell? ⟨bl, o + k * 6 + 3, none⟩ = some (.slice ya yn yc) ∧ W.cell? ⟨bl, o + k * 6 + 4, none⟩ = some (.slice ma mn mc) ∧ W.cell? ⟨bl, o + k * 6 + 5, none⟩ = some (.slice qa qn qc)) (((((((W).setCell ⟨w.heap.size + 1, 0, none⟩ x0).setCell ⟨w.heap.size + 1, 1, none⟩ x1).setCell ⟨w.heap.size + 1, 2, none⟩ x2).setCell ⟨w.heap.size + 1, 3, none⟩ x3).setCell ⟨w.heap.size + 1, 4, none⟩ x4).setCell ⟨w.heap.size + 1, 5, none⟩ x5) from by
    have h := HOW.out.trans hW
    have h5 := store6_only h (w.heap.size + 1) 0 x0 x1 x2 x3 x4 x5 (.inr (Nat.le_succ _))
    have h6 := ((hW.blk HSB.out.lst hgn1).of_eq (store6_other W (w.heap.size + 1) 0 x0 x1 x2 x3 x4 x5 g1 hgq1)).cell 0 _ rfl
    have h7 := ((hW.blk HSB.out.bld hgn2).of_eq (store6_other W (w.heap.size + 1) 0 x0 x1 x2 x3 x4 x5 g2 hgq2)).cell 0 _ rfl
    have h8 := HYC.out _ h5
    have h9 := And.intro h5 (And.intro h6 (And.intro h7 h8))
    unfold store6 at h9
    simp only [Nat.zero_add] at h9
    exact h9))
  simp only at HST
  have HD0 := Lib.hid (Only.refl G wx).drew
  have HD1 := Lib.hid (Below.refl wx.heap.size wx).drew
  have HTH := Lib.hid (fun W (hW : Only G wx W) => hW.blk HBY0.out (by have := HGL.out; omega))
  clear HR0 HYC
  go_wp2_with fail
  go_region_held3 (fun W => Only G w W ∧ W.cell? ⟨g1, 0, none⟩ = some (.slice (some ⟨bl, o, none⟩) n lc9) ∧ W.cell? ⟨g2, 0, none⟩ = some (.pointer (some ⟨G, 0, none⟩)) ∧ W.cell? ⟨bl, o + k * 6, none⟩ = some (.int .i64 y.op) ∧ W.cell? ⟨bl, o + k * 6 + 1, none⟩ = some (.int .i64 y.n) ∧ W.cell? ⟨bl, o + k * 6 + 2, none⟩ = some (.string y.s) ∧ W.cell? ⟨bl, o + k * 6 + 3, none⟩ = some (.slice ya yn yc) ∧ W.cell? ⟨bl, o + k * 6 + 4, none⟩ = some (.slice ma mn mc) ∧ W.cell? ⟨bl, o + k * 6 + 5, none⟩ = some (.slice qa qn qc))
    (first | (with_reducible exact HSS.out _ HD0.out) | (with_reducible exact HSS.out _ (by assumption)) | (with_reducible exact HST.out _ (by assumption) _ _ _ _ _ _))
    (first
    | (go_at_call 48; (with_reducible refine (shifting_any G b 0 _).mono ?_); rintro e wn ⟨⟨g3, g4, g5, rfl, hsb, l1, l2, l3⟩, hbn⟩; have hbn2 := belowStep (a := wx) hbn (by first | assumption | exact HD1.out); have hon := only_below (N := G) hbn2; have k1 := Nat.le_trans HD1.out.size l1; have k2 := Nat.le_trans HD1.out.size l2; have k3 := Nat.le_trans HD1.out.size l3)
    | (go_at_call 50; (with_reducible refine (HR.out _ _ _ _ (by assumption) (by assumption) (by assumption) (by assumption) (by assumption)).mono ?_); rintro e wr ⟨hor, yv, u, c, rfl, hy, hg3, hc0, hc1, hfit⟩; have hor2 := Only.trans hon hor; obtain ⟨ua, un, uc, va, vn, vc, xa, xn, xc, rfl, -, -, -⟩ := hy.shape; have hzr := HTH.out _ hor2; have t0 := hzr.thaw 0; have t1 := hzr.thaw 1; have t2 := hzr.thaw 2; have t3 := hzr.thaw 3; have t4 := hzr.thaw 4; have t5 := hzr.thaw 5; have r0 := hzr.cell 0 (.int .i64 0) rfl; have r1 := hzr.cell 1 (.int .i64 0) rfl; have r2 := hzr.cell 2 (.string ⟨#[]⟩) rfl; have r3 := hzr.cell 3 (.slice none 0 0) rfl; have r4 := hzr.cell 4 (.slice none 0 0) rfl; have r5 := hzr.cell 5 (.slice none 0 0) rfl))
  have hz := store6_blk hzr 0 (.int .i64 u.op) (.int .i64 u.n) (.string u.s) (.slice ua un uc) (.slice va vn vc) (.slice xa xn xc)
  rw [put6_all] at hz
  have hsz := HSZ.out
  have HE := Lib.hid (show RebP N G (Con.reb (shF b 0) y 0) L d w (.returned (.tuple #[.agg #[.int .i64 u.op, .int .i64 u.n, .string u.s, .slice ua un uc, .slice va vn vc, .slice xa xn xc], .bool (fitB (Con.reb (shF b 0) y 0) L d)])) (store6 wr (w.heap.size + 1) 0 (.int .i64 u.op) (.int .i64 u.n) (.string u.s) (.slice ua un uc) (.slice va vn vc) (.slice xa xn xc)) from by
    have := hon.size
    refine ⟨store6_only (HOW.out.trans hor2) _ _ _ _ _ _ _ _ (.inr (Nat.le_succ _)), _, u, c, rfl, ?_, hg3.of_eq (store6_other _ _ _ _ _ _ _ _ _ G (by have := HGL.out; omega)), hc0, hc1, fun h => ⟨(hfit h).1, (hfit h).2.1, own_store (hfit h).2.2 (by omega) (by omega) _ _ _ _ _ _ _⟩⟩
    have := HGL.out
    refine (hy.keep (fun q hq => store6_other _ _ _ _ _ _ _ _ _ q (by rcases hq with hq | hq <;> omega))).mono (fun q hq => ?_)
    rcases hq with hq | hq
    · exact .inl hq
    · exact .inr ⟨by omega, by rw [store6_size]; exact hq.2⟩)
  unfold store6 at hz HE
  simp only [Nat.zero_add] at hz HE
  have z0 := hz.cell 0 (.int .i64 u.op) rfl
  have z1 := hz.cell 1 (.int .i64 u.n) rfl
  have z2 := hz.cell 2 (.string u.s) rfl
  have z3 := hz.cell 3 (.slice ua un uc) rfl
  have z4 := hz.cell 4 (.slice va vn vc) rfl
  have z5 := hz.cell 5 (.slice xa xn xc) rfl
  clear hy hzr hz HR HSS HST HTH HBY0 HSB HB hsb hfit hsz HSZ HOW hg3
  generalize fitB (Con.reb (shF b 0) y 0) L d = r at *
  go_wp2
  refine bodyPost_ret (v := .tuple #[.agg #[.int .i64 u.op, .int .i64 u.n, .string u.s, .slice ua un uc, .slice va vn vc, .slice xa xn xc], .bool r]) (by simp [results, Tryz.results49, go_sem, z0, z1, z2, z3, z4, z5]) rfl ?_
  exact HE.out
end Go.Proofs.YtmjiocpcenbndaaGreatDoor
