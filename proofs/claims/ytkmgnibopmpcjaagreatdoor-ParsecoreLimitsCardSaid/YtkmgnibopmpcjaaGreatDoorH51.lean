/-
  Walks and plain mathematics, several texts in one (Gd ShelfB Ge).
-/
import Derived.Test.YtkmgnibopmpcjaaGreatDoorH48
import Derived.Test.YtkmgnibopmpcjaaGreatDoorH50
import Derived.Shelf.Strings.Builder1
import Derived.Shelf.Strings.Builder2
import Derived.Shelf.Small.Wraps
import Derived.Shelf.Strings.BuilderF
import Derived.Shelf.Strings.BuilderK
import Derived.Shelf.Strings.Builder2Cap
import Derived.Shelf.Strconv.Atoi
import Derived.Shelf.Strconv.AtoiErrFast
import Derived.Shelf.Strconv.ParseIntEmpty
import Derived.Shelf.Strconv.AtoiFail
import Derived.Shelf.LaysM
import Derived.Shelf.Strconv.Clone
import Derived.Shelf.Strconv.SyntaxError
import Derived.Shelf.LaysC
import Derived.Shelf.Strconv.ToError
import Derived.Shelf.Strconv.Lower
import Derived.Shelf.Strconv.ParseUint10
import Derived.Shelf.Strconv.ParseUint10Empty
import Derived.Shelf.Strconv.ParseUint10Any
import Derived.Shelf.Strconv.ParseInt10
import Derived.Shelf.Strconv.AtoiLong
import Derived.Shelf.Strconv.AtoiInnerAll
import Derived.Shelf.Strconv.RangeError
import Derived.Shelf.Strconv.ToErrorRange
import Derived.Shelf.Strconv.AtoiAll
import Derived.Shelf.Strings.Search1
import Derived.Shelf.Strings.Search2
import Derived.Shelf.Strings.Search3
import Derived.Shelf.Strings.Count
import Derived.Shelf.Strings.Shaped
import Derived.Shelf.Strings.Prefix
import Derived.Shelf.Bits.Mul64
import Derived.Shelf.Strings.Repeat
import Derived.Shelf.Unicode.DecodeSlow
import Derived.Shelf.Strings.BuilderCap
import Derived.Shelf.Slices.Turned
import Derived.Test.YtkmgnibopmpcjaaGreatDoorProg
import Derived.Test.YtkmgnibopmpcjaaGreatDoorH35
/-
  Plain mathematics of layer 4: what a source's parsing answers, by its tokens; five families of sources. No program.
-/
namespace Go.Proofs.YtkmgnibopmpcjaaGreatDoor
open Go Go.RowKit
set_option linter.unusedSimpArgs false
theorem kt_at {K ts : List Pl.Tok} (h : ts.map Pl.kt = K.map Pl.kt) (i : Nat) : Pl.kt (Pl.tkAt ts i) = Pl.kt (Pl.tkAt K i) := by
  have e : ∀ l : List Pl.Tok, Pl.kt (Pl.tkAt l i) = ((l.map Pl.kt)[i]?).getD (8, []) := by
    intro l
    unfold Pl.tkAt
    rw [List.getD_eq_getElem?_getD, List.getElem?_map]
    cases l[i]? <;> rfl
  rw [e, e, h]
theorem stands_kt {K ts : List Pl.Tok} (h : ts.map Pl.kt = K.map Pl.kt) : Pl.Stands K ts 0 := by
  have hl : ts.length = K.length := by have := congrArg List.length h; simpa using this
  refine ⟨fun i _ => congrArg Prod.fst (kt_at h i), fun i _ => congrArg Prod.snd (kt_at h i), by omega, ?_, ?_⟩
  · rw [Pl.end_at (by omega)]; exact .inr (.inr rfl)
  · rw [Pl.end_at (by omega)]; exact .inr rfl
theorem source_toks {b : Pl.Bytes} {K : List Pl.Kt} (hb : b.length ≤ 16384) (hs : Pl.scan b = some K) : (Pl.tokens b).err = 0 ∧ ∃ ts en, (Pl.tokens b).toks = ts ++ [en] ∧ ts.map Pl.kt = K ∧ (∀ t ∈ ts, Pl.RightT 16384 t) := by
  obtain ⟨h1, h2⟩ := (Pl.tokens_scan b hb).2 _ hs
  obtain ⟨ts, en, e1, e2, e3, e4, e5⟩ := Pl.tokens_ends b h1
  refine ⟨h1, ts, en, e1, ?_, e4⟩
  rw [e1, List.map_append] at h2
  exact (List.append_inj' h2 rfl).1
theorem source_ok {cat : Int} {rd : List Pl.Tok → Pl.PR Pl.Syn} {b : Pl.Bytes} {K : List Pl.Tok} {t : Pl.Syn} (hb : b.length ≤ 16384) (hs : Pl.scan b = some (K.map Pl.kt)) (hr : ∀ ts, Pl.Stands K ts 0 → rd ts = .ok t K.length) :
    sourceP cat rd (Pl.tokens b) = if validP cat t = true then ⟨t, 0, 0, 0⟩ else ⟨Pl.none0, 0, 0, 5⟩ := by
  obtain ⟨h1, ts, en, h2, h3, h4⟩ := source_toks hb hs
  have hl : ts.length = K.length := by have := congrArg List.length h3; simpa using this
  unfold sourceP
  rw [if_pos h1, h2, List.dropLast_concat, hr ts (stands_kt h3)]
  unfold wholeR
  rw [Pl.PR.then_ok, Pl.end_at (by omega), if_pos rfl]
  rfl
theorem expr_source {b : Pl.Bytes} {K : List Pl.Tok} {t : Pl.Syn} (hb : b.length ≤ 16384) (hs : Pl.scan b = some (K.map Pl.kt)) (h : (Pl.full K numOfText).expr 0 = .ok t K.length) : exprP b = if validP 3 t = true then ⟨t, 0, 0, 0⟩ else ⟨Pl.none0, 0, 0, 5⟩ :=
  source_ok hb hs fun ts A => by have := ((Pl.full_imps A numOfText).expr 0 0 (Nat.zero_le _) rfl t _ h).2; simpa using this
theorem valid_eq (c : Int) (t : Pl.Syn) : validP c t = (Pl.bel t.op c && (decide (t.size ≤ 20000) && decide (t.depth ≤ 400) && t.ok 0)) := by unfold validP; rw [Pl.formed_ok]
theorem form_around {t : Pl.Syn} (h : t.op ≠ 43) (a b : Int) : Pl.form t a = Pl.form t b := by
  unfold Pl.form Pl.stxt
  rw [if_neg h, if_neg h]
theorem ok_around {t : Pl.Syn} (h : t.op ≠ 43) (a b : Int) : t.ok a = t.ok b := by rw [Pl.ok_eq, Pl.ok_eq, form_around h a b]
theorem x_ok (a : Int) : Pl.xTree.ok a = true := by
  rw [ok_around (b := 0) (by decide)]
  kernel_rfl
theorem x_size : Pl.xTree.size = 1 := by kernel_rfl
theorem x_depth : Pl.xTree.depth = 1 := by kernel_rfl
theorem fn_tree (n : Nat) : (Pl.fnTree 1 n).size = n + 1 ∧ (Pl.fnTree 1 n).depth = n + 1 ∧ (Pl.fnTree 1 n).ok 0 = true ∧ Pl.bel (Pl.fnTree 1 n).op 3 = true ∧ (Pl.fnTree 1 n).op ≠ 43 := by
  induction n with
  | zero => exact ⟨by kernel_rfl, by kernel_rfl, by kernel_rfl, by kernel_rfl, by decide⟩
  | succ n ih =>
    obtain ⟨h1, h2, h3, h4, h5⟩ := ih
    refine ⟨?_, ?_, ?_, rfl, show (25 : Int) ≠ 43 by decide⟩
    · rw [Pl.size_eq]
      show 1 + Pl.sizes [Pl.fnTree 1 n] = _
      rw [Pl.sizes_cons, Pl.sizes_nil, h1]
      omega
    · rw [Pl.depth_eq]
      show Pl.depths [Pl.fnTree 1 n] + 1 = _
      rw [Pl.depths_cons, Pl.depths_nil, h2]
      omega
    · rw [Pl.ok_eq]
      show (Pl.form ⟨25, 0, Pl.mk [120], [], [Pl.fnTree 1 n]⟩ 0 && Pl.oks [Pl.fnTree 1 n] 25) = true
      rw [Pl.oks_cons, Pl.oks_nil, ok_around h5 25 0, h3]
      have : Pl.form ⟨25, 0, Pl.mk [120], [], [Pl.fnTree 1 n]⟩ 0 = (Pl.num 25 0 && Pl.stxt 25 0 (Pl.mk [120]) && Pl.nam 25 [] && ((Pl.bel (Pl.fnTree 1 n).op 3 && true) || false)) := rfl
      rw [this, h4]
      decide +kernel
theorem app_tree (n : Nat) : (Pl.appTree n).size = 2 * n + 1 ∧ (Pl.appTree n).depth = n + 1 ∧ (Pl.appTree n).ok 0 = true ∧ Pl.bel (Pl.appTree n).op 3 = true ∧ (Pl.appTree n).op ≠ 43 := by
  induction n with
  | zero => exact ⟨by kernel_rfl, by kernel_rfl, by kernel_rfl, by kernel_rfl, by decide⟩
  | succ n ih =>
    obtain ⟨h1, h2, h3, h4, h5⟩ := ih
    refine ⟨?_, ?_, ?_, rfl, show (26 : Int) ≠ 43 by decide⟩
    · rw [Pl.size_eq]
      show 1 + Pl.sizes [Pl.appTree n, Pl.xTree] = _
      rw [Pl.sizes_cons, Pl.sizes_cons, Pl.sizes_nil, h1, x_size]
      omega
    · rw [Pl.depth_eq]
      show Pl.depths [Pl.appTree n, Pl.xTree] + 1 = _
      rw [Pl.depths_cons, Pl.depths_cons, Pl.depths_nil, h2, x_depth]
      omega
    · rw [Pl.ok_eq]
      show (Pl.form ⟨26, 0, ByteArray.empty, [], [Pl.appTree n, Pl.xTree]⟩ 0 && Pl.oks [Pl.appTree n, Pl.xTree] 26) = true
      rw [Pl.oks_cons, Pl.oks_cons, Pl.oks_nil, ok_around h5 26 0, h3, x_ok]
      have : Pl.form ⟨26, 0, ByteArray.empty, [], [Pl.appTree n, Pl.xTree]⟩ 0 = (Pl.num 26 0 && Pl.stxt 26 0 ByteArray.empty && Pl.nam 26 [] && ((Pl.bel (Pl.appTree n).op 3 && (Pl.bel 23 3 && true)) || false)) := rfl
      rw [this, h4]
      decide +kernel
theorem dot_path : ∀ n, Pl.path true (Pl.dotNames n) = true := by
  intro n
  induction n with
  | zero => kernel_rfl
  | succ n ih =>
    have : Pl.dotNames (n + 1) = Pl.mk [77] :: Pl.dotNames n := by unfold Pl.dotNames; rw [List.replicate_succ]; rfl
    rw [this]
    obtain ⟨y, r, hy⟩ : ∃ y r, Pl.dotNames n = y :: r := by
      cases n with
      | zero => exact ⟨_, _, rfl⟩
      | succ n => exact ⟨_, _, rfl⟩
    rw [hy] at ih ⊢
    have : Pl.path true (Pl.mk [77] :: y :: r) = (Pl.upS (Pl.mk [77]) && Pl.path true (y :: r)) := rfl
    rw [this, ih]
    decide +kernel
theorem dot_tree (n : Nat) : (Pl.ndNames 23 (Pl.dotNames n) []).ok 0 = decide (n ≤ 7) := by
  rw [Pl.ok_eq]
  have : Pl.form (Pl.ndNames 23 (Pl.dotNames n) []) 0 = (Pl.num 23 0 && Pl.stxt 23 0 ByteArray.empty && (decide ((Pl.dotNames n).length ≤ 8) && Pl.path true (Pl.dotNames n)) && (true || false)) := rfl
  have hl : (Pl.dotNames n).length = n + 1 := by simp [Pl.dotNames]
  rw [this, dot_path, hl]
  have : decide (n + 1 ≤ 8) = decide (n ≤ 7) := by simp
  rw [this]
  show (Pl.num 23 0 && Pl.stxt 23 0 ByteArray.empty && (decide (n ≤ 7) && true) && (true || false) && Pl.oks [] 23) = _
  rw [Pl.oks_nil, show (Pl.num 23 0 && Pl.stxt 23 0 ByteArray.empty) = true from by kernel_rfl]
  simp
theorem sizes_rep (n : Nat) : Pl.sizes (List.replicate n Pl.xTree) = n ∧ Pl.depths (List.replicate n Pl.xTree) ≤ 1 ∧ Pl.oks (List.replicate n Pl.xTree) 27 = true ∧ Pl.allOf (List.replicate n Pl.xTree) 3 = true := by
  induction n with
  | zero => exact ⟨Pl.sizes_nil, by rw [List.replicate_zero, Pl.depths_nil]; omega, Pl.oks_nil _, rfl⟩
  | succ n ih =>
    obtain ⟨h1, h2, h3, h4⟩ := ih
    rw [List.replicate_succ]
    refine ⟨by rw [Pl.sizes_cons, h1, x_size]; omega, by rw [Pl.depths_cons, x_depth]; omega, by rw [Pl.oks_cons, h3, x_ok]; rfl, ?_⟩
    unfold Pl.allOf at h4 ⊢
    rw [List.all_cons, h4]
    rfl
theorem tup_valid (n : Nat) (hn : n < 500) : validP 3 (Pl.tupleOf 27 (List.replicate (n + 1) Pl.xTree)) = decide (n ≤ 8) := by
  cases n with
  | zero => kernel_rfl
  | succ n =>
    have e : Pl.tupleOf 27 (List.replicate (n + 1 + 1) Pl.xTree) = Pl.nd 27 (List.replicate (n + 1 + 1) Pl.xTree) := rfl
    obtain ⟨h1, h2, h3, h4⟩ := sizes_rep (n + 1 + 1)
    rw [e, valid_eq, Pl.size_eq, Pl.depth_eq, Pl.ok_eq]
    have hl : (List.replicate (n + 1 + 1) Pl.xTree).length = n + 1 + 1 := List.length_replicate
    have hf : Pl.form (Pl.nd 27 (List.replicate (n + 1 + 1) Pl.xTree)) 0 = (Pl.num 27 0 && Pl.stxt 27 0 ByteArray.empty && Pl.nam 27 [] && ((false || (decide (2 ≤ (List.replicate (n + 1 + 1) Pl.xTree).length ∧ (List.replicate (n + 1 + 1) Pl.xTree).length ≤ 9) && Pl.allOf (List.replicate (n + 1 + 1) Pl.xTree) 3)) || false)) := rfl
    show (Pl.bel 27 3 && (decide (1 + Pl.sizes (List.replicate (n + 1 + 1) Pl.xTree) ≤ 20000) && decide (Pl.depths (List.replicate (n + 1 + 1) Pl.xTree) + 1 ≤ 400) && (Pl.form (Pl.nd 27 (List.replicate (n + 1 + 1) Pl.xTree)) 0 && Pl.oks (List.replicate (n + 1 + 1) Pl.xTree) 27))) = _
    rw [hf, h1, h3, h4, hl, decide_eq_true (by omega : 1 + (n + 1 + 1) ≤ 20000), decide_eq_true (by omega : Pl.depths (List.replicate (n + 1 + 1) Pl.xTree) + 1 ≤ 400)]
    have : decide (2 ≤ n + 1 + 1 ∧ n + 1 + 1 ≤ 9) = decide (n + 1 ≤ 8) := by
      rw [Bool.eq_iff_iff, decide_eq_true_eq, decide_eq_true_eq]
      omega
    rw [this, show Pl.bel 27 3 = true from rfl, show (Pl.num 27 0 && Pl.stxt 27 0 ByteArray.empty && Pl.nam 27 []) = true from by kernel_rfl]
    simp
theorem fn_valid (n : Nat) (hn : n < 500) : validP 3 (Pl.fnTree 1 n) = decide (n ≤ 399) := by
  obtain ⟨h1, h2, h3, h4, -⟩ := fn_tree n
  rw [valid_eq, h1, h2, h3, h4, decide_eq_true (by omega : n + 1 ≤ 20000)]
  simp
theorem app_valid (n : Nat) (hn : n < 500) : validP 3 (Pl.appTree n) = decide (n ≤ 399) := by
  obtain ⟨h1, h2, h3, h4, -⟩ := app_tree n
  rw [valid_eq, h1, h2, h3, h4, decide_eq_true (by omega : 2 * n + 1 ≤ 20000)]
  simp
theorem dot_valid (n : Nat) : validP 3 (Pl.ndNames 23 (Pl.dotNames n) []) = decide (n ≤ 7) := by
  rw [valid_eq, dot_tree, Pl.size_eq, Pl.depth_eq]
  show (Pl.bel 23 3 && (decide (1 + Pl.sizes [] ≤ 20000) && decide (Pl.depths [] + 1 ≤ 400) && decide (n ≤ 7))) = _
  rw [Pl.sizes_nil, Pl.depths_nil]
  rfl
theorem x_valid : validP 3 Pl.xTree = true := by kernel_rfl
theorem par_open (n : Nat) (r : Pl.Bytes) : Pl.opens (40 :: (Pl.rep n [40] ++ 120 :: r)) = false := by
  cases n with
  | zero => rfl
  | succ n => rw [Pl.rep_succ]; rfl
theorem close_scan (n : Nat) : Pl.scan (Pl.rep n [41]) = some (List.replicate n (7, [41])) := by
  induction n with
  | zero => rfl
  | succ n ih =>
    rw [Pl.rep_succ]
    show Pl.scan (41 :: Pl.rep n [41]) = _
    rw [Pl.scan_close, ih]
    rfl
theorem par_toks (n : Nat) : (Pl.parToks n).map Pl.kt = List.replicate n (7, [40]) ++ (1, [120]) :: List.replicate n (7, [41]) := by
  induction n with
  | zero => rfl
  | succ n ih =>
    have : Pl.parToks (n + 1) = [Pl.tkS [40]] ++ Pl.parToks n ++ [Pl.tkS [41]] := rfl
    rw [this, List.map_append, List.map_append, ih, List.replicate_succ, List.replicate_succ' (a := ((7 : Int), ([41] : Pl.Bytes)))]
    simp [Pl.kt, Pl.tkS]
theorem par_scan (n : Nat) : Pl.scan (Pl.rep n [40] ++ 120 :: Pl.rep n [41]) = some ((Pl.parToks n).map Pl.kt) := by
  rw [par_toks]
  have h0 : Pl.scan (120 :: Pl.rep n [41]) = some ((1, [120]) :: List.replicate n (7, [41])) := by
    have : Pl.scan (120 :: Pl.rep n [41]) = (Pl.scan (Pl.rep n [41])).map (List.cons (1, [120])) := by
      cases n with
      | zero => exact Pl.scan_tok (n := 1) (by simp) rfl rfl rfl rfl
      | succ n => rw [Pl.rep_succ]; exact Pl.scan_tok (n := 1) (by simp) rfl rfl rfl rfl
    rw [this, close_scan]
    rfl
  have h : ∀ m, Pl.scan (Pl.rep m [40] ++ 120 :: Pl.rep n [41]) = some (List.replicate m (7, [40]) ++ (1, [120]) :: List.replicate n (7, [41])) := by
    intro m
    induction m with
    | zero => exact h0
    | succ m ih =>
      rw [Pl.rep_succ]
      show Pl.scan (40 :: (Pl.rep m [40] ++ 120 :: Pl.rep n [41])) = _
      rw [Pl.scan_sym 40 _ (par_open m _) (.inl rfl), ih]
      rfl
  exact h n
def famB (k n : Nat) : Pl.Bytes := match k with
  | 0 => 40 :: (Pl.rep n [120, 44, 32] ++ [120, 41])
  | 1 => Pl.rep n [102, 110, 32, 120, 32, 61, 62, 32] ++ [49]
  | 2 => Pl.rep n [77, 46] ++ [120]
  | 3 => Pl.rep n [40] ++ 120 :: Pl.rep n [41]
  | _ => 102 :: Pl.rep n [32, 120]
def famL (k : Nat) : Nat := match k with
  | 0 => 8
  | 1 => 399
  | 2 => 7
  | 3 => 500
  | _ => 399
theorem fam_one (k n : Nat) (t : Pl.Syn) (K : List Pl.Tok) (hl : (famB k n).length ≤ 16384) (hs : Pl.scan (famB k n) = some (K.map Pl.kt)) (hr : (Pl.full K numOfText).expr 0 = .ok t K.length) (hv : validP 3 t = decide (n ≤ famL k)) :
    (n ≤ famL k → (exprP (famB k n)).err = 0 ∧ validP 3 (exprP (famB k n)).t = true) ∧ (¬ n ≤ famL k → exprP (famB k n) = ⟨Pl.none0, 0, 0, 5⟩) := by
  rw [expr_source hl hs hr]
  constructor
  · intro h
    rw [decide_eq_true h] at hv
    rw [if_pos hv]
    exact ⟨rfl, hv⟩
  · intro h
    rw [decide_eq_false h] at hv
    rw [if_neg (by rw [hv]; decide)]
theorem fam_ok (k n : Nat) (hk : k < 5) (hn : n < 500) : (n ≤ famL k → (exprP (famB k n)).err = 0 ∧ validP 3 (exprP (famB k n)).t = true) ∧ (¬ n ≤ famL k → exprP (famB k n) = ⟨Pl.none0, 0, 0, 5⟩) := by
  match k, hk with
  | 0, _ => exact fam_one 0 n _ _ (by show (40 :: (Pl.rep n _ ++ _)).length ≤ _; rw [List.length_cons, List.length_append, Pl.rep_len]; simp only [List.length_cons, List.length_nil]; omega) (Pl.tup_scan n) (Pl.tup_read _ n) (tup_valid n hn)
  | 1, _ => exact fam_one 1 n _ _ (by show (Pl.rep n _ ++ _).length ≤ _; rw [List.length_append, Pl.rep_len]; simp only [List.length_cons, List.length_nil]; omega) (Pl.fn_scan n) (Pl.fn_read _ n) (fn_valid n hn)
  | 2, _ => exact fam_one 2 n _ _ (by show (Pl.rep n _ ++ _).length ≤ _; rw [List.length_append, Pl.rep_len]; simp only [List.length_cons, List.length_nil]; omega) (Pl.dot_scan n) (Pl.dot_read _ n) (dot_valid n)
  | 3, _ => exact fam_one 3 n _ _ (by show (Pl.rep n _ ++ _ :: Pl.rep n _).length ≤ _; rw [List.length_append, List.length_cons, Pl.rep_len, Pl.rep_len]; simp only [List.length_cons, List.length_nil]; omega) (par_scan n) (Pl.par_read _ n) (x_valid.trans (decide_eq_true (show n ≤ 500 by omega)).symm)
  | 4, _ => exact fam_one 4 n _ _ (by show (102 :: Pl.rep n _).length ≤ _; rw [List.length_cons, Pl.rep_len]; simp only [List.length_cons, List.length_nil]; omega) (Pl.app_scan n) (Pl.app_read _ n) (app_valid n hn)
end Go.Proofs.YtkmgnibopmpcjaaGreatDoor

/-
  The library's contracts at this translation, laid by the kit's shelf, in plain words.
-/
namespace Go.Proofs
open Go.Shelf
def Tryz.lays105_ren : Go.Shelf.Ren := ⟨fun | 105 => 35 | 212 => 62 | 99 => 63 | 165 => 64 | 166 => 53 | 170 => 55 | 169 => 56 | 263 => 118 | 264 => 119 | 206 => 120 | 240 => 107 | 241 => 121 | 276 => 176 | 277 => 190 | n => n, fun | 9 => 9 | 3 => 3 | 4 => 4 | 20 => 20 | 0 => 0 | 46 => 100 | 109 => 101 | 5 => 5 | 72 => 87 | 76 => 91 | 51 => 133 | 146 => 134 | 53 => 136 | 148 => 137 | 70 => 84 | 37 => 85 | 75 => 89 | 127 => 126 | 164 => 161 | 80 => 95 | n => n, fun | n => n⟩
theorem Tryz.lays105 : Go.Proofs.Lays.n105 Tryz.prog Tryz.lays105_ren := {
  mixed := by kernel_rfl
  f99 := Tryz.func63.trans (congrArg some (by kernel_rfl))
  f105 := Tryz.func35.trans (congrArg some (by kernel_rfl))
  f165 := Tryz.func64.trans (congrArg some (by kernel_rfl))
  f166 := Tryz.func53.trans (congrArg some (by kernel_rfl))
  f169 := Tryz.func56.trans (congrArg some (by kernel_rfl))
  f170 := Tryz.func55.trans (congrArg some (by kernel_rfl))
  f206 := Tryz.func120.trans (congrArg some (by kernel_rfl))
  f212 := Tryz.func62.trans (congrArg some (by kernel_rfl))
  f240 := Tryz.func107.trans (congrArg some (by kernel_rfl))
  f241 := Tryz.func121.trans (congrArg some (by kernel_rfl))
  f263 := Tryz.func118.trans (congrArg some (by kernel_rfl))
  f264 := Tryz.func119.trans (congrArg some (by kernel_rfl))
  f276 := Tryz.func176.trans (congrArg some (by kernel_rfl))
  f277 := Tryz.func190.trans (congrArg some (by kernel_rfl))
  t0 := Tryz.underlying0
  a0 := Tryz.isAgg0
  z0 := Tryz.sizeOf0
  v0 := Tryz.zeroValue0
  t3 := Tryz.underlying3
  a3 := Tryz.isAgg3
  z3 := Tryz.sizeOf3
  v3 := Tryz.zeroValue3
  t4 := Tryz.underlying4
  a4 := Tryz.isAgg4
  z4 := Tryz.sizeOf4
  v4 := Tryz.zeroValue4
  t5 := Tryz.underlying5
  a5 := Tryz.isAgg5
  z5 := Tryz.sizeOf5
  v5 := Tryz.zeroValue5
  t9 := Tryz.underlying9
  a9 := Tryz.isAgg9
  z9 := Tryz.sizeOf9
  v9 := Tryz.zeroValue9
  t20 := Tryz.underlying20
  a20 := Tryz.isAgg20
  z20 := Tryz.sizeOf20
  v20 := Tryz.zeroValue20
  t37 := Tryz.underlying85
  a37 := Tryz.isAgg85
  z37 := Tryz.sizeOf85
  v37 := Tryz.zeroValue85
  t46 := Tryz.underlying100
  a46 := Tryz.isAgg100
  z46 := Tryz.sizeOf100
  v46 := Tryz.zeroValue100
  t51 := Tryz.underlying133
  a51 := Tryz.isAgg133
  z51 := Tryz.sizeOf133
  v51 := Tryz.zeroValue133
  t53 := Tryz.underlying136
  a53 := Tryz.isAgg136
  z53 := Tryz.sizeOf136
  v53 := Tryz.zeroValue136
  t70 := Tryz.underlying84
  a70 := Tryz.isAgg84
  z70 := Tryz.sizeOf84
  v70 := Tryz.zeroValue84
  t72 := Tryz.underlying87
  a72 := Tryz.isAgg87
  z72 := Tryz.sizeOf87
  v72 := Tryz.zeroValue87
  t75 := Tryz.underlying89
  a75 := Tryz.isAgg89
  z75 := Tryz.sizeOf89
  v75 := Tryz.zeroValue89
  t76 := Tryz.underlying91
  a76 := Tryz.isAgg91
  z76 := Tryz.sizeOf91
  v76 := Tryz.zeroValue91
  t109 := Tryz.underlying101
  a109 := Tryz.isAgg101
  z109 := Tryz.sizeOf101
  v109 := Tryz.zeroValue101
  t127 := Tryz.underlying126
  a127 := Tryz.isAgg126
  z127 := Tryz.sizeOf126
  v127 := Tryz.zeroValue126
  t146 := Tryz.underlying134
  a146 := Tryz.isAgg134
  z146 := Tryz.sizeOf134
  v146 := Tryz.zeroValue134
  t148 := Tryz.underlying137
  a148 := Tryz.isAgg137
  z148 := Tryz.sizeOf137
  v148 := Tryz.zeroValue137
  t164 := Tryz.underlying161
  a164 := Tryz.isAgg161
  z164 := Tryz.sizeOf161
  v164 := Tryz.zeroValue161 }
theorem Tryz.Builder_Extra_105 : Builder.Extra Tryz.prog Tryz.lays105_ren := {
  sizeBuilder := by kernel_rfl
  liesBuilder := by kernel_rfl
  t5 := Tryz.underlying5
  a5 := Tryz.isAgg5
  z5 := Tryz.sizeOf5
  v5 := Tryz.zeroValue5
  infoByte := by kernel_rfl
  cellsByte := by kernel_rfl
  sizeByte := by kernel_rfl
  neB5 := by decide }
open Go.RowKit Go.Lib in
theorem Tryz.strings_Repeat (s : ByteArray) (c : Nat) (w : World) (hc : c ≤ 9223372036854775807) (hlen : s.size * c ≤ 140737488355328) :
    Calls Tryz.prog 35 #[.string s, .int .i64 c] w fun e w' => e = .returned (.string ⟨(Lib.repeatL s.data.toList c).toArray⟩) ∧ Below w.heap.size w w' := Any.strings_Repeat Tryz.lays105 Tryz.Builder_Extra_105 s c w hc hlen
end Go.Proofs

/-
  Walks of layer 4: none, and ParsecoreLimits.
-/
namespace Go.Proofs.YtkmgnibopmpcjaaGreatDoor
open Go Go.RowKit
set_option linter.unusedSimpArgs false
set_option maxRecDepth 100000 in
set_option maxHeartbeats 4000000 in
theorem none_any (t : Pl.Syn) (P : Nat → Prop) (w : World) (v : Value) (hP : ∀ b, P b → b < w.heap.size) (ht : SynV w P t v) : Calls Tryz.prog 23 #[v] w (Tells (t = Pl.none0) w) := by
  obtain ⟨x0, x1, x2, xa, xl, xc, xd, xe, xf, rfl⟩ := tree_open ht
  have hb : Below w.heap.size w (w.alloc (.cells #[.int .i64 x0, .int .i64 x1, .string x2, .slice xa xl xc, .slice xd xe xf] 28)) := (Below.refl _ _).alloc (Nat.le_refl _) _
  have HB := Lib.hid hb
  have HX := Lib.hid (blk_new w #[.int .i64 x0, .int .i64 x1, .string x2, .slice xa xl xc, .slice xd xe xf] 28)
  have H := Lib.hid (requal_any t P (fun _ => False) Pl.none0 _ _ _ (fun b hb' => Nat.lt_of_lt_of_le (hP b hb') hb.size) (fun _ h => h.elim) (ht.keep (fun b hb' => hb.block b (hP b hb'))) (synV_none _ _))
  clear ht hb
  go_enter Tryz.func23, Tryz.ntmps23
  go_wp2_with fail
  generalize w.alloc (.cells #[.int .i64 x0, .int .i64 x1, .string x2, .slice xa xl xc, .slice xd xe xf] 28) = w1 at *
  obtain ⟨c0, c1, c2, c3, c4⟩ := five_cells HX.out
  go_wp2_with fail
  refine H.out.mono ?_
  rintro e w2 ⟨r, rfl, hr, hb2⟩
  have HR := Lib.hid (⟨hr, HB.out.trans (hb2.mono HB.out.size)⟩ : (r = true ↔ t = Pl.none0) ∧ Below w.heap.size w w2)
  clear hr hb2
  go_wp2
  go_ret
  exact ⟨r, rfl, HR.out.1, HR.out.2⟩
theorem rep_repeatL (n : Nat) (u : Pl.Bytes) : Lib.repeatL u n = Pl.rep n u := by
  induction n with
  | zero => rfl
  | succ n ih => rw [Pl.rep_succ, ← ih]; rfl
theorem mk_app (a b : Pl.Bytes) : (⟨a.toArray⟩ : ByteArray) ++ ⟨b.toArray⟩ = ⟨(a ++ b).toArray⟩ := by
  apply ByteArray.ext
  rw [ByteArray.data_append]
  simp
theorem repeat_any (u : Pl.Bytes) (n : Nat) (w : World) (hu : u.length ≤ 100) (hn : n < 500) : Calls Tryz.prog 35 #[.string ⟨u.toArray⟩, .int .i64 n] w fun e w' => e = .returned (.string ⟨(Pl.rep n u).toArray⟩) ∧ Below w.heap.size w w' := by
  have hs : (⟨u.toArray⟩ : ByteArray).size = u.length := by show u.toArray.size = _; simp
  have hb : u.length * n ≤ 100 * n := Nat.mul_le_mul_right n hu
  have h := Tryz.strings_Repeat ⟨u.toArray⟩ n w (by omega) (by rw [hs]; omega)
  rw [rep_repeatL] at h
  simpa using h
end Go.Proofs.YtkmgnibopmpcjaaGreatDoor
