/-
  Walks and plain mathematics, several texts in one (Ga Gb Gc).
-/
import Derived.Test.YtkmgnibopmpcjaaGreatDoorH49
import Derived.Test.YtkmgnibopmpcjaaGreatDoorH43
import Derived.Test.YtkmgnibopmpcjaaGreatDoorH48
/-
  Plain mathematics of layer 4: the trees of five families of sources, by their tokens. No program.
-/
namespace Go.Proofs.YtkmgnibopmpcjaaGreatDoor.Pl
open Go
set_option linter.unusedSimpArgs false
def tLow (b : Bytes) : Tok := ⟨1, b, 0, 0⟩
def tUp (b : Bytes) : Tok := ⟨2, b, 0, 0⟩
def tInt (b : Bytes) : Tok := ⟨4, b, 0, 0⟩
section
variable {l : List Tok} {num : Bytes → Int}
def Halts (l : List Tok) (i : Nat) : Prop := begAtom (tkAt l i) = false ∧ opOf (tkAt l i) = (0, 0)
theorem fixed_kind {t : Tok} (h : t.kind ≠ 6 ∧ t.kind ≠ 7) : fixedT t = [] := by unfold fixedT; rw [if_neg (by omega)]
theorem pass_kind {i : Nat} {b : Bytes} (h : (tkAt l i).kind ≠ 6 ∧ (tkAt l i).kind ≠ 7) (hb : b ≠ []) : passes l i b = false := by
  unfold passes
  rw [fixed_kind h]
  exact beq_eq_false_iff_ne.2 (Ne.symm hb)
theorem atom_low {i : Nat} (h : (tkAt l i).kind = 1) : (full l num).atom i = .ok (ndNames 23 [mk (tkAt l i).text] []) (i + 1) := by
  have hk : (tkAt l i).kind ≠ 6 ∧ (tkAt l i).kind ≠ 7 := by omega
  rw [full_atom, atomB, if_neg (by omega), if_neg (by omega), pass_kind hk (by decide), pass_kind hk (by decide), pass_kind hk (by decide)]
  simp only [Bool.false_eq_true, if_false]
  unfold vpath
  rw [vpMore, if_neg (by omega)]
  unfold takeK
  rw [if_pos h]
  rfl
theorem atom_int {i : Nat} (h : (tkAt l i).kind = 4) : (full l num).atom i = .ok (ndNum 21 (num (tkAt l i).text)) (i + 1) := by
  rw [full_atom, atomB, if_pos h]
theorem app_of {i j : Nat} {t : Syn} (h : (full l num).atom i = .ok t j) (hj : begAtom (tkAt l j) = false) : (full l num).app i = .ok t j := by
  rw [full_app, appB, h, PR.then_ok, appMore, hj]
  simp
theorem neg_of {i j : Nat} {t : Syn} (h : (full l num).app i = .ok t j) (hi : passes l i [126] = false) : (full l num).neg i = .ok t j := by
  rw [full_neg, negB, hi]
  simp only [Bool.false_eq_true, if_false]
  exact h
theorem oper_of {q i j : Nat} {t : Syn} (hq : 1 ≤ q) (h : (full l num).neg i = .ok t j) (hj : opOf (tkAt l j) = (0, 0)) : (full l num).oper q i = .ok t j := by
  rw [full_oper, operB, h, PR.then_ok, operMore, hj, if_pos (.inl (by show 0 < q; omega))]
theorem expr_of {i j : Nat} {t : Syn} (h : (full l num).oper 1 i = .ok t j) (h1 : passes l i [102, 110] = false) (h2 : passes l i [105, 102] = false) : (full l num).expr i = .ok t j := by
  rw [full_expr, exprB, h1, h2]
  simp only [Bool.false_eq_true, if_false]
  exact h
theorem expr_atom {i j : Nat} {t : Syn} (h : (full l num).atom i = .ok t j) (hi : ∀ b ∈ ([[126], [102, 110], [105, 102]] : List Bytes), passes l i b = false) (hj : Halts l j) : (full l num).expr i = .ok t j :=
  expr_of (oper_of (by omega) (neg_of (app_of h hj.1) (hi _ (by simp))) hj.2) (hi _ (by simp)) (hi _ (by simp))
theorem low_no {i : Nat} (h : (tkAt l i).kind = 1 ∨ (tkAt l i).kind = 2 ∨ (tkAt l i).kind = 4) : ∀ b ∈ ([[126], [102, 110], [105, 102]] : List Bytes), passes l i b = false := by
  intro b hb
  refine pass_kind (by omega) ?_
  rintro rfl
  simp at hb
theorem halts_end {i : Nat} (h : ¬ i < l.length) : Halts l i := by
  unfold Halts
  rw [end_at h]
  exact ⟨rfl, rfl⟩
end
theorem stands_after {l : List Tok} (p : List Tok) : Stands l (p ++ l) p.length := by
  have h : ∀ i, tkAt (p ++ l) (i + p.length) = tkAt l i := by
    intro i
    unfold tkAt
    rw [List.getD_eq_getElem?_getD, List.getD_eq_getElem?_getD, List.getElem?_append_right (by omega)]
    congr 2
    omega
  refine ⟨fun i _ => by rw [h], fun i _ => by rw [h], by rw [List.length_append]; omega, ?_, ?_⟩
  · rw [h, end_at (by omega)]; exact .inr (.inr rfl)
  · rw [h, end_at (by omega)]; exact .inr rfl
def fnToks : Nat → List Tok
  | 0 => [tInt [49]]
  | n + 1 => tkW [102, 110] :: tLow [120] :: tkS [61, 62] :: fnToks n
def fnTree (one : Int) : Nat → Syn
  | 0 => ndNum 21 one
  | n + 1 => ⟨25, 0, mk [120], [], [fnTree one n]⟩
theorem fn_read (num : Bytes → Int) (n : Nat) : (full (fnToks n) num).expr 0 = .ok (fnTree (num [49]) n) (fnToks n).length := by
  induction n with
  | zero =>
    have h := atom_int (l := fnToks 0) (num := num) (i := 0) rfl
    exact expr_atom h (low_no (.inr (.inr rfl))) (halts_end (by decide))
  | succ n ih =>
    have hs := (full_imps (stands_after (l := fnToks n) [tkW [102, 110], tLow [120], tkS [61, 62]]) num).expr 0 3 (Nat.zero_le _) rfl _ _ ih
    have h3 : (full (fnToks (n + 1)) num).expr 3 = .ok (fnTree (num [49]) n) ((fnToks n).length + 3) := hs.2
    rw [full_expr, exprB, show passes (fnToks (n + 1)) 0 [102, 110] = true from rfl, if_pos rfl]
    unfold fnB
    rw [show passes (fnToks (n + 1)) (0 + 1) [95] = false from rfl]
    simp only [Bool.false_eq_true, if_false]
    rw [show takeK (fnToks (n + 1)) 1 (0 + 1) = .ok [120] 2 from rfl, PR.then_ok, show needT (fnToks (n + 1)) [61, 62] 2 = .ok () 3 from rfl, PR.then_ok, h3, PR.then_ok]
    rfl
def xTree : Syn := ndNames 23 [mk [120]] []
def appToks (n : Nat) : List Tok := tLow [102] :: List.replicate n (tLow [120])
def appTree : Nat → Syn
  | 0 => ndNames 23 [mk [102]] []
  | n + 1 => nd 26 [appTree n, xTree]
theorem app_at {n k : Nat} (h : k < n) : tkAt (appToks n) (k + 1) = tLow [120] := by
  unfold tkAt appToks
  rw [List.getD_cons_succ, List.getD_eq_getElem?_getD, List.getElem?_replicate, if_pos h]
  rfl
theorem app_len (n : Nat) : (appToks n).length = n + 1 := by simp [appToks]
theorem app_more (num : Bytes → Int) (n : Nat) : ∀ (f k : Nat), k ≤ n → n < k + f → appMore (appToks n) (full (appToks n) num) f (appTree k) (k + 1) = .ok (appTree n) (n + 1) := by
  intro f
  induction f with
  | zero => intro k h1 h2; omega
  | succ f ih =>
    intro k h1 h2
    rw [appMore]
    by_cases h : k < n
    · have ha := atom_low (l := appToks n) (num := num) (i := k + 1) (by rw [app_at h]; rfl)
      rw [app_at h] at ha
      rw [app_at h, if_pos (by rfl), ha, PR.then_ok]
      exact ih (k + 1) (by omega) (by omega)
    · obtain rfl : k = n := by omega
      rw [end_at (by rw [app_len]; omega), if_neg (by decide)]
theorem app_read (num : Bytes → Int) (n : Nat) : (full (appToks n) num).expr 0 = .ok (appTree n) (appToks n).length := by
  have ha := atom_low (l := appToks n) (num := num) (i := 0) rfl
  have h : (full (appToks n) num).app 0 = .ok (appTree n) (n + 1) := by
    rw [full_app, appB, ha, PR.then_ok, app_len]
    exact app_more num n _ 0 (Nat.zero_le _) (by omega)
  have hn := neg_of h (low_no (.inl rfl) _ (by simp))
  rw [app_len]
  exact expr_of (oper_of (by omega) hn (halts_end (by rw [app_len]; omega)).2) (low_no (.inl rfl) _ (by simp)) (low_no (.inl rfl) _ (by simp))
def dotToks : Nat → List Tok
  | 0 => [tLow [120]]
  | n + 1 => tUp [77] :: tkS [46] :: dotToks n
theorem dot_len (n : Nat) : (dotToks n).length = 2 * n + 1 := by
  induction n with
  | zero => rfl
  | succ n ih => simp only [dotToks, List.length_cons, ih]; omega
theorem dot_up : ∀ (n k : Nat), k < n → tkAt (dotToks n) (2 * k) = tUp [77] ∧ tkAt (dotToks n) (2 * k + 1) = tkS [46] := by
  intro n
  induction n with
  | zero => intro k h; omega
  | succ n ih =>
    intro k h
    cases k with
    | zero => exact ⟨rfl, rfl⟩
    | succ k => exact ih k (by omega)
theorem dot_low (n : Nat) : tkAt (dotToks n) (2 * n) = tLow [120] := by
  induction n with
  | zero => rfl
  | succ n ih => exact ih
def dotNames (n : Nat) : List ByteArray := List.replicate n (mk [77]) ++ [mk [120]]
theorem dot_more (n : Nat) : ∀ (f k : Nat), k ≤ n → n < k + f → vpMore (dotToks n) f (List.replicate k (mk [77])) (2 * k) = .ok (ndNames 23 (dotNames n) []) (2 * n + 1) := by
  intro f
  induction f with
  | zero => intro k h1 h2; omega
  | succ f ih =>
    intro k h1 h2
    rw [vpMore]
    by_cases h : k < n
    · obtain ⟨e1, e2⟩ := dot_up n k h
      have hp : passes (dotToks n) (2 * k + 1) [46] = true := by unfold passes; rw [e2]; rfl
      rw [e1, hp, if_pos (show (tUp [77]).kind = 2 from rfl), if_pos rfl]
      have := ih (k + 1) (by omega) (by omega)
      rw [List.replicate_succ'] at this
      exact this
    · obtain rfl : k = n := by omega
      rw [dot_low, if_neg (by decide)]
      unfold takeK
      rw [dot_low, if_pos (by rfl)]
      rfl
theorem dot_read (num : Bytes → Int) (n : Nat) : (full (dotToks n) num).expr 0 = .ok (ndNames 23 (dotNames n) []) (dotToks n).length := by
  have hk : (tkAt (dotToks n) 0).kind = 1 ∨ (tkAt (dotToks n) 0).kind = 2 ∨ (tkAt (dotToks n) 0).kind = 4 := by
    cases n with
    | zero => exact .inl rfl
    | succ n => exact .inr (.inl rfl)
  have hk4 : (tkAt (dotToks n) 0).kind ≠ 4 ∧ (tkAt (dotToks n) 0).kind ≠ 5 := by
    cases n with
    | zero => exact ⟨by decide, by decide⟩
    | succ n => exact ⟨(show (2 : Int) ≠ 4 by decide), (show (2 : Int) ≠ 5 by decide)⟩
  have h67 : (tkAt (dotToks n) 0).kind ≠ 6 ∧ (tkAt (dotToks n) 0).kind ≠ 7 := by omega
  have ha : (full (dotToks n) num).atom 0 = .ok (ndNames 23 (dotNames n) []) (2 * n + 1) := by
    rw [full_atom, atomB, if_neg hk4.1, if_neg hk4.2, pass_kind h67 (by decide), pass_kind h67 (by decide), pass_kind h67 (by decide)]
    simp only [Bool.false_eq_true, if_false]
    exact dot_more n _ 0 (Nat.zero_le _) (by rw [dot_len]; omega)
  rw [dot_len]
  exact expr_atom ha (low_no hk) (halts_end (by rw [dot_len]; omega))
def comToks : Nat → List Tok
  | 0 => [tkS [41]]
  | n + 1 => tkS [44] :: tLow [120] :: comToks n
def tupToks (n : Nat) : List Tok := tkS [40] :: tLow [120] :: comToks n
theorem comma_len (n : Nat) : (comToks n).length = 2 * n + 1 := by
  induction n with
  | zero => rfl
  | succ n ih => simp only [comToks, List.length_cons, ih]; omega
theorem tup_len (n : Nat) : (tupToks n).length = 2 * n + 3 := by simp only [tupToks, List.length_cons, comma_len]
theorem comma_at : ∀ (n k : Nat), k < n → tkAt (comToks n) (2 * k) = tkS [44] ∧ tkAt (comToks n) (2 * k + 1) = tLow [120] := by
  intro n
  induction n with
  | zero => intro k h; omega
  | succ n ih =>
    intro k h
    cases k with
    | zero => exact ⟨rfl, rfl⟩
    | succ k => exact ih k (by omega)
theorem comma_end (n : Nat) : tkAt (comToks n) (2 * n) = tkS [41] := by
  induction n with
  | zero => rfl
  | succ n ih => exact ih
theorem tup_com {n k : Nat} (h : k < n) : tkAt (tupToks n) (2 * k + 2) = tkS [44] ∧ tkAt (tupToks n) (2 * k + 3) = tLow [120] := comma_at n k h
theorem tup_end (n : Nat) : tkAt (tupToks n) (2 * n + 2) = tkS [41] := comma_end n
theorem tup_halts {n k : Nat} (h : k ≤ n) : Halts (tupToks n) (2 * k + 2) := by
  unfold Halts
  by_cases hk : k < n
  · rw [(tup_com hk).1]; exact ⟨rfl, rfl⟩
  · obtain rfl : k = n := by omega
    rw [tup_end]; exact ⟨rfl, rfl⟩
theorem tup_x (num : Bytes → Int) {n k : Nat} (h : k ≤ n) (hk : tkAt (tupToks n) (2 * k + 1) = tLow [120]) : (full (tupToks n) num).expr (2 * k + 1) = .ok xTree (2 * k + 2) := by
  have ha := atom_low (l := tupToks n) (num := num) (i := 2 * k + 1) (by rw [hk]; rfl)
  rw [hk] at ha
  exact expr_atom ha (low_no (.inl (by rw [hk]; rfl))) (tup_halts h)
theorem tup_more (num : Bytes → Int) (n : Nat) : ∀ (f k : Nat), k ≤ n → n < k + f → sepMore (tupToks n) [44] (full (tupToks n) num).expr f (List.replicate (k + 1) xTree) (2 * k + 2) = .ok (List.replicate (n + 1) xTree) (2 * n + 2) := by
  intro f
  induction f with
  | zero => intro k h1 h2; omega
  | succ f ih =>
    intro k h1 h2
    rw [sepMore]
    by_cases h : k < n
    · obtain ⟨e1, e2⟩ := tup_com h
      have hp : passes (tupToks n) (2 * k + 2) [44] = true := by unfold passes; rw [e1]; rfl
      have hx := tup_x num (show k + 1 ≤ n from h) (show tkAt (tupToks n) (2 * (k + 1) + 1) = tLow [120] from e2)
      rw [hp, if_pos rfl, show 2 * k + 2 + 1 = 2 * (k + 1) + 1 by omega, hx, PR.then_ok]
      have := ih (k + 1) (by omega) (by omega)
      rw [List.replicate_succ'] at this
      exact this
    · obtain rfl : k = n := by omega
      have hp : passes (tupToks k) (2 * k + 2) [44] = false := by unfold passes; rw [tup_end]; rfl
      rw [hp]
      simp
theorem tup_read (num : Bytes → Int) (n : Nat) : (full (tupToks n) num).expr 0 = .ok (tupleOf 27 (List.replicate (n + 1) xTree)) (tupToks n).length := by
  have hx := tup_x num (n := n) (k := 0) (Nat.zero_le _) rfl
  have hs : sepd (tupToks n) [44] (full (tupToks n) num).expr 1 = .ok (List.replicate (n + 1) xTree) (2 * n + 2) := by
    unfold sepd
    rw [show (1 : Nat) = 2 * 0 + 1 from rfl, hx, PR.then_ok]
    exact tup_more num n _ 0 (Nat.zero_le _) (by rw [tup_len]; omega)
  have hc : (full (tupToks n) num).cont 1 = .ok (tupleOf 27 (List.replicate (n + 1) xTree)) (2 * n + 2) := by
    have hp : passes (tupToks n) (2 * n + 2) [58] = false := by unfold passes; rw [tup_end]; rfl
    rw [full_cont, contB, show passes (tupToks n) 1 [112, 97, 99, 107] = false from rfl, hs]
    simp only [Bool.false_eq_true, if_false, PR.then_ok, hp, and_false]
  have he : (full (tupToks n) num).encl 1 = .ok (tupleOf 27 (List.replicate (n + 1) xTree)) (2 * n + 3) := by
    have hp : passes (tupToks n) (2 * n + 2) [41] = true := by unfold passes; rw [tup_end]; rfl
    rw [full_encl, enclB, show passes (tupToks n) 1 [41] = false from rfl, hc]
    simp only [Bool.false_eq_true, if_false, PR.then_ok]
    unfold needT
    rw [hp, if_pos rfl, PR.then_ok]
  have ha : (full (tupToks n) num).atom 0 = .ok (tupleOf 27 (List.replicate (n + 1) xTree)) (2 * n + 3) := by
    rw [full_atom, atomB, show (tkAt (tupToks n) 0).kind = 7 from rfl, if_neg (by decide), if_neg (by decide), show passes (tupToks n) 0 [40] = true from rfl, if_pos rfl]
    exact he
  rw [tup_len]
  refine expr_atom ha (fun b hb => ?_) (halts_end (by rw [tup_len]; omega))
  simp only [List.mem_cons, List.not_mem_nil, or_false] at hb
  rcases hb with rfl | rfl | rfl <;> rfl
end Go.Proofs.YtkmgnibopmpcjaaGreatDoor.Pl

/-
  Plain mathematics of layer 4: the tokens of a source with a closing parenthesis right behind it, and of five families of sources. No program.
-/
namespace Go.Proofs.YtkmgnibopmpcjaaGreatDoor
open Go Go.RowKit
namespace Pl
set_option linter.unusedSimpArgs false
theorem scan_tok {l r t : Bytes} {k : Int} {n : Nat} (hl : l ≠ []) (ho : opens l = false) (hb : headIs blank l = false) (ht : tok l = good k t n) (hd : l.drop n = r) : scan l = (scan r).map (List.cons (k, t)) := by
  rw [scan_eq l, gap_none l ho hb, if_neg (by simp), List.drop_zero, if_neg hl, ht, if_pos (show (good k t n).err = 0 from rfl)]
  show (scan (l.drop n)).map _ = _
  rw [hd]
  rfl
theorem scan_sym (a : UInt8) (r : Bytes) (ho : opens (a :: r) = false) (ha : a = 40 ∨ a = 41 ∨ a = 44 ∨ a = 46) : scan (a :: r) = (scan r).map (List.cons (7, [a])) := by
  have h2 : sym2.contains ((a :: r).take 2) = false := by
    cases r with
    | nil => rcases ha with rfl | rfl | rfl | rfl <;> rfl
    | cons c z =>
      have e : (a :: c :: z).take 2 = [a, c] := rfl
      rw [e]
      rcases ha with rfl | rfl | rfl | rfl <;> simp [sym2]
  have h1 : sym1.contains ((a :: r).take 1) = true := by
    have e : (a :: r).take 1 = [a] := rfl
    rw [e]
    rcases ha with rfl | rfl | rfl | rfl <;> rfl
  have hs : symLen (a :: r) = 1 := by
    unfold symLen
    rw [ho, h2, h1]
    rfl
  refine scan_tok (n := 1) (List.cons_ne_nil _ _) ho (by rcases ha with rfl | rfl | rfl | rfl <;> rfl) ?_ rfl
  have : tok (a :: r) = symTok (a :: r) := by rcases ha with rfl | rfl | rfl | rfl <;> rfl
  rw [this]
  unfold symTok
  rw [hs]
  rfl
theorem opens_no {a : UInt8} (r : Bytes) (ha : a ≠ 40) : opens (a :: r) = false := by
  have : opens (a :: r) = ((40 : UInt8) == a && List.isPrefixOf [42] r) := rfl
  rw [this, beq_eq_false_iff_ne.2 (Ne.symm ha)]
  rfl
theorem scan_close (r : Bytes) : scan (41 :: r) = (scan r).map (List.cons (7, [41])) := scan_sym 41 r (opens_no r (by decide)) (.inr (.inl rfl))
theorem scan_space (r : Bytes) : scan (32 :: r) = scan r := scan_blank 32 r (opens_no r (by decide)) rfl
theorem scan_nil : scan [] = some [] := rfl
def rep (n : Nat) (u : Bytes) : Bytes := (List.replicate n u).flatten
theorem rep_succ (n : Nat) (u : Bytes) : rep (n + 1) u = u ++ rep n u := by simp [rep, List.replicate_succ]
theorem rep_len (n : Nat) (u : Bytes) : (rep n u).length = n * u.length := by simp [rep]
theorem fn_scan (n : Nat) : scan (rep n [102, 110, 32, 120, 32, 61, 62, 32] ++ [49]) = some ((fnToks n).map kt) := by
  induction n with
  | zero => exact (scan_tok (r := []) (k := 4) (t := [49]) (n := 1) (by decide) rfl rfl rfl rfl).trans rfl
  | succ n ih =>
    rw [rep_succ, List.append_assoc]
    generalize rep n [102, 110, 32, 120, 32, 61, 62, 32] ++ [49] = r at ih
    show scan (102 :: 110 :: 32 :: 120 :: 32 :: 61 :: 62 :: 32 :: r) = _
    rw [scan_tok (r := 32 :: 120 :: 32 :: 61 :: 62 :: 32 :: r) (k := 6) (t := [102, 110]) (n := 2) (by simp) rfl rfl rfl rfl, scan_space,
      scan_tok (r := 32 :: 61 :: 62 :: 32 :: r) (k := 1) (t := [120]) (n := 1) (by simp) rfl rfl rfl rfl, scan_space,
      scan_tok (r := 32 :: r) (k := 7) (t := [61, 62]) (n := 2) (by simp) rfl rfl rfl rfl, scan_space, ih]
    rfl
theorem app_tail (n : Nat) : scan (rep n [32, 120]) = some (List.replicate n (1, [120])) := by
  induction n with
  | zero => rfl
  | succ n ih =>
    rw [rep_succ]
    show scan (32 :: 120 :: rep n [32, 120]) = _
    rw [scan_space]
    have h : scan (120 :: rep n [32, 120]) = (scan (rep n [32, 120])).map (List.cons (1, [120])) := by
      cases n with
      | zero => exact scan_tok (n := 1) (by simp) rfl rfl rfl rfl
      | succ n => rw [rep_succ]; exact scan_tok (n := 1) (by simp) rfl rfl rfl rfl
    rw [h, ih]
    rfl
theorem app_scan (n : Nat) : scan (102 :: rep n [32, 120]) = some ((appToks n).map kt) := by
  have h : scan (102 :: rep n [32, 120]) = (scan (rep n [32, 120])).map (List.cons (1, [102])) := by
    cases n with
    | zero => exact scan_tok (n := 1) (by simp) rfl rfl rfl rfl
    | succ n => rw [rep_succ]; exact scan_tok (n := 1) (by simp) rfl rfl rfl rfl
  rw [h, app_tail]
  simp [appToks, kt, tLow]
theorem dot_scan (n : Nat) : scan (rep n [77, 46] ++ [120]) = some ((dotToks n).map kt) := by
  induction n with
  | zero => exact (scan_tok (r := []) (k := 1) (t := [120]) (n := 1) (by decide) rfl rfl rfl rfl).trans rfl
  | succ n ih =>
    rw [rep_succ, List.append_assoc]
    generalize rep n [77, 46] ++ [120] = r at ih
    show scan (77 :: 46 :: r) = _
    rw [scan_tok (r := 46 :: r) (k := 2) (t := [77]) (n := 1) (by simp) rfl rfl rfl rfl, scan_sym 46 r (opens_no r (by decide)) (.inr (.inr (.inr rfl))), ih]
    rfl
theorem com_scan (n : Nat) : scan (rep n [120, 44, 32] ++ [120, 41]) = some (((tLow [120]) :: comToks n).map kt) := by
  induction n with
  | zero =>
    show scan (120 :: 41 :: []) = _
    rw [scan_tok (r := [41]) (k := 1) (t := [120]) (n := 1) (by simp) rfl rfl rfl rfl, scan_close, scan_nil]
    rfl
  | succ n ih =>
    rw [rep_succ, List.append_assoc]
    generalize rep n [120, 44, 32] ++ [120, 41] = r at ih
    show scan (120 :: 44 :: 32 :: r) = _
    rw [scan_tok (r := 44 :: 32 :: r) (k := 1) (t := [120]) (n := 1) (by simp) rfl rfl rfl rfl, scan_sym 44 _ (opens_no _ (by decide)) (.inr (.inr (.inl rfl))), scan_space, ih]
    rfl
theorem tup_scan (n : Nat) : scan (40 :: (rep n [120, 44, 32] ++ [120, 41])) = some ((tupToks n).map kt) := by
  have ho : opens (40 :: (rep n [120, 44, 32] ++ [120, 41])) = false := by
    cases n with
    | zero => rfl
    | succ n => rw [rep_succ]; rfl
  rw [scan_sym 40 _ ho (.inl rfl), com_scan]
  rfl
end Pl
end Go.Proofs.YtkmgnibopmpcjaaGreatDoor

/-
  Plain mathematics of layer 4: an expression in parentheses, and two operators between three of them. No program.
-/
namespace Go.Proofs.YtkmgnibopmpcjaaGreatDoor.Pl
open Go
set_option linter.unusedSimpArgs false
section
variable {l l' : List Tok} {num : Bytes → Int}
theorem take_bad {k : Int} {i : Nat} (h : (tkAt l i).kind ≠ k) : takeK l k i = .bad i := by unfold takeK; rw [if_neg h]
theorem expr_bad {i : Nat} (hk : (tkAt l i).kind = 6 ∨ (tkAt l i).kind = 7) (h : ∀ b ∈ ([[102, 110], [105, 102], [126], [40], [108, 101, 116], [99, 97, 115, 101]] : List Bytes), passes l i b = false) : (full l num).expr i = .bad i := by
  have ha : (full l num).atom i = .bad i := by
    rw [full_atom, atomB, if_neg (by omega), if_neg (by omega), h _ (by simp), h _ (by simp), h _ (by simp)]
    simp only [Bool.false_eq_true, if_false]
    unfold vpath
    rw [vpMore, if_neg (by omega), take_bad (by omega), PR.then_bad]
  rw [full_expr, exprB, h _ (by simp), h _ (by simp)]
  simp only [Bool.false_eq_true, if_false]
  rw [full_oper, operB, full_neg, negB, h _ (by simp)]
  simp only [Bool.false_eq_true, if_false]
  rw [full_app, appB, ha, PR.then_bad, PR.then_bad]
theorem pass_fixed {i : Nat} {b : Bytes} (h : passes l i b = true) : fixedT (tkAt l i) = b := by unfold passes at h; exact (beq_iff_eq).1 h
theorem pass_kinds {i : Nat} {b : Bytes} (h : passes l i b = true) (hb : b ≠ []) : (tkAt l i).kind = 6 ∨ (tkAt l i).kind = 7 := by
  have h := pass_fixed h
  unfold fixedT at h
  split at h
  · assumption
  · exact absurd h.symm hb
theorem pass_other {i : Nat} {b c : Bytes} (h : passes l i b = true) (hc : b ≠ c) : passes l i c = false := by unfold passes; rw [pass_fixed h]; exact beq_eq_false_iff_ne.2 hc
theorem not_begun {i : Nat} {b : Bytes} {t : Syn} {j : Nat} (h : (full l num).expr i = .ok t j) (hb : b ≠ []) (hn : ∀ c ∈ ([[102, 110], [105, 102], [126], [40], [108, 101, 116], [99, 97, 115, 101]] : List Bytes), b ≠ c) : passes l i b = false := by
  cases hp : passes l i b with
  | false => rfl
  | true =>
    rw [expr_bad (pass_kinds hp hb) (fun c hc => pass_other hp (hn c hc))] at h
    cases h
theorem paren_atom {d : Nat} {t : Syn} (A : Stands l l' (d + 1)) (ho : passes l' d [40] = true) (hc : passes l' (l.length + (d + 1)) [41] = true) (h : (full l num).expr 0 = .ok t l.length) : (full l' num).atom d = .ok t (l.length + (d + 1) + 1) := by
  have hne : 0 < l.length := by have := (full_goes l num).expr 0 t _ h; omega
  have h41 : passes l' (d + 1) [41] = false := by
    have := not_begun (b := [41]) h (by decide) (by decide)
    cases hp : passes l' (d + 1) [41] with
    | false => rfl
    | true =>
      have := (A.passE (b := [41]) hne).2 (by rw [Nat.zero_add]; exact hp)
      simp_all
  have hpk : passes l' (d + 1) [112, 97, 99, 107] = false := by
    have := not_begun (b := [112, 97, 99, 107]) h (by decide) (by decide)
    cases hp : passes l' (d + 1) [112, 97, 99, 107] with
    | false => rfl
    | true =>
      have := (A.passE (b := [112, 97, 99, 107]) hne).2 (by rw [Nat.zero_add]; exact hp)
      simp_all
  have he : (full l' num).expr (d + 1) = .ok t (l.length + (d + 1)) := ((full_imps A num).expr 0 (d + 1) (Nat.zero_le _) (by omega) t _ h).2
  have h44 : passes l' (l.length + (d + 1)) [44] = false := pass_other hc (by decide)
  have h58 : passes l' (l.length + (d + 1)) [58] = false := pass_other hc (by decide)
  have hs : sepd l' [44] (full l' num).expr (d + 1) = .ok [t] (l.length + (d + 1)) := by
    unfold sepd
    rw [he, PR.then_ok, sepMore, h44]
    simp
  have hct : (full l' num).cont (d + 1) = .ok t (l.length + (d + 1)) := by
    rw [full_cont, contB, hpk]
    simp only [Bool.false_eq_true, if_false]
    rw [hs, PR.then_ok, h58]
    simp [tupleOf]
  have hen : (full l' num).encl (d + 1) = .ok t (l.length + (d + 1) + 1) := by
    rw [full_encl, enclB, h41]
    simp only [Bool.false_eq_true, if_false]
    rw [hct, PR.then_ok]
    unfold needT
    rw [hc, if_pos rfl, PR.then_ok]
  have hk := pass_kinds ho (by decide)
  rw [full_atom, atomB, if_neg (by omega), if_neg (by omega), ho, if_pos rfl]
  exact hen
theorem open_no {d : Nat} (ho : passes l' d [40] = true) : ∀ b ∈ ([[126], [102, 110], [105, 102]] : List Bytes), passes l' d b = false := by
  intro b hb
  refine pass_other ho ?_
  rintro rfl
  simp at hb
end
theorem stands_in (p l q : List Tok) (c : Tok) (hc : c.kind = 7 ∧ c.text = [41]) : Stands l (p ++ l ++ c :: q) p.length := by
  have h : ∀ i, i < l.length → tkAt (p ++ l ++ c :: q) (i + p.length) = tkAt l i := by
    intro i hi
    unfold tkAt
    rw [List.getD_eq_getElem?_getD, List.getD_eq_getElem?_getD, List.getElem?_append_left (by rw [List.length_append]; omega), List.getElem?_append_right (by omega)]
    congr 2
    omega
  have he : tkAt (p ++ l ++ c :: q) (l.length + p.length) = c := by
    unfold tkAt
    rw [List.getD_eq_getElem?_getD, List.getElem?_append_right (by rw [List.length_append]; omega)]
    rw [List.length_append, show l.length + p.length - (p.length + l.length) = 0 by omega]
    rfl
  refine ⟨fun i hi => by rw [h i hi], fun i hi => by rw [h i hi], by simp only [List.length_append]; omega, ?_, ?_⟩
  · rw [he]; exact .inr (.inl hc.1)
  · rw [he]; unfold fixedT; rw [if_pos (.inr hc.1)]; exact .inl hc.2
def parToks : Nat → List Tok
  | 0 => [tLow [120]]
  | n + 1 => [tkS [40]] ++ parToks n ++ [tkS [41]]
theorem par_len (n : Nat) : (parToks n).length = 2 * n + 1 := by
  induction n with
  | zero => rfl
  | succ n ih => simp only [parToks, List.length_append, List.length_cons, List.length_nil, ih]; omega
theorem close_at (p l : List Tok) (q : List Tok) (c : Tok) : tkAt (p ++ l ++ c :: q) (l.length + p.length) = c := by
  unfold tkAt
  rw [List.getD_eq_getElem?_getD, List.getElem?_append_right (by rw [List.length_append]; omega), List.length_append, show l.length + p.length - (p.length + l.length) = 0 by omega]
  rfl
theorem par_read (num : Bytes → Int) (n : Nat) : (full (parToks n) num).expr 0 = .ok xTree (parToks n).length := by
  induction n with
  | zero =>
    have h := atom_low (l := parToks 0) (num := num) (i := 0) rfl
    exact expr_atom h (low_no (.inl rfl)) (halts_end (by decide))
  | succ n ih =>
    have A := stands_in [tkS [40]] (parToks n) [] (tkS [41]) ⟨rfl, rfl⟩
    have hc : passes (parToks (n + 1)) ((parToks n).length + (0 + 1)) [41] = true := by
      unfold passes
      have : tkAt (parToks (n + 1)) ((parToks n).length + (0 + 1)) = tkS [41] := close_at [tkS [40]] (parToks n) [] (tkS [41])
      rw [this]
      rfl
    have ho : passes (parToks (n + 1)) 0 [40] = true := rfl
    have ha := paren_atom (num := num) (l' := parToks (n + 1)) (d := 0) A ho hc ih
    have hl : (parToks n).length + (0 + 1) + 1 = (parToks (n + 1)).length := by rw [par_len, par_len]; omega
    rw [hl] at ha
    exact expr_atom ha (open_no ho) (halts_end (by omega))
section
variable {l : List Tok} {num : Bytes → Int}
end
end Go.Proofs.YtkmgnibopmpcjaaGreatDoor.Pl
