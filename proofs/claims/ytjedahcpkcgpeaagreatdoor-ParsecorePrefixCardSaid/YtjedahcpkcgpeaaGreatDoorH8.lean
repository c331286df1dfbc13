/-
  Walks and plain mathematics, several texts in one (Ce Cf Ml Sm).
-/
import Derived.Test.YtjedahcpkcgpeaaGreatDoorH7
import Derived.Test.YtjedahcpkcgpeaaGreatDoorH6
import Derived.Deep.Slices
import Derived.Deep.Strs
import Derived.WideKeyArgs
import Derived.ChangeOld
import Derived.ProofKit
import Derived.Test.YtjedahcpkcgpeaaGreatDoorProg
import Derived.WalkKit
import Derived.BigQuiet
import Derived.Lib.Hide
/-
  Plain mathematics of layer 4: how deep the reading functions call each other does not matter, if it is enough. No program.
-/
namespace Go.Proofs.YtjedahcpkcgpeaaGreatDoor.Pl
open Go
section
variable {l : List Tok} {α β : Type}
theorem then_same {r r' : PR α} {f f' : α → Nat → PR β} {a : Nat} (hr : r = r') (ha : After r a) (hi : Inn l r) (k : ∀ v j, a ≤ j → j ≤ l.length → f v j = f' v j) : r.then f = r'.then f' := by
  subst hr
  cases r with
  | bad i => rfl
  | ok v i => exact k v i (ha v i rfl) (hi v i rfl)
theorem ite_same {p : Prop} [Decidable p] {r s r' s' : PR α} (h : p → r = r') (k : ¬p → s = s') : (if p then r else s) = (if p then r' else s') := by
  by_cases hp : p
  · rw [if_pos hp, if_pos hp]; exact h hp
  · rw [if_neg hp, if_neg hp]; exact k hp
theorem sepMore_same {b : Bytes} (hb : b ≠ []) {read read' : Nat → PR Syn} {i0 : Nat} (hr : ∀ k, i0 < k → k ≤ l.length → read k = read' k) (ha : ∀ k, After (read k) (k + 1)) (hi : ∀ k, Inn l (read k)) : ∀ (n : Nat) (acc : List Syn) (i : Nat), i0 ≤ i → sepMore l b read n acc i = sepMore l b read' n acc i := by
  intro n
  induction n with
  | zero => intro acc i _; rfl
  | succ n ih =>
    intro acc i h0
    rw [sepMore, sepMore]
    exact ite_same (fun hp => then_same (hr _ (by omega) (pass_lt hp hb)) (ha _) (hi _) fun v j h1 h2 => ih _ j (by omega)) (fun _ => rfl)
theorem sepd_same {b : Bytes} (hb : b ≠ []) {read read' : Nat → PR Syn} {i : Nat} (h0 : read i = read' i) (hr : ∀ k, i < k → k ≤ l.length → read k = read' k) (ha : ∀ k, After (read k) (k + 1)) (hi : ∀ k, Inn l (read k)) : sepd l b read i = sepd l b read' i :=
  then_same h0 (ha _) (hi _) fun v j h1 h2 => sepMore_same hb hr ha hi _ _ j (by omega)
end
structure Eqs (l : List Tok) (F G : Fs) (n : Nat) : Prop where
  typ : ∀ i, 16 * (l.length - i) + 4 < n → F.typ i = G.typ i
  prod : ∀ i, 16 * (l.length - i) + 3 < n → F.prod i = G.prod i
  post : ∀ i, 16 * (l.length - i) + 2 < n → F.post i = G.post i
  simp : ∀ i, 16 * (l.length - i) + 1 < n → F.simp i = G.simp i
  brack : ∀ i, 16 * (l.length - i) + 5 < n → F.brack i = G.brack i
  pat : ∀ i, 16 * (l.length - i) + 2 < n → F.pat i = G.pat i
  arg : ∀ i, 16 * (l.length - i) + 1 < n → F.arg i = G.arg i
  comps : ∀ i, 16 * (l.length - i) + 3 < n → F.comps i = G.comps i
  expr : ∀ i, 16 * (l.length - i) + 5 < n → F.expr i = G.expr i
  neg : ∀ i, 16 * (l.length - i) + 3 < n → F.neg i = G.neg i
  app : ∀ i, 16 * (l.length - i) + 2 < n → F.app i = G.app i
  atom : ∀ i, 16 * (l.length - i) + 1 < n → F.atom i = G.atom i
  encl : ∀ i, 16 * (l.length - i) + 7 < n → F.encl i = G.encl i
  cont : ∀ i, 16 * (l.length - i) + 6 < n → F.cont i = G.cont i
  letE : ∀ i, 16 * (l.length - i) + 6 < n → F.letE i = G.letE i
  matchE : ∀ i, 16 * (l.length - i) + 6 < n → F.matchE i = G.matchE i
  rule : ∀ i, 16 * (l.length - i) + 3 < n → F.rule i = G.rule i
  decl : ∀ i, 16 * (l.length - i) + 1 < n → F.decl i = G.decl i
  named : ∀ i, 16 * (l.length - i) + 1 < n → F.named i = G.named i
  unpk : ∀ i, 16 * (l.length - i) + 1 < n → F.unpk i = G.unpk i
  oper : ∀ q i, 16 * (l.length - i) + 4 < n → F.oper q i = G.oper q i
section
variable {l : List Tok} {num : Bytes → Int} {F G : Fs} {n : Nat}
theorem operMore_same (hG : Goes F) (hE : Ends l F) (h : Eqs l F G n) {i0 : Nat} (hn : 16 * (l.length - i0) ≤ n) (hl : i0 < l.length) : ∀ (k lo most : Nat) (t : Syn) (i : Nat), i0 ≤ i → i ≤ l.length → operMore l F k lo most t i = operMore l G k lo most t i := by
  intro k
  induction k with
  | zero => intro lo most t i _ _; rfl
  | succ k ih =>
    intro lo most t i h0 h1
    rw [operMore, operMore]
    refine ite_same (fun _ => rfl) (fun hp => ?_)
    by_cases hz : (opOf (tkAt l i)).2 = 0
    · rcases Nat.lt_or_ge i l.length with hlt | hge
      · exact then_same (h.oper _ _ (by omega)) (hG.oper _ _) (hE.oper _ _) fun v j h2 h3 => ih _ _ _ j (by omega) h3
      · exact then_same (h.oper _ _ (by omega)) (hG.oper _ _) (hE.oper _ _) fun v j h2 h3 => ih _ _ _ j (by omega) h3
    · have hlt := opOf_lt hz
      exact then_same (h.oper _ _ (by omega)) (hG.oper _ _) (hE.oper _ _) fun v j h2 h3 => ih _ _ _ j (by omega) h3
theorem appMore_same (hG : Goes F) (hE : Ends l F) (h : Eqs l F G n) {i0 : Nat} (hn : 16 * (l.length - i0) ≤ n) (hl : i0 < l.length) : ∀ (k : Nat) (t : Syn) (i : Nat), i0 < i → i ≤ l.length → appMore l F k t i = appMore l G k t i := by
  intro k
  induction k with
  | zero => intro t i _ _; rfl
  | succ k ih =>
    intro t i h0 h1
    rw [appMore, appMore]
    exact ite_same (fun _ => then_same (h.atom _ (by omega)) (hG.atom _) (hE.atom _) fun v j h2 h3 => ih _ j (by omega) h3) (fun _ => rfl)
theorem declMore_same (hG : Goes F) (hE : Ends l F) (h : Eqs l F G n) {i0 : Nat} (hn : 16 * (l.length - i0) + 1 < n) : ∀ (k : Nat) (ts : List Syn) (i : Nat), i0 ≤ i → declMore l F k ts i = declMore l G k ts i := by
  intro k
  induction k with
  | zero => intro ts i _; rfl
  | succ k ih =>
    intro ts i h0
    rw [declMore, declMore]
    exact ite_same (fun _ => rfl) (fun _ => then_same (h.decl _ (by omega)) (hG.decl _) (hE.decl _) fun v j h2 h3 => ih _ j (by omega))
theorem fn_same (hG : Goes F) (hE : Ends l F) (h : Eqs l F G n) (i : Nat) (hn : 16 * (l.length - i) ≤ n) : fnB l F i = fnB l G i := by
  unfold fnB
  repeat' (first | rfl | exact h.typ _ (by first | omega | (have := pass_lt (by assumption) (by decide); omega)) | exact h.prod _ (by first | omega | (have := pass_lt (by assumption) (by decide); omega)) | exact h.post _ (by first | omega | (have := pass_lt (by assumption) (by decide); omega)) | exact h.simp _ (by first | omega | (have := pass_lt (by assumption) (by decide); omega)) | exact h.brack _ (by first | omega | (have := pass_lt (by assumption) (by decide); omega)) | exact h.pat _ (by first | omega | (have := pass_lt (by assumption) (by decide); omega)) | exact h.arg _ (by first | omega | (have := pass_lt (by assumption) (by decide); omega)) | exact h.comps _ (by first | omega | (have := pass_lt (by assumption) (by decide); omega)) | exact h.expr _ (by first | omega | (have := pass_lt (by assumption) (by decide); omega)) | exact h.neg _ (by first | omega | (have := pass_lt (by assumption) (by decide); omega)) | exact h.app _ (by first | omega | (have := pass_lt (by assumption) (by decide); omega)) | exact h.atom _ (by first | omega | (have := pass_lt (by assumption) (by decide); omega)) | exact h.encl _ (by first | omega | (have := pass_lt (by assumption) (by decide); omega)) | exact h.cont _ (by first | omega | (have := pass_lt (by assumption) (by decide); omega)) | exact h.letE _ (by first | omega | (have := pass_lt (by assumption) (by decide); omega)) | exact h.matchE _ (by first | omega | (have := pass_lt (by assumption) (by decide); omega)) | exact h.rule _ (by first | omega | (have := pass_lt (by assumption) (by decide); omega)) | exact h.decl _ (by first | omega | (have := pass_lt (by assumption) (by decide); omega)) | exact h.named _ (by first | omega | (have := pass_lt (by assumption) (by decide); omega)) | exact h.unpk _ (by first | omega | (have := pass_lt (by assumption) (by decide); omega)) | exact h.oper _ _ (by first | omega | (have := pass_lt (by assumption) (by decide); omega)) | exact sepd_same (by decide) (h.post _ (by first | omega | (have := pass_lt (by assumption) (by decide); omega))) (fun k h1 h2 => h.post _ (by omega)) hG.post hE.post | exact sepd_same (by decide) (h.typ _ (by first | omega | (have := pass_lt (by assumption) (by decide); omega))) (fun k h1 h2 => h.typ _ (by omega)) hG.typ hE.typ | exact sepd_same (by decide) (h.pat _ (by first | omega | (have := pass_lt (by assumption) (by decide); omega))) (fun k h1 h2 => h.pat _ (by omega)) hG.pat hE.pat | exact sepd_same (by decide) (h.expr _ (by first | omega | (have := pass_lt (by assumption) (by decide); omega))) (fun k h1 h2 => h.expr _ (by omega)) hG.expr hE.expr | exact sepd_same (by decide) (h.rule _ (by first | omega | (have := pass_lt (by assumption) (by decide); omega))) (fun k h1 h2 => h.rule _ (by omega)) hG.rule hE.rule | exact declMore_same hG hE h (by omega) _ _ _ (Nat.le_refl _) | exact operMore_same hG hE h (i0 := i) (by omega) (by omega) _ _ _ _ _ (by omega) (by assumption) | exact appMore_same hG hE h (i0 := i) (by omega) (by omega) _ _ _ (by omega) (by assumption) | (with_reducible refine ite_same (fun hp => ?_) (fun hp => ?_)) | (with_reducible refine then_same (l := l) ?_ (by first | exact after_take _ _ _ | exact after_need _ _ _ | exact after_mpath _ _ | exact after_tpath _ _ | exact after_sig _ _ | exact after_namesMore _ _ _ _ | exact after_declMore hG _ _ _ | exact after_sepd _ _ hG.post _ | exact after_sepd _ _ hG.typ _ | exact after_sepd _ _ hG.pat _ | exact after_sepd _ _ hG.expr _ | exact after_sepd _ _ hG.rule _ | exact hG.typ _ | exact hG.prod _ | exact hG.post _ | exact hG.simp _ | exact hG.brack _ | exact hG.pat _ | exact hG.arg _ | exact hG.comps _ | exact hG.expr _ | exact hG.neg _ | exact hG.app _ | exact hG.atom _ | exact hG.encl _ | exact hG.cont _ | exact hG.letE _ | exact hG.matchE _ | exact hG.rule _ | exact hG.decl _ | exact hG.named _ | exact hG.unpk _ | exact hG.oper _ _) (by first | exact inn_take _ (by decide) _ | exact inn_need _ (by decide) _ | exact inn_mpath _ | exact inn_tpath _ | exact inn_sig _ | exact inn_namesMore _ _ _ | exact inn_declMore hE _ _ _ | exact inn_sepd hE.post _ | exact inn_sepd hE.typ _ | exact inn_sepd hE.pat _ | exact inn_sepd hE.expr _ | exact inn_sepd hE.rule _ | exact hE.typ _ | exact hE.prod _ | exact hE.post _ | exact hE.simp _ | exact hE.brack _ | exact hE.pat _ | exact hE.arg _ | exact hE.comps _ | exact hE.expr _ | exact hE.neg _ | exact hE.app _ | exact hE.atom _ | exact hE.encl _ | exact hE.cont _ | exact hE.letE _ | exact hE.matchE _ | exact hE.rule _ | exact hE.decl _ | exact hE.named _ | exact hE.unpk _ | exact hE.oper _ _) fun v j h1 h2 => ?_))
theorem if_same (hG : Goes F) (hE : Ends l F) (h : Eqs l F G n) (i : Nat) (hn : 16 * (l.length - i) + 5 < n) : ifB l F i = ifB l G i := by
  unfold ifB
  repeat' (first | rfl | exact h.typ _ (by first | omega | (have := pass_lt (by assumption) (by decide); omega)) | exact h.prod _ (by first | omega | (have := pass_lt (by assumption) (by decide); omega)) | exact h.post _ (by first | omega | (have := pass_lt (by assumption) (by decide); omega)) | exact h.simp _ (by first | omega | (have := pass_lt (by assumption) (by decide); omega)) | exact h.brack _ (by first | omega | (have := pass_lt (by assumption) (by decide); omega)) | exact h.pat _ (by first | omega | (have := pass_lt (by assumption) (by decide); omega)) | exact h.arg _ (by first | omega | (have := pass_lt (by assumption) (by decide); omega)) | exact h.comps _ (by first | omega | (have := pass_lt (by assumption) (by decide); omega)) | exact h.expr _ (by first | omega | (have := pass_lt (by assumption) (by decide); omega)) | exact h.neg _ (by first | omega | (have := pass_lt (by assumption) (by decide); omega)) | exact h.app _ (by first | omega | (have := pass_lt (by assumption) (by decide); omega)) | exact h.atom _ (by first | omega | (have := pass_lt (by assumption) (by decide); omega)) | exact h.encl _ (by first | omega | (have := pass_lt (by assumption) (by decide); omega)) | exact h.cont _ (by first | omega | (have := pass_lt (by assumption) (by decide); omega)) | exact h.letE _ (by first | omega | (have := pass_lt (by assumption) (by decide); omega)) | exact h.matchE _ (by first | omega | (have := pass_lt (by assumption) (by decide); omega)) | exact h.rule _ (by first | omega | (have := pass_lt (by assumption) (by decide); omega)) | exact h.decl _ (by first | omega | (have := pass_lt (by assumption) (by decide); omega)) | exact h.named _ (by first | omega | (have := pass_lt (by assumption) (by decide); omega)) | exact h.unpk _ (by first | omega | (have := pass_lt (by assumption) (by decide); omega)) | exact h.oper _ _ (by first | omega | (have := pass_lt (by assumption) (by decide); omega)) | exact sepd_same (by decide) (h.post _ (by first | omega | (have := pass_lt (by assumption) (by decide); omega))) (fun k h1 h2 => h.post _ (by omega)) hG.post hE.post | exact sepd_same (by decide) (h.typ _ (by first | omega | (have := pass_lt (by assumption) (by decide); omega))) (fun k h1 h2 => h.typ _ (by omega)) hG.typ hE.typ | exact sepd_same (by decide) (h.pat _ (by first | omega | (have := pass_lt (by assumption) (by decide); omega))) (fun k h1 h2 => h.pat _ (by omega)) hG.pat hE.pat | exact sepd_same (by decide) (h.expr _ (by first | omega | (have := pass_lt (by assumption) (by decide); omega))) (fun k h1 h2 => h.expr _ (by omega)) hG.expr hE.expr | exact sepd_same (by decide) (h.rule _ (by first | omega | (have := pass_lt (by assumption) (by decide); omega))) (fun k h1 h2 => h.rule _ (by omega)) hG.rule hE.rule | exact declMore_same hG hE h (by omega) _ _ _ (Nat.le_refl _) | exact operMore_same hG hE h (i0 := i) (by omega) (by omega) _ _ _ _ _ (by omega) (by assumption) | exact appMore_same hG hE h (i0 := i) (by omega) (by omega) _ _ _ (by omega) (by assumption) | (with_reducible refine ite_same (fun hp => ?_) (fun hp => ?_)) | (with_reducible refine then_same (l := l) ?_ (by first | exact after_take _ _ _ | exact after_need _ _ _ | exact after_mpath _ _ | exact after_tpath _ _ | exact after_sig _ _ | exact after_namesMore _ _ _ _ | exact after_declMore hG _ _ _ | exact after_sepd _ _ hG.post _ | exact after_sepd _ _ hG.typ _ | exact after_sepd _ _ hG.pat _ | exact after_sepd _ _ hG.expr _ | exact after_sepd _ _ hG.rule _ | exact hG.typ _ | exact hG.prod _ | exact hG.post _ | exact hG.simp _ | exact hG.brack _ | exact hG.pat _ | exact hG.arg _ | exact hG.comps _ | exact hG.expr _ | exact hG.neg _ | exact hG.app _ | exact hG.atom _ | exact hG.encl _ | exact hG.cont _ | exact hG.letE _ | exact hG.matchE _ | exact hG.rule _ | exact hG.decl _ | exact hG.named _ | exact hG.unpk _ | exact hG.oper _ _) (by first | exact inn_take _ (by decide) _ | exact inn_need _ (by decide) _ | exact inn_mpath _ | exact inn_tpath _ | exact inn_sig _ | exact inn_namesMore _ _ _ | exact inn_declMore hE _ _ _ | exact inn_sepd hE.post _ | exact inn_sepd hE.typ _ | exact inn_sepd hE.pat _ | exact inn_sepd hE.expr _ | exact inn_sepd hE.rule _ | exact hE.typ _ | exact hE.prod _ | exact hE.post _ | exact hE.simp _ | exact hE.brack _ | exact hE.pat _ | exact hE.arg _ | exact hE.comps _ | exact hE.expr _ | exact hE.neg _ | exact hE.app _ | exact hE.atom _ | exact hE.encl _ | exact hE.cont _ | exact hE.letE _ | exact hE.matchE _ | exact hE.rule _ | exact hE.decl _ | exact hE.named _ | exact hE.unpk _ | exact hE.oper _ _) fun v j h1 h2 => ?_))
set_option maxHeartbeats 16000000 in
theorem same_all (hG : Goes F) (hE : Ends l F) (h : Eqs l F G n) : (∀ i, 16 * (l.length - i) + 4 ≤ n → typB l F i = typB l G i) ∧ (∀ i, 16 * (l.length - i) + 3 ≤ n → prodB l F i = prodB l G i) ∧ (∀ i, 16 * (l.length - i) + 2 ≤ n → postB l F i = postB l G i) ∧ (∀ i, 16 * (l.length - i) + 1 ≤ n → simpB l F i = simpB l G i) ∧ (∀ i, 16 * (l.length - i) + 5 ≤ n → brackB l F i = brackB l G i) ∧ (∀ i, 16 * (l.length - i) + 2 ≤ n → patB l F i = patB l G i) ∧ (∀ i, 16 * (l.length - i) + 1 ≤ n → argB l num F i = argB l num G i) ∧ (∀ i, 16 * (l.length - i) + 3 ≤ n → compsB l F i = compsB l G i) ∧ (∀ i, 16 * (l.length - i) + 5 ≤ n → exprB l F i = exprB l G i) ∧ (∀ i, 16 * (l.length - i) + 3 ≤ n → negB l F i = negB l G i) ∧ (∀ i, 16 * (l.length - i) + 2 ≤ n → appB l F i = appB l G i) ∧ (∀ i, 16 * (l.length - i) + 1 ≤ n → atomB l num F i = atomB l num G i) ∧ (∀ i, 16 * (l.length - i) + 7 ≤ n → enclB l F i = enclB l G i) ∧ (∀ i, 16 * (l.length - i) + 6 ≤ n → contB l F i = contB l G i) ∧ (∀ i, 16 * (l.length - i) + 6 ≤ n → letB l F i = letB l G i) ∧ (∀ i, 16 * (l.length - i) + 6 ≤ n → matchB l F i = matchB l G i) ∧ (∀ i, 16 * (l.length - i) + 3 ≤ n → ruleB l F i = ruleB l G i) ∧ (∀ i, 16 * (l.length - i) + 1 ≤ n → declB l F i = declB l G i) ∧ (∀ i, 16 * (l.length - i) + 1 ≤ n → namedB l F i = namedB l G i) ∧ (∀ i, 16 * (l.length - i) + 1 ≤ n → unpkB l F i = unpkB l G i) ∧ (∀ q i, 16 * (l.length - i) + 4 ≤ n → operB l F q i = operB l G q i) := by
  refine ⟨fun i hn => ?_, fun i hn => ?_, fun i hn => ?_, fun i hn => ?_, fun i hn => ?_, fun i hn => ?_, fun i hn => ?_, fun i hn => ?_, fun i hn => ?_, fun i hn => ?_, fun i hn => ?_, fun i hn => ?_, fun i hn => ?_, fun i hn => ?_, fun i hn => ?_, fun i hn => ?_, fun i hn => ?_, fun i hn => ?_, fun i hn => ?_, fun i hn => ?_, fun q i hn => ?_⟩
  all_goals first | unfold typB | unfold prodB | unfold postB | unfold simpB | unfold brackB | unfold patB | unfold argB | unfold compsB | unfold exprB | unfold negB | unfold appB | unfold atomB | unfold enclB | unfold contB | unfold letB | unfold matchB | unfold ruleB | unfold declB | unfold namedB | unfold unpkB | unfold operB
  all_goals repeat' (first | rfl | exact fn_same hG hE h _ (by have := pass_lt (by assumption) (by decide); omega) | exact if_same hG hE h _ (by have := pass_lt (by assumption) (by decide); omega) | exact h.typ _ (by first | omega | (have := pass_lt (by assumption) (by decide); omega)) | exact h.prod _ (by first | omega | (have := pass_lt (by assumption) (by decide); omega)) | exact h.post _ (by first | omega | (have := pass_lt (by assumption) (by decide); omega)) | exact h.simp _ (by first | omega | (have := pass_lt (by assumption) (by decide); omega)) | exact h.brack _ (by first | omega | (have := pass_lt (by assumption) (by decide); omega)) | exact h.pat _ (by first | omega | (have := pass_lt (by assumption) (by decide); omega)) | exact h.arg _ (by first | omega | (have := pass_lt (by assumption) (by decide); omega)) | exact h.comps _ (by first | omega | (have := pass_lt (by assumption) (by decide); omega)) | exact h.expr _ (by first | omega | (have := pass_lt (by assumption) (by decide); omega)) | exact h.neg _ (by first | omega | (have := pass_lt (by assumption) (by decide); omega)) | exact h.app _ (by first | omega | (have := pass_lt (by assumption) (by decide); omega)) | exact h.atom _ (by first | omega | (have := pass_lt (by assumption) (by decide); omega)) | exact h.encl _ (by first | omega | (have := pass_lt (by assumption) (by decide); omega)) | exact h.cont _ (by first | omega | (have := pass_lt (by assumption) (by decide); omega)) | exact h.letE _ (by first | omega | (have := pass_lt (by assumption) (by decide); omega)) | exact h.matchE _ (by first | omega | (have := pass_lt (by assumption) (by decide); omega)) | exact h.rule _ (by first | omega | (have := pass_lt (by assumption) (by decide); omega)) | exact h.decl _ (by first | omega | (have := pass_lt (by assumption) (by decide); omega)) | exact h.named _ (by first | omega | (have := pass_lt (by assumption) (by decide); omega)) | exact h.unpk _ (by first | omega | (have := pass_lt (by assumption) (by decide); omega)) | exact h.oper _ _ (by first | omega | (have := pass_lt (by assumption) (by decide); omega)) | exact sepd_same (by decide) (h.post _ (by first | omega | (have := pass_lt (by assumption) (by decide); omega))) (fun k h1 h2 => h.post _ (by omega)) hG.post hE.post | exact sepd_same (by decide) (h.typ _ (by first | omega | (have := pass_lt (by assumption) (by decide); omega))) (fun k h1 h2 => h.typ _ (by omega)) hG.typ hE.typ | exact sepd_same (by decide) (h.pat _ (by first | omega | (have := pass_lt (by assumption) (by decide); omega))) (fun k h1 h2 => h.pat _ (by omega)) hG.pat hE.pat | exact sepd_same (by decide) (h.expr _ (by first | omega | (have := pass_lt (by assumption) (by decide); omega))) (fun k h1 h2 => h.expr _ (by omega)) hG.expr hE.expr | exact sepd_same (by decide) (h.rule _ (by first | omega | (have := pass_lt (by assumption) (by decide); omega))) (fun k h1 h2 => h.rule _ (by omega)) hG.rule hE.rule | exact declMore_same hG hE h (by omega) _ _ _ (Nat.le_refl _) | exact operMore_same hG hE h (i0 := i) (by omega) (by omega) _ _ _ _ _ (by omega) (by assumption) | exact appMore_same hG hE h (i0 := i) (by omega) (by omega) _ _ _ (by omega) (by assumption) | (with_reducible refine ite_same (fun hp => ?_) (fun hp => ?_)) | (with_reducible refine then_same (l := l) ?_ (by first | exact after_take _ _ _ | exact after_need _ _ _ | exact after_mpath _ _ | exact after_tpath _ _ | exact after_sig _ _ | exact after_namesMore _ _ _ _ | exact after_declMore hG _ _ _ | exact after_sepd _ _ hG.post _ | exact after_sepd _ _ hG.typ _ | exact after_sepd _ _ hG.pat _ | exact after_sepd _ _ hG.expr _ | exact after_sepd _ _ hG.rule _ | exact hG.typ _ | exact hG.prod _ | exact hG.post _ | exact hG.simp _ | exact hG.brack _ | exact hG.pat _ | exact hG.arg _ | exact hG.comps _ | exact hG.expr _ | exact hG.neg _ | exact hG.app _ | exact hG.atom _ | exact hG.encl _ | exact hG.cont _ | exact hG.letE _ | exact hG.matchE _ | exact hG.rule _ | exact hG.decl _ | exact hG.named _ | exact hG.unpk _ | exact hG.oper _ _) (by first | exact inn_take _ (by decide) _ | exact inn_need _ (by decide) _ | exact inn_mpath _ | exact inn_tpath _ | exact inn_sig _ | exact inn_namesMore _ _ _ | exact inn_declMore hE _ _ _ | exact inn_sepd hE.post _ | exact inn_sepd hE.typ _ | exact inn_sepd hE.pat _ | exact inn_sepd hE.expr _ | exact inn_sepd hE.rule _ | exact hE.typ _ | exact hE.prod _ | exact hE.post _ | exact hE.simp _ | exact hE.brack _ | exact hE.pat _ | exact hE.arg _ | exact hE.comps _ | exact hE.expr _ | exact hE.neg _ | exact hE.app _ | exact hE.atom _ | exact hE.encl _ | exact hE.cont _ | exact hE.letE _ | exact hE.matchE _ | exact hE.rule _ | exact hE.decl _ | exact hE.named _ | exact hE.unpk _ | exact hE.oper _ _) fun v j h1 h2 => ?_))
theorem Eqs.deeper (hG : Goes F) (hE : Ends l F) (h : Eqs l F G n) : Eqs l (deeper l num F) (deeper l num G) (n + 1) := by
  obtain ⟨h0, h1, h2, h3, h4, h5, h6, h7, h8, h9, h10, h11, h12, h13, h14, h15, h16, h17, h18, h19, h20⟩ := same_all (num := num) hG hE h
  exact ⟨fun i hi => h0 i (by omega), fun i hi => h1 i (by omega), fun i hi => h2 i (by omega), fun i hi => h3 i (by omega), fun i hi => h4 i (by omega), fun i hi => h5 i (by omega), fun i hi => h6 i (by omega), fun i hi => h7 i (by omega), fun i hi => h8 i (by omega), fun i hi => h9 i (by omega), fun i hi => h10 i (by omega), fun i hi => h11 i (by omega), fun i hi => h12 i (by omega), fun i hi => h13 i (by omega), fun i hi => h14 i (by omega), fun i hi => h15 i (by omega), fun i hi => h16 i (by omega), fun i hi => h17 i (by omega), fun i hi => h18 i (by omega), fun i hi => h19 i (by omega), fun q i hi => h20 q i (by omega)⟩
theorem Eqs.zero : Eqs l F G 0 := by
  constructor
  all_goals (intros; omega)
theorem depth_same (l : List Tok) (num : Bytes → Int) : ∀ (n a b : Nat), n ≤ a → n ≤ b → Eqs l (depthFs l num a) (depthFs l num b) n := by
  intro n
  induction n with
  | zero => intro a b _ _; exact Eqs.zero
  | succ n ih =>
    intro a b ha hb
    obtain ⟨a, rfl⟩ : ∃ k, a = k + 1 := ⟨a - 1, by omega⟩
    obtain ⟨b, rfl⟩ : ∃ k, b = k + 1 := ⟨b - 1, by omega⟩
    exact (ih a b (by omega) (by omega)).deeper (goes_depth l num a) (ends_depth l num a)
end
end Go.Proofs.YtjedahcpkcgpeaaGreatDoor.Pl

/-
  Plain mathematics of layer 4: the parser as a whole, its equations, and its operators as the reference reads them. No program.
-/
namespace Go.Proofs.YtjedahcpkcgpeaaGreatDoor.Pl
open Go
def full (l : List Tok) (num : Bytes → Int) : Fs := depthFs l num (16 * l.length + 16)
section
variable (l : List Tok) (num : Bytes → Int)
theorem full_goes : Goes (full l num) := goes_depth l num _
theorem full_ends : Ends l (full l num) := ends_depth l num _
theorem full_eqs : Eqs l (full l num) (deeper l num (full l num)) (16 * l.length + 16) := depth_same l num (16 * l.length + 16) (16 * l.length + 16) (16 * l.length + 17) (Nat.le_refl _) (Nat.le_succ _)
theorem full_typ (i : Nat) : (full l num).typ i = typB l (full l num) i := (full_eqs l num).typ i (by omega)
theorem full_prod (i : Nat) : (full l num).prod i = prodB l (full l num) i := (full_eqs l num).prod i (by omega)
theorem full_post (i : Nat) : (full l num).post i = postB l (full l num) i := (full_eqs l num).post i (by omega)
theorem full_simp (i : Nat) : (full l num).simp i = simpB l (full l num) i := (full_eqs l num).simp i (by omega)
theorem full_brack (i : Nat) : (full l num).brack i = brackB l (full l num) i := (full_eqs l num).brack i (by omega)
theorem full_pat (i : Nat) : (full l num).pat i = patB l (full l num) i := (full_eqs l num).pat i (by omega)
theorem full_arg (i : Nat) : (full l num).arg i = argB l num (full l num) i := (full_eqs l num).arg i (by omega)
theorem full_comps (i : Nat) : (full l num).comps i = compsB l (full l num) i := (full_eqs l num).comps i (by omega)
theorem full_expr (i : Nat) : (full l num).expr i = exprB l (full l num) i := (full_eqs l num).expr i (by omega)
theorem full_oper (q i : Nat) : (full l num).oper q i = operB l (full l num) q i := (full_eqs l num).oper q i (by omega)
theorem full_neg (i : Nat) : (full l num).neg i = negB l (full l num) i := (full_eqs l num).neg i (by omega)
theorem full_app (i : Nat) : (full l num).app i = appB l (full l num) i := (full_eqs l num).app i (by omega)
theorem full_atom (i : Nat) : (full l num).atom i = atomB l num (full l num) i := (full_eqs l num).atom i (by omega)
theorem full_encl (i : Nat) : (full l num).encl i = enclB l (full l num) i := (full_eqs l num).encl i (by omega)
theorem full_cont (i : Nat) : (full l num).cont i = contB l (full l num) i := (full_eqs l num).cont i (by omega)
theorem full_letE (i : Nat) : (full l num).letE i = letB l (full l num) i := (full_eqs l num).letE i (by omega)
theorem full_matchE (i : Nat) : (full l num).matchE i = matchB l (full l num) i := (full_eqs l num).matchE i (by omega)
theorem full_rule (i : Nat) : (full l num).rule i = ruleB l (full l num) i := (full_eqs l num).rule i (by omega)
theorem full_decl (i : Nat) : (full l num).decl i = declB l (full l num) i := (full_eqs l num).decl i (by omega)
theorem full_named (i : Nat) : (full l num).named i = namedB l (full l num) i := (full_eqs l num).named i (by omega)
theorem full_unpk (i : Nat) : (full l num).unpk i = unpkB l (full l num) i := (full_eqs l num).unpk i (by omega)
end
end Go.Proofs.YtjedahcpkcgpeaaGreatDoor.Pl

/-
  A slice of tokens that comes in.
-/
namespace Go.Proofs.YtjedahcpkcgpeaaGreatDoor
open Go Go.RowKit Go.ChangeShapes Go.WideShapes Go.Deep
section
variable {H : Type} {enc : TypeId × Value → H} {W : World}
end
end Go.Proofs.YtjedahcpkcgpeaaGreatDoor

/-
  Walks of layer 3: trees in memory.
-/
namespace Go.Proofs.YtjedahcpkcgpeaaGreatDoor
open Go Go.RowKit Go.ChangeShapes Go.WideShapes Go.Deep
open Pl (Syn)
def StrsIn (w : World) (b off : Nat) (zs : List ByteArray) : Prop := ∀ j (h : j < zs.length), w.cell? ⟨b, off + j, none⟩ = some (.string zs[j])
def StrSl (w : World) (P : Nat → Prop) (v : Value) (zs : List ByteArray) : Prop :=
  ∃ a c, v = .slice a zs.length c ∧ zs.length ≤ c ∧ c ≤ maxLen ∧ (a = none → c = 0) ∧ (∀ z ∈ zs, z.size ≤ maxLen) ∧ (zs = [] ∨ ∃ b off, a = some ⟨b, off, none⟩ ∧ P b ∧ StrsIn w b off zs)
def NodeAt (w : World) (b o : Nat) (v : Value) : Prop :=
  ∃ x0 x1 x2 x3 x4, v = .agg #[x0, x1, x2, x3, x4] ∧ w.cell? ⟨b, o, none⟩ = some x0 ∧ w.cell? ⟨b, o + 1, none⟩ = some x1 ∧ w.cell? ⟨b, o + 2, none⟩ = some x2 ∧ w.cell? ⟨b, o + 3, none⟩ = some x3 ∧ w.cell? ⟨b, o + 4, none⟩ = some x4
mutual
def SynV (w : World) (P : Nat → Prop) : Syn → Value → Prop
  | ⟨op, n, s, names, l⟩, v => s.size ≤ maxLen ∧ ∃ nv a c, v = .agg #[.int .i64 op, .int .i64 n, .string s, nv, .slice a l.length c] ∧ StrSl w P nv names ∧
      l.length ≤ c ∧ c ≤ maxLen ∧ (a = none → c = 0) ∧ (l = [] ∨ ∃ b off, a = some ⟨b, off, none⟩ ∧ P b ∧ KidsAt w P l b off)
def KidsAt (w : World) (P : Nat → Prop) : List Syn → Nat → Nat → Prop
  | [], _, _ => True
  | t :: r, b, off => (∃ v, NodeAt w b off v ∧ SynV w P t v) ∧ KidsAt w P r b (off + 5)
end
def SynSl (w : World) (P : Nat → Prop) (v : Value) (l : List Syn) : Prop :=
  ∃ a c, v = .slice a l.length c ∧ l.length ≤ c ∧ c ≤ maxLen ∧ (a = none → c = 0) ∧ (l = [] ∨ ∃ b off, a = some ⟨b, off, none⟩ ∧ P b ∧ KidsAt w P l b off)
theorem synV_iff (w : World) (P : Nat → Prop) (t : Syn) (v : Value) : SynV w P t v ↔ t.s.size ≤ maxLen ∧ ∃ nv lv, v = .agg #[.int .i64 t.op, .int .i64 t.n, .string t.s, nv, lv] ∧ StrSl w P nv t.names ∧ SynSl w P lv t.l := by
  obtain ⟨op, n, s, names, l⟩ := t
  rw [SynV]
  constructor
  · rintro ⟨h0, nv, a, c, rfl, h1, h2, h3, h4, h5⟩
    exact ⟨h0, nv, _, rfl, h1, a, c, rfl, h2, h3, h4, h5⟩
  · rintro ⟨h0, nv, lv, rfl, h1, a, c, rfl, h2, h3, h4, h5⟩
    exact ⟨h0, nv, a, c, rfl, h1, h2, h3, h4, h5⟩
theorem kidsAt_iff (w : World) (P : Nat → Prop) (l : List Syn) : ∀ b off, KidsAt w P l b off ↔ ∀ j (h : j < l.length), ∃ v, NodeAt w b (off + j * 5) v ∧ SynV w P l[j] v := by
  induction l with
  | nil => intro b off; rw [KidsAt]; simp
  | cons t r ih =>
    intro b off
    rw [KidsAt, ih]
    constructor
    · rintro ⟨h0, h1⟩ j hj
      cases j with
      | zero => simpa using h0
      | succ j =>
        have := h1 j (by simpa using hj)
        rw [show off + 5 + j * 5 = off + (j + 1) * 5 from by omega] at this
        simpa using this
    · intro h
      refine ⟨by have := h 0 (Nat.zero_lt_succ _); rw [Nat.zero_mul, Nat.add_zero] at this; exact this, fun j hj => ?_⟩
      have := h (j + 1) (by simpa using hj)
      rw [show off + (j + 1) * 5 = off + 5 + j * 5 from by omega] at this
      simpa using this
def Same (P : Nat → Prop) (w w' : World) : Prop := ∀ b, P b → w'.heap[b]? = w.heap[b]?
theorem Same.cell {P : Nat → Prop} {w w' : World} (h : Same P w w') {b o : Nat} (hb : P b) : w'.cell? ⟨b, o, none⟩ = w.cell? ⟨b, o, none⟩ := by
  have := h b hb
  simp only [World.cell?, this]
theorem Same.of_below {P : Nat → Prop} {B : Nat} {w w' : World} (h : Below B w w') (hP : ∀ b, P b → b < B) : Same P w w' := fun i hi => h.block i (hP i hi)
theorem StrsIn.keep {w w' : World} {P : Nat → Prop} {b off : Nat} {zs : List ByteArray} (h : StrsIn w b off zs) (hs : Same P w w') (hb : P b) : StrsIn w' b off zs := fun j hj => by
  rw [hs.cell hb]; exact h j hj
theorem StrSl.keep {w w' : World} {P : Nat → Prop} {v : Value} {zs : List ByteArray} (h : StrSl w P v zs) (hs : Same P w w') : StrSl w' P v zs := by
  obtain ⟨a, c, h1, h2, h3, h4, h5, h6⟩ := h
  refine ⟨a, c, h1, h2, h3, h4, h5, ?_⟩
  rcases h6 with h6 | ⟨b, off, h6, h7, h8⟩
  · exact .inl h6
  · exact .inr ⟨b, off, h6, h7, h8.keep hs h7⟩
theorem StrSl.mono {w : World} {P Q : Nat → Prop} {v : Value} {zs : List ByteArray} (h : StrSl w P v zs) (hq : ∀ b, P b → Q b) : StrSl w Q v zs := by
  obtain ⟨a, c, h1, h2, h3, h4, h5, h6⟩ := h
  refine ⟨a, c, h1, h2, h3, h4, h5, ?_⟩
  rcases h6 with h6 | ⟨b, off, h6, h7, h8⟩
  · exact .inl h6
  · exact .inr ⟨b, off, h6, hq b h7, h8⟩
theorem NodeAt.keep {w w' : World} {P : Nat → Prop} {b o : Nat} {v : Value} (h : NodeAt w b o v) (hs : Same P w w') (hb : P b) : NodeAt w' b o v := by
  obtain ⟨x0, x1, x2, x3, x4, rfl, h0, h1, h2, h3, h4⟩ := h
  exact ⟨x0, x1, x2, x3, x4, rfl, (hs.cell hb).trans h0, (hs.cell hb).trans h1, (hs.cell hb).trans h2, (hs.cell hb).trans h3, (hs.cell hb).trans h4⟩
theorem SynV.keep {w w' : World} {P : Nat → Prop} (hs : Same P w w') : ∀ {t : Syn} {v : Value}, SynV w P t v → SynV w' P t v := by
  intro t
  induction t using Syn.ind with
  | h t ih =>
    intro v h
    rw [synV_iff] at h ⊢
    obtain ⟨h0, nv, lv, h1, h2, a, c, h3, h4, h5, h6, h7⟩ := h
    refine ⟨h0, nv, lv, h1, h2.keep hs, a, c, h3, h4, h5, h6, ?_⟩
    rcases h7 with h7 | ⟨b, off, h7, h8, h9⟩
    · exact .inl h7
    · refine .inr ⟨b, off, h7, h8, ?_⟩
      rw [kidsAt_iff] at h9 ⊢
      intro j hj
      obtain ⟨x, hx, hv⟩ := h9 j hj
      exact ⟨x, hx.keep hs h8, ih _ (List.getElem_mem hj) hv⟩
theorem SynV.mono {w : World} {P Q : Nat → Prop} (hq : ∀ b, P b → Q b) : ∀ {t : Syn} {v : Value}, SynV w P t v → SynV w Q t v := by
  intro t
  induction t using Syn.ind with
  | h t ih =>
    intro v h
    rw [synV_iff] at h ⊢
    obtain ⟨h0, nv, lv, h1, h2, a, c, h3, h4, h5, h6, h7⟩ := h
    refine ⟨h0, nv, lv, h1, h2.mono hq, a, c, h3, h4, h5, h6, ?_⟩
    rcases h7 with h7 | ⟨b, off, h7, h8, h9⟩
    · exact .inl h7
    · refine .inr ⟨b, off, h7, hq b h8, ?_⟩
      rw [kidsAt_iff] at h9 ⊢
      intro j hj
      obtain ⟨x, hx, hv⟩ := h9 j hj
      exact ⟨x, hx, ih _ (List.getElem_mem hj) hv⟩
theorem KidsAt.keep {w w' : World} {P : Nat → Prop} (hs : Same P w w') {l : List Syn} {b off : Nat} (hb : P b) (h : KidsAt w P l b off) : KidsAt w' P l b off := by
  rw [kidsAt_iff] at h ⊢
  intro j hj
  obtain ⟨x, hx, hv⟩ := h j hj
  exact ⟨x, hx.keep hs hb, hv.keep hs⟩
theorem SynSl.keep {w w' : World} {P : Nat → Prop} (hs : Same P w w') {v : Value} {l : List Syn} (h : SynSl w P v l) : SynSl w' P v l := by
  obtain ⟨a, c, h3, h4, h5, h6, h7⟩ := h
  refine ⟨a, c, h3, h4, h5, h6, ?_⟩
  rcases h7 with h7 | ⟨b, off, h7, h8, h9⟩
  · exact .inl h7
  · exact .inr ⟨b, off, h7, h8, h9.keep hs h8⟩
theorem SynSl.mono {w : World} {P Q : Nat → Prop} (hq : ∀ b, P b → Q b) {v : Value} {l : List Syn} (h : SynSl w P v l) : SynSl w Q v l := by
  obtain ⟨a, c, h3, h4, h5, h6, h7⟩ := h
  refine ⟨a, c, h3, h4, h5, h6, ?_⟩
  rcases h7 with h7 | ⟨b, off, h7, h8, h9⟩
  · exact .inl h7
  · refine .inr ⟨b, off, h7, hq b h8, ?_⟩
    rw [kidsAt_iff] at h9 ⊢
    intro j hj
    obtain ⟨x, hx, hv⟩ := h9 j hj
    exact ⟨x, hx, hv.mono hq⟩
theorem synV_none (w : World) (P : Nat → Prop) : SynV w P Pl.none0 (.agg #[.int .i64 0, .int .i64 0, .string ByteArray.empty, .slice none 0 0, .slice none 0 0]) := by
  rw [synV_iff]
  exact ⟨Nat.zero_le _, _, _, rfl, ⟨none, 0, rfl, Nat.le_refl _, Nat.zero_le _, fun _ => rfl, (fun z hz => by simp [Pl.none0] at hz), .inl rfl⟩, none, 0, rfl, Nat.le_refl _, Nat.zero_le _, fun _ => rfl, .inl rfl⟩
section
variable {H : Type} {enc : TypeId × Value → H} {W : World}
end
end Go.Proofs.YtjedahcpkcgpeaaGreatDoor
