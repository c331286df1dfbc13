/-
  Walks and plain mathematics, several texts in one (Cc Cd).
-/
import Derived.Test.YtjedahcpkcgpeaaGreatDoorH6
/-
  Plain mathematics of layer 4: what is read has at least one token. No program.
-/
namespace Go.Proofs.YtjedahcpkcgpeaaGreatDoor.Pl
open Go
def After {α : Type} (r : PR α) (a : Nat) : Prop := ∀ v j, r = .ok v j → a ≤ j
theorem After.bad {α : Type} (i a : Nat) : After (PR.bad i : PR α) a := fun _ _ h => by cases h
theorem After.ok {α : Type} (v : α) {i a : Nat} (h : a ≤ i) : After (PR.ok v i) a := fun _ _ e => by injection e with _ e2; omega
theorem After.mono {α : Type} {r : PR α} {a b : Nat} (h : After r b) (hab : a ≤ b) : After r a := fun v j e => Nat.le_trans hab (h v j e)
theorem After.next {α β : Type} {r : PR α} {f : α → Nat → PR β} {a : Nat} (h : After r a) (k : ∀ v j, a ≤ j → After (f v j) a) : After (r.then f) a := by
  cases r with
  | bad i => exact After.bad i a
  | ok v i => exact k v i (h v i rfl)
theorem After.ite {α : Type} {p : Prop} [Decidable p] {r s : PR α} {a : Nat} (h : After r a) (k : After s a) : After (if p then r else s) a := by split <;> assumption
theorem after_take (l : List Tok) (k : Int) (i : Nat) : After (takeK l k i) (i + 1) := by unfold takeK; exact (After.ok _ (Nat.le_refl _)).ite (After.bad _ _)
theorem after_need (l : List Tok) (b : Bytes) (i : Nat) : After (needT l b i) (i + 1) := by unfold needT; exact (After.ok _ (Nat.le_refl _)).ite (After.bad _ _)
theorem after_mpMore (l : List Tok) : ∀ (n : Nat) (acc : List ByteArray) (i : Nat), After (mpMore l n acc i) i := by
  intro n
  induction n with
  | zero => intro acc i; rw [mpMore]; exact After.bad _ _
  | succ n ih =>
    intro acc i
    rw [mpMore]
    exact (((after_take l 2 (i + 1)).mono (by omega)).next fun _ j hj => (ih _ j).mono hj).ite (After.ok _ (Nat.le_refl _))
theorem after_mpath (l : List Tok) (i : Nat) : After (mpath l i) (i + 1) := (after_take l 2 i).next fun _ j hj => (after_mpMore l _ _ j).mono hj
theorem after_tpMore (l : List Tok) : ∀ (n : Nat) (acc : List ByteArray) (i : Nat), After (tpMore l n acc i) (i + 1) := by
  intro n
  induction n with
  | zero => intro acc i; rw [tpMore]; exact After.bad _ _
  | succ n ih =>
    intro acc i
    rw [tpMore]
    exact (((after_need l _ (i + 1)).mono (by omega)).next fun _ j hj => (ih _ j).mono (by omega)).ite ((after_take l 1 i).next fun _ _ hj => After.ok _ hj)
theorem after_tpath (l : List Tok) (i : Nat) : After (tpath l i) (i + 1) := after_tpMore l _ _ i
theorem after_vpMore (l : List Tok) : ∀ (n : Nat) (acc : List ByteArray) (i : Nat), After (vpMore l n acc i) (i + 1) := by
  intro n
  induction n with
  | zero => intro acc i; rw [vpMore]; exact After.bad _ _
  | succ n ih =>
    intro acc i
    rw [vpMore]
    exact ((((ih _ (i + 2)).mono (by omega)).ite (After.ok _ (Nat.le_refl _)))).ite ((after_take l 1 i).next fun _ _ hj => After.ok _ hj)
theorem after_vpath (l : List Tok) (i : Nat) : After (vpath l i) (i + 1) := after_vpMore l _ _ i
theorem after_sig (l : List Tok) (i : Nat) : After (sigOf l i) (i + 1) := (after_mpath l i).next fun _ _ hj => After.ok _ hj
theorem after_namesMore (l : List Tok) : ∀ (n : Nat) (acc : List ByteArray) (i : Nat), After (namesMore l n acc i) (i + 1) := by
  intro n
  induction n with
  | zero => intro acc i; rw [namesMore]; exact After.bad _ _
  | succ n ih =>
    intro acc i
    rw [namesMore]
    exact (After.ok _ (Nat.le_refl _)).ite ((after_take l 1 i).next fun _ j hj => (ih _ j).mono (by omega))
theorem after_sepMore (l : List Tok) (b : Bytes) {read : Nat → PR Syn} (hr : ∀ i, After (read i) (i + 1)) : ∀ (n : Nat) (acc : List Syn) (i : Nat), After (sepMore l b read n acc i) i := by
  intro n
  induction n with
  | zero => intro acc i; rw [sepMore]; exact After.bad _ _
  | succ n ih =>
    intro acc i
    rw [sepMore]
    exact (((hr (i + 1)).mono (by omega)).next fun _ j hj => (ih _ j).mono hj).ite (After.ok _ (Nat.le_refl _))
theorem after_sepd (l : List Tok) (b : Bytes) {read : Nat → PR Syn} (hr : ∀ i, After (read i) (i + 1)) (i : Nat) : After (sepd l b read i) (i + 1) := (hr i).next fun _ j hj => (after_sepMore l b hr _ _ j).mono hj
structure Goes (F : Fs) : Prop where
  typ : ∀ i, After (F.typ i) (i + 1)
  prod : ∀ i, After (F.prod i) (i + 1)
  post : ∀ i, After (F.post i) (i + 1)
  simp : ∀ i, After (F.simp i) (i + 1)
  brack : ∀ i, After (F.brack i) (i + 1)
  pat : ∀ i, After (F.pat i) (i + 1)
  arg : ∀ i, After (F.arg i) (i + 1)
  comps : ∀ i, After (F.comps i) (i + 1)
  expr : ∀ i, After (F.expr i) (i + 1)
  neg : ∀ i, After (F.neg i) (i + 1)
  app : ∀ i, After (F.app i) (i + 1)
  atom : ∀ i, After (F.atom i) (i + 1)
  encl : ∀ i, After (F.encl i) (i + 1)
  cont : ∀ i, After (F.cont i) (i + 1)
  letE : ∀ i, After (F.letE i) (i + 1)
  matchE : ∀ i, After (F.matchE i) (i + 1)
  rule : ∀ i, After (F.rule i) (i + 1)
  decl : ∀ i, After (F.decl i) (i + 1)
  named : ∀ i, After (F.named i) (i + 1)
  unpk : ∀ i, After (F.unpk i) (i + 1)
  oper : ∀ q i, After (F.oper q i) (i + 1)
section
variable {l : List Tok} {num : Bytes → Int} {F : Fs}
theorem after_postMore : ∀ (n : Nat) (ts : List Syn) (i : Nat), After (postMore l n ts i) i := by
  intro n
  induction n with
  | zero => intro acc i; rw [postMore]; exact After.bad _ _
  | succ n ih =>
    intro ts i
    rw [postMore]
    exact (((after_tpath l i).mono (by omega)).next fun _ j hj => (ih _ j).mono hj).ite (After.ok _ (Nat.le_refl _))
theorem after_operMore (hF : Goes F) : ∀ (n lo most : Nat) (t : Syn) (i : Nat), After (operMore l F n lo most t i) i := by
  intro n
  induction n with
  | zero => intro lo most t i; rw [operMore]; exact After.bad _ _
  | succ n ih =>
    intro lo most t i
    rw [operMore]
    exact (After.ok _ (Nat.le_refl _)).ite (((hF.oper _ (i + 1)).mono (by omega)).next fun _ j hj => (ih _ _ _ j).mono hj)
theorem after_appMore (hF : Goes F) : ∀ (n : Nat) (t : Syn) (i : Nat), After (appMore l F n t i) i := by
  intro n
  induction n with
  | zero => intro t i; rw [appMore]; exact After.bad _ _
  | succ n ih =>
    intro t i
    rw [appMore]
    exact (((hF.atom i).mono (by omega)).next fun _ j hj => (ih _ j).mono hj).ite (After.ok _ (Nat.le_refl _))
theorem after_declMore (hF : Goes F) : ∀ (n : Nat) (ts : List Syn) (i : Nat), After (declMore l F n ts i) (i + 1) := by
  intro n
  induction n with
  | zero => intro t i; rw [declMore]; exact After.bad _ _
  | succ n ih =>
    intro t i
    rw [declMore]
    exact (After.ok _ (Nat.le_refl _)).ite ((hF.decl i).next fun _ j hj => (ih _ j).mono (by omega))
theorem after_fn (hF : Goes F) (i : Nat) : After (fnB l F i) (i + 1) := by
  unfold fnB
  repeat' (first | assumption | exact After.ok _ (by omega) | exact After.bad _ _ | (with_reducible refine After.ite ?_ ?_) | exact (after_take _ _ _).mono (by omega) | exact (after_need _ _ _).mono (by omega) | exact (after_mpath _ _).mono (by omega) | exact (after_tpath _ _).mono (by omega) | exact (after_vpath _ _).mono (by omega) | exact (after_sig _ _).mono (by omega) | exact (after_namesMore _ _ _ _).mono (by omega) | exact (after_postMore _ _ _).mono (by omega) | exact (after_operMore hF _ _ _ _ _).mono (by omega) | exact (after_appMore hF _ _ _).mono (by omega) | exact (after_declMore hF _ _ _).mono (by omega) | exact (after_sepd _ _ hF.post _).mono (by omega) | exact (after_sepd _ _ hF.typ _).mono (by omega) | exact (after_sepd _ _ hF.pat _).mono (by omega) | exact (after_sepd _ _ hF.expr _).mono (by omega) | exact (after_sepd _ _ hF.rule _).mono (by omega) | exact (hF.typ _).mono (by omega) | exact (hF.prod _).mono (by omega) | exact (hF.post _).mono (by omega) | exact (hF.simp _).mono (by omega) | exact (hF.brack _).mono (by omega) | exact (hF.pat _).mono (by omega) | exact (hF.arg _).mono (by omega) | exact (hF.comps _).mono (by omega) | exact (hF.expr _).mono (by omega) | exact (hF.neg _).mono (by omega) | exact (hF.app _).mono (by omega) | exact (hF.atom _).mono (by omega) | exact (hF.encl _).mono (by omega) | exact (hF.cont _).mono (by omega) | exact (hF.letE _).mono (by omega) | exact (hF.matchE _).mono (by omega) | exact (hF.rule _).mono (by omega) | exact (hF.decl _).mono (by omega) | exact (hF.named _).mono (by omega) | exact (hF.unpk _).mono (by omega) | exact (hF.oper _ _).mono (by omega) | (with_reducible refine After.next ?_ fun v j hj => ?_))
theorem after_if (hF : Goes F) (i : Nat) : After (ifB l F i) (i + 1) := by
  unfold ifB
  repeat' (first | assumption | exact After.ok _ (by omega) | exact After.bad _ _ | (with_reducible refine After.ite ?_ ?_) | exact (after_take _ _ _).mono (by omega) | exact (after_need _ _ _).mono (by omega) | exact (after_mpath _ _).mono (by omega) | exact (after_tpath _ _).mono (by omega) | exact (after_vpath _ _).mono (by omega) | exact (after_sig _ _).mono (by omega) | exact (after_namesMore _ _ _ _).mono (by omega) | exact (after_postMore _ _ _).mono (by omega) | exact (after_operMore hF _ _ _ _ _).mono (by omega) | exact (after_appMore hF _ _ _).mono (by omega) | exact (after_declMore hF _ _ _).mono (by omega) | exact (after_sepd _ _ hF.post _).mono (by omega) | exact (after_sepd _ _ hF.typ _).mono (by omega) | exact (after_sepd _ _ hF.pat _).mono (by omega) | exact (after_sepd _ _ hF.expr _).mono (by omega) | exact (after_sepd _ _ hF.rule _).mono (by omega) | exact (hF.typ _).mono (by omega) | exact (hF.prod _).mono (by omega) | exact (hF.post _).mono (by omega) | exact (hF.simp _).mono (by omega) | exact (hF.brack _).mono (by omega) | exact (hF.pat _).mono (by omega) | exact (hF.arg _).mono (by omega) | exact (hF.comps _).mono (by omega) | exact (hF.expr _).mono (by omega) | exact (hF.neg _).mono (by omega) | exact (hF.app _).mono (by omega) | exact (hF.atom _).mono (by omega) | exact (hF.encl _).mono (by omega) | exact (hF.cont _).mono (by omega) | exact (hF.letE _).mono (by omega) | exact (hF.matchE _).mono (by omega) | exact (hF.rule _).mono (by omega) | exact (hF.decl _).mono (by omega) | exact (hF.named _).mono (by omega) | exact (hF.unpk _).mono (by omega) | exact (hF.oper _ _).mono (by omega) | (with_reducible refine After.next ?_ fun v j hj => ?_))
set_option maxHeartbeats 16000000 in
theorem goes_all (hF : Goes F) : (∀ i, After (typB l F i) (i + 1)) ∧ (∀ i, After (prodB l F i) (i + 1)) ∧ (∀ i, After (postB l F i) (i + 1)) ∧ (∀ i, After (simpB l F i) (i + 1)) ∧ (∀ i, After (brackB l F i) (i + 1)) ∧ (∀ i, After (patB l F i) (i + 1)) ∧ (∀ i, After (argB l num F i) (i + 1)) ∧ (∀ i, After (compsB l F i) (i + 1)) ∧ (∀ i, After (exprB l F i) (i + 1)) ∧ (∀ i, After (negB l F i) (i + 1)) ∧ (∀ i, After (appB l F i) (i + 1)) ∧ (∀ i, After (atomB l num F i) (i + 1)) ∧ (∀ i, After (enclB l F i) (i + 1)) ∧ (∀ i, After (contB l F i) (i + 1)) ∧ (∀ i, After (letB l F i) (i + 1)) ∧ (∀ i, After (matchB l F i) (i + 1)) ∧ (∀ i, After (ruleB l F i) (i + 1)) ∧ (∀ i, After (declB l F i) (i + 1)) ∧ (∀ i, After (namedB l F i) (i + 1)) ∧ (∀ i, After (unpkB l F i) (i + 1)) ∧ (∀ q i, After (operB l F q i) (i + 1)) := by
  refine ⟨fun i => ?_, fun i => ?_, fun i => ?_, fun i => ?_, fun i => ?_, fun i => ?_, fun i => ?_, fun i => ?_, fun i => ?_, fun i => ?_, fun i => ?_, fun i => ?_, fun i => ?_, fun i => ?_, fun i => ?_, fun i => ?_, fun i => ?_, fun i => ?_, fun i => ?_, fun i => ?_, fun q i => ?_⟩
  all_goals first | unfold typB | unfold prodB | unfold postB | unfold simpB | unfold brackB | unfold patB | unfold argB | unfold compsB | unfold exprB | unfold negB | unfold appB | unfold atomB | unfold enclB | unfold contB | unfold letB | unfold matchB | unfold ruleB | unfold declB | unfold namedB | unfold unpkB | unfold operB
  all_goals repeat' (first | exact (after_fn hF _).mono (by omega) | exact (after_if hF _).mono (by omega) | assumption | exact After.ok _ (by omega) | exact After.bad _ _ | (with_reducible refine After.ite ?_ ?_) | exact (after_take _ _ _).mono (by omega) | exact (after_need _ _ _).mono (by omega) | exact (after_mpath _ _).mono (by omega) | exact (after_tpath _ _).mono (by omega) | exact (after_vpath _ _).mono (by omega) | exact (after_sig _ _).mono (by omega) | exact (after_namesMore _ _ _ _).mono (by omega) | exact (after_postMore _ _ _).mono (by omega) | exact (after_operMore hF _ _ _ _ _).mono (by omega) | exact (after_appMore hF _ _ _).mono (by omega) | exact (after_declMore hF _ _ _).mono (by omega) | exact (after_sepd _ _ hF.post _).mono (by omega) | exact (after_sepd _ _ hF.typ _).mono (by omega) | exact (after_sepd _ _ hF.pat _).mono (by omega) | exact (after_sepd _ _ hF.expr _).mono (by omega) | exact (after_sepd _ _ hF.rule _).mono (by omega) | exact (hF.typ _).mono (by omega) | exact (hF.prod _).mono (by omega) | exact (hF.post _).mono (by omega) | exact (hF.simp _).mono (by omega) | exact (hF.brack _).mono (by omega) | exact (hF.pat _).mono (by omega) | exact (hF.arg _).mono (by omega) | exact (hF.comps _).mono (by omega) | exact (hF.expr _).mono (by omega) | exact (hF.neg _).mono (by omega) | exact (hF.app _).mono (by omega) | exact (hF.atom _).mono (by omega) | exact (hF.encl _).mono (by omega) | exact (hF.cont _).mono (by omega) | exact (hF.letE _).mono (by omega) | exact (hF.matchE _).mono (by omega) | exact (hF.rule _).mono (by omega) | exact (hF.decl _).mono (by omega) | exact (hF.named _).mono (by omega) | exact (hF.unpk _).mono (by omega) | exact (hF.oper _ _).mono (by omega) | (with_reducible refine After.next ?_ fun v j hj => ?_))
theorem Goes.deeper (hF : Goes F) : Goes (deeper l num F) := by
  obtain ⟨h0, h1, h2, h3, h4, h5, h6, h7, h8, h9, h10, h11, h12, h13, h14, h15, h16, h17, h18, h19, h20⟩ := goes_all (l := l) (num := num) hF
  exact ⟨h0, h1, h2, h3, h4, h5, h6, h7, h8, h9, h10, h11, h12, h13, h14, h15, h16, h17, h18, h19, h20⟩
theorem Goes.none : Goes noFs := by
  constructor
  all_goals (intros; exact After.bad _ _)
theorem goes_depth (l : List Tok) (num : Bytes → Int) : ∀ n, Goes (depthFs l num n) := by
  intro n
  induction n with
  | zero => exact Goes.none
  | succ n ih => exact ih.deeper
end
end Go.Proofs.YtjedahcpkcgpeaaGreatDoor.Pl

/-
  Plain mathematics of layer 4: what is read ends within the list. No program.
-/
namespace Go.Proofs.YtjedahcpkcgpeaaGreatDoor.Pl
open Go
def Inn {α : Type} (l : List Tok) (r : PR α) : Prop := ∀ v j, r = .ok v j → j ≤ l.length
section
variable {l : List Tok} {α β : Type}
theorem Inn.bad (i : Nat) : Inn l (PR.bad i : PR α) := fun _ _ h => by cases h
theorem Inn.ok (v : α) {i : Nat} (h : i ≤ l.length) : Inn l (PR.ok v i) := fun _ _ e => by injection e with _ e2; omega
theorem Inn.next {r : PR α} {f : α → Nat → PR β} (h : Inn l r) (k : ∀ v j, j ≤ l.length → Inn l (f v j)) : Inn l (r.then f) := by
  cases r with
  | bad i => exact Inn.bad i
  | ok v i => exact k v i (h v i rfl)
theorem Inn.ite {p : Prop} [Decidable p] {r s : PR α} (h : p → Inn l r) (k : ¬p → Inn l s) : Inn l (if p then r else s) := by
  by_cases hp : p
  · rw [if_pos hp]; exact h hp
  · rw [if_neg hp]; exact k hp
theorem tkAt_end {i : Nat} (h : l.length ≤ i) : tkAt l i = ⟨8, [], 0, 0⟩ := by unfold tkAt; simp [List.getD, List.getElem?_eq_none h]
theorem kind_lt {i : Nat} {k : Int} (h : (tkAt l i).kind = k) (hk : k ≠ 8) : i + 1 ≤ l.length := by
  rcases Nat.lt_or_ge i l.length with h1 | h1
  · exact h1
  · rw [tkAt_end h1] at h; exact absurd h.symm hk
theorem pass_lt {i : Nat} {b : Bytes} (h : passes l i b = true) (hb : b ≠ []) : i + 1 ≤ l.length := by
  rcases Nat.lt_or_ge i l.length with h1 | h1
  · exact h1
  · unfold passes at h
    rw [tkAt_end h1] at h
    have : b = [] := by have := of_decide_eq_true (p := fixedT ⟨8, [], 0, 0⟩ = b) (by simpa using h); rw [← this]; rfl
    exact absurd this hb
theorem inn_take (k : Int) (hk : k ≠ 8) (i : Nat) : Inn l (takeK l k i) := by unfold takeK; exact Inn.ite (fun h => Inn.ok _ (kind_lt h hk)) (fun _ => Inn.bad _)
theorem inn_need (b : Bytes) (hb : b ≠ []) (i : Nat) : Inn l (needT l b i) := by unfold needT; exact Inn.ite (fun h => Inn.ok _ (pass_lt h hb)) (fun _ => Inn.bad _)
theorem inn_mpMore : ∀ (n : Nat) (acc : List ByteArray) (i : Nat), i ≤ l.length → Inn l (mpMore l n acc i) := by
  intro n
  induction n with
  | zero => intro acc i _; rw [mpMore]; exact Inn.bad _
  | succ n ih =>
    intro acc i hi
    rw [mpMore]
    exact Inn.ite (fun _ => (inn_take 2 (by decide) _).next fun _ j hj => ih _ j hj) (fun _ => Inn.ok _ hi)
theorem inn_mpath (i : Nat) : Inn l (mpath l i) := (inn_take 2 (by decide) i).next fun _ j hj => inn_mpMore _ _ j hj
theorem inn_tpMore : ∀ (n : Nat) (acc : List ByteArray) (i : Nat), Inn l (tpMore l n acc i) := by
  intro n
  induction n with
  | zero => intro acc i; rw [tpMore]; exact Inn.bad _
  | succ n ih =>
    intro acc i
    rw [tpMore]
    exact Inn.ite (fun _ => (inn_need _ (by decide) _).next fun _ j _ => ih _ j) (fun _ => (inn_take 1 (by decide) i).next fun _ _ hj => Inn.ok _ hj)
theorem inn_tpath (i : Nat) : Inn l (tpath l i) := inn_tpMore _ _ i
theorem inn_vpMore : ∀ (n : Nat) (acc : List ByteArray) (i : Nat), Inn l (vpMore l n acc i) := by
  intro n
  induction n with
  | zero => intro acc i; rw [vpMore]; exact Inn.bad _
  | succ n ih =>
    intro acc i
    rw [vpMore]
    exact Inn.ite (fun h => Inn.ite (fun _ => ih _ _) (fun _ => Inn.ok _ (kind_lt h (by decide)))) (fun _ => (inn_take 1 (by decide) i).next fun _ _ hj => Inn.ok _ hj)
theorem inn_vpath (i : Nat) : Inn l (vpath l i) := inn_vpMore _ _ i
theorem inn_sig (i : Nat) : Inn l (sigOf l i) := (inn_mpath i).next fun _ _ hj => Inn.ok _ hj
theorem inn_namesMore : ∀ (n : Nat) (acc : List ByteArray) (i : Nat), Inn l (namesMore l n acc i) := by
  intro n
  induction n with
  | zero => intro acc i; rw [namesMore]; exact Inn.bad _
  | succ n ih =>
    intro acc i
    rw [namesMore]
    exact Inn.ite (fun h => Inn.ok _ (pass_lt h (by decide))) (fun _ => (inn_take 1 (by decide) i).next fun _ j _ => ih _ j)
theorem inn_sepMore {b : Bytes} {read : Nat → PR Syn} (hr : ∀ i, Inn l (read i)) : ∀ (n : Nat) (acc : List Syn) (i : Nat), i ≤ l.length → Inn l (sepMore l b read n acc i) := by
  intro n
  induction n with
  | zero => intro acc i _; rw [sepMore]; exact Inn.bad _
  | succ n ih =>
    intro acc i hi
    rw [sepMore]
    exact Inn.ite (fun _ => (hr (i + 1)).next fun _ j hj => ih _ j hj) (fun _ => Inn.ok _ hi)
theorem inn_sepd {b : Bytes} {read : Nat → PR Syn} (hr : ∀ i, Inn l (read i)) (i : Nat) : Inn l (sepd l b read i) := (hr i).next fun _ j hj => inn_sepMore hr _ _ j hj
end
structure Ends (l : List Tok) (F : Fs) : Prop where
  typ : ∀ i, Inn l (F.typ i)
  prod : ∀ i, Inn l (F.prod i)
  post : ∀ i, Inn l (F.post i)
  simp : ∀ i, Inn l (F.simp i)
  brack : ∀ i, Inn l (F.brack i)
  pat : ∀ i, Inn l (F.pat i)
  arg : ∀ i, Inn l (F.arg i)
  comps : ∀ i, Inn l (F.comps i)
  expr : ∀ i, Inn l (F.expr i)
  neg : ∀ i, Inn l (F.neg i)
  app : ∀ i, Inn l (F.app i)
  atom : ∀ i, Inn l (F.atom i)
  encl : ∀ i, Inn l (F.encl i)
  cont : ∀ i, Inn l (F.cont i)
  letE : ∀ i, Inn l (F.letE i)
  matchE : ∀ i, Inn l (F.matchE i)
  rule : ∀ i, Inn l (F.rule i)
  decl : ∀ i, Inn l (F.decl i)
  named : ∀ i, Inn l (F.named i)
  unpk : ∀ i, Inn l (F.unpk i)
  oper : ∀ q i, Inn l (F.oper q i)
section
variable {l : List Tok} {num : Bytes → Int} {F : Fs}
theorem inn_postMore : ∀ (n : Nat) (ts : List Syn) (i : Nat), i ≤ l.length → Inn l (postMore l n ts i) := by
  intro n
  induction n with
  | zero => intro acc i _; rw [postMore]; exact Inn.bad _
  | succ n ih =>
    intro ts i hi
    rw [postMore]
    exact Inn.ite (fun _ => (inn_tpath i).next fun _ j hj => ih _ j hj) (fun _ => Inn.ok _ hi)
theorem inn_operMore (hF : Ends l F) : ∀ (n lo most : Nat) (t : Syn) (i : Nat), i ≤ l.length → Inn l (operMore l F n lo most t i) := by
  intro n
  induction n with
  | zero => intro lo most t i _; rw [operMore]; exact Inn.bad _
  | succ n ih =>
    intro lo most t i hi
    rw [operMore]
    exact Inn.ite (fun _ => Inn.ok _ hi) (fun _ => (hF.oper _ (i + 1)).next fun _ j hj => ih _ _ _ j hj)
theorem inn_appMore (hF : Ends l F) : ∀ (n : Nat) (t : Syn) (i : Nat), i ≤ l.length → Inn l (appMore l F n t i) := by
  intro n
  induction n with
  | zero => intro t i _; rw [appMore]; exact Inn.bad _
  | succ n ih =>
    intro t i hi
    rw [appMore]
    exact Inn.ite (fun _ => (hF.atom i).next fun _ j hj => ih _ j hj) (fun _ => Inn.ok _ hi)
theorem inn_declMore (hF : Ends l F) : ∀ (n : Nat) (ts : List Syn) (i : Nat), Inn l (declMore l F n ts i) := by
  intro n
  induction n with
  | zero => intro t i; rw [declMore]; exact Inn.bad _
  | succ n ih =>
    intro t i
    rw [declMore]
    exact Inn.ite (fun h => Inn.ok _ (pass_lt h (by decide))) (fun _ => (hF.decl i).next fun _ j _ => ih _ j)
theorem inn_fn (hF : Ends l F) (i : Nat) : Inn l (fnB l F i) := by
  unfold fnB
  repeat' (first | exact Inn.ok _ (by assumption) | exact Inn.ok _ (pass_lt (by assumption) (by decide)) | exact Inn.ok _ (kind_lt (by assumption) (by decide)) | exact Inn.bad _ | exact inn_take _ (by decide) _ | exact inn_need _ (by decide) _ | exact inn_mpath _ | exact inn_tpath _ | exact inn_vpath _ | exact inn_sig _ | exact inn_namesMore _ _ _ | exact inn_postMore _ _ _ (by assumption) | exact inn_operMore hF _ _ _ _ _ (by assumption) | exact inn_appMore hF _ _ _ (by assumption) | exact inn_declMore hF _ _ _ | exact inn_sepd hF.post _ | exact inn_sepd hF.typ _ | exact inn_sepd hF.pat _ | exact inn_sepd hF.expr _ | exact inn_sepd hF.rule _ | exact hF.typ _ | exact hF.prod _ | exact hF.post _ | exact hF.simp _ | exact hF.brack _ | exact hF.pat _ | exact hF.arg _ | exact hF.comps _ | exact hF.expr _ | exact hF.neg _ | exact hF.app _ | exact hF.atom _ | exact hF.encl _ | exact hF.cont _ | exact hF.letE _ | exact hF.matchE _ | exact hF.rule _ | exact hF.decl _ | exact hF.named _ | exact hF.unpk _ | exact hF.oper _ _ | (with_reducible refine Inn.ite (fun hp => ?_) (fun hp => ?_)) | (with_reducible refine Inn.next ?_ fun v j hj => ?_))
theorem inn_if (hF : Ends l F) (i : Nat) : Inn l (ifB l F i) := by
  unfold ifB
  repeat' (first | exact Inn.ok _ (by assumption) | exact Inn.ok _ (pass_lt (by assumption) (by decide)) | exact Inn.ok _ (kind_lt (by assumption) (by decide)) | exact Inn.bad _ | exact inn_take _ (by decide) _ | exact inn_need _ (by decide) _ | exact inn_mpath _ | exact inn_tpath _ | exact inn_vpath _ | exact inn_sig _ | exact inn_namesMore _ _ _ | exact inn_postMore _ _ _ (by assumption) | exact inn_operMore hF _ _ _ _ _ (by assumption) | exact inn_appMore hF _ _ _ (by assumption) | exact inn_declMore hF _ _ _ | exact inn_sepd hF.post _ | exact inn_sepd hF.typ _ | exact inn_sepd hF.pat _ | exact inn_sepd hF.expr _ | exact inn_sepd hF.rule _ | exact hF.typ _ | exact hF.prod _ | exact hF.post _ | exact hF.simp _ | exact hF.brack _ | exact hF.pat _ | exact hF.arg _ | exact hF.comps _ | exact hF.expr _ | exact hF.neg _ | exact hF.app _ | exact hF.atom _ | exact hF.encl _ | exact hF.cont _ | exact hF.letE _ | exact hF.matchE _ | exact hF.rule _ | exact hF.decl _ | exact hF.named _ | exact hF.unpk _ | exact hF.oper _ _ | (with_reducible refine Inn.ite (fun hp => ?_) (fun hp => ?_)) | (with_reducible refine Inn.next ?_ fun v j hj => ?_))
set_option maxHeartbeats 16000000 in
theorem ends_all (hF : Ends l F) : (∀ i, Inn l (typB l F i)) ∧ (∀ i, Inn l (prodB l F i)) ∧ (∀ i, Inn l (postB l F i)) ∧ (∀ i, Inn l (simpB l F i)) ∧ (∀ i, Inn l (brackB l F i)) ∧ (∀ i, Inn l (patB l F i)) ∧ (∀ i, Inn l (argB l num F i)) ∧ (∀ i, Inn l (compsB l F i)) ∧ (∀ i, Inn l (exprB l F i)) ∧ (∀ i, Inn l (negB l F i)) ∧ (∀ i, Inn l (appB l F i)) ∧ (∀ i, Inn l (atomB l num F i)) ∧ (∀ i, Inn l (enclB l F i)) ∧ (∀ i, Inn l (contB l F i)) ∧ (∀ i, Inn l (letB l F i)) ∧ (∀ i, Inn l (matchB l F i)) ∧ (∀ i, Inn l (ruleB l F i)) ∧ (∀ i, Inn l (declB l F i)) ∧ (∀ i, Inn l (namedB l F i)) ∧ (∀ i, Inn l (unpkB l F i)) ∧ (∀ q i, Inn l (operB l F q i)) := by
  refine ⟨fun i => ?_, fun i => ?_, fun i => ?_, fun i => ?_, fun i => ?_, fun i => ?_, fun i => ?_, fun i => ?_, fun i => ?_, fun i => ?_, fun i => ?_, fun i => ?_, fun i => ?_, fun i => ?_, fun i => ?_, fun i => ?_, fun i => ?_, fun i => ?_, fun i => ?_, fun i => ?_, fun q i => ?_⟩
  all_goals first | unfold typB | unfold prodB | unfold postB | unfold simpB | unfold brackB | unfold patB | unfold argB | unfold compsB | unfold exprB | unfold negB | unfold appB | unfold atomB | unfold enclB | unfold contB | unfold letB | unfold matchB | unfold ruleB | unfold declB | unfold namedB | unfold unpkB | unfold operB
  all_goals repeat' (first | exact inn_fn hF _ | exact inn_if hF _ | exact Inn.ok _ (by assumption) | exact Inn.ok _ (pass_lt (by assumption) (by decide)) | exact Inn.ok _ (kind_lt (by assumption) (by decide)) | exact Inn.bad _ | exact inn_take _ (by decide) _ | exact inn_need _ (by decide) _ | exact inn_mpath _ | exact inn_tpath _ | exact inn_vpath _ | exact inn_sig _ | exact inn_namesMore _ _ _ | exact inn_postMore _ _ _ (by assumption) | exact inn_operMore hF _ _ _ _ _ (by assumption) | exact inn_appMore hF _ _ _ (by assumption) | exact inn_declMore hF _ _ _ | exact inn_sepd hF.post _ | exact inn_sepd hF.typ _ | exact inn_sepd hF.pat _ | exact inn_sepd hF.expr _ | exact inn_sepd hF.rule _ | exact hF.typ _ | exact hF.prod _ | exact hF.post _ | exact hF.simp _ | exact hF.brack _ | exact hF.pat _ | exact hF.arg _ | exact hF.comps _ | exact hF.expr _ | exact hF.neg _ | exact hF.app _ | exact hF.atom _ | exact hF.encl _ | exact hF.cont _ | exact hF.letE _ | exact hF.matchE _ | exact hF.rule _ | exact hF.decl _ | exact hF.named _ | exact hF.unpk _ | exact hF.oper _ _ | (with_reducible refine Inn.ite (fun hp => ?_) (fun hp => ?_)) | (with_reducible refine Inn.next ?_ fun v j hj => ?_))
theorem Ends.deeper (hF : Ends l F) : Ends l (deeper l num F) := by
  obtain ⟨h0, h1, h2, h3, h4, h5, h6, h7, h8, h9, h10, h11, h12, h13, h14, h15, h16, h17, h18, h19, h20⟩ := ends_all (num := num) hF
  exact ⟨h0, h1, h2, h3, h4, h5, h6, h7, h8, h9, h10, h11, h12, h13, h14, h15, h16, h17, h18, h19, h20⟩
theorem Ends.none : Ends l noFs := by
  constructor
  all_goals (intros; exact Inn.bad _)
theorem ends_depth (l : List Tok) (num : Bytes → Int) : ∀ n, Ends l (depthFs l num n) := by
  intro n
  induction n with
  | zero => exact Ends.none
  | succ n ih => exact ih.deeper
end
end Go.Proofs.YtjedahcpkcgpeaaGreatDoor.Pl
