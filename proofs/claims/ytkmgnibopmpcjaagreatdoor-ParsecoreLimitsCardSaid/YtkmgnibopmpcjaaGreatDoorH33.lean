/-
  Walks and plain mathematics, several texts in one (Fc So).
-/
import Derived.Test.YtkmgnibopmpcjaaGreatDoorH11
import Derived.Test.YtkmgnibopmpcjaaGreatDoorH12
import Derived.Laws.EntriesVeiled
/-
  Plain mathematics of layer 4: what is read is no bigger than three times its tokens. No program.
-/
namespace Go.Proofs.YtkmgnibopmpcjaaGreatDoor.Pl
open Go
set_option linter.unusedSimpArgs false
def Sm {α : Type} (r : PR α) (a : Nat) (m : α → Nat) : Prop := ∀ v j, r = .ok v j → m v + 3 * a ≤ 3 * j
section
variable {α β : Type} {r : PR α} {a b : Nat} {m : α → Nat}
theorem Sm.bad (i a : Nat) : Sm (PR.bad i : PR α) a m := fun _ _ h => by cases h
theorem Sm.ok {v : α} {i : Nat} (h : m v + 3 * a ≤ 3 * i) : Sm (PR.ok v i) a m := fun _ _ e => by injection e with e1 e2; subst e1 e2; exact h
theorem Sm.mono (h : Sm r b m) (hab : a ≤ b) : Sm r a m := fun v j e => Nat.le_trans (by omega) (h v j e)
theorem Sm.next {m' : β → Nat} {f : α → Nat → PR β} (h : Sm r b m) (k : ∀ v j, m v + 3 * b ≤ 3 * j → Sm (f v j) a m') : Sm (r.then f) a m' := by
  cases r with
  | bad i => exact Sm.bad i a
  | ok v i => exact k v i (h v i rfl)
theorem Sm.ite {p : Prop} [Decidable p] {s : PR α} (h : Sm r a m) (k : Sm s a m) : Sm (if p then r else s) a m := by split <;> assumption
end
abbrev mT (t : Syn) : Nat := t.big + 1
abbrev mL (ts : List Syn) : Nat := max 2 (bigs ts + ts.length)
abbrev mN (ns : List ByteArray) : Nat := 2 * ns.length + 1
theorem big_nd (op : Int) (l : List Syn) : (nd op l).big = 1 + bigs l := by rw [big_eq]; rfl
theorem big_ndNames (op : Int) (ns : List ByteArray) (l : List Syn) : (ndNames op ns l).big = 1 + ns.length + bigs l := by rw [big_eq]; rfl
theorem big_ndText (op : Int) (s : Bytes) : (ndText op s).big = 1 := by rw [big_eq]; rfl
theorem big_ndNum (op n : Int) : (ndNum op n).big = 1 := by rw [big_eq]; rfl
theorem big_node (op n : Int) (s : ByteArray) (ns : List ByteArray) (l : List Syn) : (⟨op, n, s, ns, l⟩ : Syn).big = 1 + ns.length + bigs l := big_eq _
theorem bigs_two (t u : Syn) : bigs [t, u] = t.big + u.big := by rw [bigs_cons, bigs_cons, bigs_nil]; omega
theorem bigs_one (t : Syn) : bigs [t] = t.big := by rw [bigs_cons, bigs_nil]; omega
theorem bigs_three (t u v : Syn) : bigs [t, u, v] = t.big + u.big + v.big := by rw [bigs_cons, bigs_two]; omega
theorem big_one (t : Syn) : 1 ≤ t.big := by rw [big_eq]; omega
theorem tuple_big (op : Int) (ts : List Syn) : mT (tupleOf op ts) ≤ mL ts := by
  match ts with
  | [] => unfold tupleOf mT mL; rw [big_nd, bigs_nil]; simp
  | [t] => unfold tupleOf mT mL; rw [bigs_one]; simp; omega
  | t :: u :: r => unfold tupleOf mT mL; rw [big_nd]; simp only [List.length_cons]; omega
theorem head_big (ts : List Syn) : mT (ts.headD none0) ≤ mL ts := by
  match ts with
  | [] => unfold mT mL; simp [none0, big_eq, bigs_nil]
  | t :: r => unfold mT mL; rw [List.headD_cons, bigs_cons]; simp only [List.length_cons]; omega
theorem sm_take (l : List Tok) (k : Int) (i : Nat) : Sm (takeK l k i) i (fun _ => 3) := by unfold takeK; exact (Sm.ok (by omega)).ite (Sm.bad _ _)
theorem sm_need (l : List Tok) (b : Bytes) (i : Nat) : Sm (needT l b i) i (fun _ => 3) := by unfold needT; exact (Sm.ok (by omega)).ite (Sm.bad _ _)
theorem sm_mpMore (l : List Tok) : ∀ (n : Nat) (acc : List ByteArray) (i a : Nat), mN acc + 3 * a ≤ 3 * i → Sm (mpMore l n acc i) a mN := by
  intro n
  induction n with
  | zero => intro acc i a h; rw [mpMore]; exact Sm.bad _ _
  | succ n ih =>
    intro acc i a h
    rw [mpMore]
    exact ((sm_take l 2 (i + 1)).next fun _ j hj => ih _ j a (by simp only [mN, List.length_append, List.length_singleton] at h ⊢; omega)).ite (Sm.ok h)
theorem sm_mpath (l : List Tok) (i : Nat) : Sm (mpath l i) i mN := (sm_take l 2 i).next fun _ j hj => sm_mpMore l _ _ j i (by simp only [mN, List.length_singleton]; omega)
theorem sm_tpMore (l : List Tok) : ∀ (n : Nat) (acc : List ByteArray) (i a : Nat), 2 * acc.length + 3 * a ≤ 3 * i → Sm (tpMore l n acc i) a mN := by
  intro n
  induction n with
  | zero => intro acc i a h; rw [tpMore]; exact Sm.bad _ _
  | succ n ih =>
    intro acc i a h
    rw [tpMore]
    exact ((sm_need l _ (i + 1)).next fun _ j hj => ih _ j a (by simp only [List.length_append, List.length_singleton]; omega)).ite ((sm_take l 1 i).next fun _ j hj => Sm.ok (by simp only [mN, List.length_append, List.length_singleton]; omega))
theorem sm_tpath (l : List Tok) (i : Nat) : Sm (tpath l i) i mN := sm_tpMore l _ _ i i (by simp)
theorem sm_vpMore (l : List Tok) : ∀ (n : Nat) (acc : List ByteArray) (i a : Nat), 2 * acc.length + 3 * a ≤ 3 * i → Sm (vpMore l n acc i) a mT := by
  intro n
  induction n with
  | zero => intro acc i a h; rw [vpMore]; exact Sm.bad _ _
  | succ n ih =>
    intro acc i a h
    rw [vpMore]
    refine Sm.ite (Sm.ite (ih _ (i + 2) a (by simp only [List.length_append, List.length_singleton]; omega)) (Sm.ok ?_)) ((sm_take l 1 i).next fun _ j hj => Sm.ok ?_)
    · simp only [mT, big_ndNames, bigs_nil, List.length_append, List.length_singleton]; omega
    · simp only [mT, big_ndNames, bigs_nil, List.length_append, List.length_singleton]; omega
theorem sm_vpath (l : List Tok) (i : Nat) : Sm (vpath l i) i mT := sm_vpMore l _ _ i i (by simp)
theorem sm_sig (l : List Tok) (i : Nat) : Sm (sigOf l i) i mT := (sm_mpath l i).next fun _ j hj => Sm.ok (by simp only [mT, mN, big_ndNames, bigs_nil] at hj ⊢; omega)
theorem sm_namesMore (l : List Tok) : ∀ (n : Nat) (acc : List ByteArray) (i a : Nat), mN acc + 3 * a ≤ 3 * i → Sm (namesMore l n acc i) a (fun ns => mN ns + 3) := by
  intro n
  induction n with
  | zero => intro acc i a h; rw [namesMore]; exact Sm.bad _ _
  | succ n ih =>
    intro acc i a h
    rw [namesMore]
    exact (Sm.ok (by omega)).ite ((sm_take l 1 i).next fun _ j hj => ih _ j a (by simp only [mN, List.length_append, List.length_singleton] at h ⊢; omega))
theorem sm_sepMore (l : List Tok) (b : Bytes) {read : Nat → PR Syn} (hr : ∀ i, Sm (read i) i mT) : ∀ (n : Nat) (acc : List Syn) (i a : Nat), mL acc + 3 * a ≤ 3 * i → Sm (sepMore l b read n acc i) a mL := by
  intro n
  induction n with
  | zero => intro acc i a h; rw [sepMore]; exact Sm.bad _ _
  | succ n ih =>
    intro acc i a h
    rw [sepMore]
    exact ((hr (i + 1)).next fun t j hj => ih _ j a (by simp only [mL, mT, List.length_append, List.length_singleton, bigs_app, bigs_one] at h hj ⊢; omega)).ite (Sm.ok h)
theorem sm_sepd (l : List Tok) (b : Bytes) {read : Nat → PR Syn} (hr : ∀ i, Sm (read i) i mT) (i : Nat) : Sm (sepd l b read i) i mL := (hr i).next fun t j hj => sm_sepMore l b hr _ _ j i (by simp only [mL, mT, List.length_singleton, bigs_one] at hj ⊢; have := big_one t; omega)
structure Smalls (F : Fs) : Prop where
  typ : ∀ i, Sm (F.typ i) i mT
  prod : ∀ i, Sm (F.prod i) i mT
  post : ∀ i, Sm (F.post i) i mT
  simp : ∀ i, Sm (F.simp i) i mL
  brack : ∀ i, Sm (F.brack i) i mL
  pat : ∀ i, Sm (F.pat i) i mT
  arg : ∀ i, Sm (F.arg i) i mT
  comps : ∀ i, Sm (F.comps i) i mT
  expr : ∀ i, Sm (F.expr i) i mT
  neg : ∀ i, Sm (F.neg i) i mT
  app : ∀ i, Sm (F.app i) i mT
  atom : ∀ i, Sm (F.atom i) i mT
  encl : ∀ i, Sm (F.encl i) i mT
  cont : ∀ i, Sm (F.cont i) i mT
  letE : ∀ i, Sm (F.letE i) i mT
  matchE : ∀ i, Sm (F.matchE i) i mT
  rule : ∀ i, Sm (F.rule i) i mT
  decl : ∀ i, Sm (F.decl i) i mT
  named : ∀ i, Sm (F.named i) i mT
  unpk : ∀ i, Sm (F.unpk i) i mT
  oper : ∀ q i, Sm (F.oper q i) i mT
section
variable {l : List Tok} {num : Bytes → Int} {F : Fs}
theorem sm_postMore : ∀ (n : Nat) (ts : List Syn) (i a : Nat), mL ts + 3 * a ≤ 3 * i → Sm (postMore l n ts i) a mT := by
  intro n
  induction n with
  | zero => intro acc i a h; rw [postMore]; exact Sm.bad _ _
  | succ n ih =>
    intro ts i a h
    rw [postMore]
    exact ((sm_tpath l i).next fun ns j hj => ih _ j a (by simp only [mL, mN, bigs_one, big_ndNames, List.length_singleton] at h hj ⊢; omega)).ite (Sm.ok (Nat.le_trans (Nat.add_le_add_right (head_big ts) _) h))
theorem sm_operMore (hF : Smalls F) : ∀ (n lo most : Nat) (t : Syn) (i a : Nat), mT t + 3 * a ≤ 3 * i → Sm (operMore l F n lo most t i) a mT := by
  intro n
  induction n with
  | zero => intro lo most t i a h; rw [operMore]; exact Sm.bad _ _
  | succ n ih =>
    intro lo most t i a h
    rw [operMore]
    exact (Sm.ok h).ite ((hF.oper _ (i + 1)).next fun u j hj => ih _ _ _ j a (by simp only [mT, big_node, bigs_two, List.length_nil] at h hj ⊢; omega))
theorem sm_appMore (hF : Smalls F) : ∀ (n : Nat) (t : Syn) (i a : Nat), mT t + 3 * a ≤ 3 * i → Sm (appMore l F n t i) a mT := by
  intro n
  induction n with
  | zero => intro t i a h; rw [appMore]; exact Sm.bad _ _
  | succ n ih =>
    intro t i a h
    rw [appMore]
    exact ((hF.atom i).next fun u j hj => ih _ j a (by simp only [mT, big_nd, bigs_two] at h hj ⊢; omega)).ite (Sm.ok h)
theorem sm_declMore (hF : Smalls F) : ∀ (n : Nat) (ts : List Syn) (i a : Nat), bigs ts + ts.length + 3 * a ≤ 3 * i → Sm (declMore l F n ts i) a (fun ts => bigs ts + ts.length + 3) := by
  intro n
  induction n with
  | zero => intro t i a h; rw [declMore]; exact Sm.bad _ _
  | succ n ih =>
    intro ts i a h
    rw [declMore]
    exact (Sm.ok (by omega)).ite ((hF.decl i).next fun u j hj => ih _ j a (by simp only [mT, List.length_append, List.length_singleton, bigs_app, bigs_one] at hj ⊢; omega))
theorem sm_fn (hF : Smalls F) (i : Nat) : Sm (fnB l F i) i mT := by
  unfold fnB
  repeat' (first | assumption | exact Sm.bad _ _ | (with_reducible refine Sm.ite ?_ ?_) | exact Sm.mono (sm_mpath _ _) (by omega) | exact Sm.mono (sm_tpath _ _) (by omega) | exact Sm.mono (sm_vpath _ _) (by omega) | exact Sm.mono (sm_sig _ _) (by omega) | exact Sm.mono (sm_sepd _ _ hF.post _) (by omega) | exact Sm.mono (sm_sepd _ _ hF.typ _) (by omega) | exact Sm.mono (sm_sepd _ _ hF.pat _) (by omega) | exact Sm.mono (sm_sepd _ _ hF.expr _) (by omega) | exact Sm.mono (sm_sepd _ _ hF.rule _) (by omega) | exact Sm.mono (hF.typ _) (by omega) | exact Sm.mono (hF.prod _) (by omega) | exact Sm.mono (hF.post _) (by omega) | exact Sm.mono (hF.simp _) (by omega) | exact Sm.mono (hF.brack _) (by omega) | exact Sm.mono (hF.pat _) (by omega) | exact Sm.mono (hF.arg _) (by omega) | exact Sm.mono (hF.comps _) (by omega) | exact Sm.mono (hF.expr _) (by omega) | exact Sm.mono (hF.neg _) (by omega) | exact Sm.mono (hF.app _) (by omega) | exact Sm.mono (hF.atom _) (by omega) | exact Sm.mono (hF.encl _) (by omega) | exact Sm.mono (hF.cont _) (by omega) | exact Sm.mono (hF.letE _) (by omega) | exact Sm.mono (hF.matchE _) (by omega) | exact Sm.mono (hF.rule _) (by omega) | exact Sm.mono (hF.decl _) (by omega) | exact Sm.mono (hF.named _) (by omega) | exact Sm.mono (hF.unpk _) (by omega) | exact Sm.mono (hF.oper _ _) (by omega) | (with_reducible refine Sm.next (sm_take _ _ _) fun v j hj => ?_) | (with_reducible refine Sm.next (sm_need _ _ _) fun v j hj => ?_) | (with_reducible refine Sm.next (sm_mpath _ _) fun v j hj => ?_) | (with_reducible refine Sm.next (sm_tpath _ _) fun v j hj => ?_) | (with_reducible refine Sm.next (sm_vpath _ _) fun v j hj => ?_) | (with_reducible refine Sm.next (sm_sig _ _) fun v j hj => ?_) | (with_reducible refine Sm.next (sm_sepd _ _ hF.post _) fun v j hj => ?_) | (with_reducible refine Sm.next (sm_sepd _ _ hF.typ _) fun v j hj => ?_) | (with_reducible refine Sm.next (sm_sepd _ _ hF.pat _) fun v j hj => ?_) | (with_reducible refine Sm.next (sm_sepd _ _ hF.expr _) fun v j hj => ?_) | (with_reducible refine Sm.next (sm_sepd _ _ hF.rule _) fun v j hj => ?_) | (with_reducible refine Sm.next (hF.typ _) fun v j hj => ?_) | (with_reducible refine Sm.next (hF.prod _) fun v j hj => ?_) | (with_reducible refine Sm.next (hF.post _) fun v j hj => ?_) | (with_reducible refine Sm.next (hF.simp _) fun v j hj => ?_) | (with_reducible refine Sm.next (hF.brack _) fun v j hj => ?_) | (with_reducible refine Sm.next (hF.pat _) fun v j hj => ?_) | (with_reducible refine Sm.next (hF.arg _) fun v j hj => ?_) | (with_reducible refine Sm.next (hF.comps _) fun v j hj => ?_) | (with_reducible refine Sm.next (hF.expr _) fun v j hj => ?_) | (with_reducible refine Sm.next (hF.neg _) fun v j hj => ?_) | (with_reducible refine Sm.next (hF.app _) fun v j hj => ?_) | (with_reducible refine Sm.next (hF.atom _) fun v j hj => ?_) | (with_reducible refine Sm.next (hF.encl _) fun v j hj => ?_) | (with_reducible refine Sm.next (hF.cont _) fun v j hj => ?_) | (with_reducible refine Sm.next (hF.letE _) fun v j hj => ?_) | (with_reducible refine Sm.next (hF.matchE _) fun v j hj => ?_) | (with_reducible refine Sm.next (hF.rule _) fun v j hj => ?_) | (with_reducible refine Sm.next (hF.decl _) fun v j hj => ?_) | (with_reducible refine Sm.next (hF.named _) fun v j hj => ?_) | (with_reducible refine Sm.next (hF.unpk _) fun v j hj => ?_) | (with_reducible refine Sm.next (hF.oper _ _) fun v j hj => ?_) | (with_reducible refine Sm.next (sm_namesMore _ _ _ _ _ (by simp only [mT, mL, mN, big_nd, big_ndNames, big_ndText, big_ndNum, big_node, bigs_nil, bigs_one, bigs_two, bigs_three, bigs_app, bigs_cons, List.length_append, List.length_singleton, List.length_nil, List.length_cons] at *; omega)) fun v j hj => ?_) | exact sm_postMore _ _ _ _ (by simp only [mL, mT, mN] at *; omega) | exact sm_operMore hF _ _ _ _ _ _ (by simp only [mL, mT, mN] at *; omega) | exact sm_appMore hF _ _ _ _ (by simp only [mL, mT, mN] at *; omega) | (with_reducible refine Sm.next (sm_declMore hF _ _ i i (by simp [bigs_nil])) fun v j hj => ?_) | exact Sm.ok (by simp only [mT, mL, mN, big_nd, big_ndNames, big_ndText, big_ndNum, big_node, bigs_nil, bigs_one, bigs_two, bigs_three, bigs_app, bigs_cons, List.length_append, List.length_singleton, List.length_nil, List.length_cons] at *; omega) | exact Sm.ok (Nat.le_trans (Nat.add_le_add_right (tuple_big _ _) _) (by simp only [mL, mT, mN] at *; omega)))
theorem sm_if (hF : Smalls F) (i : Nat) : Sm (ifB l F i) i mT := by
  unfold ifB
  repeat' (first | assumption | exact Sm.bad _ _ | (with_reducible refine Sm.ite ?_ ?_) | exact Sm.mono (sm_mpath _ _) (by omega) | exact Sm.mono (sm_tpath _ _) (by omega) | exact Sm.mono (sm_vpath _ _) (by omega) | exact Sm.mono (sm_sig _ _) (by omega) | exact Sm.mono (sm_sepd _ _ hF.post _) (by omega) | exact Sm.mono (sm_sepd _ _ hF.typ _) (by omega) | exact Sm.mono (sm_sepd _ _ hF.pat _) (by omega) | exact Sm.mono (sm_sepd _ _ hF.expr _) (by omega) | exact Sm.mono (sm_sepd _ _ hF.rule _) (by omega) | exact Sm.mono (hF.typ _) (by omega) | exact Sm.mono (hF.prod _) (by omega) | exact Sm.mono (hF.post _) (by omega) | exact Sm.mono (hF.simp _) (by omega) | exact Sm.mono (hF.brack _) (by omega) | exact Sm.mono (hF.pat _) (by omega) | exact Sm.mono (hF.arg _) (by omega) | exact Sm.mono (hF.comps _) (by omega) | exact Sm.mono (hF.expr _) (by omega) | exact Sm.mono (hF.neg _) (by omega) | exact Sm.mono (hF.app _) (by omega) | exact Sm.mono (hF.atom _) (by omega) | exact Sm.mono (hF.encl _) (by omega) | exact Sm.mono (hF.cont _) (by omega) | exact Sm.mono (hF.letE _) (by omega) | exact Sm.mono (hF.matchE _) (by omega) | exact Sm.mono (hF.rule _) (by omega) | exact Sm.mono (hF.decl _) (by omega) | exact Sm.mono (hF.named _) (by omega) | exact Sm.mono (hF.unpk _) (by omega) | exact Sm.mono (hF.oper _ _) (by omega) | (with_reducible refine Sm.next (sm_take _ _ _) fun v j hj => ?_) | (with_reducible refine Sm.next (sm_need _ _ _) fun v j hj => ?_) | (with_reducible refine Sm.next (sm_mpath _ _) fun v j hj => ?_) | (with_reducible refine Sm.next (sm_tpath _ _) fun v j hj => ?_) | (with_reducible refine Sm.next (sm_vpath _ _) fun v j hj => ?_) | (with_reducible refine Sm.next (sm_sig _ _) fun v j hj => ?_) | (with_reducible refine Sm.next (sm_sepd _ _ hF.post _) fun v j hj => ?_) | (with_reducible refine Sm.next (sm_sepd _ _ hF.typ _) fun v j hj => ?_) | (with_reducible refine Sm.next (sm_sepd _ _ hF.pat _) fun v j hj => ?_) | (with_reducible refine Sm.next (sm_sepd _ _ hF.expr _) fun v j hj => ?_) | (with_reducible refine Sm.next (sm_sepd _ _ hF.rule _) fun v j hj => ?_) | (with_reducible refine Sm.next (hF.typ _) fun v j hj => ?_) | (with_reducible refine Sm.next (hF.prod _) fun v j hj => ?_) | (with_reducible refine Sm.next (hF.post _) fun v j hj => ?_) | (with_reducible refine Sm.next (hF.simp _) fun v j hj => ?_) | (with_reducible refine Sm.next (hF.brack _) fun v j hj => ?_) | (with_reducible refine Sm.next (hF.pat _) fun v j hj => ?_) | (with_reducible refine Sm.next (hF.arg _) fun v j hj => ?_) | (with_reducible refine Sm.next (hF.comps _) fun v j hj => ?_) | (with_reducible refine Sm.next (hF.expr _) fun v j hj => ?_) | (with_reducible refine Sm.next (hF.neg _) fun v j hj => ?_) | (with_reducible refine Sm.next (hF.app _) fun v j hj => ?_) | (with_reducible refine Sm.next (hF.atom _) fun v j hj => ?_) | (with_reducible refine Sm.next (hF.encl _) fun v j hj => ?_) | (with_reducible refine Sm.next (hF.cont _) fun v j hj => ?_) | (with_reducible refine Sm.next (hF.letE _) fun v j hj => ?_) | (with_reducible refine Sm.next (hF.matchE _) fun v j hj => ?_) | (with_reducible refine Sm.next (hF.rule _) fun v j hj => ?_) | (with_reducible refine Sm.next (hF.decl _) fun v j hj => ?_) | (with_reducible refine Sm.next (hF.named _) fun v j hj => ?_) | (with_reducible refine Sm.next (hF.unpk _) fun v j hj => ?_) | (with_reducible refine Sm.next (hF.oper _ _) fun v j hj => ?_) | (with_reducible refine Sm.next (sm_namesMore _ _ _ _ _ (by simp only [mT, mL, mN, big_nd, big_ndNames, big_ndText, big_ndNum, big_node, bigs_nil, bigs_one, bigs_two, bigs_three, bigs_app, bigs_cons, List.length_append, List.length_singleton, List.length_nil, List.length_cons] at *; omega)) fun v j hj => ?_) | exact sm_postMore _ _ _ _ (by simp only [mL, mT, mN] at *; omega) | exact sm_operMore hF _ _ _ _ _ _ (by simp only [mL, mT, mN] at *; omega) | exact sm_appMore hF _ _ _ _ (by simp only [mL, mT, mN] at *; omega) | (with_reducible refine Sm.next (sm_declMore hF _ _ i i (by simp [bigs_nil])) fun v j hj => ?_) | exact Sm.ok (by simp only [mT, mL, mN, big_nd, big_ndNames, big_ndText, big_ndNum, big_node, bigs_nil, bigs_one, bigs_two, bigs_three, bigs_app, bigs_cons, List.length_append, List.length_singleton, List.length_nil, List.length_cons] at *; omega) | exact Sm.ok (Nat.le_trans (Nat.add_le_add_right (tuple_big _ _) _) (by simp only [mL, mT, mN] at *; omega)))
set_option maxHeartbeats 16000000 in
theorem smalls_all (hF : Smalls F) : (∀ i, Sm (typB l F i) i mT) ∧ (∀ i, Sm (prodB l F i) i mT) ∧ (∀ i, Sm (postB l F i) i mT) ∧ (∀ i, Sm (simpB l F i) i mL) ∧ (∀ i, Sm (brackB l F i) i mL) ∧ (∀ i, Sm (patB l F i) i mT) ∧ (∀ i, Sm (argB l num F i) i mT) ∧ (∀ i, Sm (compsB l F i) i mT) ∧ (∀ i, Sm (exprB l F i) i mT) ∧ (∀ i, Sm (negB l F i) i mT) ∧ (∀ i, Sm (appB l F i) i mT) ∧ (∀ i, Sm (atomB l num F i) i mT) ∧ (∀ i, Sm (enclB l F i) i mT) ∧ (∀ i, Sm (contB l F i) i mT) ∧ (∀ i, Sm (letB l F i) i mT) ∧ (∀ i, Sm (matchB l F i) i mT) ∧ (∀ i, Sm (ruleB l F i) i mT) ∧ (∀ i, Sm (declB l F i) i mT) ∧ (∀ i, Sm (namedB l F i) i mT) ∧ (∀ i, Sm (unpkB l F i) i mT) ∧ (∀ q i, Sm (operB l F q i) i mT) := by
  refine ⟨fun i => ?_, fun i => ?_, fun i => ?_, fun i => ?_, fun i => ?_, fun i => ?_, fun i => ?_, fun i => ?_, fun i => ?_, fun i => ?_, fun i => ?_, fun i => ?_, fun i => ?_, fun i => ?_, fun i => ?_, fun i => ?_, fun i => ?_, fun i => ?_, fun i => ?_, fun i => ?_, fun q i => ?_⟩
  all_goals first | unfold typB | unfold prodB | unfold postB | unfold simpB | unfold brackB | unfold patB | unfold argB | unfold compsB | unfold exprB | unfold negB | unfold appB | unfold atomB | unfold enclB | unfold contB | unfold letB | unfold matchB | unfold ruleB | unfold declB | unfold namedB | unfold unpkB | unfold operB
  all_goals repeat' (first | exact Sm.mono (sm_fn hF _) (by omega) | exact Sm.mono (sm_if hF _) (by omega) | assumption | exact Sm.bad _ _ | (with_reducible refine Sm.ite ?_ ?_) | exact Sm.mono (sm_mpath _ _) (by omega) | exact Sm.mono (sm_tpath _ _) (by omega) | exact Sm.mono (sm_vpath _ _) (by omega) | exact Sm.mono (sm_sig _ _) (by omega) | exact Sm.mono (sm_sepd _ _ hF.post _) (by omega) | exact Sm.mono (sm_sepd _ _ hF.typ _) (by omega) | exact Sm.mono (sm_sepd _ _ hF.pat _) (by omega) | exact Sm.mono (sm_sepd _ _ hF.expr _) (by omega) | exact Sm.mono (sm_sepd _ _ hF.rule _) (by omega) | exact Sm.mono (hF.typ _) (by omega) | exact Sm.mono (hF.prod _) (by omega) | exact Sm.mono (hF.post _) (by omega) | exact Sm.mono (hF.simp _) (by omega) | exact Sm.mono (hF.brack _) (by omega) | exact Sm.mono (hF.pat _) (by omega) | exact Sm.mono (hF.arg _) (by omega) | exact Sm.mono (hF.comps _) (by omega) | exact Sm.mono (hF.expr _) (by omega) | exact Sm.mono (hF.neg _) (by omega) | exact Sm.mono (hF.app _) (by omega) | exact Sm.mono (hF.atom _) (by omega) | exact Sm.mono (hF.encl _) (by omega) | exact Sm.mono (hF.cont _) (by omega) | exact Sm.mono (hF.letE _) (by omega) | exact Sm.mono (hF.matchE _) (by omega) | exact Sm.mono (hF.rule _) (by omega) | exact Sm.mono (hF.decl _) (by omega) | exact Sm.mono (hF.named _) (by omega) | exact Sm.mono (hF.unpk _) (by omega) | exact Sm.mono (hF.oper _ _) (by omega) | (with_reducible refine Sm.next (sm_take _ _ _) fun v j hj => ?_) | (with_reducible refine Sm.next (sm_need _ _ _) fun v j hj => ?_) | (with_reducible refine Sm.next (sm_mpath _ _) fun v j hj => ?_) | (with_reducible refine Sm.next (sm_tpath _ _) fun v j hj => ?_) | (with_reducible refine Sm.next (sm_vpath _ _) fun v j hj => ?_) | (with_reducible refine Sm.next (sm_sig _ _) fun v j hj => ?_) | (with_reducible refine Sm.next (sm_sepd _ _ hF.post _) fun v j hj => ?_) | (with_reducible refine Sm.next (sm_sepd _ _ hF.typ _) fun v j hj => ?_) | (with_reducible refine Sm.next (sm_sepd _ _ hF.pat _) fun v j hj => ?_) | (with_reducible refine Sm.next (sm_sepd _ _ hF.expr _) fun v j hj => ?_) | (with_reducible refine Sm.next (sm_sepd _ _ hF.rule _) fun v j hj => ?_) | (with_reducible refine Sm.next (hF.typ _) fun v j hj => ?_) | (with_reducible refine Sm.next (hF.prod _) fun v j hj => ?_) | (with_reducible refine Sm.next (hF.post _) fun v j hj => ?_) | (with_reducible refine Sm.next (hF.simp _) fun v j hj => ?_) | (with_reducible refine Sm.next (hF.brack _) fun v j hj => ?_) | (with_reducible refine Sm.next (hF.pat _) fun v j hj => ?_) | (with_reducible refine Sm.next (hF.arg _) fun v j hj => ?_) | (with_reducible refine Sm.next (hF.comps _) fun v j hj => ?_) | (with_reducible refine Sm.next (hF.expr _) fun v j hj => ?_) | (with_reducible refine Sm.next (hF.neg _) fun v j hj => ?_) | (with_reducible refine Sm.next (hF.app _) fun v j hj => ?_) | (with_reducible refine Sm.next (hF.atom _) fun v j hj => ?_) | (with_reducible refine Sm.next (hF.encl _) fun v j hj => ?_) | (with_reducible refine Sm.next (hF.cont _) fun v j hj => ?_) | (with_reducible refine Sm.next (hF.letE _) fun v j hj => ?_) | (with_reducible refine Sm.next (hF.matchE _) fun v j hj => ?_) | (with_reducible refine Sm.next (hF.rule _) fun v j hj => ?_) | (with_reducible refine Sm.next (hF.decl _) fun v j hj => ?_) | (with_reducible refine Sm.next (hF.named _) fun v j hj => ?_) | (with_reducible refine Sm.next (hF.unpk _) fun v j hj => ?_) | (with_reducible refine Sm.next (hF.oper _ _) fun v j hj => ?_) | (with_reducible refine Sm.next (sm_namesMore _ _ _ _ _ (by simp only [mT, mL, mN, big_nd, big_ndNames, big_ndText, big_ndNum, big_node, bigs_nil, bigs_one, bigs_two, bigs_three, bigs_app, bigs_cons, List.length_append, List.length_singleton, List.length_nil, List.length_cons] at *; omega)) fun v j hj => ?_) | exact sm_postMore _ _ _ _ (by simp only [mL, mT, mN] at *; omega) | exact sm_operMore hF _ _ _ _ _ _ (by simp only [mL, mT, mN] at *; omega) | exact sm_appMore hF _ _ _ _ (by simp only [mL, mT, mN] at *; omega) | (with_reducible refine Sm.next (sm_declMore hF _ _ i i (by simp [bigs_nil])) fun v j hj => ?_) | exact Sm.ok (by simp only [mT, mL, mN, big_nd, big_ndNames, big_ndText, big_ndNum, big_node, bigs_nil, bigs_one, bigs_two, bigs_three, bigs_app, bigs_cons, List.length_append, List.length_singleton, List.length_nil, List.length_cons] at *; omega) | exact Sm.ok (Nat.le_trans (Nat.add_le_add_right (tuple_big _ _) _) (by simp only [mL, mT, mN] at *; omega)))
theorem Smalls.deeper (hF : Smalls F) : Smalls (deeper l num F) := by
  obtain ⟨h0, h1, h2, h3, h4, h5, h6, h7, h8, h9, h10, h11, h12, h13, h14, h15, h16, h17, h18, h19, h20⟩ := smalls_all (num := num) hF
  exact ⟨h0, h1, h2, h3, h4, h5, h6, h7, h8, h9, h10, h11, h12, h13, h14, h15, h16, h17, h18, h19, h20⟩
theorem Smalls.none : Smalls noFs := by
  constructor
  all_goals (intros; exact Sm.bad _ _)
theorem smalls_depth (l : List Tok) (num : Bytes → Int) : ∀ n, Smalls (depthFs l num n) := by
  intro n
  induction n with
  | zero => exact Smalls.none
  | succ n ih => exact ih.deeper
theorem full_small (l : List Tok) (num : Bytes → Int) : Smalls (full l num) := smalls_depth l num _
end
end Go.Proofs.YtkmgnibopmpcjaaGreatDoor.Pl

/-
  Walks of layer 3: Size and Depth.
-/
namespace Go.Proofs.YtkmgnibopmpcjaaGreatDoor
open Go Go.RowKit
open Pl (Syn)
set_option maxRecDepth 100000 in
set_option maxHeartbeats 4000000 in
theorem visit_any (V : Visitor) (HV : V.Good) (P : Nat → Prop) (t : Syn) (σ : V.St) (γ : V.G) (w : World) (v : Value) (hi : V.Inv σ γ w) (hP : ∀ b, P b → b < w.heap.size ∧ ¬ V.own γ b) (ht : SynV w P t v) (hbig : t.big ≤ 1073741824) (hcnt : V.cnt σ + t.size ≤ 1073741824) :
    Calls Tryz.prog 112 #[v, .func (.func V.fid) #[] #[.pointer (some ⟨V.g, 0, none⟩)]] w (V.Post γ (V.run σ t 0 1) w) := by
  have hsb := Pl.size_big t
  have HT := Lib.hid ht
  obtain ⟨na, nn, nc, la, ln, lc, rfl⟩ := ht.form
  have hb : Below w.heap.size w (((w.alloc (.cells #[.int .i64 t.op, .int .i64 t.n, .string t.s, .slice na nn nc, .slice la ln lc] 28)).alloc (.cells #[.func (.func V.fid) #[] #[.pointer (some ⟨V.g, 0, none⟩)]] 132)).alloc (.cells #[.func (.func 180) #[] #[.pointer (some ⟨w.heap.size + 1, 0, none⟩), .pointer (some ⟨w.heap.size + 1 + 1, 0, none⟩)]] 132)) :=
    ((((Below.refl _ _).alloc (Nat.le_refl _) _).alloc (by simp) _).alloc (by simp; omega) _)
  have hat : V.At (w.heap.size + 1) (w.heap.size + 1 + 1) P σ γ (((w.alloc (.cells #[.int .i64 t.op, .int .i64 t.n, .string t.s, .slice na nn nc, .slice la ln lc] 28)).alloc (.cells #[.func (.func V.fid) #[] #[.pointer (some ⟨V.g, 0, none⟩)]] 132)).alloc (.cells #[.func (.func 180) #[] #[.pointer (some ⟨w.heap.size + 1, 0, none⟩), .pointer (some ⟨w.heap.size + 1 + 1, 0, none⟩)]] 132)) := by
    refine ⟨HV.keep σ γ _ _ hi hb, ?_, ?_, fun ho => ?_, fun ho => ?_, fun b hbp => ⟨?_, (hP b hbp).2⟩⟩
    · have := blk_new (w.alloc (.cells #[.int .i64 t.op, .int .i64 t.n, .string t.s, .slice na nn nc, .slice la ln lc] 28)) #[.func (.func V.fid) #[] #[.pointer (some ⟨V.g, 0, none⟩)]] 132
      rw [size_alloc] at this
      exact this.alloc _
    · have := blk_new ((w.alloc (.cells #[.int .i64 t.op, .int .i64 t.n, .string t.s, .slice na nn nc, .slice la ln lc] 28)).alloc (.cells #[.func (.func V.fid) #[] #[.pointer (some ⟨V.g, 0, none⟩)]] 132)) #[.func (.func 180) #[] #[.pointer (some ⟨w.heap.size + 1, 0, none⟩), .pointer (some ⟨w.heap.size + 1 + 1, 0, none⟩)]] 132
      rw [size_alloc, size_alloc] at this
      exact this
    · have := HV.lt σ γ w _ hi ho; omega
    · have := HV.lt σ γ w _ hi ho; omega
    · have := (hP b hbp).1
      rw [size_alloc, size_alloc, size_alloc]; omega
  have HC := Lib.hid (descend_any V HV _ _ P t σ γ _ (.agg #[.int .i64 t.op, .int .i64 t.n, .string t.s, .slice na nn nc, .slice la ln lc]) 0 1 hat (HT.out.keep (Same.of_below hb (fun b hb => (hP b hb).1))) hbig hcnt (by omega) (by omega))
  have HF := Lib.hid (Fr.of_below (o := V.own γ) hb)
  clear ht hat hb hi hP
  have c9 : (((w.alloc (.cells #[.int .i64 t.op, .int .i64 t.n, .string t.s, .slice na nn nc, .slice la ln lc] 28)).alloc (.cells #[.func (.func V.fid) #[] #[.pointer (some ⟨V.g, 0, none⟩)]] 132)).alloc (.cells #[.nilFunc] 132)).cell? ⟨w.heap.size + 1 + 1, 0, none⟩ = some .nilFunc := by
    have := (blk_new ((w.alloc (.cells #[.int .i64 t.op, .int .i64 t.n, .string t.s, .slice na nn nc, .slice la ln lc] 28)).alloc (.cells #[.func (.func V.fid) #[] #[.pointer (some ⟨V.g, 0, none⟩)]] 132)) #[.nilFunc] 132).cell 0 _ rfl
    rw [size_alloc, size_alloc] at this
    exact this
  go_enter Tryz.func112, Tryz.ntmps112
  go_wp2_with fail
  refine HC.out.mono ?_
  rintro e w1 ⟨rfl, γ1, hi1, hf1⟩
  have HI := Lib.hid hi1
  have HF1 := Lib.hid (HF.out.trans hf1)
  clear hi1 hf1
  go_wp2
  go_ret
  exact ⟨rfl, γ1, HI.out, HF1.out⟩
def Cell1 (g : Nat) (n : Int) (w : World) : Prop := Blk w g 3 #[.int .i64 n]
theorem Cell1.below {g : Nat} {n : Int} {w w' : World} (h : Cell1 g n w) (hb : Below w.heap.size w w') : Cell1 g n w' := h.of_eq (hb.block _ h.lt)
theorem fr_set {g : Nat} {w w1 : World} (v : Value) (j : Nat) (hb : Below w.heap.size w w1) : Fr (· = g) (· = g) w (w1.setCell ⟨g, j, none⟩ v) :=
  ⟨hb.os, hb.tape, hb.output, by simpa [World.setCell] using hb.size, fun i hi hn => (Below.heap_setCell w1 ⟨g, j, none⟩ v i hn).trans (hb.block i hi), fun _ h => .inl h⟩
end Go.Proofs.YtkmgnibopmpcjaaGreatDoor
