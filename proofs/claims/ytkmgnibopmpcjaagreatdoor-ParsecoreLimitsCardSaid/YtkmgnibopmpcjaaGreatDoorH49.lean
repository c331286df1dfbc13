/-
  Walks and plain mathematics, several texts in one (Fn).
-/
import Derived.Test.YtkmgnibopmpcjaaGreatDoorH11
/-
  Plain mathematics of layer 4: what is read to the end of a list is read the same where the list stands ahead of a closing parenthesis. No program.
-/
namespace Go.Proofs.YtkmgnibopmpcjaaGreatDoor.Pl
open Go
set_option linter.unusedSimpArgs false
def Imp {α : Type} (l : List Tok) (d : Nat) (r r' : PR α) : Prop := ∀ v j, r = .ok v j → j ≤ l.length ∧ r' = .ok v (j + d)
section
variable {l : List Tok} {d : Nat} {α β : Type}
theorem Imp.bad {i : Nat} {r' : PR α} : Imp l d (.bad i) r' := fun _ _ h => by cases h
theorem Imp.ok {v v' : α} {i i' : Nat} (h : i ≤ l.length) (hi : i' = i + d) (hv : v = v') : Imp l d (.ok v i) (.ok v' i') := fun _ _ e => by
  injection e with e1 e2
  subst e1 e2 hi hv
  exact ⟨h, rfl⟩
theorem Imp.next {r r' : PR α} {f f' : α → Nat → PR β} (h : Imp l d r r') (k : ∀ v j, j ≤ l.length → Imp l d (f v j) (f' v (j + d))) : Imp l d (r.then f) (r'.then f') := by
  cases r with
  | bad i => exact Imp.bad
  | ok v i => rw [(h v i rfl).2]; exact k v i (h v i rfl).1
theorem Imp.ite {p p' : Prop} [Decidable p] [Decidable p'] {r s r' s' : PR α} (hp : p ↔ p') (h : p → Imp l d r r') (k : ¬p → Imp l d s s') : Imp l d (if p then r else s) (if p' then r' else s') := by
  by_cases hq : p
  · rw [if_pos hq, if_pos (hp.1 hq)]; exact h hq
  · rw [if_neg hq, if_neg (fun h => hq (hp.2 h))]; exact k hq
theorem Imp.iteE {i : Nat} {p p' : Prop} [Decidable p] [Decidable p'] {r s r' s' : PR α} (hp : i < l.length → (p ↔ p')) (hs : ¬ i < l.length → ¬ p ∧ ∀ v j, s ≠ .ok v j) (h : p → Imp l d r r') (k : ¬p → Imp l d s s') : Imp l d (if p then r else s) (if p' then r' else s') := by
  by_cases hi : i < l.length
  · exact Imp.ite (hp hi) h k
  · rw [if_neg (hs hi).1]
    exact fun v j e => absurd e ((hs hi).2 v j)
end
structure Stands (l l' : List Tok) (d : Nat) : Prop where
  kind : ∀ i, i < l.length → (tkAt l' (i + d)).kind = (tkAt l i).kind
  text : ∀ i, i < l.length → (tkAt l' (i + d)).text = (tkAt l i).text
  len : l.length + d ≤ l'.length
  stopK : (tkAt l' (l.length + d)).kind = 6 ∨ (tkAt l' (l.length + d)).kind = 7 ∨ (tkAt l' (l.length + d)).kind = 8
  stopF : fixedT (tkAt l' (l.length + d)) = [41] ∨ fixedT (tkAt l' (l.length + d)) = []
theorem end_at {l : List Tok} {i : Nat} (h : ¬ i < l.length) : tkAt l i = ⟨8, [], 0, 0⟩ := by
  unfold tkAt; rw [List.getD_eq_getElem?_getD, List.getElem?_eq_none (by omega)]; rfl
section
variable {l l' : List Tok} {d : Nat} (A : Stands l l' d)
include A
theorem Stands.fix {k : Nat} (h : k < l.length) : fixedT (tkAt l' (k + d)) = fixedT (tkAt l k) := by unfold fixedT; rw [A.kind k h, A.text k h]
theorem Stands.passE {k : Nat} {b : Bytes} (h : k < l.length) : (passes l k b = true ↔ passes l' (k + d) b = true) := by unfold passes; rw [A.fix h]
theorem Stands.pass {k : Nat} {b : Bytes} (hk : k ≤ l.length) (h1 : b ≠ [41]) (h2 : b ≠ []) : (passes l k b = true ↔ passes l' (k + d) b = true) := by
  by_cases h : k < l.length
  · exact A.passE h
  · obtain rfl : k = l.length := by omega
    unfold passes
    rw [end_at h]
    refine ⟨fun e => absurd (show ([] : Bytes) = b from by simpa [fixedT] using e) (Ne.symm h2), fun e => ?_⟩
    have e := (beq_iff_eq).1 e
    rcases A.stopF with q | q
    · rw [q] at e; exact absurd e.symm h1
    · rw [q] at e; exact absurd e.symm h2
theorem Stands.kindIff {k : Nat} {c : Int} (hk : k ≤ l.length) (hc : c = 1 ∨ c = 2 ∨ c = 3 ∨ c = 4 ∨ c = 5) : ((tkAt l k).kind = c ↔ (tkAt l' (k + d)).kind = c) := by
  by_cases h : k < l.length
  · rw [A.kind k h]
  · obtain rfl : k = l.length := by omega
    rw [end_at h]
    show (8 : Int) = c ↔ _
    have := A.stopK
    omega
theorem Stands.kindNe {k : Nat} {c : Int} (hk : k ≤ l.length) (hc : c = 1 ∨ c = 2 ∨ c = 3 ∨ c = 4 ∨ c = 5) : ((tkAt l k).kind ≠ c ↔ (tkAt l' (k + d)).kind ≠ c) := not_congr (A.kindIff hk hc)
theorem Stands.stop_no {c : Int} (hc : c = 1 ∨ c = 2 ∨ c = 3 ∨ c = 4 ∨ c = 5) : (tkAt l' (l.length + d)).kind ≠ c := by have := A.stopK; omega
theorem Stands.begA {k : Nat} (hk : k ≤ l.length) : (begArg (tkAt l k) = true ↔ begArg (tkAt l' (k + d)) = true) := by
  by_cases h : k < l.length
  · unfold begArg; rw [A.kind k h, A.fix h]
  · obtain rfl : k = l.length := by omega
    rw [end_at h]
    have h1 : begArg ⟨8, [], 0, 0⟩ = false := rfl
    have h2 : begArg (tkAt l' (l.length + d)) = false := by
      unfold begArg
      have k1 := A.stop_no (c := 1) (by omega)
      have k2 := A.stop_no (c := 2) (by omega)
      have k4 := A.stop_no (c := 4) (by omega)
      rcases A.stopF with q | q <;> simp [q, k1, k2, k4]
    rw [h1, h2]
theorem Stands.begT {k : Nat} (hk : k ≤ l.length) : (begAtom (tkAt l k) = true ↔ begAtom (tkAt l' (k + d)) = true) := by
  by_cases h : k < l.length
  · unfold begAtom; rw [A.kind k h, A.fix h]
  · obtain rfl : k = l.length := by omega
    rw [end_at h]
    have h1 : begAtom ⟨8, [], 0, 0⟩ = false := rfl
    have h2 : begAtom (tkAt l' (l.length + d)) = false := by
      unfold begAtom
      have k1 := A.stop_no (c := 1) (by omega)
      have k2 := A.stop_no (c := 2) (by omega)
      have k4 := A.stop_no (c := 4) (by omega)
      have k5 := A.stop_no (c := 5) (by omega)
      rcases A.stopF with q | q <;> simp [q, k1, k2, k4, k5]
    rw [h1, h2]
theorem Stands.opr {k : Nat} (hk : k ≤ l.length) : opOf (tkAt l' (k + d)) = opOf (tkAt l k) := by
  by_cases h : k < l.length
  · unfold opOf; rw [A.fix h]
  · obtain rfl : k = l.length := by omega
    rw [end_at h]
    have h1 : opOf ⟨8, [], 0, 0⟩ = (0, 0) := rfl
    rw [h1]
    unfold opOf
    rcases A.stopF with q | q <;> rw [q] <;> rfl
theorem Stands.postIff {k n : Nat} (hk : k ≤ l.length) : ((1 < n ∨ (tkAt l k).kind = 1 ∨ (tkAt l k).kind = 2) ↔ (1 < n ∨ (tkAt l' (k + d)).kind = 1 ∨ (tkAt l' (k + d)).kind = 2)) := by
  rw [A.kindIff (c := 1) hk (by omega), A.kindIff (c := 2) hk (by omega)]
theorem Stands.contIff {k n : Nat} (hk : k ≤ l.length) : ((n = 1 ∧ passes l k [58] = true) ↔ (n = 1 ∧ passes l' (k + d) [58] = true)) := by rw [A.pass hk (by decide) (by decide)]
theorem imp_take {c : Int} (hc : c = 1 ∨ c = 2 ∨ c = 3 ∨ c = 4 ∨ c = 5) {i i' : Nat} (hi : i ≤ l.length) (he : i' = i + d) : Imp l d (takeK l c i) (takeK l' c i') := by
  subst he
  unfold takeK
  refine Imp.ite (A.kindIff hi hc) (fun h => ?_) (fun _ => Imp.bad)
  have hl : i < l.length := kind_lt h (by omega)
  exact Imp.ok hl (by omega) (A.text i hl).symm
theorem imp_need {b : Bytes} (hb : b ≠ []) {i i' : Nat} (_hi : i ≤ l.length) (he : i' = i + d) : Imp l d (needT l b i) (needT l' b i') := by
  subst he
  unfold needT
  by_cases h : i < l.length
  · exact Imp.ite (A.passE h) (fun _ => Imp.ok h (by omega) rfl) (fun _ => Imp.bad)
  · rw [if_neg (fun h2 => h (pass_lt h2 hb))]; exact Imp.bad
theorem imp_mpMore : ∀ (n n' : Nat) (acc : List ByteArray) (i i' : Nat), i ≤ l.length → i' = i + d → l'.length < i' + n' → Imp l d (mpMore l n acc i) (mpMore l' n' acc i') := by
  intro n
  induction n with
  | zero => intro n' acc i i' _ _ _; exact Imp.bad
  | succ n ih =>
    intro n' acc i i' hi he h2
    cases n' with
    | zero => have := A.len; omega
    | succ n' =>
      subst he
      rw [mpMore, mpMore]
      refine Imp.ite (A.pass hi (by decide) (by decide)) (fun hp => ?_) (fun _ => Imp.ok hi rfl rfl)
      have hl := pass_lt hp (by decide)
      cases ht : takeK l 2 (i + 1) with
      | bad j => exact Imp.bad
      | ok v j =>
        have h := imp_take A (c := 2) (by omega) (show i + 1 ≤ l.length from hl) (show i + d + 1 = i + 1 + d by omega) v j ht
        rw [h.2]
        have ha := after_take l 2 (i + 1) v j ht
        exact ih n' _ j _ h.1 rfl (by omega)
theorem imp_mpath {i i' : Nat} (hi : i ≤ l.length) (he : i' = i + d) : Imp l d (mpath l i) (mpath l' i') := (imp_take A (by omega) hi he).next fun v j hj => imp_mpMore A (l.length + 1) (l'.length + 1) _ j _ hj rfl (by omega)
theorem imp_tpMore : ∀ (n n' : Nat) (acc : List ByteArray) (i i' : Nat), i ≤ l.length → i' = i + d → l'.length < i' + n' → Imp l d (tpMore l n acc i) (tpMore l' n' acc i') := by
  intro n
  induction n with
  | zero => intro n' acc i i' _ _ _; exact Imp.bad
  | succ n ih =>
    intro n' acc i i' hi he h2
    cases n' with
    | zero => have := A.len; omega
    | succ n' =>
      subst he
      rw [tpMore, tpMore]
      refine Imp.ite (A.kindIff hi (by omega)) (fun hp => ?_) (fun _ => (imp_take A (by omega) hi rfl).next fun v j hj => Imp.ok hj rfl rfl)
      have hl : i < l.length := kind_lt hp (by decide)
      rw [A.text i hl]
      cases ht : needT l [46] (i + 1) with
      | bad j => exact Imp.bad
      | ok v j =>
        have h := imp_need A (b := [46]) (by decide) (show i + 1 ≤ l.length from hl) (show i + d + 1 = i + 1 + d by omega) v j ht
        rw [h.2]
        have ha := after_need l [46] (i + 1) v j ht
        exact ih n' _ j _ h.1 rfl (by omega)
theorem imp_tpath {i i' : Nat} (hi : i ≤ l.length) (he : i' = i + d) : Imp l d (tpath l i) (tpath l' i') := imp_tpMore A _ _ _ _ _ hi he (by omega)
theorem imp_vpMore : ∀ (n n' : Nat) (acc : List ByteArray) (i i' : Nat), i ≤ l.length → i' = i + d → l'.length < i' + n' → Imp l d (vpMore l n acc i) (vpMore l' n' acc i') := by
  intro n
  induction n with
  | zero => intro n' acc i i' _ _ _; exact Imp.bad
  | succ n ih =>
    intro n' acc i i' hi he h2
    cases n' with
    | zero => have := A.len; omega
    | succ n' =>
      subst he
      rw [vpMore, vpMore]
      refine Imp.ite (A.kindIff hi (by omega)) (fun hp => ?_) (fun _ => (imp_take A (by omega) hi rfl).next fun v j hj => Imp.ok hj rfl rfl)
      have hl : i < l.length := kind_lt hp (by decide)
      rw [A.text i hl, show i + d + 1 = i + 1 + d by omega]
      exact Imp.ite (A.pass hl (by decide) (by decide)) (fun hq => ih n' _ (i + 2) _ (pass_lt hq (by decide)) (by omega) (by omega)) (fun _ => Imp.ok hl rfl rfl)
theorem imp_vpath {i i' : Nat} (hi : i ≤ l.length) (he : i' = i + d) : Imp l d (vpath l i) (vpath l' i') := imp_vpMore A _ _ _ _ _ hi he (by omega)
theorem imp_sig {i i' : Nat} (hi : i ≤ l.length) (he : i' = i + d) : Imp l d (sigOf l i) (sigOf l' i') := (imp_mpath A hi he).next fun _ _ hj => Imp.ok hj rfl rfl
theorem imp_namesMore : ∀ (n n' : Nat) (acc : List ByteArray) (i i' : Nat), i ≤ l.length → i' = i + d → l'.length < i' + n' → Imp l d (namesMore l n acc i) (namesMore l' n' acc i') := by
  intro n
  induction n with
  | zero => intro n' acc i i' _ _ _; exact Imp.bad
  | succ n ih =>
    intro n' acc i i' hi he h2
    cases n' with
    | zero => have := A.len; omega
    | succ n' =>
      subst he
      rw [namesMore, namesMore]
      refine Imp.ite (A.pass hi (by decide) (by decide)) (fun hp => Imp.ok (pass_lt hp (by decide)) (by omega) rfl) (fun _ => ?_)
      cases ht : takeK l 1 i with
      | bad j => exact Imp.bad
      | ok v j =>
        have h := imp_take A (c := 1) (by omega) hi rfl v j ht
        rw [h.2]
        have ha := after_take l 1 i v j ht
        exact ih n' _ j _ h.1 rfl (by omega)
theorem imp_sepMore {b : Bytes} (h1 : b ≠ [41]) (h2 : b ≠ []) {read read' : Nat → PR Syn} (hr : ∀ i i', i ≤ l.length → i' = i + d → Imp l d (read i) (read' i')) (ha : ∀ i, After (read i) (i + 1)) : ∀ (n n' : Nat) (acc : List Syn) (i i' : Nat), i ≤ l.length → i' = i + d → l'.length < i' + n' → Imp l d (sepMore l b read n acc i) (sepMore l' b read' n' acc i') := by
  intro n
  induction n with
  | zero => intro n' acc i i' _ _ _; exact Imp.bad
  | succ n ih =>
    intro n' acc i i' hi he hn
    cases n' with
    | zero => have := A.len; omega
    | succ n' =>
      subst he
      rw [sepMore, sepMore]
      refine Imp.ite (A.pass hi h1 h2) (fun hp => ?_) (fun _ => Imp.ok hi rfl rfl)
      have hl := pass_lt hp h2
      cases ht : read (i + 1) with
      | bad j => exact Imp.bad
      | ok v j =>
        have h := hr (i + 1) (i + d + 1) hl (by omega) v j ht
        rw [h.2]
        have := ha (i + 1) v j ht
        exact ih n' _ j _ h.1 rfl (by omega)
theorem imp_sepd {b : Bytes} (h1 : b ≠ [41]) (h2 : b ≠ []) {read read' : Nat → PR Syn} (hr : ∀ i i', i ≤ l.length → i' = i + d → Imp l d (read i) (read' i')) (ha : ∀ i, After (read i) (i + 1)) {i i' : Nat} (hi : i ≤ l.length) (he : i' = i + d) : Imp l d (sepd l b read i) (sepd l' b read' i') := (hr i i' hi he).next fun v j hj => imp_sepMore A h1 h2 hr ha (l.length + 1) (l'.length + 1) _ j _ hj rfl (by omega)
theorem imp_postMore : ∀ (n n' : Nat) (ts : List Syn) (i i' : Nat), i ≤ l.length → i' = i + d → l'.length < i' + n' → Imp l d (postMore l n ts i) (postMore l' n' ts i') := by
  intro n
  induction n with
  | zero => intro n' acc i i' _ _ _; exact Imp.bad
  | succ n ih =>
    intro n' acc i i' hi he hn
    cases n' with
    | zero => have := A.len; omega
    | succ n' =>
      subst he
      rw [postMore, postMore]
      refine Imp.ite (A.postIff hi) (fun _ => ?_) (fun _ => Imp.ok hi rfl rfl)
      cases ht : tpath l i with
      | bad j => exact Imp.bad
      | ok v j =>
        have h := imp_tpath A hi rfl v j ht
        rw [h.2]
        have := after_tpath l i v j ht
        exact ih n' _ j _ h.1 rfl (by omega)
end
structure Imps (l : List Tok) (d : Nat) (F F' : Fs) : Prop where
  typ : ∀ i i', i ≤ l.length → i' = i + d → Imp l d (F.typ i) (F'.typ i')
  prod : ∀ i i', i ≤ l.length → i' = i + d → Imp l d (F.prod i) (F'.prod i')
  post : ∀ i i', i ≤ l.length → i' = i + d → Imp l d (F.post i) (F'.post i')
  simp : ∀ i i', i ≤ l.length → i' = i + d → Imp l d (F.simp i) (F'.simp i')
  brack : ∀ i i', i ≤ l.length → i' = i + d → Imp l d (F.brack i) (F'.brack i')
  pat : ∀ i i', i ≤ l.length → i' = i + d → Imp l d (F.pat i) (F'.pat i')
  arg : ∀ i i', i ≤ l.length → i' = i + d → Imp l d (F.arg i) (F'.arg i')
  comps : ∀ i i', i ≤ l.length → i' = i + d → Imp l d (F.comps i) (F'.comps i')
  expr : ∀ i i', i ≤ l.length → i' = i + d → Imp l d (F.expr i) (F'.expr i')
  neg : ∀ i i', i ≤ l.length → i' = i + d → Imp l d (F.neg i) (F'.neg i')
  app : ∀ i i', i ≤ l.length → i' = i + d → Imp l d (F.app i) (F'.app i')
  atom : ∀ i i', i ≤ l.length → i' = i + d → Imp l d (F.atom i) (F'.atom i')
  encl : ∀ i i', i ≤ l.length → i' = i + d → Imp l d (F.encl i) (F'.encl i')
  cont : ∀ i i', i ≤ l.length → i' = i + d → Imp l d (F.cont i) (F'.cont i')
  letE : ∀ i i', i ≤ l.length → i' = i + d → Imp l d (F.letE i) (F'.letE i')
  matchE : ∀ i i', i ≤ l.length → i' = i + d → Imp l d (F.matchE i) (F'.matchE i')
  rule : ∀ i i', i ≤ l.length → i' = i + d → Imp l d (F.rule i) (F'.rule i')
  decl : ∀ i i', i ≤ l.length → i' = i + d → Imp l d (F.decl i) (F'.decl i')
  named : ∀ i i', i ≤ l.length → i' = i + d → Imp l d (F.named i) (F'.named i')
  unpk : ∀ i i', i ≤ l.length → i' = i + d → Imp l d (F.unpk i) (F'.unpk i')
  oper : ∀ q i i', i ≤ l.length → i' = i + d → Imp l d (F.oper q i) (F'.oper q i')
structure ImpCtx (l l' : List Tok) (d : Nat) (F F' : Fs) : Prop where
  A : Stands l l' d
  H : Imps l d F F'
  hG : Goes F
  hE : Ends l F
theorem no_sepd {l : List Tok} {b : Bytes} {read : Nat → PR Syn} {i : Nat} (hn : ∀ v j, read i ≠ .ok v j) : ∀ v j, sepd l b read i ≠ .ok v j := by
  intro v j e
  unfold sepd at e
  cases h : read i with
  | ok t k => exact hn t k h
  | bad k => rw [h, PR.then_bad] at e; cases e
theorem no_then {α β : Type} {r : PR α} {f : α → Nat → PR β} (hn : ∀ v j, r ≠ .ok v j) : ∀ v j, r.then f ≠ .ok v j := by
  intro v j e
  cases r with
  | ok t k => exact hn t k rfl
  | bad k => rw [PR.then_bad] at e; cases e
theorem no_past {α : Type} {l : List Tok} {r : PR α} {i : Nat} (ha : After r (i + 1)) (hi : Inn l r) (h : ¬ i < l.length) : ∀ v j, r ≠ .ok v j := fun v j e => by
  have := ha v j e
  have := hi v j e
  omega
theorem not_pass {l : List Tok} {i : Nat} {b : Bytes} (h : ¬ i < l.length) (hb : b ≠ []) : ¬ (passes l i b = true) := fun h2 => h (pass_lt h2 hb)
section
variable {l l' : List Tok} {d : Nat} {num : Bytes → Int} {F F' : Fs} (K : ImpCtx l l' d F F')
include K
theorem imp_operMore : ∀ (n n' lo most : Nat) (t : Syn) (i i' : Nat), i ≤ l.length → i' = i + d → l'.length < i' + n' → Imp l d (operMore l F n lo most t i) (operMore l' F' n' lo most t i') := by
  intro n
  induction n with
  | zero => intro n' lo most t i i' _ _ _; exact Imp.bad
  | succ n ih =>
    intro n' lo most t i i' hi he hn
    cases n' with
    | zero => have := K.A.len; omega
    | succ n' =>
      subst he
      rw [operMore, operMore, K.A.opr hi]
      refine Imp.ite Iff.rfl (fun _ => Imp.ok hi rfl rfl) (fun _ => ?_)
      cases ht : F.oper (sideOf (opOf (tkAt l i)).2).1 (i + 1) with
      | bad j => exact Imp.bad
      | ok v j =>
        have ha := K.hG.oper _ _ v j ht
        have hb := K.hE.oper _ _ v j ht
        have h := K.H.oper _ (i + 1) (i + d + 1) (by omega) (by omega) v j ht
        rw [h.2]
        exact ih n' _ _ _ j _ h.1 rfl (by omega)
theorem imp_appMore : ∀ (n n' : Nat) (t : Syn) (i i' : Nat), i ≤ l.length → i' = i + d → l'.length < i' + n' → Imp l d (appMore l F n t i) (appMore l' F' n' t i') := by
  intro n
  induction n with
  | zero => intro n' t i i' _ _ _; exact Imp.bad
  | succ n ih =>
    intro n' t i i' hi he hn
    cases n' with
    | zero => have := K.A.len; omega
    | succ n' =>
      subst he
      rw [appMore, appMore]
      refine Imp.ite (K.A.begT hi) (fun _ => ?_) (fun _ => Imp.ok hi rfl rfl)
      cases ht : F.atom i with
      | bad j => exact Imp.bad
      | ok v j =>
        have ha := K.hG.atom i v j ht
        have h := K.H.atom i _ hi rfl v j ht
        rw [h.2]
        exact ih n' _ j _ h.1 rfl (by omega)
theorem imp_declMore : ∀ (n n' : Nat) (ts : List Syn) (i i' : Nat), i ≤ l.length → i' = i + d → l'.length < i' + n' → Imp l d (declMore l F n ts i) (declMore l' F' n' ts i') := by
  intro n
  induction n with
  | zero => intro n' t i i' _ _ _; exact Imp.bad
  | succ n ih =>
    intro n' t i i' hi he hn
    cases n' with
    | zero => have := K.A.len; omega
    | succ n' =>
      subst he
      rw [declMore, declMore]
      refine Imp.ite (K.A.pass hi (by decide) (by decide)) (fun hp => Imp.ok (pass_lt hp (by decide)) (by omega) rfl) (fun _ => ?_)
      cases ht : F.decl i with
      | bad j => exact Imp.bad
      | ok v j =>
        have ha := K.hG.decl i v j ht
        have h := K.H.decl i _ hi rfl v j ht
        rw [h.2]
        exact ih n' _ j _ h.1 rfl (by omega)
theorem imp_fn {i i' : Nat} (hi : i ≤ l.length) (he : i' = i + d) : Imp l d (fnB l F i) (fnB l' F' i') := by
  subst he
  unfold fnB
  (try simp only [show ∀ x : Nat, x + d + 1 = x + 1 + d from fun x => by omega])
  repeat' (first | exact Imp.bad | exact Imp.ok (by first | assumption | omega | exact pass_lt (by assumption) (by decide) | exact kind_lt (by assumption) (by decide) | exact pass_lt (And.right (by assumption)) (by decide)) (by omega) rfl | exact Imp.ok (by first | assumption | omega | exact pass_lt (by assumption) (by decide) | exact kind_lt (by assumption) (by decide) | exact pass_lt (And.right (by assumption)) (by decide)) (by omega) (by rw [K.A.text _ (by first | assumption | omega | exact pass_lt (by assumption) (by decide) | exact kind_lt (by assumption) (by decide) | exact pass_lt (And.right (by assumption)) (by decide))]) | exact imp_take K.A (by omega) (by first | assumption | omega | exact pass_lt (by assumption) (by decide) | exact kind_lt (by assumption) (by decide) | exact pass_lt (And.right (by assumption)) (by decide)) (by omega) | exact imp_need K.A (by decide) (by first | assumption | omega | exact pass_lt (by assumption) (by decide) | exact kind_lt (by assumption) (by decide) | exact pass_lt (And.right (by assumption)) (by decide)) (by omega) | exact imp_mpath K.A (by first | assumption | omega | exact pass_lt (by assumption) (by decide) | exact kind_lt (by assumption) (by decide) | exact pass_lt (And.right (by assumption)) (by decide)) (by omega) | exact imp_tpath K.A (by first | assumption | omega | exact pass_lt (by assumption) (by decide) | exact kind_lt (by assumption) (by decide) | exact pass_lt (And.right (by assumption)) (by decide)) (by omega) | exact imp_vpath K.A (by first | assumption | omega | exact pass_lt (by assumption) (by decide) | exact kind_lt (by assumption) (by decide) | exact pass_lt (And.right (by assumption)) (by decide)) (by omega) | exact imp_sig K.A (by first | assumption | omega | exact pass_lt (by assumption) (by decide) | exact kind_lt (by assumption) (by decide) | exact pass_lt (And.right (by assumption)) (by decide)) (by omega) | exact imp_namesMore K.A _ _ _ _ _ (by first | assumption | omega | exact pass_lt (by assumption) (by decide) | exact kind_lt (by assumption) (by decide) | exact pass_lt (And.right (by assumption)) (by decide)) (by omega) (by omega) | exact imp_postMore K.A _ _ _ _ _ (by first | assumption | omega | exact pass_lt (by assumption) (by decide) | exact kind_lt (by assumption) (by decide) | exact pass_lt (And.right (by assumption)) (by decide)) (by omega) (by omega) | exact imp_operMore K _ _ _ _ _ _ _ (by first | assumption | omega | exact pass_lt (by assumption) (by decide) | exact kind_lt (by assumption) (by decide) | exact pass_lt (And.right (by assumption)) (by decide)) (by omega) (by omega) | exact imp_appMore K _ _ _ _ _ (by first | assumption | omega | exact pass_lt (by assumption) (by decide) | exact kind_lt (by assumption) (by decide) | exact pass_lt (And.right (by assumption)) (by decide)) (by omega) (by omega) | exact imp_declMore K _ _ _ _ _ (by first | assumption | omega | exact pass_lt (by assumption) (by decide) | exact kind_lt (by assumption) (by decide) | exact pass_lt (And.right (by assumption)) (by decide)) (by omega) (by omega) | exact imp_sepd K.A (by decide) (by decide) K.H.post K.hG.post (by first | assumption | omega | exact pass_lt (by assumption) (by decide) | exact kind_lt (by assumption) (by decide) | exact pass_lt (And.right (by assumption)) (by decide)) (by omega) | exact imp_sepd K.A (by decide) (by decide) K.H.typ K.hG.typ (by first | assumption | omega | exact pass_lt (by assumption) (by decide) | exact kind_lt (by assumption) (by decide) | exact pass_lt (And.right (by assumption)) (by decide)) (by omega) | exact imp_sepd K.A (by decide) (by decide) K.H.pat K.hG.pat (by first | assumption | omega | exact pass_lt (by assumption) (by decide) | exact kind_lt (by assumption) (by decide) | exact pass_lt (And.right (by assumption)) (by decide)) (by omega) | exact imp_sepd K.A (by decide) (by decide) K.H.expr K.hG.expr (by first | assumption | omega | exact pass_lt (by assumption) (by decide) | exact kind_lt (by assumption) (by decide) | exact pass_lt (And.right (by assumption)) (by decide)) (by omega) | exact imp_sepd K.A (by decide) (by decide) K.H.rule K.hG.rule (by first | assumption | omega | exact pass_lt (by assumption) (by decide) | exact kind_lt (by assumption) (by decide) | exact pass_lt (And.right (by assumption)) (by decide)) (by omega) | exact K.H.typ _ _ (by first | assumption | omega | exact pass_lt (by assumption) (by decide) | exact kind_lt (by assumption) (by decide) | exact pass_lt (And.right (by assumption)) (by decide)) (by omega) | exact K.H.prod _ _ (by first | assumption | omega | exact pass_lt (by assumption) (by decide) | exact kind_lt (by assumption) (by decide) | exact pass_lt (And.right (by assumption)) (by decide)) (by omega) | exact K.H.post _ _ (by first | assumption | omega | exact pass_lt (by assumption) (by decide) | exact kind_lt (by assumption) (by decide) | exact pass_lt (And.right (by assumption)) (by decide)) (by omega) | exact K.H.simp _ _ (by first | assumption | omega | exact pass_lt (by assumption) (by decide) | exact kind_lt (by assumption) (by decide) | exact pass_lt (And.right (by assumption)) (by decide)) (by omega) | exact K.H.brack _ _ (by first | assumption | omega | exact pass_lt (by assumption) (by decide) | exact kind_lt (by assumption) (by decide) | exact pass_lt (And.right (by assumption)) (by decide)) (by omega) | exact K.H.pat _ _ (by first | assumption | omega | exact pass_lt (by assumption) (by decide) | exact kind_lt (by assumption) (by decide) | exact pass_lt (And.right (by assumption)) (by decide)) (by omega) | exact K.H.arg _ _ (by first | assumption | omega | exact pass_lt (by assumption) (by decide) | exact kind_lt (by assumption) (by decide) | exact pass_lt (And.right (by assumption)) (by decide)) (by omega) | exact K.H.comps _ _ (by first | assumption | omega | exact pass_lt (by assumption) (by decide) | exact kind_lt (by assumption) (by decide) | exact pass_lt (And.right (by assumption)) (by decide)) (by omega) | exact K.H.expr _ _ (by first | assumption | omega | exact pass_lt (by assumption) (by decide) | exact kind_lt (by assumption) (by decide) | exact pass_lt (And.right (by assumption)) (by decide)) (by omega) | exact K.H.neg _ _ (by first | assumption | omega | exact pass_lt (by assumption) (by decide) | exact kind_lt (by assumption) (by decide) | exact pass_lt (And.right (by assumption)) (by decide)) (by omega) | exact K.H.app _ _ (by first | assumption | omega | exact pass_lt (by assumption) (by decide) | exact kind_lt (by assumption) (by decide) | exact pass_lt (And.right (by assumption)) (by decide)) (by omega) | exact K.H.atom _ _ (by first | assumption | omega | exact pass_lt (by assumption) (by decide) | exact kind_lt (by assumption) (by decide) | exact pass_lt (And.right (by assumption)) (by decide)) (by omega) | exact K.H.encl _ _ (by first | assumption | omega | exact pass_lt (by assumption) (by decide) | exact kind_lt (by assumption) (by decide) | exact pass_lt (And.right (by assumption)) (by decide)) (by omega) | exact K.H.cont _ _ (by first | assumption | omega | exact pass_lt (by assumption) (by decide) | exact kind_lt (by assumption) (by decide) | exact pass_lt (And.right (by assumption)) (by decide)) (by omega) | exact K.H.letE _ _ (by first | assumption | omega | exact pass_lt (by assumption) (by decide) | exact kind_lt (by assumption) (by decide) | exact pass_lt (And.right (by assumption)) (by decide)) (by omega) | exact K.H.matchE _ _ (by first | assumption | omega | exact pass_lt (by assumption) (by decide) | exact kind_lt (by assumption) (by decide) | exact pass_lt (And.right (by assumption)) (by decide)) (by omega) | exact K.H.rule _ _ (by first | assumption | omega | exact pass_lt (by assumption) (by decide) | exact kind_lt (by assumption) (by decide) | exact pass_lt (And.right (by assumption)) (by decide)) (by omega) | exact K.H.decl _ _ (by first | assumption | omega | exact pass_lt (by assumption) (by decide) | exact kind_lt (by assumption) (by decide) | exact pass_lt (And.right (by assumption)) (by decide)) (by omega) | exact K.H.named _ _ (by first | assumption | omega | exact pass_lt (by assumption) (by decide) | exact kind_lt (by assumption) (by decide) | exact pass_lt (And.right (by assumption)) (by decide)) (by omega) | exact K.H.unpk _ _ (by first | assumption | omega | exact pass_lt (by assumption) (by decide) | exact kind_lt (by assumption) (by decide) | exact pass_lt (And.right (by assumption)) (by decide)) (by omega) | exact K.H.oper _ _ _ (by first | assumption | omega | exact pass_lt (by assumption) (by decide) | exact kind_lt (by assumption) (by decide) | exact pass_lt (And.right (by assumption)) (by decide)) (by omega) | (with_reducible refine Imp.ite (K.A.pass (by first | assumption | omega | exact pass_lt (by assumption) (by decide) | exact kind_lt (by assumption) (by decide) | exact pass_lt (And.right (by assumption)) (by decide)) (by decide) (by decide)) (fun hp => ?_) (fun hp => ?_)) | (with_reducible refine Imp.ite (K.A.kindIff (by first | assumption | omega | exact pass_lt (by assumption) (by decide) | exact kind_lt (by assumption) (by decide) | exact pass_lt (And.right (by assumption)) (by decide)) (by omega)) (fun hp => ?_) (fun hp => ?_)) | (with_reducible refine Imp.ite (K.A.kindNe (by first | assumption | omega | exact pass_lt (by assumption) (by decide) | exact kind_lt (by assumption) (by decide) | exact pass_lt (And.right (by assumption)) (by decide)) (by omega)) (fun hp => ?_) (fun hp => ?_)) | (with_reducible refine Imp.ite (K.A.begA (by first | assumption | omega | exact pass_lt (by assumption) (by decide) | exact kind_lt (by assumption) (by decide) | exact pass_lt (And.right (by assumption)) (by decide))) (fun hp => ?_) (fun hp => ?_)) | (with_reducible refine Imp.ite (K.A.contIff (by first | assumption | omega | exact pass_lt (by assumption) (by decide) | exact kind_lt (by assumption) (by decide) | exact pass_lt (And.right (by assumption)) (by decide))) (fun hp => ?_) (fun hp => ?_)) | (with_reducible refine Imp.iteE (i := i) (fun h => K.A.passE h) (fun h => And.intro (not_pass h (by decide)) (by first | exact no_then (no_past (K.hG.cont _) (K.hE.cont _) h) | exact no_then (no_sepd (no_past (K.hG.pat _) (K.hE.pat _) h)))) (fun hp => ?_) (fun hp => ?_)) | (with_reducible refine Imp.next ?_ fun v j hj => ?_))
theorem imp_if {i i' : Nat} (hi : i ≤ l.length) (he : i' = i + d) : Imp l d (ifB l F i) (ifB l' F' i') := by
  subst he
  unfold ifB
  (try simp only [show ∀ x : Nat, x + d + 1 = x + 1 + d from fun x => by omega])
  repeat' (first | exact Imp.bad | exact Imp.ok (by first | assumption | omega | exact pass_lt (by assumption) (by decide) | exact kind_lt (by assumption) (by decide) | exact pass_lt (And.right (by assumption)) (by decide)) (by omega) rfl | exact Imp.ok (by first | assumption | omega | exact pass_lt (by assumption) (by decide) | exact kind_lt (by assumption) (by decide) | exact pass_lt (And.right (by assumption)) (by decide)) (by omega) (by rw [K.A.text _ (by first | assumption | omega | exact pass_lt (by assumption) (by decide) | exact kind_lt (by assumption) (by decide) | exact pass_lt (And.right (by assumption)) (by decide))]) | exact imp_take K.A (by omega) (by first | assumption | omega | exact pass_lt (by assumption) (by decide) | exact kind_lt (by assumption) (by decide) | exact pass_lt (And.right (by assumption)) (by decide)) (by omega) | exact imp_need K.A (by decide) (by first | assumption | omega | exact pass_lt (by assumption) (by decide) | exact kind_lt (by assumption) (by decide) | exact pass_lt (And.right (by assumption)) (by decide)) (by omega) | exact imp_mpath K.A (by first | assumption | omega | exact pass_lt (by assumption) (by decide) | exact kind_lt (by assumption) (by decide) | exact pass_lt (And.right (by assumption)) (by decide)) (by omega) | exact imp_tpath K.A (by first | assumption | omega | exact pass_lt (by assumption) (by decide) | exact kind_lt (by assumption) (by decide) | exact pass_lt (And.right (by assumption)) (by decide)) (by omega) | exact imp_vpath K.A (by first | assumption | omega | exact pass_lt (by assumption) (by decide) | exact kind_lt (by assumption) (by decide) | exact pass_lt (And.right (by assumption)) (by decide)) (by omega) | exact imp_sig K.A (by first | assumption | omega | exact pass_lt (by assumption) (by decide) | exact kind_lt (by assumption) (by decide) | exact pass_lt (And.right (by assumption)) (by decide)) (by omega) | exact imp_namesMore K.A _ _ _ _ _ (by first | assumption | omega | exact pass_lt (by assumption) (by decide) | exact kind_lt (by assumption) (by decide) | exact pass_lt (And.right (by assumption)) (by decide)) (by omega) (by omega) | exact imp_postMore K.A _ _ _ _ _ (by first | assumption | omega | exact pass_lt (by assumption) (by decide) | exact kind_lt (by assumption) (by decide) | exact pass_lt (And.right (by assumption)) (by decide)) (by omega) (by omega) | exact imp_operMore K _ _ _ _ _ _ _ (by first | assumption | omega | exact pass_lt (by assumption) (by decide) | exact kind_lt (by assumption) (by decide) | exact pass_lt (And.right (by assumption)) (by decide)) (by omega) (by omega) | exact imp_appMore K _ _ _ _ _ (by first | assumption | omega | exact pass_lt (by assumption) (by decide) | exact kind_lt (by assumption) (by decide) | exact pass_lt (And.right (by assumption)) (by decide)) (by omega) (by omega) | exact imp_declMore K _ _ _ _ _ (by first | assumption | omega | exact pass_lt (by assumption) (by decide) | exact kind_lt (by assumption) (by decide) | exact pass_lt (And.right (by assumption)) (by decide)) (by omega) (by omega) | exact imp_sepd K.A (by decide) (by decide) K.H.post K.hG.post (by first | assumption | omega | exact pass_lt (by assumption) (by decide) | exact kind_lt (by assumption) (by decide) | exact pass_lt (And.right (by assumption)) (by decide)) (by omega) | exact imp_sepd K.A (by decide) (by decide) K.H.typ K.hG.typ (by first | assumption | omega | exact pass_lt (by assumption) (by decide) | exact kind_lt (by assumption) (by decide) | exact pass_lt (And.right (by assumption)) (by decide)) (by omega) | exact imp_sepd K.A (by decide) (by decide) K.H.pat K.hG.pat (by first | assumption | omega | exact pass_lt (by assumption) (by decide) | exact kind_lt (by assumption) (by decide) | exact pass_lt (And.right (by assumption)) (by decide)) (by omega) | exact imp_sepd K.A (by decide) (by decide) K.H.expr K.hG.expr (by first | assumption | omega | exact pass_lt (by assumption) (by decide) | exact kind_lt (by assumption) (by decide) | exact pass_lt (And.right (by assumption)) (by decide)) (by omega) | exact imp_sepd K.A (by decide) (by decide) K.H.rule K.hG.rule (by first | assumption | omega | exact pass_lt (by assumption) (by decide) | exact kind_lt (by assumption) (by decide) | exact pass_lt (And.right (by assumption)) (by decide)) (by omega) | exact K.H.typ _ _ (by first | assumption | omega | exact pass_lt (by assumption) (by decide) | exact kind_lt (by assumption) (by decide) | exact pass_lt (And.right (by assumption)) (by decide)) (by omega) | exact K.H.prod _ _ (by first | assumption | omega | exact pass_lt (by assumption) (by decide) | exact kind_lt (by assumption) (by decide) | exact pass_lt (And.right (by assumption)) (by decide)) (by omega) | exact K.H.post _ _ (by first | assumption | omega | exact pass_lt (by assumption) (by decide) | exact kind_lt (by assumption) (by decide) | exact pass_lt (And.right (by assumption)) (by decide)) (by omega) | exact K.H.simp _ _ (by first | assumption | omega | exact pass_lt (by assumption) (by decide) | exact kind_lt (by assumption) (by decide) | exact pass_lt (And.right (by assumption)) (by decide)) (by omega) | exact K.H.brack _ _ (by first | assumption | omega | exact pass_lt (by assumption) (by decide) | exact kind_lt (by assumption) (by decide) | exact pass_lt (And.right (by assumption)) (by decide)) (by omega) | exact K.H.pat _ _ (by first | assumption | omega | exact pass_lt (by assumption) (by decide) | exact kind_lt (by assumption) (by decide) | exact pass_lt (And.right (by assumption)) (by decide)) (by omega) | exact K.H.arg _ _ (by first | assumption | omega | exact pass_lt (by assumption) (by decide) | exact kind_lt (by assumption) (by decide) | exact pass_lt (And.right (by assumption)) (by decide)) (by omega) | exact K.H.comps _ _ (by first | assumption | omega | exact pass_lt (by assumption) (by decide) | exact kind_lt (by assumption) (by decide) | exact pass_lt (And.right (by assumption)) (by decide)) (by omega) | exact K.H.expr _ _ (by first | assumption | omega | exact pass_lt (by assumption) (by decide) | exact kind_lt (by assumption) (by decide) | exact pass_lt (And.right (by assumption)) (by decide)) (by omega) | exact K.H.neg _ _ (by first | assumption | omega | exact pass_lt (by assumption) (by decide) | exact kind_lt (by assumption) (by decide) | exact pass_lt (And.right (by assumption)) (by decide)) (by omega) | exact K.H.app _ _ (by first | assumption | omega | exact pass_lt (by assumption) (by decide) | exact kind_lt (by assumption) (by decide) | exact pass_lt (And.right (by assumption)) (by decide)) (by omega) | exact K.H.atom _ _ (by first | assumption | omega | exact pass_lt (by assumption) (by decide) | exact kind_lt (by assumption) (by decide) | exact pass_lt (And.right (by assumption)) (by decide)) (by omega) | exact K.H.encl _ _ (by first | assumption | omega | exact pass_lt (by assumption) (by decide) | exact kind_lt (by assumption) (by decide) | exact pass_lt (And.right (by assumption)) (by decide)) (by omega) | exact K.H.cont _ _ (by first | assumption | omega | exact pass_lt (by assumption) (by decide) | exact kind_lt (by assumption) (by decide) | exact pass_lt (And.right (by assumption)) (by decide)) (by omega) | exact K.H.letE _ _ (by first | assumption | omega | exact pass_lt (by assumption) (by decide) | exact kind_lt (by assumption) (by decide) | exact pass_lt (And.right (by assumption)) (by decide)) (by omega) | exact K.H.matchE _ _ (by first | assumption | omega | exact pass_lt (by assumption) (by decide) | exact kind_lt (by assumption) (by decide) | exact pass_lt (And.right (by assumption)) (by decide)) (by omega) | exact K.H.rule _ _ (by first | assumption | omega | exact pass_lt (by assumption) (by decide) | exact kind_lt (by assumption) (by decide) | exact pass_lt (And.right (by assumption)) (by decide)) (by omega) | exact K.H.decl _ _ (by first | assumption | omega | exact pass_lt (by assumption) (by decide) | exact kind_lt (by assumption) (by decide) | exact pass_lt (And.right (by assumption)) (by decide)) (by omega) | exact K.H.named _ _ (by first | assumption | omega | exact pass_lt (by assumption) (by decide) | exact kind_lt (by assumption) (by decide) | exact pass_lt (And.right (by assumption)) (by decide)) (by omega) | exact K.H.unpk _ _ (by first | assumption | omega | exact pass_lt (by assumption) (by decide) | exact kind_lt (by assumption) (by decide) | exact pass_lt (And.right (by assumption)) (by decide)) (by omega) | exact K.H.oper _ _ _ (by first | assumption | omega | exact pass_lt (by assumption) (by decide) | exact kind_lt (by assumption) (by decide) | exact pass_lt (And.right (by assumption)) (by decide)) (by omega) | (with_reducible refine Imp.ite (K.A.pass (by first | assumption | omega | exact pass_lt (by assumption) (by decide) | exact kind_lt (by assumption) (by decide) | exact pass_lt (And.right (by assumption)) (by decide)) (by decide) (by decide)) (fun hp => ?_) (fun hp => ?_)) | (with_reducible refine Imp.ite (K.A.kindIff (by first | assumption | omega | exact pass_lt (by assumption) (by decide) | exact kind_lt (by assumption) (by decide) | exact pass_lt (And.right (by assumption)) (by decide)) (by omega)) (fun hp => ?_) (fun hp => ?_)) | (with_reducible refine Imp.ite (K.A.kindNe (by first | assumption | omega | exact pass_lt (by assumption) (by decide) | exact kind_lt (by assumption) (by decide) | exact pass_lt (And.right (by assumption)) (by decide)) (by omega)) (fun hp => ?_) (fun hp => ?_)) | (with_reducible refine Imp.ite (K.A.begA (by first | assumption | omega | exact pass_lt (by assumption) (by decide) | exact kind_lt (by assumption) (by decide) | exact pass_lt (And.right (by assumption)) (by decide))) (fun hp => ?_) (fun hp => ?_)) | (with_reducible refine Imp.ite (K.A.contIff (by first | assumption | omega | exact pass_lt (by assumption) (by decide) | exact kind_lt (by assumption) (by decide) | exact pass_lt (And.right (by assumption)) (by decide))) (fun hp => ?_) (fun hp => ?_)) | (with_reducible refine Imp.iteE (i := i) (fun h => K.A.passE h) (fun h => And.intro (not_pass h (by decide)) (by first | exact no_then (no_past (K.hG.cont _) (K.hE.cont _) h) | exact no_then (no_sepd (no_past (K.hG.pat _) (K.hE.pat _) h)))) (fun hp => ?_) (fun hp => ?_)) | (with_reducible refine Imp.next ?_ fun v j hj => ?_))
set_option maxHeartbeats 16000000 in
theorem imp_all  : (∀ i i', i ≤ l.length → i' = i + d → Imp l d (typB l F i) (typB l' F' i')) ∧ (∀ i i', i ≤ l.length → i' = i + d → Imp l d (prodB l F i) (prodB l' F' i')) ∧ (∀ i i', i ≤ l.length → i' = i + d → Imp l d (postB l F i) (postB l' F' i')) ∧ (∀ i i', i ≤ l.length → i' = i + d → Imp l d (simpB l F i) (simpB l' F' i')) ∧ (∀ i i', i ≤ l.length → i' = i + d → Imp l d (brackB l F i) (brackB l' F' i')) ∧ (∀ i i', i ≤ l.length → i' = i + d → Imp l d (patB l F i) (patB l' F' i')) ∧ (∀ i i', i ≤ l.length → i' = i + d → Imp l d (argB l num F i) (argB l' num F' i')) ∧ (∀ i i', i ≤ l.length → i' = i + d → Imp l d (compsB l F i) (compsB l' F' i')) ∧ (∀ i i', i ≤ l.length → i' = i + d → Imp l d (exprB l F i) (exprB l' F' i')) ∧ (∀ i i', i ≤ l.length → i' = i + d → Imp l d (negB l F i) (negB l' F' i')) ∧ (∀ i i', i ≤ l.length → i' = i + d → Imp l d (appB l F i) (appB l' F' i')) ∧ (∀ i i', i ≤ l.length → i' = i + d → Imp l d (atomB l num F i) (atomB l' num F' i')) ∧ (∀ i i', i ≤ l.length → i' = i + d → Imp l d (enclB l F i) (enclB l' F' i')) ∧ (∀ i i', i ≤ l.length → i' = i + d → Imp l d (contB l F i) (contB l' F' i')) ∧ (∀ i i', i ≤ l.length → i' = i + d → Imp l d (letB l F i) (letB l' F' i')) ∧ (∀ i i', i ≤ l.length → i' = i + d → Imp l d (matchB l F i) (matchB l' F' i')) ∧ (∀ i i', i ≤ l.length → i' = i + d → Imp l d (ruleB l F i) (ruleB l' F' i')) ∧ (∀ i i', i ≤ l.length → i' = i + d → Imp l d (declB l F i) (declB l' F' i')) ∧ (∀ i i', i ≤ l.length → i' = i + d → Imp l d (namedB l F i) (namedB l' F' i')) ∧ (∀ i i', i ≤ l.length → i' = i + d → Imp l d (unpkB l F i) (unpkB l' F' i')) ∧ (∀ q i i', i ≤ l.length → i' = i + d → Imp l d (operB l F q i) (operB l' F' q i')) := by
  refine ⟨fun i i' hi he => ?_, fun i i' hi he => ?_, fun i i' hi he => ?_, fun i i' hi he => ?_, fun i i' hi he => ?_, fun i i' hi he => ?_, fun i i' hi he => ?_, fun i i' hi he => ?_, fun i i' hi he => ?_, fun i i' hi he => ?_, fun i i' hi he => ?_, fun i i' hi he => ?_, fun i i' hi he => ?_, fun i i' hi he => ?_, fun i i' hi he => ?_, fun i i' hi he => ?_, fun i i' hi he => ?_, fun i i' hi he => ?_, fun i i' hi he => ?_, fun i i' hi he => ?_, fun q i i' hi he => ?_⟩
  all_goals first | unfold typB | unfold prodB | unfold postB | unfold simpB | unfold brackB | unfold patB | unfold argB | unfold compsB | unfold exprB | unfold negB | unfold appB | unfold atomB | unfold enclB | unfold contB | unfold letB | unfold matchB | unfold ruleB | unfold declB | unfold namedB | unfold unpkB | unfold operB
  all_goals subst he
  all_goals (try simp only [show ∀ x : Nat, x + d + 1 = x + 1 + d from fun x => by omega])
  all_goals repeat' (first | exact imp_fn K (by first | assumption | omega | exact pass_lt (by assumption) (by decide) | exact kind_lt (by assumption) (by decide) | exact pass_lt (And.right (by assumption)) (by decide)) (by omega) | exact imp_if K (by first | assumption | omega | exact pass_lt (by assumption) (by decide) | exact kind_lt (by assumption) (by decide) | exact pass_lt (And.right (by assumption)) (by decide)) (by omega) | exact Imp.bad | exact Imp.ok (by first | assumption | omega | exact pass_lt (by assumption) (by decide) | exact kind_lt (by assumption) (by decide) | exact pass_lt (And.right (by assumption)) (by decide)) (by omega) rfl | exact Imp.ok (by first | assumption | omega | exact pass_lt (by assumption) (by decide) | exact kind_lt (by assumption) (by decide) | exact pass_lt (And.right (by assumption)) (by decide)) (by omega) (by rw [K.A.text _ (by first | assumption | omega | exact pass_lt (by assumption) (by decide) | exact kind_lt (by assumption) (by decide) | exact pass_lt (And.right (by assumption)) (by decide))]) | exact imp_take K.A (by omega) (by first | assumption | omega | exact pass_lt (by assumption) (by decide) | exact kind_lt (by assumption) (by decide) | exact pass_lt (And.right (by assumption)) (by decide)) (by omega) | exact imp_need K.A (by decide) (by first | assumption | omega | exact pass_lt (by assumption) (by decide) | exact kind_lt (by assumption) (by decide) | exact pass_lt (And.right (by assumption)) (by decide)) (by omega) | exact imp_mpath K.A (by first | assumption | omega | exact pass_lt (by assumption) (by decide) | exact kind_lt (by assumption) (by decide) | exact pass_lt (And.right (by assumption)) (by decide)) (by omega) | exact imp_tpath K.A (by first | assumption | omega | exact pass_lt (by assumption) (by decide) | exact kind_lt (by assumption) (by decide) | exact pass_lt (And.right (by assumption)) (by decide)) (by omega) | exact imp_vpath K.A (by first | assumption | omega | exact pass_lt (by assumption) (by decide) | exact kind_lt (by assumption) (by decide) | exact pass_lt (And.right (by assumption)) (by decide)) (by omega) | exact imp_sig K.A (by first | assumption | omega | exact pass_lt (by assumption) (by decide) | exact kind_lt (by assumption) (by decide) | exact pass_lt (And.right (by assumption)) (by decide)) (by omega) | exact imp_namesMore K.A _ _ _ _ _ (by first | assumption | omega | exact pass_lt (by assumption) (by decide) | exact kind_lt (by assumption) (by decide) | exact pass_lt (And.right (by assumption)) (by decide)) (by omega) (by omega) | exact imp_postMore K.A _ _ _ _ _ (by first | assumption | omega | exact pass_lt (by assumption) (by decide) | exact kind_lt (by assumption) (by decide) | exact pass_lt (And.right (by assumption)) (by decide)) (by omega) (by omega) | exact imp_operMore K _ _ _ _ _ _ _ (by first | assumption | omega | exact pass_lt (by assumption) (by decide) | exact kind_lt (by assumption) (by decide) | exact pass_lt (And.right (by assumption)) (by decide)) (by omega) (by omega) | exact imp_appMore K _ _ _ _ _ (by first | assumption | omega | exact pass_lt (by assumption) (by decide) | exact kind_lt (by assumption) (by decide) | exact pass_lt (And.right (by assumption)) (by decide)) (by omega) (by omega) | exact imp_declMore K _ _ _ _ _ (by first | assumption | omega | exact pass_lt (by assumption) (by decide) | exact kind_lt (by assumption) (by decide) | exact pass_lt (And.right (by assumption)) (by decide)) (by omega) (by omega) | exact imp_sepd K.A (by decide) (by decide) K.H.post K.hG.post (by first | assumption | omega | exact pass_lt (by assumption) (by decide) | exact kind_lt (by assumption) (by decide) | exact pass_lt (And.right (by assumption)) (by decide)) (by omega) | exact imp_sepd K.A (by decide) (by decide) K.H.typ K.hG.typ (by first | assumption | omega | exact pass_lt (by assumption) (by decide) | exact kind_lt (by assumption) (by decide) | exact pass_lt (And.right (by assumption)) (by decide)) (by omega) | exact imp_sepd K.A (by decide) (by decide) K.H.pat K.hG.pat (by first | assumption | omega | exact pass_lt (by assumption) (by decide) | exact kind_lt (by assumption) (by decide) | exact pass_lt (And.right (by assumption)) (by decide)) (by omega) | exact imp_sepd K.A (by decide) (by decide) K.H.expr K.hG.expr (by first | assumption | omega | exact pass_lt (by assumption) (by decide) | exact kind_lt (by assumption) (by decide) | exact pass_lt (And.right (by assumption)) (by decide)) (by omega) | exact imp_sepd K.A (by decide) (by decide) K.H.rule K.hG.rule (by first | assumption | omega | exact pass_lt (by assumption) (by decide) | exact kind_lt (by assumption) (by decide) | exact pass_lt (And.right (by assumption)) (by decide)) (by omega) | exact K.H.typ _ _ (by first | assumption | omega | exact pass_lt (by assumption) (by decide) | exact kind_lt (by assumption) (by decide) | exact pass_lt (And.right (by assumption)) (by decide)) (by omega) | exact K.H.prod _ _ (by first | assumption | omega | exact pass_lt (by assumption) (by decide) | exact kind_lt (by assumption) (by decide) | exact pass_lt (And.right (by assumption)) (by decide)) (by omega) | exact K.H.post _ _ (by first | assumption | omega | exact pass_lt (by assumption) (by decide) | exact kind_lt (by assumption) (by decide) | exact pass_lt (And.right (by assumption)) (by decide)) (by omega) | exact K.H.simp _ _ (by first | assumption | omega | exact pass_lt (by assumption) (by decide) | exact kind_lt (by assumption) (by decide) | exact pass_lt (And.right (by assumption)) (by decide)) (by omega) | exact K.H.brack _ _ (by first | assumption | omega | exact pass_lt (by assumption) (by decide) | exact kind_lt (by assumption) (by decide) | exact pass_lt (And.right (by assumption)) (by decide)) (by omega) | exact K.H.pat _ _ (by first | assumption | omega | exact pass_lt (by assumption) (by decide) | exact kind_lt (by assumption) (by decide) | exact pass_lt (And.right (by assumption)) (by decide)) (by omega) | exact K.H.arg _ _ (by first | assumption | omega | exact pass_lt (by assumption) (by decide) | exact kind_lt (by assumption) (by decide) | exact pass_lt (And.right (by assumption)) (by decide)) (by omega) | exact K.H.comps _ _ (by first | assumption | omega | exact pass_lt (by assumption) (by decide) | exact kind_lt (by assumption) (by decide) | exact pass_lt (And.right (by assumption)) (by decide)) (by omega) | exact K.H.expr _ _ (by first | assumption | omega | exact pass_lt (by assumption) (by decide) | exact kind_lt (by assumption) (by decide) | exact pass_lt (And.right (by assumption)) (by decide)) (by omega) | exact K.H.neg _ _ (by first | assumption | omega | exact pass_lt (by assumption) (by decide) | exact kind_lt (by assumption) (by decide) | exact pass_lt (And.right (by assumption)) (by decide)) (by omega) | exact K.H.app _ _ (by first | assumption | omega | exact pass_lt (by assumption) (by decide) | exact kind_lt (by assumption) (by decide) | exact pass_lt (And.right (by assumption)) (by decide)) (by omega) | exact K.H.atom _ _ (by first | assumption | omega | exact pass_lt (by assumption) (by decide) | exact kind_lt (by assumption) (by decide) | exact pass_lt (And.right (by assumption)) (by decide)) (by omega) | exact K.H.encl _ _ (by first | assumption | omega | exact pass_lt (by assumption) (by decide) | exact kind_lt (by assumption) (by decide) | exact pass_lt (And.right (by assumption)) (by decide)) (by omega) | exact K.H.cont _ _ (by first | assumption | omega | exact pass_lt (by assumption) (by decide) | exact kind_lt (by assumption) (by decide) | exact pass_lt (And.right (by assumption)) (by decide)) (by omega) | exact K.H.letE _ _ (by first | assumption | omega | exact pass_lt (by assumption) (by decide) | exact kind_lt (by assumption) (by decide) | exact pass_lt (And.right (by assumption)) (by decide)) (by omega) | exact K.H.matchE _ _ (by first | assumption | omega | exact pass_lt (by assumption) (by decide) | exact kind_lt (by assumption) (by decide) | exact pass_lt (And.right (by assumption)) (by decide)) (by omega) | exact K.H.rule _ _ (by first | assumption | omega | exact pass_lt (by assumption) (by decide) | exact kind_lt (by assumption) (by decide) | exact pass_lt (And.right (by assumption)) (by decide)) (by omega) | exact K.H.decl _ _ (by first | assumption | omega | exact pass_lt (by assumption) (by decide) | exact kind_lt (by assumption) (by decide) | exact pass_lt (And.right (by assumption)) (by decide)) (by omega) | exact K.H.named _ _ (by first | assumption | omega | exact pass_lt (by assumption) (by decide) | exact kind_lt (by assumption) (by decide) | exact pass_lt (And.right (by assumption)) (by decide)) (by omega) | exact K.H.unpk _ _ (by first | assumption | omega | exact pass_lt (by assumption) (by decide) | exact kind_lt (by assumption) (by decide) | exact pass_lt (And.right (by assumption)) (by decide)) (by omega) | exact K.H.oper _ _ _ (by first | assumption | omega | exact pass_lt (by assumption) (by decide) | exact kind_lt (by assumption) (by decide) | exact pass_lt (And.right (by assumption)) (by decide)) (by omega) | (with_reducible refine Imp.ite (K.A.pass (by first | assumption | omega | exact pass_lt (by assumption) (by decide) | exact kind_lt (by assumption) (by decide) | exact pass_lt (And.right (by assumption)) (by decide)) (by decide) (by decide)) (fun hp => ?_) (fun hp => ?_)) | (with_reducible refine Imp.ite (K.A.kindIff (by first | assumption | omega | exact pass_lt (by assumption) (by decide) | exact kind_lt (by assumption) (by decide) | exact pass_lt (And.right (by assumption)) (by decide)) (by omega)) (fun hp => ?_) (fun hp => ?_)) | (with_reducible refine Imp.ite (K.A.kindNe (by first | assumption | omega | exact pass_lt (by assumption) (by decide) | exact kind_lt (by assumption) (by decide) | exact pass_lt (And.right (by assumption)) (by decide)) (by omega)) (fun hp => ?_) (fun hp => ?_)) | (with_reducible refine Imp.ite (K.A.begA (by first | assumption | omega | exact pass_lt (by assumption) (by decide) | exact kind_lt (by assumption) (by decide) | exact pass_lt (And.right (by assumption)) (by decide))) (fun hp => ?_) (fun hp => ?_)) | (with_reducible refine Imp.ite (K.A.contIff (by first | assumption | omega | exact pass_lt (by assumption) (by decide) | exact kind_lt (by assumption) (by decide) | exact pass_lt (And.right (by assumption)) (by decide))) (fun hp => ?_) (fun hp => ?_)) | (with_reducible refine Imp.iteE (i := i) (fun h => K.A.passE h) (fun h => And.intro (not_pass h (by decide)) (by first | exact no_then (no_past (K.hG.cont _) (K.hE.cont _) h) | exact no_then (no_sepd (no_past (K.hG.pat _) (K.hE.pat _) h)))) (fun hp => ?_) (fun hp => ?_)) | (with_reducible refine Imp.next ?_ fun v j hj => ?_))
theorem Imps.deeper : Imps l d (deeper l num F) (deeper l' num F') := by
  obtain ⟨h0, h1, h2, h3, h4, h5, h6, h7, h8, h9, h10, h11, h12, h13, h14, h15, h16, h17, h18, h19, h20⟩ := imp_all K (num := num)
  exact ⟨h0, h1, h2, h3, h4, h5, h6, h7, h8, h9, h10, h11, h12, h13, h14, h15, h16, h17, h18, h19, h20⟩
end
theorem Imps.none {l : List Tok} {d : Nat} {F' : Fs} : Imps l d noFs F' := by
  constructor
  all_goals (intros; exact Imp.bad)
theorem imps_depth {l l' : List Tok} {d : Nat} (A : Stands l l' d) (num : Bytes → Int) : ∀ n m, n ≤ m → Imps l d (depthFs l num n) (depthFs l' num m) := by
  intro n
  induction n with
  | zero => intro m _; exact Imps.none
  | succ n ih =>
    intro m hm
    obtain ⟨m, rfl⟩ : ∃ k, m = k + 1 := ⟨m - 1, by omega⟩
    exact Imps.deeper ⟨A, ih m (by omega), goes_depth l num n, ends_depth l num n⟩
theorem full_imps {l l' : List Tok} {d : Nat} (A : Stands l l' d) (num : Bytes → Int) : Imps l d (full l num) (full l' num) := imps_depth A num _ _ (by have := A.len; omega)
end Go.Proofs.YtkmgnibopmpcjaaGreatDoor.Pl
